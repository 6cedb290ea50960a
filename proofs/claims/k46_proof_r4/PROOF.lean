import PyProof.Rows.All
import Wide.All
import OpenK.AllK
import Wide.FinOn
import Lean
import PyProof.EqAt
import PyProof.EqKinds
import PyProof.TupleCall
import PySem.Challenge.RW_fewsaves_k46_rows_that_show_none
import PyProof.CollectWalk
import PyProof.ZipIter
import PyProof.Rows.ZipGen
import PyProof.DictItems
import KE.KDictOf
import PyProof.FactsAll.zip_1
import KE.KItemsList
import PyProof.TupleOfSeq
import KE.KDictLaws
import PyProof.Rows.MinMaxN
import PyProof.StrCalls2
import PyProof.StrBlockH
import PyProof.CallStr
import PyProof.FitsReplace
import PyProof.StrWalks
import KE.KIntText
import KE.KTabLook
import KE.KUnpackStar
import PyProof.WalksMore
import PyProof.FactsAll.subtypes_4
import PyProof.SetRoads
import PyProof.TupleIter
import PyProof.P3In
import Wide.Seal
import PyProof.Rows.TupAdd
set_option Elab.async false
set_option linter.all false
set_option maxRecDepth 100000
set_option compiler.extract_closed false
set_option genInjectivity false
set_option genSizeOfSpec false
section
local macro_rules|`(tactic|let $c:letConfig $d:letDecl)=>`(tactic|have $c:letConfig $d:letDecl)
local macro_rules|`(tactic|let ⟨$p,*⟩:=$v)=>do let q<-p.getElems.mapM fun x=>if x.raw.isIdent then `(Lean.Parser.Tactic.rcasesPatLo|$(⟨x.raw⟩):ident) else `(Lean.Parser.Tactic.rcasesPatLo|_);`(tactic|obtain ⟨$q,*⟩:=$v)
local macro_rules|`(∎)=>`(by lia)
local macro_rules|`(∅)=>`(by simp)
local macro_rules|`(⋯)=>`(by decide)
local macro_rules|`(tactic|z_go)=>`(tactic|walk_at "rh")
local macro_rules|`(tactic|k_go)=>`(tactic|walk_at "rd")
local macro_rules|`(tactic|kd_p)=>`(tactic|walk_at "rf")
local macro_rules|`(tactic|k_ne)=>`(tactic|walk_at "re")
local macro_rules|`(tactic|fin2)=>`(tactic|walk_at "rg")
local macro_rules|`(tactic|show $t)=>`(tactic|refine $t)
open Option renaming some->Sa,none->Sb
open Bool renaming true->Sc,false->Sd
open PySem renaming Value->Se,Addr->Sf,Shared->Sg,Program->Sh,World->Si,Around->Sj,Heap->Sk,Expr->Sl,wpAny->Sm,sizeLine->Sn,model->So,mainGlobals->Sq,Stmt->Sr,Obj->Ss,Scope->Su,starEach->Sv,eval->Sw,Pos->Sx,behindInMarks->Sy,standAt->Sz,holding->SA,binaryOp->SB,compareOp->SC,foldedSetIterable->SD,swapsWith->SE,bootBuiltins->SF,NameKind->SG,sysModules->SH
open PySem.W renaming Frag->SJ,nsIn->SK
open List renaming length_map->aA,getElem?_eq_some_iff->aC,getElem?_eq_getElem->aE,length_append->aF,map_append->aG,mem_singleton->aH,mem_of_getElem?->aK,mem_cons->aM,mem_append->aN,size_toArray->aP,getElem?_map->aR,mem_cons_of_mem->aS,mem_cons_self->aT,take_length->aU,getD_eq_getElem?_getD->aV,length_take->aY,mem_range->aZ,not_mem_nil->bA,mem_append_left->bC,length_singleton->bF,mem_map->bG,map_cons->bJ,length_cons->bK,mem_append_right->bM,getElem?_append_left->bQ,any_eq_true->bX,getElem?_append_right->bY,mem_filter->cA,length_filter_le->cC,getElem_of_mem->cE,append_nil->cG,nodup_append->cI,length_range->cL,pairwise_iff_getElem->cM,getElem_mem->cN,mem_flatMap->cO,nodup_cons->cQ,filterMap_cons->cU,take_of_length_le->cY,filter_append->cZ,length_filterMap_le->dA,map_map->dC,filterMap_append->dE,mem_filterMap->dI,all_eq_true->dM,length_replicate->dQ,getElem?_replicate->dS,range_succ->eC,replicate_succ->eL,getElem?_eq_none->eN,getElem?_toArray->eO,pairwise_cons->eT,filter_cons->eU,getElem?_set_ne->eV,filter_nil->fD,getElem?_set_self->fE,pairwise_lt_range->fG,length_drop->fH,eq_nil_or_concat->fJ,concat_eq_append->fK,append_assoc->fR,forIn_cons->fS,flatMap_cons->fU,map_nil->fW,length_eq_zero_iff->fY,flatMap_append->fZ,foldl_cons->gD,find?_cons->gE,any_cons->gM,getElem?_eq_none_iff->gP,exists_mem_of_ne_nil->gR,getElem?_zip_eq_some->gS,lookup_cons->gT,length_pos_iff->gX,length_reverse->gY,length_erase_of_mem->hV,any_map->hZ,all_map->iA
open PySem renaming wpAny_bind->aB,wpAny_pure->aD,boot_len->bH,wpAny_holding->bU,sizeLine_eq->bV,wpAny_newObj_type->bZ,wpAny_call_entry->cK,wpAny_askSetting->dH,wpAny_rule->dJ,wpAny_truthy_bool->dN,wpAny_field->dX,wpAny_callSpecial?_slot->dY,codeAny_builtin->dZ,wpAny_nextOf_list_item->eJ,mem_of_lookup->eK,wpAny_setState_of->eM,tupleKind_room_in1->eS,wpAny_standAt->eY,wpAny_seqItems->fA,wpAny_setField_rec->fL,wpAny_mono->fP,wpAny_passesOwn->fQ,plainId_quiet->fX,wpAny_isInstance->gA,wpAny_setField->gB,wpAny_typeOf->gC,wpAny_nextOf_list_end->gI,wpAny_pyIter_list->gL,fits_of_scanBound->gN,wpAny_setEntries_of->gW,codeAny_mono->gZ
open Nat renaming le_refl->aI,ne_of_lt->aX,zero_le->bL,lt_of_lt_of_le->bS,le_trans->cH,le_of_ble_eq_true->cT,le_of_lt->cV,ne_of_gt->dP,lt_succ_of_lt->dR,lt_succ_self->eE,lt_irrefl->eX,le_succ->fN,lt_or_ge->gH,le_add_right->gU
open PySem.Heap renaming get?_push_of_some->aJ,lt_size->aO,get?_push_size->aW,get?_update_self->cS,get?_update_other->cX,size_push->dL,get?_push_ne->fT
open Bool renaming false_ne_true->aL,and_eq_true->bT,false_eq_true->cD,eq_iff_iff->cP,or_eq_true->eA
open Array renaming length_toList->aQ,getElem?_toList->bN,getElem?_eq_getElem->bR,getD_eq_getD_getElem?->cB
open PySem.F renaming plainAttrs_list->bB,slot_list_append->bO,type_list_append->bP,slot_dict_setdefault->eZ,called_set->gG,slot_list_getattribute->hJ,slot_list_extend->iB,type_list_extend->iC
open PySem.PassesOwn renaming never->bD
open Int renaming toNat_natCast->bE,toNat_of_nonneg->dD,zero_add->eQ,emod_lt_of_pos->fM,emod_nonneg->gJ
open Option.some renaming inj->bI
open PySem.W renaming mg_none_of->bW
open PySem.Heap.SameBut renaming update->cF,refl->fB
open PyProof.Rows renaming boot_list->cJ,slot_tuple_getitem->cR,callWith_type1->dB,boot_int->dF,boot_any->eP,boot_sorted->fV,boot_set->gK
open PySem.Around renaming under_plainId->cW
open Ne renaming symm->eI
open PySem.Calls renaming spliced_cons->eR,callWith_builtin->fF,evalArgs_plain->gO,call_function_entry->gQ
open PySem.Paired renaming length->fI
open Option renaming map_some->fO
open Array.Perm renaming refl->gF
open Sum.inl renaming inj->gV
noncomputable section
namespace L2
open PySem PySem.Spec PyProof.Rows
abbrev Key:=Sum Int Str
noncomputable def keyIs:Key->Value->Bool
 | .inl k,v=>Value.isInt k v
 | .inr x,v=>Value.isStrOf x v
noncomputable def keyH(w:World):Key->Int
 | .inl k=>hashInt k
 | .inr x=>hashStr w x
theorem xN:∀ {k:Key} {v:Value},keyIs k v=true->(∃i t,k=Sum.inl i/\v=Value.int i t)\/(∃x t,k=Sum.inr x/\v=Value.str x t)
 | .inl i,v,h=>by
  let⟨t,e⟩:=Value.isInt_shape (k:=i) (v:=v) h;show .inl ⟨i,t,rfl,e⟩
 | .inr x,v,h=>by
  let⟨t,e⟩:=Value.isStrOf_shape (x:=x) (v:=v) h;show .inr ⟨x,t,rfl,e⟩
theorem qRr(i:Int)(t:Tok):keyIs (.inl i) (.int i t)=true:=by simp [keyIs,Value.isInt]
theorem qRq(x:Str)(t:Tok):keyIs (.inr x) (.str x t)=true:=by simp [keyIs,Value.isStrOf]
theorem qZg(a b:Int):decide ((Sum.inl a:Key)=Sum.inl b)=(a == b):=by
 by_cases e:a=b
 .subst e;simp
 .let h : ¬(Sum.inl a:Key)=Sum.inl b:=λq=>e (gV q);rw [decide_eq_false h];show (beq_eq_false_iff_ne.mpr e).symm
theorem qZd(a b:Str):decide ((Sum.inr a:Key)=Sum.inr b)=decide (a=b):=by
 by_cases e:a=b
 .subst e;simp
 .let h : ¬(Sum.inr a:Key)=Sum.inr b:=λq=>e (Sum.inr.inj q);rw [decide_eq_false h,decide_eq_false e]
theorem qZf(a:Int)(b:Str):decide ((Sum.inl a:Key)=Sum.inr b)=false:=decide_eq_false (λq=>nomatch q)
theorem qZe(a:Str)(b:Int):decide ((Sum.inr a:Key)=Sum.inl b)=false:=decide_eq_false (λq=>nomatch q)
noncomputable def zy(prog:Program)(w:World):PySem.KeyKind prog w Key where
 is:=keyIs
 hash:=keyH w
 inj:=λv a b ha hb=>by
  rcases xN ha with ⟨i,t,rfl,rfl⟩ | ⟨x,t,rfl,rfl⟩
  .rcases xN hb with ⟨j,u,rfl,e⟩ | ⟨y,u,rfl,e⟩
   .injection e with e1 _;rw [e1]
   .exact nomatch e
  .rcases xN hb with ⟨j,u,rfl,e⟩ | ⟨y,u,rfl,e⟩
   .exact nomatch e
   .injection e with e1 _;rw [e1]
 byValue:=λk v h=>by
  rcases xN h with ⟨i,t,rfl,rfl⟩ | ⟨x,t,rfl,rfl⟩ <;> rfl
 pyHash:=λhv h=>by
  rcases xN hv with ⟨i,t,rfl,rfl⟩ | ⟨x,t,rfl,rfl⟩
  .exact wpAny_pyHash_int h
  .exact wpAny_pyHash_str h
 eqBool:=λhu hv h=>by
  rcases xN hu with ⟨i,t,rfl,rfl⟩ | ⟨x,t,rfl,rfl⟩
  .rcases xN hv with ⟨j,u,rfl,rfl⟩ | ⟨y,u,rfl,rfl⟩
   .rw [qZg] at h;show wpAny_eqBool_int h
   .rw [qZf] at h;show SeqAt.EqAt.int_str i t y u _ _ _ _ h
  .rcases xN hv with ⟨j,u,rfl,rfl⟩ | ⟨y,u,rfl,rfl⟩
   .rw [qZe] at h;show SeqAt.EqAt.str_int x t j u _ _ _ _ h
   .rw [qZd] at h;show wpAny_eqBool_str h
 «strs» :=λk x t v h=>by
  rcases xN h with ⟨i,u,rfl,e⟩ | ⟨y,u,rfl,e⟩
  .exact nomatch e
  .injection e with e1 _
   subst e1;cases v <;> rfl
theorem qM1(prog:Program)(w:World)(i:Int)(t:Tok):(zy prog w).is (.inl i) (.int i t)=true:=qRr i t
theorem qM0(prog:Program)(w:World)(x:Str)(t:Tok):(zy prog w).is (.inr x) (.str x t)=true:=qRq x t
set_option genInjectivity true in
inductive V where
 |non|bl (b:Bool)|int (i:Int)|str (x:Str)|byt (b:Array UInt8)|flt (b:UInt64)|ref (a:Sf)|ty (n:String)
 deriving DecidableEq
def RelV:V->Se->Prop
 |.non,u=>u=Value.none
 |.bl b,u=>u=Value.bool b
 |.int i,u=>∃t,u=Value.int i t
 |.str x,u=>∃t,u=Value.str x t
 |.byt b,u=>∃t,u=Value.bytes b t
 |.flt b,u=>∃t,u=Value.float b t
 |.ref a,u=>u=Value.ref a
 |.ty n,u=>u=Value.type n
abbrev Vals:List V->List Se->Prop:=Paired RelV
theorem Vals.length(r:Vals xs us):xs.length=us.length:=fI r
theorem Vals.get:∀ {xs:List V} {us:List Se} {i:Nat} {x:V},Vals xs us->xs[i]? = Sa x -> ∃u,us[i]? = Sa u/\RelV x u
 |_,_,_,_,.nil,e=>by simp at e
 |_,_,0,_,.cons r _,e=>by simp at e;subst e;show⟨_,rfl,r⟩
 |_,_,i+1,x,.cons _ t,e=>by
  let⟨u,a,b⟩:=Vals.get (i:=i) (x:=x) t (by simpa using e);show⟨u,by simpa using a,b⟩
theorem Vals.set(r:RelV x u):∀ {xs:List V} {us:List Se} (i:Nat),Vals xs us->Vals (xs.set i x) (us.set i u)
 |_,_,_,.nil=>.nil
 |_,_,0,.cons _ t=>.cons r t
 |_,_,i+1,.cons q t=>.cons q (Vals.set r i t)
theorem Vals.append(h:Vals xs us)(s:Vals ys ws):Vals (xs++ys) (us++ws):=by
 induction h with
 |nil=>show s
 |cons r _ a=>show .cons r a
theorem Vals.take:∀ {xs:List V} {us:List Se} (n:Nat),Vals xs us->Vals (xs.take n) (us.take n)
 |_,_,0,_=>.nil
 |_,_,_+1,.nil=>.nil
 |_,_,n+1,.cons r t=>.cons r (Vals.take n t)
theorem Vals.drop:∀ {xs:List V} {us:List Se} (n:Nat),Vals xs us->Vals (xs.drop n) (us.drop n)
 |_,_,0,r=>r
 |_,_,_+1,.nil=>.nil
 |_,_,n+1,.cons _ t=>Vals.drop n t
theorem Vals.none_of:∀{xs:List V}{us:List Se}{i:Nat},Vals xs us->xs[i]? = Sb->us[i]? = Sb:=λ{xs us i}r e=>by
 let a:=r.length;let b:xs.length<=i:=gP.mp e;show gP.mpr ∎
def RelO:Option V->Option Se->Prop
 |some v,Sa u=>RelV v u
 |none,Sb=>True
 |_,_=>False
def KV{κ:Type}:List (κ×V)->List (κ×Se)->Prop:=Paired λ(p:κ×V)(q:κ×Se)=>p.1=q.1/\RelV p.2 q.2
noncomputable def kV:Key->V
 |.inl i=>.int i
 |.inr x=>.str x
inductive HO where
 |lst (xs:List V)
 |tup (xs:List V)
 |dK (kvs:List (Key×V))|dT (kvs:List (List Key×V))
 |set (S:Int->Bool) (n:Nat)
 |ins (C dx:Sf) (fs:List (Str×V))
 |own (x:Sf)
 |xd (fs:List (Str×V))
 |met (f x:Sf)
 |rng (lo hi:Int)
 |frz (o:Ss) (u:HO)
 |tbl (ps:Array Se)
 |ext (φ:Sf->Sk->Prop)
abbrev Hp:=Sf->Option HO
noncomputable def upd(H:Hp)(a:Sf)(o:HO):Hp:=λb=>if b=a then Sa o else H b
theorem zB:upd H a o a=Sa o:=by unfold upd;rw[if_pos rfl]
theorem zC(h:b≠a):upd H a o b=H b:=by unfold upd;rw[if_neg h]
theorem ik{H:Hp}{a:Sf}{o u:HO}:upd (upd H a o) a u=upd H a u:=by
 funext b;unfold upd;split<;>rfl
theorem xm{H:Hp}{a b:Sf}{o u:HO}(h:H a=Sa o)(h':H b=Sa u)(d:o≠u):a≠b:=by
 intro e;subst e;rw[h]at h';show d (bI h')
theorem zG{H:Hp}{a b:Sf}{o:HO}(h:H a=Sa o)(h':H b=Sb):a≠b:=by
 intro e;subst e;rw[h]at h';cases h'
section
variable(P:Sh)(w:Si)
def ObjOk(H:Hp)(h:Sk)(a:Sf):HO->Prop
 |.lst xs=>xs.length<=Sn/\∃(its:List Se)(n:Nat),Vals xs its/\h.get? a=Sa {cls:=.type "list",data:=.seq its.toArray n}
 |.tup xs=>xs.length<=Sn/\∃its:List Se,Vals xs its/\IsTup h a its.toArray
 |.dK kvs=>kvs.length<=Sn/\(a == SH)=Sd/\∃vs,KV kvs vs/\h.DictOf (zy P w) a vs
 |.dT kvs=>kvs.length<=Sn/\(a == SH)=Sd/\∃xs:List (List Key×Sf×Se),
   Paired (λ(p:List Key×V)(q:List Key×Sf×Se)=>p.1=q.1/\H q.2.1=Sa (.tup (p.1.map kV))/\RelV p.2 q.2.2) kvs xs/\
   ∃o es ep,h.get? a=Sa o/\o.ExactDict/\o.data=.dict es ep/\es.toList=xs.map (entryOfKey (tupleKind (zy P w)))/\(xs.map (·.1)).Nodup
 |.set S n=>h.SetOf (intKind P w) a S n
 | .ins C dx fs=>H dx=Sa (.own a)/\fs.length<=1000/\dx≠a/\h.get? a=Sa (PySem.W.instObj C dx) /\
   ∃mA,h.Ns1 dx mA/\(∀f,RelO (fs.lookup f) (mA f))/\PySem.Within mA (fs.map (·.1))
 |.own _=>∃o,h.get? a=Sa o
 |.xd fs=>∃mA,h.Ns1 a mA/\∀f,RelO (fs.lookup f) (mA f)
 |.rng lo hi=>∃t u v,h.get? a=Sa {cls:=.type "range",data:=.fields #[.int lo t,.int hi u,.int 1 v]}
 |.frz o u=>h.get? a=Sa o/\ObjOk H h a u
 |.tbl ps=>h.get? a=Sa {cls:=.none,data:=.fields ps}
 |.met f x=>h.get? a=Sa (PySem.W.methodObj (.ref f) (.ref x))
 |.ext φ=>φ a h/\(∃o,h.get? a=Sa o)/\∀h1 h2:Sk,φ a h1->(∀o,h1.get? a=Sa o->h2.get? a=Sa o)->φ a h2
def HOk(H:Hp)(h:Sk):Prop:=∀a o,H a=Sa o->ObjOk P w H h a o
end
theorem ObjOk.lt(x:ObjOk P w H h a o):a<h.objs.size:=by
 cases o with
 |lst xs=>obtain⟨_,_,_,_,e⟩:=x;show aO e
 |tup xs=>obtain⟨_,_,_,p⟩:=x;show p.lt
 |dK b=>obtain⟨_,_,_,_,o,_,_,e,_⟩:=x;show aO e
 |dT b=>obtain⟨_,_,_,_,o,_,_,e,_⟩:=x;show aO e
 |set S n=>obtain⟨o,_,_,_,e,_⟩:=x;show aO e
 |ins C dx fs=>obtain⟨_,_,_,e,_⟩:=x;show aO e
 |own y=>obtain⟨_,e⟩:=x;show aO e
 |xd fs=>obtain⟨_,⟨_,_,_,e,_⟩,_⟩:=x;show aO e
 |rng lo hi=>obtain⟨_,_,_,e⟩:=x;show aO e
 |frz ob u=>obtain⟨e,_⟩:=x;show aO e
 |tbl c=>show aO (show h.get? a=Sa _ from x)
 |met f y=>show aO (show h.get? a=Sa _ from x)
 |ext φ=>obtain⟨_,⟨_,e⟩,_⟩:=x;show aO e
theorem Paired.mapP{α β:Type}{F G:α->β->Prop}{l₁:List α}{l₂:List β}(h:Paired F l₁ l₂)(f:∀a b,F a b->G a b):Paired G l₁ l₂:=by
 induction h with
 |nil=>show .nil
 |cons r _ c=>show .cons (f _ _ r) c
theorem ObjOk.stay(x:ObjOk P w H h a o)(k:∀b u,(b=a\/H b=Sa (.own a))->h.get? b=Sa u->h'.get? b=Sa u)(D:∀b,H b=Sa (.own a)->H' b=Sa (.own a))(E:∀b xs,H b=Sa (.tup xs)->H' b=Sa (.tup xs)):ObjOk P w H' h' a o:=by
 induction o with
 |lst xs=>obtain⟨z,l,n,r,e⟩:=x;show⟨z,l,n,r,k _ _ (.inl rfl) e⟩
 |tup xs=>obtain⟨z,l,r,g,e,c⟩:=x;show⟨z,l,r,g,k _ _ (.inl rfl) e,c⟩
 |dK m=>obtain⟨z,y,F,r,g,i,j,e,c⟩:=x;show⟨z,y,F,r,g,i,j,k _ _ (.inl rfl) e,c⟩
 |dT m=>
  let⟨z,y,xs,r,g,i,j,e,c⟩:=x;show⟨z,y,xs,Paired.mapP r λp q z=>⟨z.1,E _ _ z.2.1,z.2.2⟩,g,i,j,k _ _ (.inl rfl) e,c⟩
 |set S n=>obtain⟨g,i,j,t,e,c⟩:=x;show⟨g,i,j,t,k _ _ (.inl rfl) e,c⟩
 |ins C dx fs=>
  obtain⟨d,z,ne,e,s,⟨A,i,j,G,c⟩,r⟩:=x;show⟨D _ d,z,ne,k _ _ (.inl rfl) e,s,⟨A,i,j,k _ _ (.inr d) G,c⟩,r⟩
 |own y=>obtain⟨g,e⟩:=x;show⟨g,k _ _ (.inl rfl) e⟩
 |xd fs=>obtain⟨s,⟨A,i,j,e,c⟩,r⟩:=x;show⟨s,⟨A,i,j,k _ _ (.inl rfl) e,c⟩,r⟩
 |rng lo hi=>obtain⟨t,u,v,e⟩:=x;show⟨t,u,v,k _ _ (.inl rfl) e⟩
 |frz g u I=>obtain⟨e,q⟩:=x;show⟨k _ _ (.inl rfl) e,I q⟩
 |tbl B=>
  let e:h.get? a=Sa {cls:=.none,data:=.fields B}:=x;change h'.get? a=Sa {cls:=.none,data:=.fields B};show k a _ (.inl rfl) e
 |met f y=>
  let e:h.get? a=Sa (PySem.W.methodObj (.ref f) (.ref y)):=x;change h'.get? a=Sa (PySem.W.methodObj (.ref f) (.ref y));show k a _ (.inl rfl) e
 |ext φ=>obtain⟨p,⟨o,e⟩,st⟩:=x;show⟨st _ _ p λo q=>k _ _ (.inl rfl) q,⟨o,k _ _ (.inl rfl) e⟩,st⟩
theorem HOk.lt(x:HOk P w H h)(e:H a=Sa o):a<h.objs.size:=(x a o e).lt
theorem HOk.fresh(x:HOk P w H h)(e:h.objs.size<=a):H a=Sb:=by
 cases q:H a with
 |none=>rfl
 |some u=>show absurd (bS (x.lt q) e) (eX _)
theorem HOk.kept(x:HOk P w H h)(k:∀b u,h.get? b=Sa u->h'.get? b=Sa u):HOk P w H h':=λa o e=>
 (x a o e).stay (λb u _ q=>k b u q) (λ_ q=>q) λ_ _ q=>q
theorem HOk.laid(x:HOk P w H h)(k:∀b u,h.get? b=Sa u->h'.get? b=Sa u)(g:h.objs.size<=a)(new:ObjOk P w (upd H a o) h' a o):HOk P w (upd H a o) h':=λb u e=>by
 let d:=x.fresh g;by_cases f:b=a
 .subst f;rw[zB]at e;cases e;show new
 .rw [zC f]at e;show(x b u e).stay (λc v _ q=>k c v q) (λc q=>by rw[zC (zG q d)];show q) λc i q=>by rw[zC (zG q d)];show q
def Rd(H:Hp)(a:Sf)(u:HO):Prop:=H a=Sa u\/∃o,H a=Sa (.frz o u)
theorem Rd.ok(r:Rd H a u)(x:HOk P w H h):ObjOk P w H h a u:=by
 rcases r with r|⟨o,r⟩
 .exact x a u r
 .let⟨_,q⟩:=x a _ r;show q
def Mut:Option HO->Prop
 |some (.lst _)=>True
 |some (.dK _)=>True
 |some (.dT _)=>True
 |some (.set _ _)=>True
 |some (.ins _ _ _)=>True
 |some (.ext _)=>True
 |_=>False
theorem HOk.write(ok:HOk P w H h)(mu:Mut (H x))(l:e=x\/H e=Sa (.own x))(k:∀b u,b≠e->h.get? b=Sa u->h'.get? b=Sa u)(j:∃u,h'.get? e=Sa u)(new:ObjOk P w (upd H x o') h' x o'):HOk P w (upd H x o') h':=λb u q=>by
 let d:∀c y,H c=Sa (.own y)->c≠x:=λc y r z=>by subst z;rw[r]at mu;show mu
 let f:∀c g,H c=Sa (.tup g)->c≠x:=λc g r z=>by subst z;rw[r]at mu;show mu
 by_cases i:b=x
 .subst i;rw[zB]at q;cases q;show new
 .rw [zC i]at q;by_cases a:b=e
  .let m:H b=Sa (.own x):=by
    rcases l with z|z
    .exact absurd (a.trans z) i
    .rw [a];show z
   rw[q]at m;cases m;let⟨v,n⟩:=j;show⟨v,by rw[a];show n⟩
  .refine (ok b u q).stay (λc v hc r=>k c v ?_ r) (λc r=>by rw[zC (d c b r)];show r) λc g r=>by rw[zC (f c g r)];show r
   rcases hc with rfl|hc
   .exact a
   .rintro rfl;rcases l with z|z
    .exact d c b hc z
    .rw [hc]at z;cases z;show i rfl
structure Un(fs ex:List Sf)(H H':Hp)(h h':Sk):Prop where
 keep:∀b o,h.get? b=Sa o->H b=Sb->b∉fs->b∉ex->h'.get? b=Sa o
 slot:∀b o,h.get? b=Sa o->H b=Sb->b∈fs->b∉ex->∃sl,h'.get? b=Sa {o with slots:=sl}
 free:∀b o,h.get? b=Sa o->H b=Sb->b∉ex->H' b=Sb
 there:∀b o,h.get? b=Sa o->b∉ex->∃o',h'.get? b=Sa o'
 tups:∀b xs,H b=Sa (.tup xs)->H' b=Sa (.tup xs)
 frzs:∀b o u,H b=Sa (.frz o u)->H' b=Sa (.frz o u)
 tbls:∀b ps,H b=Sa (.tbl ps)->∃more,H' b=Sa (.tbl (ps++more))
theorem Un.any(u:Un fs ex H H1 h h1)(q:h.get? b=Sa ob)(n:H b=Sb)(a:b∉ex):∃d,h1.get? b=Sa {ob with slots:=d}:=by
 by_cases c:b∈fs
 .exact u.slot b ob q n c a
 .exact⟨ob.slots,u.keep b ob q n c a⟩
theorem Un.kept(k:∀b u,h.get? b=Sa u->h'.get? b=Sa u):Un fs ex H H h h':=⟨λb a q _ _ _=>k b a q,λb a q _ _ _=>⟨a.slots,k b a q⟩,λ_ _ _ n _=>n,λb a q _=>⟨a,k b a q⟩,λ_ _ q=>q,λ_ _ _ q=>q,λ_ c q=>⟨#[],by rw[q];simp⟩⟩
theorem Un.refl:Un fs ex H H h h:=Un.kept λ_ _ q=>q
theorem Un.laid(k:∀b u,h.get? b=Sa u->h'.get? b=Sa u)(d:h.objs.size<=a)(c:H a=Sb):Un fs ex H (upd H a o) h h' where
 keep:=λb u q _ _ _=>k b u q
 slot:=λb u q _ _ _=>⟨u.slots,k b u q⟩
 free:=λb u q n _=>by rw[zC (aX (bS (aO q) d))];show n
 there:=λb u q _=>⟨u,k b u q⟩
 tups:=λb e q=>by rw[zC (zG q c)];show q
 frzs:=λb u e q=>by rw[zC (zG q c)];show q
 tbls:=λb f q=>⟨#[],by rw[zC (zG q c),q];simp⟩
theorem Un.write(mu:Mut (H x))(i:e=x\/H e=Sa (.own x))(k:∀b u,b≠e->h.get? b=Sa u->h'.get? b=Sa u)(c:∃u,h'.get? e=Sa u):Un fs ex H (upd H x o) h h':=by
 let f:∀b,H b=Sb->b≠x:=λb n z=>by subst z;rw[n]at mu;show mu
 let g:∀b,H b=Sb->b≠e:=λb n z=>by
  subst z;rcases i with r|r
  .exact f b n r
  .rw [n]at r;cases r
 let d:∀b u,H b=Sa u->¬Mut (Sa u)->b≠x:=λb u q j z=>by subst z;rw[q]at mu;show j mu
 show⟨λb u q n _ _=>k b u (g b n) q,λb u q n _ _=>⟨u.slots,k b u (g b n) q⟩,λb u q n _=>by rw[zC (f b n)];show n,λb u q _=>?_,
  λb l q=>by rw[zC (d b _ q λz=>z)];show q,λb u l q=>by rw[zC (d b _ q λz=>z)];show q,λb m q=>⟨#[],by rw[zC (d b _ q λz=>z),q];simp⟩⟩
 by_cases a:b=e
 .subst a;show c
 .exact⟨u,k b u a q⟩
noncomputable def trk(h:Sk)(H:Hp):List Sf:=(List.range h.objs.size).filter λa=>(H a).isSome
noncomputable def hidT(h:Sk)(H:Hp):Sk:=PySem.W.hideAll h (trk h H)
theorem qRy(h:Sk)(H:Hp):(hidT h H).objs.size=h.objs.size:=PySem.W.hideAll_size _ _
theorem qUb(e:h.get? b=Sa o)(n:H b=Sb):(hidT h H).get? b=Sa o:=
 PySem.W.hideAll_get _ e λa=>by
  let q:(H b).isSome=Sc:=(cA.mp a).2;rw[n]at q;simp at q
theorem qXg(e:(hidT h H).get? b=Sa o):h.get? b=Sa o/\H b=Sb:=by
 let a:h.get? b=Sa o:=PySem.W.of_hideAll (trk h H) e;show⟨a,?_⟩;cases q:H b with
 |none=>rfl
 |some x=>
  let c:b∈trk h H:=cA.mpr ⟨aZ.mpr (aO a),by simp[q]⟩;let z:(hidT h H).get? b=Sb:=PySem.W.hideAll_none (trk h H) c;rw[z]at e;cases e
noncomputable def wZ(g h:Sk)(L:Sf):List (Sf×Ss):=(List.range h.objs.size).filterMap λa=>if a=L\/(g.get? a).isSome=Sc then Sb else (h.get? a).map λo=>(a,o)
theorem kr{g h:Sk}(c:a≠L)(d:g.get? a=Sb)(b:h.get? a=Sa o):(a,o)∈wZ g h L:=dI.mpr ⟨a,aZ.mpr (aO b),by simp[c,d,b]⟩
theorem qH5{g h:Sk}(c:p∈wZ g h L):p.1≠L/\g.get? p.1=Sb/\h.get? p.1=Sa p.2:=by
 let⟨b,_,e⟩:=dI.mp c;split at e
 .cases e
 .rename_i a;cases q:h.get? b with
  |none=>rw[q]at e;simp at e
  |some u=>
   rw[q]at e;simp only[fO,Option.some.injEq]at e;subst e;show⟨λz=>a (.inl z),?_,q⟩;change g.get? b=Sb;cases r:g.get? b with
   |none=>rfl
   |some v=>show(a (.inr (by simp[r]))).elim
theorem qU3{g h:Sk}:News g L h (wZ g h L):=λp d=>let ⟨a,b,c⟩:=qH5 d;⟨c,a,b⟩
structure Mod(K:SJ)(mg:Str->Option Se)(base:Sk):Prop where
 kin:K.In base
 glob:base.Ns Sq mg
 blt:∃mb,base.Ns builtinsNs mb/\∀x:Str,x≠"__name__"->mb x=SF x
 nolimit:base.NoLimit
structure Cx where
 prog:Sh
 w:Si
 K:SJ
 mg:Str->Option Se
 base:Sk
 A:Sj
 N:List Str
 s₀:Sg
 H₀:Hp
 env:Env
 outer:List Env
 stack:List Env
 ex:List Sf
 fn:Str->Bool
 calm:Bool
 pn:List (Sf×Ss)
 xe:Se->Sg->Prop
noncomputable def frs(l:List Env):List Sf:=l.filterMap (·.frame)
noncomputable abbrev Cx.fs(X:Cx):List Sf:=frs X.outer
def Vis(sc:Su)(x:Str):Prop:=sc.names.lookup x=Sa .local\/sc.names.lookup x=Sa .cell\/sc.names.lookup x=Sa .free
def Loc(sc:Su)(x:Str):Prop:=sc.names.lookup x=Sa .local\/sc.names.lookup x=Sa .cell
def Look(env:Env)(h:Sk)(m:Str->Option Se)(x:Str)(u:Se):Prop:=(env.kindOf x=Sa .local/\m x=Sa u)\/((env.kindOf x=Sa .cell\/env.kindOf x=Sa .free)/\∃c,env.cells.lookup x=Sa c/\h.IsCell c (Sa u))
structure Cx.Ok(X:Cx):Prop where
 mod:Mod X.K X.mg X.base
 kind:X.env.scope.kind=.function
 glob:X.env.globals=Sq
 blt:X.env.builtins=builtinsNs
 above:X.s₀.heap.objs.size<=X.env.locals
 inj:∀x y c,X.env.cells.lookup x=Sa c->X.env.cells.lookup y=Sa c->x=y
 has:∀x,(X.env.kindOf x=Sa .cell\/X.env.kindOf x=Sa .free)->∃c,X.env.cells.lookup x=Sa c
 cab:∀x c,X.fn x=Sc->X.env.cells.lookup x=Sa c->X.s₀.heap.objs.size<=c
 hd:X.calm=Sc->X.A.handled=Sb
 frames:X.A.frames=Sa X.stack
 stk:X.stack=X.outer\/(X.stack=X.env::X.outer/\X.env.frame=Sa X.env.locals)
 exf:∀b∈X.ex,b≠X.env.locals/\∀x c,X.env.cells.lookup x=Sa c->c≠b
 bs:∀b o,X.base.get? b=Sa o->X.s₀.heap.get? b=Sa o/\X.H₀ b=Sb
 bsz:X.base.objs.size<=X.s₀.heap.objs.size
 noex:∀b o,X.base.get? b=Sa o->b∉X.ex
 exfs:∀b∈X.ex,b∉X.fs
 funs:X.s₀.heap.FunFrames X.base X.outer
 frf:∀b∈X.fs,X.H₀ b=Sb
structure Inv(X:Cx)(pins:List (Sf×Ss))(σ:List (Option V))(H:Hp)(s:Sg):Prop where
 ok:X.Ok
 os:s.os=X.s₀.os
 bare:AllBare s.gens
 base:Un X.fs X.ex X.H₀ H X.s₀.heap s.heap
 loc:∃m,s.heap.Ns X.env.locals m/\∀(i:Nat)(x:Str)(v:V),X.N[i]? = Sa x->σ[i]? = Sa (Sa v)->Vis X.env.scope x->∃u,RelV v u/\Look X.env s.heap m x u
 cell:∀x c,X.env.cells.lookup x=Sa c->∃v,s.heap.IsCell c v
 free:H X.env.locals=Sb
 freeC:∀x c,X.env.cells.lookup x=Sa c->H c=Sb
 pin:∀p∈X.pn++pins,s.heap.get? p.1=Sa p.2/\H p.1=Sb/\p.1≠X.env.locals/\p.1∉X.fs/\∀v,p.2.data≠.cell v
 hok:HOk X.prog X.w H s.heap
 len:σ.length=X.N.length
section
variable{X:Cx}
theorem Cx.Ok.nofr(ok:X.Ok)(e:X.base.get? b=Sa o):b∉X.fs:=λa=>by
 let:=(ok.funs.mem a).1;rw[e]at this;cases this
theorem Inv.bs(I:Inv X pins σ H s):∀b o,X.base.get? b=Sa o->s.heap.get? b=Sa o/\H b=Sb:=λb o e=>
 ⟨I.base.keep b o (I.ok.bs b o e).1 (I.ok.bs b o e).2 (I.ok.nofr e) (I.ok.noex b o e),I.base.free b o (I.ok.bs b o e).1 (I.ok.bs b o e).2 (I.ok.noex b o e)⟩
theorem Inv.bk(I:Inv X pins σ H s):∀b o,X.base.get? b=Sa o->s.heap.get? b=Sa o:=λb o e=>(I.bs b o e).1
theorem Inv.mod(I:Inv X pins σ H s):Mod X.K X.mg X.base:=I.ok.mod
theorem Inv.kIn(I:Inv X pins σ H s):X.K.In s.heap:=I.ok.mod.kin.keeps I.bk
theorem Inv.fr(I:Inv X pins σ H s):∃m,Fr X.base X.env.locals s.heap m:=
 let ⟨m,a,_⟩:=I.loc
 ⟨m,a,I.bk,cH I.ok.bsz I.ok.above⟩
theorem Inv.lt(I:Inv X pins σ H s):X.env.locals<s.heap.objs.size:=let ⟨_,a,_⟩:=I.loc;a.lt
theorem Inv.sz(I:Inv X pins σ H s):X.s₀.heap.objs.size<=s.heap.objs.size:=cH I.ok.above (cV I.lt)
theorem Inv.nofs(I:Inv X pins σ H s){a:Sf}(h:s.heap.objs.size<=a):a∉X.fs:=λb=>by
 let⟨_,o,c,_⟩:=I.ok.funs.mem b;show absurd (bS (aO c) (cH I.sz h)) (eX _)
theorem Inv.cne(I:Inv X pins σ H s):∀x c,X.env.cells.lookup x=Sa c->c≠X.env.locals:=λx c e z=>by
 let⟨v,o,d,f⟩:=I.cell x c e;obtain⟨m,⟨g,h,i,a,b,_⟩,_⟩:=I.loc;rw[z,a]at d;cases d;rw[b]at f;cases f
theorem Inv.funs(I:Inv X pins σ H s):s.heap.FunFrames X.base X.outer:=by
 let all:∀(l:List Env),(∀b∈frs l,b∈X.fs)->X.s₀.heap.FunFrames X.base l->s.heap.FunFrames X.base l:=by
  intro l
  induction l with
  |nil=>intro _ _;trivial
  |cons env r g=>
   intro f h;obtain⟨i,⟨L,o,a,j,k,m⟩,n⟩:=h;let c:L∈X.fs:=f L (by unfold frs;rw[cU,a];show aT);let⟨p,e⟩:=I.base.slot L o k (I.ok.frf L c) c λz=>I.ok.exfs L z c;show⟨i,⟨L,_,a,j,e,m⟩,g (λb d=>f b (by unfold frs;rw[cU,a];show aS _ d)) n⟩
 show all X.outer (λ_ d=>d) I.ok.funs
theorem Inv.stack(I:Inv X pins σ H s):s.heap.FunFrames X.base X.stack:=by
 rcases I.ok.stk with e|⟨e,a⟩
 .rw [e];show I.funs
 .rw [e];let⟨m,b,_⟩:=I.loc;show .cons (by rw[I.ok.kind];decide) a b ?_ I.funs;show Heap.get?_none_of_le (cH I.ok.bsz I.ok.above)
theorem Inv.stkSub(I:Inv X pins σ H s):∀b∈frs X.stack,b∈X.env.locals::X.fs:=λb a=>by
 rcases I.ok.stk with e|⟨e,c⟩
 .rw [e]at a;show aS _ a
 .rw [e]at a;unfold frs at a;rw[cU,c]at a;show a
theorem Inv.stkFree(I:Inv X pins σ H s):∀b∈frs X.stack,H b=Sb:=λb hb=>by
 rcases aM.mp (I.stkSub b hb)with e|hb
 .rw [e];show I.free
 .let⟨_,o,a,_⟩:=I.ok.funs.mem hb;show I.base.free b o a (I.ok.frf b hb) λz=>I.ok.exfs b z hb
theorem Inv.step{g':Array GenState}{t':Nat}{d':Drawn}{ch:List Sf}(I:Inv X pins σ H s)(f:∀b∈ch,(b∈X.ex\/X.s₀.heap.objs.size<=b)/\b≠X.env.locals/\(∀x c,X.env.cells.lookup x=Sa c->c≠b)/\∀p∈X.pn++pins,p.1≠b)(keep:∀b o,b≠X.env.locals->b∉X.fs->b∉ch->s.heap.get? b=Sa o->H b=Sb->h'.get? b=Sa o)(slot:∀b o,b≠X.env.locals->b∈X.fs->b∉ch->s.heap.get? b=Sa o->H b=Sb->∃M,h'.get? b=Sa {o with slots:=M})(free:∀b o,b∉ch->s.heap.get? b=Sa o->H b=Sb->H' b=Sb)(A:∀b o,b∉ch->s.heap.get? b=Sa o->∃D,h'.get? b=Sa D)(E:∀b y,H b=Sa (.tup y)->H' b=Sa (.tup y))(F:∀b o u,H b=Sa (.frz o u)->H' b=Sa (.frz o u))(G:∀b L,H b=Sa (.tbl L)->∃more,H' b=Sa (.tbl (L++more)))(S:∀m,s.heap.Ns X.env.locals m->h'.Ns X.env.locals m)(hok:HOk X.prog X.w H' h')(T:AllBare g'):Inv X pins σ H' {s with heap:=h',gens:=g',drawn:=d',toks:=t'}:=by
 let J:∀b o,X.s₀.heap.get? b=Sa o->b≠X.env.locals:=λb o e=>aX (bS (aO e) I.ok.above);let j:∀b o,X.s₀.heap.get? b=Sa o->b∉X.ex->b∉ch:=λb o e a B=>by
  rcases (f b B).1 with z|z
  .exact a z
  .exact absurd (bS (aO e) z) (eX _)
 let g:∀x c,X.env.cells.lookup x=Sa c->∀v,s.heap.IsCell c v->h'.IsCell c v:=λx c e v ⟨o,C,N⟩=>by
  let h:c∉ch:=λz=>(f c z).2.2.1 x c e rfl;by_cases P:c∈X.fs
  .let⟨M,q⟩:=slot c o (I.cne x c e) P h C (I.freeC x c e);show⟨_,q,N⟩
  .exact⟨o,keep c o (I.cne x c e) P h C (I.freeC x c e),N⟩
 show⟨I.ok,I.os,T,⟨λb o e n B a=>?_,λb o e n B a=>?_,λb o e n a=>?_,λb o e a=>?_,λb y e=>E b y (I.base.tups b y e),λb o y e=>F b o y (I.base.frzs b o y e),λb L e=>?_⟩,?_,λx c e=>?_,?_,λx c e=>?_,λp Q=>?_,hok,I.len⟩
 .exact keep b o (J b o e) B (j b o e a) (I.base.keep b o e n B a) (I.base.free b o e n a)
 .let⟨M,t⟩:=I.base.slot b o e n B a;let⟨O,K⟩:=slot b _ (J b o e) B (j b o e a) t (I.base.free b o e n a);show⟨O,K⟩
 .let⟨D,t⟩:=I.base.there b o e a;show free b D (j b o e a) t (I.base.free b o e n a)
 .let⟨D,t⟩:=I.base.there b o e a;show A b D (j b o e a) t
 .let⟨U,t⟩:=I.base.tbls b L e;let⟨m2,K⟩:=G b _ t;show⟨U++m2,by rw[K,Array.append_assoc]⟩
 .let⟨m,V,W⟩:=I.loc;show⟨m,S m V,λi x v t K Y=>?_⟩;let⟨u,r,l⟩:=W i x v t K Y;show⟨u,r,?_⟩;rcases l with l|⟨k,c,e,z⟩
  .exact .inl l
  .exact .inr ⟨k,c,e,g x c e _ z⟩
 .let⟨v,z⟩:=I.cell x c e;show⟨v,g x c e v z⟩
 .obtain⟨m,⟨o,_,_,C,_⟩,_⟩:=I.loc;show free _ o (λz=>(f _ z).2.1 rfl) C I.free
 .let⟨v,o,C,N⟩:=I.cell x c e;show free c o (λz=>(f c z).2.2.1 x c e rfl) C (I.freeC x c e)
 .let⟨e,n,ne,R,d⟩:=I.pin p Q;let h:p.1∉ch:=λz=>(f p.1 z).2.2.2 p Q rfl;show⟨keep p.1 p.2 ne R h e n,free p.1 p.2 h e n,ne,R,d⟩
theorem Inv.un{t':Nat}(I:Inv X pins σ H s)(u:Un X.fs [] H H' s.heap h')(hok:HOk X.prog X.w H' h'):Inv X pins σ H' {s with heap:=h',toks:=t'}:=by
 obtain⟨m,⟨o,k,l,g,r⟩,_⟩:=id I.loc;let⟨p,h⟩:=u.any g I.free ∅
 show I.step (g':=s.gens) (d':=s.drawn) (ch:=[]) (λ_ z=>nomatch z) (λb o _ c _ e n=>u.keep b o e n c ∅) (λb o _ c _ e n=>u.slot b o e n c ∅) (λb o _ e n=>u.free b o e n ∅) (λb o _ e=>u.there b o e ∅) u.tups u.frzs u.tbls (λq i=>by
  let⟨t,d,f,a,j⟩:=i;rw[g]at a;cases a
  show⟨_,d,f,h,j⟩) hok I.bare
theorem Inv.call{t':Nat}(I:Inv X pins σ H s)(u:Un (frs X.stack) ch H H' s.heap h')(hok:HOk X.prog X.w H' h')(k:AllBare g')(d:∀b∈ch,(b∈X.ex\/X.s₀.heap.objs.size<=b)/\b≠X.env.locals/\(∀x c,X.env.cells.lookup x=Sa c->c≠b)/\∀p∈X.pn++pins,p.1≠b):Inv X pins σ H' {s with heap:=h',gens:=g',drawn:=d',toks:=t'}:=by
 obtain⟨m,⟨o,v,y,j,r⟩,_⟩:=id I.loc;let⟨A,g⟩:=u.any j I.free λz=>(d _ z).2.1 rfl
 show I.step (ch:=ch) d (λb o g l a e n=>u.keep b o e n (λz=>(aM.mp (I.stkSub b z)).elim g l) a) (λb o _ _ a e n=>u.any e n a) (λb o a e n=>u.free b o e n a) (λb o a e=>u.there b o e a) u.tups u.frzs u.tbls (λB q=>by
  let⟨C,h,i,f,t⟩:=q;rw[j]at f;cases f
  show⟨_,h,i,g,t⟩) hok k
theorem Inv.turned{t':Nat}(I:Inv X pins σ H s)(k:∀b o,b≠it->s.heap.get? b=Sa o->h'.get? b=Sa o)(g:H it=Sb)(f:it≠X.env.locals)(h:it∈X.ex\/X.s₀.heap.objs.size<=it)(i:∀x c,X.env.cells.lookup x=Sa c->c≠it)(j:∀p∈X.pn++pins,p.1≠it):Inv X pins σ H {s with heap:=h',toks:=t'}:=by
 let d:∀b u,H b=Sa u->b≠it:=λb u e z=>by rw[z,g]at e;cases e
 refine I.step (g':=s.gens) (d':=s.drawn) (ch :=[it]) (λb l=>?_) (λb o _ _ a e _=>k b o (λz=>a (by simp [z])) e) (λb o _ _ a e _=>⟨o.slots,k b o (λz=>a (by simp [z])) e⟩) (λ_ _ _ _ n=>n)
  (λb o a e=>⟨o,k b o (λz=>a (by simp[z])) e⟩) (λ_ _ e=>e) (λ_ _ _ e=>e) (λb B e=>⟨#[],by rw[e];simp⟩) (λm t=>?_) (λb u e=>?_) I.bare
 .let e:b=it:=by simpa using l
  subst e;show⟨h,f,i,j⟩
 .let⟨o,w,y,A,r⟩:=t;show⟨o,w,y,k _ o (eI f) A,r⟩
 .refine (I.hok b u e).stay (λc v a q=>k c v ?_ q) (λ_ q=>q) λ_ _ q=>q;rcases a with z|z
  .rw [z];show d b u e
  .exact d c _ z
theorem Inv.tok(I:Inv X pins σ H s)(t:Nat):Inv X pins σ H {s with toks:=t}:=I.un (h':=s.heap) (t':=t) Un.refl I.hok
theorem Inv.kept{t':Nat}(I:Inv X pins σ H s)(k:∀b u,s.heap.get? b=Sa u->h'.get? b=Sa u):Inv X pins σ H {s with heap:=h',toks:=t'}:=I.un (Un.kept k) (I.hok.kept k)
theorem Inv.laid{a:Sf}{o:HO}{t':Nat}(I:Inv X pins σ H s)(k:∀b u,s.heap.get? b=Sa u->h'.get? b=Sa u)(c:s.heap.objs.size<=a)(new:ObjOk X.prog X.w (upd H a o) h' a o):Inv X pins σ (upd H a o) {s with heap:=h',toks:=t'}:=I.un (Un.laid k c (I.hok.fresh c)) (I.hok.laid k c new)
theorem Inv.write{t':Nat}(I:Inv X pins σ H s)(mu:Mut (H x))(c:e=x\/H e=Sa (.own x))(k:∀b u,b≠e->s.heap.get? b=Sa u->h'.get? b=Sa u)(a:∃u,h'.get? e=Sa u)(new:ObjOk X.prog X.w (upd H x o) h' x o):Inv X pins σ (upd H x o) {s with heap:=h',toks:=t'}:=I.un (Un.write mu c k a) (I.hok.write mu c k a new)
theorem Inv.pins_of(I:Inv X pins σ H s)(h:∀p∈a,s.heap.get? p.1=Sa p.2/\H p.1=Sb/\p.1≠X.env.locals/\p.1∉X.fs/\∀v,p.2.data≠.cell v):Inv X a σ H s:=⟨I.ok,I.os,I.bare,I.base,I.loc,I.cell,I.free,I.freeC,λp b=>(aN.mp b).elim (λz=>I.pin p (bC _ z)) (h p),I.hok,I.len⟩
theorem im{N:List Str}(c:N.Nodup){i j:Nat}{x:Str}(a:N[i]? = Sa x)(b:N[j]? = Sa x):i=j:=by
 let⟨f,d⟩:=aC.mp a;let⟨g,e⟩:=aC.mp b;show(List.getElem_inj c).mp (d.trans e.symm)
theorem io{i:Nat}(I:Inv X pins σ H s)(hN:X.N.Nodup)(hi:X.N[i]? = Sa x)(t:Loc X.env.scope x)(r:RelV v u)(h:∀U,Inv X pins (σ.set i (Sa v)) H U->(∃a,Heap.SameBut a s.heap U.heap/\(a=X.env.locals\/X.env.cells.lookup x=Sa a))->Q () U)(hf:X.fn x=Sc\/X.env.scope.names.lookup x=Sa .local:=by first|show .inl rfl|show .inr rfl|assumption):Sm M A (storeName X.env x u) Q E s:=by
 let⟨m,W,hl⟩:=id I.loc;let K:(X.env.scope.kind == .class||(X.env.scope.kind == .module&&X.env.locals != X.env.globals))=Sd:=by rw[I.ok.kind];rfl
 let D:i < σ.length:=by rw[I.len];show(aC.mp hi).1
 let cne:=I.cne;let g:∀{a:Sf}{h':Sk},(∃o,s.heap.get? a=Sa o/\H a=Sb)->Heap.SameBut a s.heap h'->HOk X.prog X.w H h':=λ{a h'}ha f b ob e=>by
  let⟨_,_,B⟩:=ha;show(I.hok b ob e).stay (λc S hc q=>(f.2 c ?_).trans q) (λ_ q=>q) λ_ _ q=>q;rintro rfl;rcases hc with rfl|hc
  .rw [B]at e;cases e
  .rw [B]at hc;cases hc
 rcases t with hk|hk
 .refine wpAny_storeName_local hk W (λh' Y f=>?_) K;let⟨oL,_,_,Z,_⟩:=id W;show h _ ⟨I.ok,I.os,I.bare,⟨λb o e n F t=>?_,λb o e n F t=>?_,I.base.free,λb o e t=>?_,I.base.tups,I.base.frzs,I.base.tbls⟩,⟨_,Y,λj y v' l C e3=>?_⟩,λy c e=>?_,I.free,I.freeC,λp hp=>?_,g ⟨oL,Z,I.free⟩ f,by simpa using I.len⟩ ⟨_,f,.inl rfl⟩
  .exact (f.2 b (aX (bS (aO e) I.ok.above))).trans (I.base.keep b o e n F t)
  .let⟨sl,l⟩:=I.base.slot b o e n F t;show⟨sl,(f.2 b (aX (bS (aO e) I.ok.above))).trans l⟩
  .let⟨o',l⟩:=I.base.there b o e t;show⟨o',(f.2 b (aX (bS (aO e) I.ok.above))).trans l⟩
  .by_cases G:j=i
   .subst G;rw[hi]at l;cases l;rw[fE D]at C;cases C;show⟨u,r,.inl ⟨hk,∅⟩⟩
   .rw [eV (eI G)]at C;let⟨u',r',q⟩:=hl j y v' l C e3;show⟨u',r',?_⟩;rcases q with ⟨k,e⟩|⟨k,c,e,z⟩
    .refine .inl ⟨k,?_⟩;let:y≠x:=λe=>G (im hN l (e▸hi));simp[this,e]
    .exact .inr ⟨k,c,e,z.sameBut f (cne y c e)⟩
  .let⟨S,z⟩:=I.cell y c e;show⟨S,z.sameBut f (cne y c e)⟩
  .let⟨e,n,ne,nf,d⟩:=I.pin p hp;show⟨(f.2 p.1 ne).trans e,n,ne,nf,d⟩
 .let J:X.fn x=Sc:=by
   rcases hf with z|z
   .exact z
   .rw [z]at hk;cases hk
  let⟨c,hc⟩:=I.ok.has x (.inl hk);let⟨S,z⟩:=I.cell x c hc;show wpAny_storeName_cell I.ok.kind hk hc z (λh' L f=>?_);let⟨oc,O,P⟩:=id z;show h {s with heap:=h'} ⟨I.ok,I.os,I.bare,⟨λb o e n F t=>?_,λb o e n F t=>?_,I.base.free,λb o e t=>?_,I.base.tups,I.base.frzs,I.base.tbls⟩,⟨m,W.sameBut f (eI (cne x c hc)),λj y v' l C e3=>?_⟩,λy T e=>?_,I.free,I.freeC,λp hp=>?_,g ⟨oc,O,I.freeC x c hc⟩ f,by simpa using I.len⟩ ⟨c,f,.inr hc⟩
  .exact (f.2 b (aX (bS (aO e) (I.ok.cab x c J hc)))).trans (I.base.keep b o e n F t)
  .let⟨sl,l⟩:=I.base.slot b o e n F t;show⟨sl,(f.2 b (aX (bS (aO e) (I.ok.cab x c J hc)))).trans l⟩
  .let⟨o',l⟩:=I.base.there b o e t;show⟨o',(f.2 b (aX (bS (aO e) (I.ok.cab x c J hc)))).trans l⟩
  .by_cases G:j=i
   .subst G;rw[hi]at l;cases l;rw[fE D]at C;cases C;show⟨u,r,.inr ⟨.inl hk,c,hc,L⟩⟩
   .rw [eV (eI G)]at C;let⟨u',r',q⟩:=hl j y v' l C e3;show⟨u',r',?_⟩;rcases q with q|⟨k,T,e,z'⟩
    .exact .inl q
    .refine .inr ⟨k,T,e,z'.sameBut f ?_⟩;rintro rfl;show G (im hN l (I.ok.inj _ _ _ e hc▸hi))
  .by_cases R:T=c
   .subst R;show⟨_,L⟩
   .let⟨w2,z2⟩:=I.cell y T e;show⟨w2,z2.sameBut f R⟩
  .let⟨e,n,ne,nf,d⟩:=I.pin p hp;show⟨(f.2 p.1 ?_).trans e,n,ne,nf,d⟩;intro q;rw[q,O]at e;let q':oc=p.2:=bI e;show d S (by rw[<-q'];show P)
theorem vR{i:Nat}(I:Inv X pins σ H s)(b:X.N.Nodup)(hi:X.N[i]? = Sa x)(c:Loc X.env.scope x)(r:RelV v u)(h:∀a,Inv X pins (σ.set i (Sa v)) H a->Q () a)(d:X.fn x=Sc\/X.env.scope.names.lookup x=Sa .local:=by first|show .inl rfl|show .inr rfl|assumption):Sm M A (storeName X.env x u) Q E s:=io I b hi c r (λa e _=>h a e) d
theorem Inv.call'(I:Inv X pins σ H s)(f:a.os=s.os)(u:Un (frs X.stack) ch H H' s.heap a.heap)(hok:HOk X.prog X.w H' a.heap)(g:AllBare a.gens)(d:∀b∈ch,(b∈X.ex\/X.s₀.heap.objs.size<=b)/\b≠X.env.locals/\(∀x c,X.env.cells.lookup x=Sa c->c≠b)/\∀p∈X.pn++pins,p.1≠b):Inv X pins σ H' a:=by
 let⟨h',g',d',t',h⟩:=a;let e:h=s.os:=f;subst e;show I.call (g':=g') (t':=t') (d':=d') u hok g d
end
abbrev XK:=Se->Option Sf->Hp->Prop
abbrev St:=List (Option V)
abbrev VK:=V->Hp->Prop
abbrev TE:=St->Hp->VK->Prop
abbrev TT:=St->Hp->(Bool->Hp->Prop)->Prop
abbrev TA:=St->Hp->(List V->Hp->Prop)->Prop
structure Ends where
 nx:St->Hp->Prop
 rt:VK
 bk:St->Hp->Prop:=λ_ _=>False
 ct:St->Hp->Prop:=λ_ _=>False
abbrev TS:=Ends->St->Hp->Prop
def EP(X:Cx)(pins:List (Sf×Ss))(σ:St)(Q:VK)(u:Se)(s':Sg):Prop:=∃v H',Inv X pins σ H' s'/\RelV v u/\Q v H'
def TP(X:Cx)(pins:List (Sf×Ss))(σ:St)(Q:Bool->Hp->Prop)(b:Bool)(s':Sg):Prop:=∃H',Inv X pins σ H' s'/\Q b H'
def AP(X:Cx)(pins:List (Sf×Ss))(σ:St)(Q:List V->Hp->Prop)(us:List Se)(s':Sg):Prop:=∃vs H',Inv X pins σ H' s'/\Vals vs us/\Q vs H'
def SP(X:Cx)(pins:List (Sf×Ss))(D:Ends)(f:Flow)(s':Sg):Prop:=
 match f with
 |.next=>∃σ' H',Inv X pins σ' H' s'/\D.nx σ' H'
 |.brk=>∃σ' H',Inv X pins σ' H' s'/\D.bk σ' H'
 |.cont=>∃σ' H',Inv X pins σ' H' s'/\D.ct σ' H'
 |.ret u=>∃v σ' H',Inv X pins σ' H' s'/\RelV v u/\D.rt v H'
def PE(X:Cx)(e:Sl)(t:TE):Prop:=
 ∀(pins:List (Sf×Ss))(s:Sg)(σ:St)(H:Hp)(Q:VK),Inv X pins σ H s->t σ H Q->Sm (So X.prog X.w) X.A (Sw e X.env) (EP X pins σ Q) X.xe s
def PT(X:Cx)(e:Sl)(t:TT):Prop:=
 ∀(pins:List (Sf×Ss))(s:Sg)(σ:St)(H:Hp)(Q:Bool->Hp->Prop),Inv X pins σ H s->t σ H Q->Sm (So X.prog X.w) X.A (isTrue e X.env (Sw e X.env)) (TP X pins σ Q) X.xe s
def PW(X:Cx)(e:Sl)(t:TT):Prop:=
 ∀(whole:Sem Se)(pins:List (Sf×Ss))(s:Sg)(σ:St)(H:Hp)(Q:Bool->Hp->Prop),Inv X pins σ H s->t σ H Q->Sm (So X.prog X.w) X.A (isTrue e X.env whole) (TP X pins σ Q) X.xe s
theorem PW.pt{t:TT}(h:PW X e t):PT X e t:=h _
def PA(X:Cx)(es:List Sl)(t:TA):Prop:=
 ∀(pos:Sx)(pins:List (Sf×Ss))(s:Sg)(σ:St)(H:Hp)(Q:List V->Hp->Prop),Inv X pins σ H s->t σ H Q->Sm (So X.prog X.w) X.A (spliced (backTo pos (Sv es X.env))) (AP X pins σ Q) X.xe s
def PS(X:Cx)(st:Sr)(t:TS):Prop:=
 ∀(pins:List (Sf×Ss))(s:Sg)(σ:St)(H:Hp)(D:Ends),Inv X pins σ H s->t D σ H->Sm (So X.prog X.w) X.A (exec st X.env) (SP X pins D) X.xe s
def PSs(X:Cx)(st:List Sr)(t:TS):Prop:=
 ∀(pins:List (Sf×Ss))(s:Sg)(σ:St)(H:Hp)(D:Ends),Inv X pins σ H s->t D σ H->Sm (So X.prog X.w) X.A (execs st X.env) (SP X pins D) X.xe s
theorem thn{α:Type}{t:Sem α}{Q b:α->Sg->Prop}{M:Model}{A:Sj}{E:Se->Sg->Prop}{s:Sg}(h:Sm M A t Q E s)(c:∀a s,Q a s->b a s):Sm M A t b E s:=fP h c λ_ _ x=>x
theorem bin{a b:Sl}{k l:TE}(m:PE X a k)(n:PE X b l){c:List (Sf×Ss)}{s:Sg}{σ:St}{H:Hp}{R:V->V->Hp->Prop}(I:Inv X c σ H s)(h:k σ H λx j=>l σ j λy d=>R x y d){α:Type}{Q:α->Sg->Prop}{f:Se->Se->Sem α}(o:∀v u i x y d,Inv X c σ d i->RelV x v->RelV y u->R x y d->Sm (So X.prog X.w) X.A (f v u) Q X.xe i):Sm (So X.prog X.w) X.A (Sw a X.env) (λv e=>Sm (So X.prog X.w) X.A (Sw b X.env) (λu g=>Sm (So X.prog X.w) X.A (f v u) Q X.xe g) X.xe e) X.xe s:=by
 show thn (m c s σ H _ I h) λv p hq_=>?_;let⟨x,j,q,r,t⟩:=hq_;show thn (n c p σ j _ q t) λu i hq_=>?_;let⟨y,d,z,B,C⟩:=hq_;show o v u i x y d z r B C
def tVar(i:Nat):TE:=λσ H Q=>∃v,σ[i]? = Sa (Sa v)/\Q v H
def tC(v:V):TE:=λ_ H Q=>Q v H
theorem qZ2{i:Nat}{x:Str}{f:Sx}(k:X.N[i]? = Sa x)(n:Vis X.env.scope x)(hd:(x == ("__debug__" : Str))=Sd:=by decide)(g:(x == ("__classdict__" : Str))=Sd:=by decide):PE X (.Name x f) (tVar i):=by
 intro d s σ H Q I h;let⟨v,e,h⟩:=h;let⟨m,o,p⟩:=I.loc;let⟨u,r,l⟩:=p i x v k e n;let b:EP X d σ Q u s:=⟨v,H,I,r,h⟩;rcases l with ⟨hk,q⟩|⟨hk,c,j,a⟩
 .exact wpAny_Name (wpAny_loadName_local I.ok.kind hk o q b) hd
 .rcases hk with hk|hk
  .exact wpAny_Name (wpAny_loadName_cell I.ok.kind hk j a b) hd
  .exact wpAny_Name (wpAny_loadName_free I.ok.kind hk j a b g) hd
theorem pe_int{i j pos}:PE X (.Constant (.int i) j pos) (tC (.int i)):=λ_ _ _ H _ I h=>wpAny_Constant_int ⟨.int i,H,I.tok _,⟨_,rfl⟩,h⟩
theorem pe_bl{b j pos}:PE X (.Constant (.bool b) j pos) (tC (.bl b)):=λ_ _ _ H _ I h=>Constant_bool ⟨.bl b,H,I,rfl,h⟩
theorem pe_non{j pos}:PE X (.Constant .none j pos) (tC .non):=λ_ _ _ H _ I h=>Constant_none ⟨.non,H,I,rfl,h⟩
theorem pe_str{x j pos}:PE X (.Constant (.str x) j pos) (tC (.str x)):=λ_ _ _ H _ I h=>Calls.Constant_str ⟨.str x,H,I.tok _,⟨_,rfl⟩,h⟩
def Gl(X:Cx)(x:Str):Prop:=X.env.kindOf x=Sa .globalImplicit
theorem ip{E:Se->Sg->Prop}{a:List (Sf×Ss)}{s:Sg}{σ : St}{H:Hp}{x:Str}{u:Se}{b:Sx}{Q:Se->Sg->Prop}(I:Inv X a σ H s)(c:Gl X x)(d:X.mg x=Sa u)(h:Q u s)
  (hd:(x == ("__debug__" : Str))=Sd:=by decide):Sm (So X.prog X.w) X.A (Sw (.Name x b) X.env) Q E s:=
 Calls.Name_function_global I.ok.kind c (Calls.loadGlobal_global (by rw[I.ok.glob];show I.mod.glob.keeps I.bk) d h) hd
theorem xn{E:Se->Sg->Prop}{a:List (Sf×Ss)}{s:Sg}{σ : St}{H:Hp}{x:Str}{u:Se}{b:Sx}{Q:Se->Sg->Prop}(I:Inv X a σ H s)(c:Gl X x)(d:X.mg x=Sb)(e:SF x=Sa u)(h:Q u s)
  (f:x≠"__name__":=by decide) (g:(x == ("__debug__" : Str))=Sd:=by decide):Sm (So X.prog X.w) X.A (Sw (.Name x b) X.env) Q E s:=by
 let⟨k,i,j⟩:=I.mod.blt;show Calls.Name_function_global I.ok.kind c (Calls.loadGlobal_builtin (by rw[I.ok.glob];show I.mod.glob.keeps I.bk) d (by rw[I.ok.blt];show i.keeps I.bk) ((j x f).trans e) h) g
theorem iq{x:Str}{v:V}{u:Se}{a:Sx}(b:Gl X x)(c:X.mg x=Sa u)(r:RelV v u)(hd:(x == ("__debug__" : Str))=Sd:=by decide):PE X (.Name x a) (tC v):=λ_ _ _ H _ I h=>ip I b c ⟨v,H,I,r,h⟩ hd
theorem wG{x:Str}{v:V}{u:Se}{a:Sx}(b:Gl X x)(c:X.mg x=Sb)(d:SF x=Sa u)(r:RelV v u)(e:x≠"__name__":=by decide)(f:(x == ("__debug__" : Str))=Sd:=by decide):PE X (.Name x a) (tC v):=λ_ _ _ H _ I h=>xn I b c d ⟨v,H,I,r,h⟩ e f
def PC(X:Cx)(op:CmpOp)(a b:Sl)(t:TE):Prop:=
 ∀(pins:List (Sf×Ss)) (s:Sg) (σ : St) (H:Hp) (Q:VK),Inv X pins σ H s->t σ H Q ->
  Sm (So X.prog X.w) X.A (Sw a X.env) (λv s₁=>Sm (So X.prog X.w) X.A (Sw b X.env) (λu s₂=>Sm (So X.prog X.w) X.A (SC op v u) (EP X pins σ Q) X.xe s₂) X.xe s₁) X.xe s
theorem qU2(b:Sl){a:CmpOp}(h:a≠.In)(c:a≠.NotIn):Sy a b=Sd:=by
 let d:(a == CmpOp.In)=Sd:=by cases a<;>first|rfl|show absurd rfl h
 let e:(a == CmpOp.NotIn)=Sd:=by cases a<;>first|rfl|show absurd rfl c
 cases b<;>simp[Sy,d,e]
def tB(t:TE):TT:=λσ H Q=>t σ H λx H1=>∃c,x=.bl c/\Q c H1
theorem ud{t:TE}(h:PC X f a b t)(g:Sy f b=Sd:=by first|show qU2 _ ⋯ ⋯|rfl):PT X (.Compare a [f] [b] pos) (tB t):=by
 intro e s σ H Q I i;show wpAny_isTrue_Compare1 (thn (h e s σ H _ I i) λv o g=>thn g λu p j=>thn j λc r hq_=>?_) g;let⟨x,k,l,m,n⟩:=hq_;let⟨d,rfl,q⟩:=n;cases m;show dN ⟨k,l,q⟩
def tAnd(t u:TT):TT:=λσ H Q=>t σ H λc H1=>if c=Sc then u σ H1 Q else Q Sd H1
def tOr(t u:TT):TT:=λσ H Q=>t σ H λc H1=>if c=Sc then Q Sc H1 else u σ H1 Q
def tNot(t:TT):TT:=λσ H Q=>t σ H λc H1=>Q (!c) H1
theorem yy(d:PT X a tA):PW X (.BoolOp .And [a] pos) tA:=by
 intro f b s σ H Q I h;show isTrue_and (thn (d b s σ H Q I h) λc g e=>?_);cases c with
 |true=>show isTrue_and_nil e
 |false=>show e
theorem yz(d:PT X a tA):PW X (.BoolOp .Or [a] pos) tA:=by
 intro f b s σ H Q I h;show isTrue_or (thn (d b s σ H Q I h) λc g e=>?_);cases c with
 |false=>show isTrue_or_nil e
 |true=>show e
theorem yS(i:PT X a tA)(j:PW X (.BoolOp .And (b::rest) pos) tB'):PW X (.BoolOp .And (a::b::rest) pos) (tAnd tA tB'):=by
 intro k d s σ H Q I h;show isTrue_and (thn (i d s σ H _ I h) λc l hq_=>?_);let⟨e,f,g⟩:=hq_;cases c with
 |true=>show j k d l σ e Q f g
 |false=>show⟨e,f,g⟩
theorem yi(i:PT X a tA)(j:PW X (.BoolOp .Or (b::rest) pos) tB'):PW X (.BoolOp .Or (a::b::rest) pos) (tOr tA tB'):=by
 intro k d s σ H Q I h;show isTrue_or (thn (i d s σ H _ I h) λc l hq_=>?_);let⟨e,f,g⟩:=hq_;cases c with
 |true=>show⟨e,f,g⟩
 |false=>show j k d l σ e Q f g
theorem xA(d:PT X a tA):PT X (.UnaryOp .Not a pos) (tNot tA):=by
 intro b s σ H Q I h;show isTrue_not (d b s σ H (λc e=>Q (!c) e) I h)
def tAndV(ta tb:TE):TE:=λσ H Q=>ta σ H λx H1=>∃c,x=.bl c/\if c=Sc then tb σ H1 Q else Q (.bl Sd) H1
def tOrV(ta tb:TE):TE:=λσ H Q=>ta σ H λx H1=>∃c,x=.bl c/\if c=Sc then Q (.bl Sc) H1 else tb σ H1 Q
def tNotV(ta:TE):TE:=λσ H Q=>ta σ H λx H1=>∃c,x=.bl c/\Q (.bl (!c)) H1
theorem xO{op}{t:TE}(h:PE X a t):PE X (.BoolOp op [a] pos) t:=λb s σ H Q I c=>BoolOp_one (h b s σ H Q I c)
theorem wc(i:PE X a ta)(j:PE X (.BoolOp .And (b::rest) pos) tb):PE X (.BoolOp .And (a::b::rest) pos) (tAndV ta tb):=by
 intro d s σ H Q I h;show BoolOp_and (thn (i d s σ H _ I h) λv k hq_=>?_);let⟨x,f,g,l,e⟩:=hq_;let⟨c,rfl,e⟩:=e;cases l;show dN ?_;cases c with
 |true=>show j d k σ f Q g e
 |false=>show⟨.bl Sd,f,g,rfl,e⟩
theorem ue(i:PE X a ta)(j:PE X (.BoolOp .Or (b::rest) pos) tb):PE X (.BoolOp .Or (a::b::rest) pos) (tOrV ta tb):=by
 intro d s σ H Q I h;show BoolOp_or (thn (i d s σ H _ I h) λv k hq_=>?_);let⟨x,f,g,l,e⟩:=hq_;let⟨c,rfl,e⟩:=e;cases l;show dN ?_;cases c with
 |false=>show j d k σ f Q g e
 |true=>show⟨.bl Sc,f,g,rfl,e⟩
theorem ir(e:PE X a ta):PE X (.UnaryOp .Not a pos) (tNotV ta):=by
 intro b s σ H Q I h;show UnaryOp_ (thn (e b s σ H _ I h) λv j hq_=>?_);let⟨x,f,g,i,d⟩:=hq_;let⟨c,rfl,d⟩:=d;cases i;show not_of (dN ⟨.bl (!c),f,g,rfl,d⟩)
def tIf(t:TT)(ta tb:TE):TE:=λσ H Q=>t σ H λc H1=>if c=Sc then ta σ H1 Q else tb σ H1 Q
theorem xo(k:PT X c tA)(l:PE X a ta)(m:PE X b tb):PE X (.IfExp c a b pos) (tIf tA ta tb):=by
 intro e s σ H Q I h;show wpAny_IfExp (thn (k e s σ H _ I h) λd f hq_=>?_);let⟨g,i,j⟩:=hq_;cases d with
 |true=>show l e f σ g Q i j
 |false=>show m e f σ g Q i j
def SqL(K:SJ)(H:Hp)(a:Sf)(xs:List V):Prop:=
 Rd H a (.lst xs) \/
  ∃(o:Ss)(its:Array Se)(n:Nat),K.lookup a=Sa o/\o.cls=.type "list"/\o.dict=Sb/\o.data=.seq its n/\its.size<=Sn/\Vals xs its.toList
def SqT(K:SJ)(H:Hp)(a:Sf)(xs:List V):Prop:=
 Rd H a (.tup xs) \/
  ∃(o:Ss)(its:Array Se)(n:Nat),K.lookup a=Sa o/\o.cls=.type "tuple"/\o.data=.seq its n/\its.size<=Sn/\Vals xs its.toList
noncomputable def absV:Se->Option V
 |.none=>Sa .non
 |.bool b=>Sa (.bl b)
 |.int i _=>Sa (.int i)
 |.str x _=>Sa (.str x)
 |.bytes b _=>Sa (.byt b)
 |.float b _=>Sa (.flt b)
 |.ref a=>Sa (.ref a)
 |.type n=>Sa (.ty n)
 |_=>Sb
theorem RelV.abs(r:RelV x u):absV u=Sa x:=by
 cases x with
 |non=>cases r;rfl
 |bl _=>cases r;rfl
 |int _=>obtain⟨t,rfl⟩:=r;rfl
 |str _=>obtain⟨t,rfl⟩:=r;rfl
 |byt _=>obtain⟨t,rfl⟩:=r;rfl
 |flt _=>obtain⟨t,rfl⟩:=r;rfl
 |ref _=>cases r;rfl
 |ty _=>cases r;rfl
theorem RelV.inj(r:RelV x u)(q:RelV y u):x=y:=bI (r.abs.symm.trans q.abs)
theorem Vals.inj(h:Vals xs us)(k:Vals ys us):xs=ys:=by
 induction h generalizing ys with
 |nil=>cases k;rfl
 |cons r _ a=>cases k with|cons b c=>rw[r.inj b,a c]
theorem SqL.of{K:SJ}(h:H a=Sa (.lst xs)):SqL K H a xs:=.inl (.inl h)
theorem SqT.of{K:SJ}(h:H a=Sa (.tup xs)):SqT K H a xs:=.inl (.inl h)
theorem Inv.list(I:Inv X pins σ H s)(h:SqL X.K H a xs):∃its:List Se,Vals xs its/\PlainL s.heap a its.toArray/\xs.length<=Sn:=by
 rcases h with h|⟨o,its,n,b,c,d,f,g,r⟩
 .let⟨z,its,n,r,e⟩:=h.ok I.hok;show⟨its,r,⟨_,n,e,rfl,rfl,rfl⟩,z⟩
 .refine⟨its.toList,r,⟨o,n,I.kIn a o b,c,d,by simpa using f⟩,?_⟩;let e:=r.length;simp only[aQ]at e;lia
theorem Inv.tuple(I:Inv X pins σ H s)(h:SqT X.K H a xs):∃its:List Se,Vals xs its/\IsTup s.heap a its.toArray/\xs.length<=Sn:=by
 rcases h with h|⟨o,its,n,b,c,d,f,r⟩
 .let⟨z,its,r,p⟩:=h.ok I.hok;show⟨its,r,p,z⟩
 .refine⟨its.toList,r,⟨o,I.kIn a o b,c,n,by simpa using d⟩,?_⟩;let e:=r.length;simp only[aQ]at e;lia
theorem Inv.list_inj(I:Inv X pins σ H s)(h:SqL X.K H a xs)(h':SqL X.K H a ys):xs=ys:=by
 obtain⟨c,r,⟨o,n,e,_,_,d⟩,_⟩:=I.list h;obtain⟨b,i,⟨k,l,f,_,_,g⟩,_⟩:=I.list h';rw[e]at f;cases f;rw[d]at g;injection g with j _
 let:c=b:=by simpa using congrArg Array.toList j
 subst this;show r.inj i
theorem Inv.tuple_inj(I:Inv X pins σ H s)(h:SqT X.K H a xs)(h':SqT X.K H a ys):xs=ys:=by
 obtain⟨c,r,⟨o,e,_,n,d⟩,_⟩:=I.tuple h;obtain⟨b,i,⟨k,f,_,l,g⟩,_⟩:=I.tuple h';rw[e]at f;cases f;rw[d]at g;injection g with j _
 let:c=b:=by simpa using congrArg Array.toList j
 subst this;show r.inj i
noncomputable abbrev Cx.wish(X:Cx)(E:Se->Sg->Prop):Cx:={X with xe:=E}
noncomputable abbrev Cx.nox(X:Cx):Cx:=X.wish λ_ _=>False
theorem Cx.Ok.wish{X:Cx}(ok:X.Ok)(E:Se->Sg->Prop):(X.wish E).Ok:=⟨ok.mod,ok.kind,ok.glob,ok.blt,ok.above,ok.inj,ok.has,ok.cab,ok.hd,ok.frames,ok.stk,ok.exf,ok.bs,ok.bsz,ok.noex,ok.exfs,ok.funs,ok.frf⟩
theorem Cx.Ok.unwish{X:Cx}{E:Se->Sg->Prop}(ok:(X.wish E).Ok):X.Ok:=⟨ok.mod,ok.kind,ok.glob,ok.blt,ok.above,ok.inj,ok.has,ok.cab,ok.hd,ok.frames,ok.stk,ok.exf,ok.bs,ok.bsz,ok.noex,ok.exfs,ok.funs,ok.frf⟩
theorem Inv.wish(I:Inv X pins σ H s)(E:Se->Sg->Prop):Inv (X.wish E) pins σ H s:=⟨I.ok.wish E,I.os,I.bare,I.base,I.loc,I.cell,I.free,I.freeC,I.pin,I.hok,I.len⟩
theorem Inv.unwish(I:Inv (X.wish E) pins σ H s):Inv X pins σ H s:=⟨I.ok.unwish,I.os,I.bare,I.base,I.loc,I.cell,I.free,I.freeC,I.pin,I.hok,I.len⟩
theorem SP.unwish(h:SP (X.wish E) pins D f c):SP X pins D f c:=by
 cases f with
 |next=>obtain⟨a,b,I,q⟩:=h;show⟨a,b,I.unwish,q⟩
 |brk=>obtain⟨a,b,I,q⟩:=h;show⟨a,b,I.unwish,q⟩
 |cont=>obtain⟨a,b,I,q⟩:=h;show⟨a,b,I.unwish,q⟩
 |ret u=>obtain⟨v,a,b,I,r,q⟩:=h;show⟨v,a,b,I.unwish,r,q⟩
theorem PSs.nox{st:List Sr}{t:TS}(h:PSs X.nox st t):PSs X st t:=λpins s σ H D I a=>
 fP (h pins s σ H D (I.wish _) a) (λ_ _ q=>q.unwish) λ_ _ z=>False.elim z
section
variable{X:Cx}{st:Sr}{rest:List Sr}{t u:TS}{e:Sl}
def tNext:TS:=λD σ H=>D.nx σ H
def tSeq(t u:TS):TS:=λD σ H=>t {D with nx:=u D} σ H
theorem zc:PSs X [] tNext:=λ_ _ σ H _ I h=>wpAny_execs_nil ⟨σ,H,I,h⟩
theorem zD(c:PS X st t)(d:PSs X rest u):PSs X (st::rest) (tSeq t u):=by
 intro a s σ H D I h;show wpAny_execs_cons (thn (c a s σ H {D with nx:=u D} I h) λf e q=>?_);cases f with
 |next=>
  let⟨b,g,i,q⟩:=q;show d a e b g D i q
 |ret v=>show q
 |brk=>show q
 |cont=>show q
theorem zE(b:PS X st t):PSs X [st] t:=by
 intro a s σ H D I h;show wpAny_execs_cons (thn (b a s σ H D I h) λf c q=>?_);cases f with
 |next=>show wpAny_execs_nil q
 |ret v=>show q
 |brk=>show q
 |cont=>show q
theorem Inv.quiet{a:List (Sf×Ss)}{σ:St}{H:Hp}{s:Sg}(I:Inv X a σ H s):interactive X.env=Sd:=by simp[interactive,I.ok.kind]
def tDrop(te:TE):TS:=λD σ H=>te σ H λ_ H1=>D.nx σ H1
theorem yT(b:PE X e te)(c:SE e Sb pos.line X.env=pure Sd:=by rfl):PS X (.Expr e pos) (tDrop te):=by
 intro a s σ H D I h;show wpAny_Expr_any (thn (b a s σ H _ I h) λv i hq_=>?_) I.quiet c;let⟨x,d,f,j,g⟩:=hq_;show⟨σ,d,f,g⟩
def tRet(te:TE):TS:=λD σ H=>te σ H D.rt
theorem zK(b:PE X e te):PS X (.Return (Sa e) pos) (tRet te):=by
 intro a s σ H D I h;show wpAny_Return_some (thn (b a s σ H _ I h) λv i hq_=>?_);let⟨x,c,d,f,g⟩:=hq_;show⟨x,σ,c,d,f,g⟩
def tIfS(c:TT)(t u:TS):TS:=λD σ H=>c σ H λb H1=>if b=Sc then t D σ H1 else u D σ H1
theorem zl(l:PT X c f)(m:PSs X a t)(n:PSs X b u):PS X (.If c a b pos) (tIfS f t u):=by
 intro e s σ H D I h;show wpAny_If (thn (l e s σ H _ I h) λd g hq_=>?_);let⟨i,j,k⟩:=hq_;cases d with
 |true=>show m e g σ i D j k
 |false=>show n e g σ i D j k
end
abbrev TG:=V->St->Hp->(St->Hp->Prop)->Prop
abbrev TGs:=List V->St->Hp->(St->Hp->Prop)->Prop
def PG(X:Cx)(target:Sl)(t:TG):Prop:=
 ∀(pins:List (Sf×Ss)) (s:Sg) (σ : St) (H:Hp) (v:V) (u:Se) (Q:St->Hp->Prop),Inv X pins σ H s->RelV v u->t v σ H Q ->
  Sm (So X.prog X.w) X.A (assign target X.env u) (λ_ s'=>∃σ' H',Inv X pins σ' H' s'/\Q σ' H') X.xe s
def PGs(X:Cx)(ts:List Sl)(t:TGs):Prop:=
 ∀(pins:List (Sf×Ss)) (s:Sg) (σ : St) (H:Hp) (vs:List V) (us:List Se) (Q:St->Hp->Prop),Inv X pins σ H s->Vals vs us->t vs σ H Q ->
  Sm (So X.prog X.w) X.A (assignInOrder ((assignEach ts X.env).map (·.2)) us) (λ_ s'=>∃σ' H',Inv X pins σ' H' s'/\Q σ' H') X.xe s
abbrev TSet:=V->V->V->Hp->(Hp->Prop)->Prop
def PSet(X:Cx)(t:TSet):Prop:=
 ∀(pins:List (Sf×Ss)) (s:Sg) (σ : St) (H:Hp) (o i v:V) (ov iv u:Se) (Q:Hp->Prop),Inv X pins σ H s->RelV o ov->RelV i iv->RelV v u->t o i v H Q ->
  Sm (So X.prog X.w) X.A (setItem ov iv u) (λ_ s'=>∃H',Inv X pins σ H' s'/\Q H') X.xe s
abbrev TIp:=V->V->Hp->VK->Prop
def PIp(X:Cx)(op:Operator)(t:TIp):Prop:=
 ∀(pins:List (Sf×Ss)) (s:Sg) (σ : St) (H:Hp) (x y:V) (v u:Se) (Q:VK),Inv X pins σ H s->RelV x v->RelV y u->t x y H Q ->
  Sm (So X.prog X.w) X.A (inplaceOp op v u) (EP X pins σ Q) X.xe s
def gName(i:Nat):TG:=λv σ H Q=>Q (σ.set i (Sa v)) H
theorem zJ{i:Nat}(b:X.N.Nodup)(hi:X.N[i]? = Sa x)(c:Loc X.env.scope x)(d:X.fn x=Sc\/X.env.scope.names.lookup x=Sa .local:=by first|show .inl rfl|show .inr rfl|assumption):PG X (.Name x pos) (gName i):=by
 intro a s σ H v u Q I r h;show wpAny_assign_Name (vR I b hi c r (λf e=>⟨_,H,e,h⟩) d)
def gNil:TGs:=λvs σ H Q=>vs=[]/\Q σ H
def gCons(t:TG)(u:TGs):TGs:=λvs σ H Q=>∃v r,vs=v::r/\t v σ H λσ' H'=>u r σ' H' Q
theorem zr:PGs X [] gNil:=by
 intro a s σ H b c Q I r h;let⟨e,h⟩:=h;subst e;cases r;show assignInOrder_nil ⟨σ,H,I,h⟩
theorem zQ{t:TG}(c:PG X e t)(d:PGs X es u)(f:(assignEach (e::es) X.env).map (·.2)=assign e X.env::(assignEach es X.env).map (·.2):=by rfl):PGs X (e::es) (gCons t u):=by
 intro a s σ H n o Q I r h;let⟨v,p,g,h⟩:=h;subst g;cases r with
 |cons r i=>
  rw[f];show assignInOrder_cons (thn (c a s σ H _ _ _ I r h) λ_ j hq_=>?_);let⟨b,k,l,m⟩:=hq_;show d a j b k _ _ Q l i m
def gTup(K:SJ)(n:Nat)(t:TGs):TG:=λv σ H Q=>∃a xs,v=.ref a/\SqT K H a xs/\xs.length=n/\t xs σ H Q
theorem yI{k:Nat}{t:TGs}{n:Nat}(i:X.calm=Sc)(h:PGs X es t)(j:(assignEach es X.env).length=n:=by rfl)(d:(assignEach es X.env).findIdx? (·.1)=Sb:=by rfl):PG X (.Tuple es k pos) (gTup X.K n t):=by
 intro c s σ H v u Q I r f;let⟨a,l,m,p,q,f⟩:=f;subst m;cases r;let⟨w,g,x,B⟩:=I.tuple p;show assign_Tuple_tuple (I.ok.hd i) x (by simp[j,<-q,g.length]) d λy z=>?_;let A:Inv X c σ H {s with heap:=y}:=I.kept (t':=s.toks) λb o e=>z b o (aX (aO e)) e;show h c _ σ H l _ Q A (by simpa using g) f
def gSub(to ti:TE)(t:TSet):TG:=λv σ H Q=>to σ H λo H1=>ti σ H1 λi H2=>t o i v H2 λH3=>Q σ H3
theorem uf{t:TSet}(f:PE X o d)(hi:PE X i e)(g:PSet X t)(j:∀v,assign (.Subscript o i pos) X.env v=(do
   let b <-SA [v] (Sw o X.env)
   let c <-SA [v,b] (Sw i X.env)
   Sz pos
   SA [v,b,c] (setItem b c v)
   release [v,b,c] []):=by intro _;rfl):PG X (.Subscript o i pos) (gSub d e t):=by
 intro a s σ H v u Q I r h;rw[j];show aB (bU (thn (f a s σ H _ I h) λb k hq_=>?_));let⟨x,l,m,n,p⟩:=hq_;show aB (bU (thn (hi a k σ l _ m p) λc q hq_=>?_));let⟨y,w,z,A,B⟩:=hq_;show aB (eY (aB (bU (thn (g a q σ w x y v b c u _ z n A r B) λ_ F hq_=>?_))));let⟨C,D,E⟩:=hq_;show wpAny_release ⟨σ,C,D,E⟩
def tAsg(te:TE)(g:TG):TS:=λD σ H=>te σ H λx H1=>g x σ H1 D.nx
theorem xX{g:TG}(d:PE X e c)(f:PG X b g)(i:swapsWithSole [b] e pos.line X.env=pure Sd:=by rfl)(j:swappedStores [b] e X.env=pure Sb:=by rfl)(k:(assignEach [b] X.env).map (·.2)=[assign b X.env]:=by rfl):PS X (.Assign [b] e pos) (tAsg c g):=by
 intro a s σ H D I h;show wpAny_Assign_stores (thn (d a s σ H _ I h) λv l hq_=>?_) i j;let⟨x,m,n,o,p⟩:=hq_;rw[k];show thn (f a l σ m x v _ n o p) λ_ r q=>q
theorem zZ{i:Nat}(d:X.N.Nodup)(hi:X.N[i]? = Sa x)(f:Loc X.env.scope x)(g:PE X e c)(j:SE e (Sa (.Name x a)) pos.line X.env=pure Sd:=by rfl)(k:X.fn x=Sc\/X.env.scope.names.lookup x=Sa .local:=by first|show .inl rfl|show .inr rfl|assumption):PS X (.Assign [.Name x a] e pos) (tAsg c (gName i)):=by
 intro b s σ H D I h;show wpAny_Assign_Name (thn (g b s σ H _ I h) λv q hq_=>?_) j;let⟨y,l,m,n,o⟩:=hq_;show vR m d hi f n (λr p=>⟨_,l,p,o⟩) k
def tPar(i j:Nat)(ta:TA):TS:=λD σ H=>ta σ H λvs H1=>∃v w,vs=[v,w]/\D.nx ((σ.set i (Sa v)).set j (Sa w)) H1
theorem xq{i j:Nat}{l m pt:Sx}{kt n d}(K:X.calm=Sc)(C:X.N.Nodup)(hi:X.N[i]? = Sa x)(L:X.N[j]? = Sa y)(r:i≠j)(E:X.env.scope.names.lookup x=Sa .local)(F:X.env.scope.names.lookup y=Sa .local)(M:PA X [a,b] B)(hw:swappedStores [.Tuple [.Name x l,.Name y m] kt pt] (.Tuple [a,b] n d) X.env=pure (Sa [x,y]))(O:swapsWithSole [.Tuple [.Name x l,.Name y m] kt pt] (.Tuple [a,b] n d) pos.line X.env=pure Sd:=by rfl):PS X (.Assign [.Tuple [.Name x l,.Name y m] kt pt] (.Tuple [a,b] n d) pos) (tPar i j B):=by
 intro c s σ H D I h;rw[exec_Assign_arm];show aB (eY ?_);rw[O];show aB (aD ?_);rw[if_neg ⋯];show aB (Tuple_ (thn (M _ c s σ H _ I h) λP f hq_=>?_));let⟨vs,G,Q,R,t⟩:=hq_;let⟨v,w,S,t⟩:=t;subst S;obtain⟨g,k,rfl,T,u⟩:∃g k,P=[g,k]/\RelV v g/\RelV w k:=by
  cases R with
  |cons p q=>
   cases q with
   |cons U V=>
    cases V;show⟨_,_,rfl,p,U⟩
 show bZ ?_ (by change 2<=Sn;decide);let W:Inv X c σ G {f with heap:=f.heap.push {cls:=.type "tuple",data:=.seq [g,k].toArray}}:=Q.kept (t':=f.toks) λb o e=>aJ _ e;rw[hw];show aB (aD ?_);change Sm (So X.prog X.w) X.A (do rule "assign.swapped-stores";let items <-unpackItems (.ref f.heap.objs.size) 2 Sb;assignInOrder [λv=>bindName X.env y v,λv=>bindName X.env x v] items.reverse;pure Flow.next) _ _ _;show aB (dJ (aB (unpackItems_tuple (items:=#[g,k]) (I.ok.hd K) (IsTup.new f.heap _) λh' z=>?_)));let Y:=W.kept (h':=h') (t':=f.toks) λb o e=>z b o (aX (aO e)) e
 change Sm _ _ (assignInOrder [λv=>bindName X.env y v,λv=>bindName X.env x v] [k,g] >>=λ_=>pure Flow.next) _ _ _;show aB (assignInOrder_cons (wpAny_bindName (vR Y C L (.inl F) u (λs2 Z=>?_) (.inr F))));show assignInOrder_cons (wpAny_bindName (vR Z C hi (.inl E) T (λs3 J=>assignInOrder_nil (aD ?_)) (.inr E)));rw[List.set_comm _ _ (eI r)]at J;show⟨_,G,J,t⟩
def tAug(i:Nat)(te:TE)(ti:TIp):TS:=λD σ H=>∃x,σ[i]? = Sa (Sa x)/\te σ H λy H1=>ti x y H1 λz H2=>D.nx (σ.set i (Sa z)) H2
theorem qZ0{i:Nat}(t:X.N.Nodup)(hi:X.N[i]? = Sa x)(n:Loc X.env.scope x)(B:PE X e p)(C:PIp X j q)(E:X.fn x=Sc\/X.env.scope.names.lookup x=Sa .local:=by first|show .inl rfl|show .inr rfl|assumption):PS X (.AugAssign (.Name x d) j e pos) (tAug i p q):=by
 intro a s σ H D I h;let⟨v,F,h⟩:=h;let⟨m,G,J⟩:=I.loc;let o:Vis X.env.scope x:=by rcases n with k|k;show .inl k;show .inr (.inl k)
 let⟨u,r,l⟩:=J i x v hi F o;show wpAny_AugAssign_Name ?_;let go:Sm (So X.prog X.w) X.A (Sw e X.env) (λw f=>Sm (So X.prog X.w) X.A (inplaceOp j u w) (λr g=>Sm (So X.prog X.w) X.A (storeName X.env x r) (λ_=>SP X a D .next) X.xe g) X.xe f) X.xe s:=by
  show thn (B a s σ H _ I h) λw K hq_=>?_;let⟨y,L,M,O,P⟩:=hq_;show thn (C a K σ L v y u w _ M r O P) λz Y hq_=>?_;let⟨Z,Q,R,S,T⟩:=hq_;show vR R t hi n S (λs3 U=>⟨_,Q,U,T⟩) E
 rcases l with ⟨hk,V⟩|⟨hk,c,W,b⟩
 .exact wpAny_loadName_local I.ok.kind hk G V go
 .rcases hk with hk|hk
  .exact wpAny_loadName_cell I.ok.kind hk W b go
  .rcases n with k|k
   .let:X.env.scope.names.lookup x=Sa .free:=hk;rw[k]at this;cases this
   .let:X.env.scope.names.lookup x=Sa .free:=hk;rw[k]at this;cases this
def tAugS(to ti te:TE)(tget:V->V->Hp->VK->Prop)(tip:TIp)(tset:TSet):TS:=λD σ H=>to σ H λo H1=>ti σ H1 λi H2=>tget o i H2 λx H3=>te σ H3 λy H4=>tip x y H4 λz H5=>tset o i z H5 λH6=>D.nx σ H6
def ipI(f:Int->Int->Int):TIp:=λx y H Q=>∃i j,x=.int i/\y=.int j/\Q (.int (f i j)) H
theorem qZi:PIp X .Add (ipI λi j=>i+j):=by
 intro a s σ H x y v u Q I b c h;let⟨i,j,d,e,q⟩:=h;subst d;subst e;let⟨t,rfl⟩:=b;let⟨f,rfl⟩:=c;show iadd_int ⟨.int _,H,I.tok _,⟨_,rfl⟩,q⟩
def qY8(c:TT)(tb:TS):TS:=λD σ H => ∃W:Nat->St->Hp->Prop,(∃m,W m σ H) /\ ∀m σ H,W m σ H ->
 c σ H λb H1=>if b=Sc then ∃N:St->Hp->Prop,(∀σ' H',N σ' H'->∃m',m'<m/\W m' σ' H')/\tb {D with nx:=N,ct:=N,bk:=D.nx} σ H1 else D.nx σ H1
theorem we{g:List Sr}(y:PassesOwn (So X.prog X.w) X.A X.env X.xe)(G:PT X c u)(J:PSs X g x):PS X (.While c g [] pos) (qY8 u x):=by
 intro a s σ H D I h;obtain⟨W,⟨K,L⟩,i⟩:=h;show wpAny_While (codeAny_whileLoop (λn M=>∃j z,Inv X a j z M/\W n j z) ?_ K ⟨σ,H,I,L⟩);rintro n O ⟨e,B,P,Q⟩;show fQ y (thn (G a O e B _ P (i n e B Q)) λb R hq_=>?_);let⟨C,E,l⟩:=hq_;cases b with
 |true=>
  let⟨N,F,l⟩:=l;rw[if_pos rfl];show fQ y (thn (J a R e C _ E l) λf S m=>?_);cases f with
  |next=>
   let⟨d,k,o,p⟩:=m;let⟨q,r,t⟩:=F d k p;show⟨q,r,d,k,o,t⟩
  |cont=>
   let⟨d,k,o,p⟩:=m;let⟨q,r,t⟩:=F d k p;show⟨q,r,d,k,o,t⟩
  |brk=>show m
  |ret v=>show m
 |false=>
  rw[if_neg aL];show wpAny_execs_nil ⟨e,C,E,l⟩
structure It where
 go:Nat->Hp->Prop
 yld:Nat->Hp->V->Hp->Prop
 stop:Nat->Hp->Prop
def FpOk(X:Cx)(pins:List (Sf×Ss))(H:Hp)(b:Sf):Prop:=H b=Sb/\b≠X.env.locals/\b∉X.fs/\(b∈X.ex\/X.s₀.heap.objs.size<=b)/\(∀x c,X.env.cells.lookup x=Sa c->c≠b)/\∀p∈X.pn++pins,p.1≠b
theorem Inv.fpOk{X:Cx}{a:List (Sf×Ss)}{σ:St}{H f:Hp}{s:Sg}{b:Sf}(I:Inv X a σ H s)(d:s.heap.objs.size<=b)(g:f b=Sb):FpOk X a f b:=by
 show⟨g,dP (bS I.lt d),I.nofs d,.inr (cH I.sz d),λx c e z=>?_,λp h z=>?_⟩
 .let⟨v,q⟩:=I.cell x c e;show absurd (bS q.lt (by rw[z];show d)) (eX _)
 .exact absurd (bS (aO (I.pin p h).1) (by rw[z];show d)) (eX _)
structure Turn(P:Sh)(w:Si)(K:SJ)(tg:Sl)(J:It)(fp:List Sf)(it:Sf)(tn:Nat->Sk->Prop):Prop where
 mem:it∈fp
 obj:∀i h,tn i h->∀b∈fp,∃o,h.get? b=Sa o/\∀v,o.data≠.cell v
 keep:∀i h h',tn i h->(∀b∈fp,∀o,h.get? b=Sa o->h'.get? b=Sa o)->tn i h'
 item:∀(X:Cx),X.prog=P->X.w=w->X.K=K->X.calm=Sc -> ∀(i:Nat) (pins:List (Sf×Ss)) (s:Sg) (σ : St) (H:Hp) (E:Se->Sg->Prop),Inv X pins σ H s->(∀b∈fp,FpOk X pins H b)->tn i s.heap->J.go i H ->
  Sm (So P w) X.A (pyNext (.ref it)) (λr s1 => ∃u,r=Sa u /\
   Sm (So P w) X.A (letOwnedTupleGo tg (.ref it) u) (λ_ s2=>∃x H',Inv X pins σ H' s2/\RelV x u/\J.yld i H x H'/\tn (i+1) s2.heap/\∀b∈fp,H' b=Sb) E s1) E s
 done:∀(X:Cx),X.prog=P->X.w=w->X.K=K->X.calm=Sc -> ∀(i:Nat) (pins:List (Sf×Ss)) (s:Sg) (σ : St) (H:Hp) (E:Se->Sg->Prop),Inv X pins σ H s->(∀b∈fp,FpOk X pins H b)->tn i s.heap->J.stop i H ->
  Sm (So P w) X.A (pyNext (.ref it)) (λr s1=>r=Sb/\Inv X pins σ H s1) E s
 self:∀(A:Sj)(i:Nat)(s:Sg)(Q:Se->Sg->Prop)(E:Se->Sg->Prop),tn i s.heap->Q (.ref it) s->Sm (So P w) A (pyIter (.ref it)) Q E s
abbrev TI:=St->Hp->(It->Hp->Prop)->Prop
def PIE(X:Cx)(pins:List (Sf×Ss))(σ:St)(tg:Sl)(R:It->Hp->Prop)(itv:Se)(s2:Sg):Prop:=
 ∃(it:Sf)(fp:List Sf)(tn:Nat->Sk->Prop)(J:It)(H':Hp),itv=.ref it/\Inv X pins σ H' s2/\Turn X.prog X.w X.K tg J fp it tn/\tn 0 s2.heap/\(∀b∈fp,FpOk X pins H' b)/\R J H'
def PI(X:Cx)(tg iter:Sl)(wi:TI):Prop:=
 ∀(pins:List (Sf×Ss)) (s:Sg) (σ : St) (H:Hp) (R:It->Hp->Prop),Inv X pins σ H s->wi σ H R ->
  Sm (So X.prog X.w) X.A (Sw iter X.env) (λv s1=>Sm (So X.prog X.w) X.A (pyIter v) (PIE X pins σ tg R) X.xe s1) X.xe s
theorem ku(c:s.heap.get? it=Sa o)(d:o.cls = .type n)(hd:o.data = .fields vs)
  (e:["enumerate","zip","dict_itemiterator","dict_reverseitemiterator","odict_iterator","itertools.zip_longest","itertools.pairwise"].contains n=Sd) (a:Q () s):Sm M A (letOwnedTupleGo b (.ref it) u) Q E s:=by
 unfold letOwnedTupleGo;cases b <;> first
  |show aD a
  | (cases u <;> first
    |show aD a
    | (refine aB (wpAny_load c ?_)
       rw[d,hd];change Sm M A (if (["enumerate","zip","dict_itemiterator","dict_reverseitemiterator","odict_iterator","itertools.zip_longest","itertools.pairwise"].contains n&&vs[0]? == Sa (rawInt _))=Sc then _ else _) Q E s;rw[if_neg (by intro h;rw[e,Bool.false_and]at h;cases h)]
       show aD a))
noncomputable def Itl(K:SJ)(a:Sf):It:=⟨λi H=>∃xs x,SqL K H a xs/\xs[i]? = Sa x,λi H x H'=>H'=H/\∀xs,SqL K H a xs->xs[i]? = Sa x,λi H=>∃xs,SqL K H a xs/\xs.length<=i⟩
noncomputable def Itt(K:SJ)(a:Sf):It:=⟨λi H=>∃xs x,SqT K H a xs/\xs[i]? = Sa x,λi H x H'=>H'=H/\∀xs,SqT K H a xs->xs[i]? = Sa x,λi H=>∃xs,SqT K H a xs/\xs.length<=i⟩
noncomputable def Itr(lo:Int)(n:Nat):It:=⟨λi _=>i<n,λi H x H'=>H'=H/\x=.int (lo+i),λi _=>n<=i⟩
theorem qP9{K:SJ}(a it:Sf):Turn P w K N (Itl K a) [it] it (λi h=>h.IsListIter it a i) where
 mem:=by simp
 obj:=λi h st b g=>by
  let e:b=it:=by simpa using g
  subst e;let⟨o,e,c,d⟩:=st;show⟨o,e,λv z=>by rw[d]at z;cases z⟩
 keep:=λi h l st k=>st.at λo e=>k it ∅ o e
 item:=by
  intro X q r t M i f s σ H E I m st y;subst q r t;let⟨O,x,n,A⟩:=y;let⟨B,C,p,Q⟩:=I.list n;let⟨u,R,S⟩:=C.get A;let⟨D,F,T,G,J,L⟩:=m it ∅;show wpAny_pyNext_list_item st p.isList (x:=u) (by simpa using R) λl j U=>?_;let V:Inv X f σ H {s with heap:=l}:=I.turned (t':=s.toks) (λb o g e=>(U.2 b g).trans e) D F G J L;let⟨o,e,c,d⟩:=id j;show⟨u,rfl,ku (s:={s with heap:=l}) e c d ⋯ ⟨x,H,V,S,⟨rfl,λys Y=>by rw[I.list_inj Y n];show A⟩,j,λb g=>(m b g).1⟩⟩
 done:=by
  intro X q r t M i f s σ H E I m st y;subst q r t;let⟨O,n,A⟩:=y;let⟨B,C,p,Q⟩:=I.list n;let⟨D,F,T,G,J,L⟩:=m it ∅;let hl:=C.length;show wpAny_pyNext_list_end (I.ok.hd M) st p.isList (by simp;lia) λl Z=>⟨rfl,I.turned (t':=s.toks) (λb o g e=>Z b o g e) D F G J L⟩
 self:=λ_ _ _ _ _ st h=>wpAny_pyIter_listiter st h
theorem qNw{P:Sh}{w:Si}{K:SJ}{N:Sl}(a it:Sf):Turn P w K N (Itt K a) [it] it (λi h=>h.IsTupleIter it a i) where
 mem:=by simp
 obj:=λi h st b g=>by
  let e:b=it:=by simpa using g
  subst e;let⟨o,e,c,d⟩:=st;show⟨o,e,λv z=>by rw[d]at z;cases z⟩
 keep:=λi h m st k=>st.at λo e=>k it ∅ o e
 item:=by
  intro X r t y M i f s σ H E I n st A;subst r t y;let⟨O,x,q,B⟩:=A;let⟨j,C,p,Q⟩:=I.tuple q;let⟨u,R,S⟩:=C.get B;let⟨D,F,T,G,J,L⟩:=n it ∅;show wpAny_pyNext_tuple_item st (show s.heap.IsTuple a j.toArray from p) (x:=u) (by simpa using R) λm l U=>?_;let V:Inv X f σ H {s with heap:=m}:=I.turned (t':=s.toks) (λb o g e=>(U.2 b g).trans e) D F G J L;let⟨o,e,c,d⟩:=id l;show⟨u,rfl,ku (s:={s with heap:=m}) e c d ⋯ ⟨x,H,V,S,⟨rfl,λys Y=>by rw[I.tuple_inj Y q];show B⟩,l,λb g=>(n b g).1⟩⟩
 done:=by
  intro X r t y M i f s σ H E I n st A;subst r t y;let⟨O,q,B⟩:=A;let⟨j,C,p,Q⟩:=I.tuple q;let⟨D,F,T,G,J,L⟩:=n it ∅;let hl:=C.length;show wpAny_pyNext_tuple_end (I.ok.hd M) st (show s.heap.IsTuple a j.toArray from p) (by simp;lia) λm Z=>⟨rfl,I.turned (t':=s.toks) (λb o g e=>Z b o g e) D F G J L⟩
 self:=λ_ _ _ _ _ st h=>wpAny_pyIter_tupleiter st h
theorem qNx{K:SJ}(it:Sf)(lo:Int)(n:Nat):Turn P w K B (Itr lo n) [it] it (λi h=>IsRangeIter h it (lo+(i:Nat)*1) ((n:Int)-(i:Nat)) 1) where
 mem:=by simp
 obj:=λi h st b c=>by
  let e:b=it:=by simpa using c
  subst e
  show⟨_,st,λv z=>by
   let C:Data.fields _=Data.cell v:=z
   cases C⟩
 keep:=λi h f st k=>k it ∅ _ st
 item:=by
  intro X j l m p i a s σ H E I g st q;subst j l m;let⟨r,u,D,x,y,A⟩:=g it ∅;let W:=Walks.range (prog:=X.prog) (w:=X.w) (I.ok.hd p) it lo 1 n;show W.item i s _ _ q st λv f tk F d G=>?_;let⟨t,rfl⟩:=F;let J:Inv X a σ H {s with heap:=f,toks:=tk}:=I.turned (λb o c e=>G b o (by simpa using c) e) r u x y A;show⟨_,rfl,ku (s:={s with heap:=f,toks:=tk}) (n:="range_iterator") d rfl rfl ⋯ ⟨.int (lo+i),H,J,⟨t,?_⟩,⟨rfl,rfl⟩,d,λb c=>(g b c).1⟩⟩;rw[Int.mul_one]
 done:=by
  intro X j l m p i a s σ H E I g st q;subst j l m;let⟨r,u,D,x,y,A⟩:=g it ∅;show wpAny_pyNext_range_end (I.ok.hd p) st (by let:n<=i:=q;lia) λf L=>⟨rfl,I.turned (t':=s.toks) (λb o c e=>L b o c e) r u x y A⟩
 self:=λ_ _ _ _ _ st h=>wpAny_pyIter_rangeiter st h
def iList(K:SJ)(tl:TE):TI:=λσ H R=>tl σ H λx H1=>∃a,x=.ref a/\(∃xs,SqL K H1 a xs)/\R (Itl K a) H1
def iTup(K:SJ)(tl:TE):TI:=λσ H R=>tl σ H λx H1=>∃a,x=.ref a/\(∃xs,SqT K H1 a xs)/\R (Itt K a) H1
theorem zd{g:TE}(i:PE X l g):PI X tg l (iList X.K g):=by
 intro c s σ H R I h;show thn (i c s σ H _ I h) λv d hq_=>?_;let⟨x,j,f,k,m⟩:=hq_;obtain⟨a,e,⟨u,n⟩,q⟩:=m;subst e;cases k;let⟨r,w,p,y⟩:=f.list n;show gL p.isList ?_;show⟨d.heap.objs.size,[d.heap.objs.size],_,_,j,rfl,f.kept (t':=d.toks) λb o e=>aJ _ e,qP9 a _,⟨_,aW _ rfl,rfl,rfl⟩,λb t=>?_,q⟩;let e:b=d.heap.objs.size:=by simpa using t
 subst e;show f.fpOk (aI _) (f.hok.fresh (aI _))
theorem iu(j:PE X l i):PI X tg l (iTup X.K i):=by
 intro c s σ H R I h;show thn (j c s σ H _ I h) λv d hq_=>?_;let⟨x,k,f,m,n⟩:=hq_;obtain⟨a,e,⟨u,r⟩,q⟩:=n;subst e;cases m;let⟨g,w,p,y⟩:=f.tuple r;show wpAny_pyIter_tuple (show d.heap.IsTuple a g.toArray from p) ?_;show⟨d.heap.objs.size,[d.heap.objs.size],_,_,k,rfl,f.kept (t':=d.toks) λb o e=>aJ _ e,qNw a _,⟨_,aW _ rfl,rfl,rfl⟩,λb t=>?_,q⟩;let e:b=d.heap.objs.size:=by simpa using t
 subst e;show f.fpOk (aI _) (f.hok.fresh (aI _))
theorem iw{a:List (Sf×Ss)}{σ : St}{H:Hp}{s:Sg}{R:It->Hp->Prop}{E:Se->Sg->Prop}{lo hi:Int}{t u v:Tok}{tk:Nat}(I:Inv X a σ H s)(d : -(2^62)<=lo)(f:lo<2^62)(g : -(2^62)<=hi)(h:hi<2^62)
  (q:R (Itr lo (hi-lo).toNat) H):Sm (So X.prog X.w) X.A (pyIter (.ref s.heap.objs.size)) (PIE X a σ tg R) E {s with heap:=s.heap.push {cls:=.type "range",data:=.fields #[.int lo t,.int hi u,.int 1 v]},toks:=tk}:=by
 show wpAny_pyIter_range (IsRange.new ..) (small_one d f g h) ?_;let c:Inv X a σ H {s with heap:=s.heap.push {cls:=.type "range",data:=.fields #[.int lo t,.int hi u,.int 1 v]},toks:=tk}:=I.kept λb o e=>aJ _ e
 show⟨(s.heap.push {cls:=.type "range",data:=.fields #[.int lo t,.int hi u,.int 1 v]}).objs.size,[(s.heap.push {cls:=.type "range",data:=.fields #[.int lo t,.int hi u,.int 1 v]}).objs.size],_,_,H,rfl,
  c.kept (t':=tk) λb o e=>aJ _ e,qNx _ lo (hi-lo).toNat,?_,λb i=>?_,q⟩
 .let j:lo+((0:Nat):Int)*1=lo:=by simp
  let k:(((hi-lo).toNat:Nat):Int)-((0:Nat):Int)=Builtin.Range.rangeSize lo hi 1:=by rw[rangeSize_one];split<;>lia
  change IsRangeIter _ _ (lo+((0:Nat):Int)*1) ((((hi-lo).toNat:Nat):Int)-((0:Nat):Int)) 1;rw[j,k];show aW _ rfl
 .let e:b=(s.heap.push {cls:=.type "range",data:=.fields #[.int lo t,.int hi u,.int 1 v]}).objs.size:=by simpa using i
  subst e;show c.fpOk (aI _) (c.hok.fresh (aI _))
def iRng1(ta:TA):TI:=λσ H R=>ta σ H λvs H1=>∃j:Int,vs=[.int j]/\-(2^62)<=j/\j<2^62/\R (Itr 0 j.toNat) H1
def iRng2(ta:TA):TI:=λσ H R=>ta σ H λvs H1=>∃i j:Int,vs=[.int i,.int j]/\(-(2^62)<=i/\i<2^62/\-(2^62)<=j/\j<2^62)/\R (Itr i (j-i).toNat) H1
theorem yg(g:Gl X "range")(i:X.mg "range"=Sb)(k:PA X [a] f)(l:Sv [a] X.env=[(Sd,Sw a X.env)]:=by rfl):PI X tg (.Call (.Name "range" p) [a] [] b) (iRng1 f):=by
 intro c s σ H R I h;show Call_ (xn I g i boot_range (dB (thn (k b c s σ H _ I h) λv w hq_=>?_) l rfl));let⟨x,y,m,n,d⟩:=hq_;let⟨j,e,d,o,q⟩:=d;subst e;cases n with
 |cons r u=>
  cases u;let⟨t,rfl⟩:=r;show call_range_1 (iw m ∎ ∎ d o (by simpa using q))
theorem qQv{a b:Sl}{l:TA}{p c:Sx}(m:Gl X "range")(n:X.mg "range"=Sb)(o:PA X [a,b] l)(u:Sv [a,b] X.env=[(Sd,Sw a X.env),(Sd,Sw b X.env)]:=by rfl)(d:Sv [b] X.env=[(Sd,Sw b X.env)]:=by rfl):PI X tg (.Call (.Name "range" p) [a,b] [] c) (iRng2 l):=by
 intro f s σ H R I h;show Call_ (xn I m n boot_range (dB (thn (o c f s σ H _ I h) λB C hq_=>?_) (by rw[u,d]) (by rw[d];rfl)));let⟨D,E,v,w,g⟩:=hq_;obtain⟨i,j,e,⟨g,x,y,z⟩,q⟩:=g;subst e;cases w with
 |cons r k=>
  cases k with
  |cons A k=>
   cases k;let⟨t,rfl⟩:=r;let⟨F,rfl⟩:=A;show call_range_2 (iw v g x y z q)
def tFor(wi:TI)(g:TG)(tb:TS):TS:=λD σ H=>wi σ H λJ H1 => ∃W:Nat->Nat->St->Hp->Prop,(∃m,W 0 m σ H1) /\ ∀i m σ H,W i m σ H ->
 (J.stop i H/\D.nx σ H)\/(J.go i H/\∃N:St->Hp->Prop,(∀σ' H',N σ' H'->∃m',m'<m/\W (i+1) m' σ' H')/\∀x H',J.yld i H x H'->g x σ H' λσ2 H2=>tb {D with nx:=N,ct:=N,bk:=D.nx} σ2 H2)
noncomputable def vS(fp:List Sf)(h:Sk):List (Sf×Ss):=fp.filterMap λb=>(h.get? b).map λo=>(b,o)
theorem ug(c:b∈a)(e:h.get? b=Sa o):(b,o)∈vS a h:=dI.mpr ⟨b,c,by rw[e];rfl⟩
theorem qRf(c:p∈vS a h):p.1∈a/\h.get? p.1=Sa p.2:=by
 let⟨b,d,e⟩:=dI.mp c;cases q:h.get? b with
 |none=>rw[q]at e;cases e
 |some o=>
  rw[q]at e;let f:(b,o)=p:=bI e;subst f;show⟨d,q⟩
theorem Inv.pinned{a:List (Sf×Ss)}{σ:St}{H:Hp}{s:Sg}{c:List Sf}(I:Inv X a σ H s)(h:∀b∈c,FpOk X a H b)(i:∀b∈c,∃o,s.heap.get? b=Sa o/\∀v,o.data≠.cell v):Inv X (a++vS c s.heap) σ H s:=
 I.pins_of λp j=>(aN.mp j).elim (λz=>I.pin p (bM _ z)) λz=>by
  let⟨f,e⟩:=qRf z;let⟨k,l,m,_⟩:=h p.1 f;let⟨o,g,d⟩:=i p.1 f;rw[e]at g;cases g;show⟨e,k,l,m,d⟩
theorem Inv.unpinned{a pl:List (Sf×Ss)}{σ:St}{H:Hp}{s:Sg}(I:Inv X (a++pl) σ H s):Inv X a σ H s:=I.pins_of λp b=>I.pin p (bM _ (bC _ b))
theorem zt{g:TG}(F:PassesOwn (So X.prog X.w) X.A X.env X.xe)(hc:X.calm=Sc)(hi:PI X tg j Y)(hg:PG X tg g)(k:PSs X B Z)(hs:∀x,SD j X.env x=pure x:=by intro _;rfl):PS X (.For tg j B [] P) (tFor Y g Z):=by
 intro a s σ H D I h;show wpAny_For (thn (hi a s σ H _ I h) λv s1 h1=>thn h1 λa0 s2 h2=>?_) hs;obtain⟨it,G,tn,J,H2,e,I2,T,st2,f2,W,⟨m0,w0⟩,K⟩:=h2;subst e;let l:∀{z:Hp},(∀b∈G,z b=Sb)->∀b∈G,FpOk X a z b:=λhn b k=>⟨hn b k,(f2 b k).2⟩;show codeAny_forLoop_any (λn s'=>∃i p z,Inv X a p z s'/\tn i s'.heap/\(∀b∈G,z b=Sb)/\W i n p z) ?_ m0 ⟨0,σ,H2,I2,st2,λb k=>(f2 b k).1,w0⟩;rintro n s3 ⟨i,q,O,I3,st3,L,w3⟩;rcases K i n q O w3 with ⟨stop,qn⟩|⟨go,N,hN,step⟩
 .refine fQ F (thn (T.done X rfl rfl rfl hc i a s3 q O X.xe I3 (l L) st3 stop) λr s4 hq_=>?_);let⟨Q,I4⟩:=hq_;subst Q;show wpAny_execs_nil ⟨q,O,I4,qn⟩
 .refine fQ F (thn (T.item X rfl rfl rfl hc i a s3 q O X.xe I3 (l L) st3 go) λr s4 hq_=>?_);let⟨u,Q,h4⟩:=hq_;subst Q;show fQ F (thn h4 λ_ s5 hq_=>?_);let⟨x,H5,I5,r5,y5,E,R⟩:=hq_;let S:=I5.pinned (l R) (T.obj _ _ E);show fQ F (thn (hg _ s5 q H5 x u _ S r5 (step x H5 y5)) λ_ s6 hq_=>?_);let⟨U,H6,I6,q6⟩:=hq_;show fQ F (thn (k _ s6 U H6 _ I6 q6) λf V C=>?_);let again:∀{c:St}{t:Hp},Inv X (a++vS G s5.heap) c t V->N c t->∃m,m<n/\∃i p z,Inv X a p z V/\tn i V.heap/\(∀b∈G,z b=Sb)/\W i m p z:=λ{c t}y M=>by
   let⟨m',hm,w7⟩:=hN c t M;show⟨m',hm,i+1,c,t,y.unpinned,T.keep _ _ _ E λb k o e=>(y.pin (b,o) (bM _ (bM _ (ug k e)))).1,λb k=>?_,w7⟩;let⟨o,e,d⟩:=T.obj _ _ E b k;show(y.pin (b,o) (bM _ (bM _ (ug k e)))).2.1
  cases f with
  |next=>obtain⟨c,t,y,M⟩:=C;show again y M
  |cont=>obtain⟨c,t,y,M⟩:=C;show again y M
  |brk=>obtain⟨c,t,y,C⟩:=C;show⟨c,t,y.unpinned,C⟩
  |ret v=>obtain⟨x7,c,t,y,r7,C⟩:=C;show⟨x7,c,t,y.unpinned,r7,C⟩
theorem qUf{K:SJ}{a:Sf}{xs:List V}{g:TG}{j:TS}{D:Ends}{σ : St}{H:Hp}(Pv:Nat->St->Hp->Prop)(l:Pv 0 σ H)(n:∀i σ H,i<=xs.length->Pv i σ H->SqL K H a xs)(o:∀i x σ H,xs[i]? = Sa x->Pv i σ H->g x σ H λb h=>j { D with nx:=Pv (i+1),ct:=Pv (i+1),bk:=D.nx } b h)(r:∀ σ H,Pv xs.length σ H->D.nx σ H):∃W:Nat->Nat->St->Hp->Prop,(∃m,W 0 m σ H) /\ ∀i m σ H,W i m σ H ->
   ((Itl K a).stop i H/\D.nx σ H)\/((Itl K a).go i H/\∃N:St->Hp->Prop,(∀c d,N c d->∃k,k<m/\W (i+1) k c d)/\∀x d,(Itl K a).yld i H x d->g x σ d λb h=>j {D with nx:=N,ct:=N,bk:=D.nx} b h):=by
 show⟨λi m σ H=>m=xs.length-i/\i<=xs.length/\Pv i σ H,⟨xs.length,∅,bL _,l⟩,?_⟩;rintro i m σ H ⟨rfl,s,p⟩;let q:=n i σ H s p;by_cases f:i<xs.length
 .refine .inr ⟨⟨xs,xs[i],q,by simp[f]⟩,Pv (i+1),λc d t=>⟨xs.length-(i+1),∎,rfl,f,t⟩,λx d y=>?_⟩;let⟨e,y⟩:=y;subst e;show o i x σ _ (y xs q) p
 .let e:i=xs.length:=by lia
  subst e;show .inl ⟨⟨xs,q,aI _⟩,r σ H p⟩
theorem qS1{lo:Int}{n:Nat}{g:TG}{h:TS}{D:Ends}{σ : St}{H:Hp}(Pv:Nat->St->Hp->Prop)(k:Pv 0 σ H)(l:∀i σ H,i<n->Pv i σ H->g (.int (lo+i)) σ H λa f=>h { D with nx:=Pv (i+1),ct:=Pv (i+1),bk:=D.nx } a f)(o:∀ σ H,Pv n σ H->D.nx σ H):∃W:Nat->Nat->St->Hp->Prop,(∃m,W 0 m σ H) /\ ∀i m σ H,W i m σ H ->
   ((Itr lo n).stop i H/\D.nx σ H)\/((Itr lo n).go i H/\∃N:St->Hp->Prop,(∀b c,N b c->∃j,j<m/\W (i+1) j b c)/\∀x c,(Itr lo n).yld i H x c->g x σ c λa f=>h {D with nx:=N,ct:=N,bk:=D.nx} a f):=by
 show⟨λi m σ H=>m=n-i/\i<=n/\Pv i σ H,⟨n,∅,bL _,k⟩,?_⟩;rintro i m σ H ⟨rfl,r,p⟩;by_cases d:i<n
 .refine .inr ⟨d,Pv (i+1),λb c q=>⟨n-(i+1),∎,rfl,d,q⟩,λx c y=>?_⟩;let⟨e,y⟩:=y;subst e y;show l i σ _ d p
 .let e:i=n:=by lia
  subst e;show .inl ⟨aI _,o σ H p⟩
abbrev R2:=V->V->Hp->VK->Prop
def OpR(X:Cx)(f:Se->Se->Sem Se)(r:R2):Prop:=
 ∀(pins:List (Sf×Ss)) (s:Sg) (σ : St) (H:Hp) (x y:V) (v u:Se) (Q:VK),Inv X pins σ H s->RelV x v->RelV y u->r x y H Q ->
  Sm (So X.prog X.w) X.A (f v u) (EP X pins σ Q) X.xe s
def UnR(X:Cx)(f:Se->Sem Se)(r:V->Hp->VK->Prop):Prop:=
 ∀(pins:List (Sf×Ss)) (s:Sg) (σ : St) (H:Hp) (x:V) (v:Se) (Q:VK),Inv X pins σ H s->RelV x v->r x H Q ->
  Sm (So X.prog X.w) X.A (f v) (EP X pins σ Q) X.xe s
def CallR(X:Cx)(f:Se)(r:List V->Hp->VK->Prop):Prop:=
 ∀(pins:List (Sf×Ss)) (s:Sg) (σ : St) (H:Hp) (xs:List V) (us:List Se) (Q:VK),Inv X pins σ H s->Vals xs us->r xs H Q ->
  Sm (So X.prog X.w) X.A (call f us) (EP X pins σ Q) X.xe s
def TruR(X:Cx)(r:V->Hp->(Bool->Hp->Prop)->Prop):Prop:=
 ∀(pins:List (Sf×Ss)) (s:Sg) (σ : St) (H:Hp) (x:V) (v:Se) (Q:Bool->Hp->Prop),Inv X pins σ H s->RelV x v->r x H Q ->
  Sm (So X.prog X.w) X.A (truthy v) (TP X pins σ Q) X.xe s
def tOp(r:R2)(ta tb:TE):TE:=λσ H Q=>ta σ H λx H1=>tb σ H1 λy H2=>r x y H2 Q
def tUn(r:V->Hp->VK->Prop)(ta:TE):TE:=λσ H Q=>ta σ H λx H1=>r x H1 Q
def rI(C:Int->Int->Prop)(g:Int->Int->V):R2:=λx y H Q=>∃i j,x=.int i/\y=.int j/\C i j/\Q (g i j) H
def rI0(g:Int->Int->V):R2:=λx y H Q=>∃i j,x=.int i/\y=.int j/\Q (g i j) H
def rU(g:Int->V):V->Hp->VK->Prop:=λx H Q=>∃i,x=.int i/\Q (g i) H
theorem binT(k:PE X a ta)(l:PE X b tb){c:List (Sf×Ss)}{s:Sg}{σ:St}{H:Hp}{R:V->V->Hp->Prop}(I:Inv X c σ H s)(h:ta σ H λx j=>tb σ j λy d=>R x y d){Q:Se->Sg->Prop}{f:Se->Se->Sem Se}(m:∀v u i x y d,Inv X c σ d i->RelV x v->RelV y u->R x y d->Sm (So X.prog X.w) X.A (f v u) Q X.xe i):Sm (So X.prog X.w) X.A (Sw a X.env) (λv e=>Sm (So X.prog X.w) X.A (Sw b X.env) (λu g=>Sm (So X.prog X.w) X.A (f v u) Q X.xe g) X.xe e) X.xe s:=by
 show thn (k c s σ H _ I h) λv n hq_=>?_;let⟨x,j,o,p,q⟩:=hq_;show thn (l c n σ j _ o q) λu i hq_=>?_;let⟨y,d,r,t,z⟩:=hq_;show m v u i x y d r p t z
theorem zI(e:OpR X (SB d) r)(f:PE X a ta)(g:PE X b tb):PE X (.BinOp a d b pos) (tOp r ta tb):=by
 intro c s σ H Q I h;show wpAny_BinOp (binT f g I h λv u i x y j k l m q=>e c i σ j x y v u Q k l m q)
theorem yL{c:UnaryOp}(d:UnR X (unaryOp c) r)(e:PE X a ta):PE X (.UnaryOp c a pos) (tUn r ta):=by
 intro b s σ H Q I h;show UnaryOp_ (thn (e b s σ H _ I h) λv f hq_=>?_);let⟨x,g,i,j,k⟩:=hq_;show d b f σ g x v Q i j k
theorem opI{g:Int->Int->Int}(rule:∀(i j:Int)(t u:Tok)(s:Sg)(Q:Se->Sg->Prop)(E:Se->Sg->Prop),C i j->Q (.int (g i j) s.toks) {s with toks:=s.toks+1}->Sm (So X.prog X.w) X.A (f (.int i t) (.int j u)) Q E s):OpR X f (rI C λi j=>.int (g i j)):=by
 intro a s σ H x y v u Q I b c h;let⟨i,j,rfl,rfl,d,q⟩:=h;let⟨t,rfl⟩:=b;let⟨e,rfl⟩:=c;show rule i j t e s _ _ d ⟨.int (g i j),H,I.tok _,⟨_,rfl⟩,q⟩
theorem opI0{g:Int->Int->Int}(rule:∀(i j:Int)(t u:Tok)(s:Sg)(Q:Se->Sg->Prop)(E:Se->Sg->Prop),Q (.int (g i j) s.toks) {s with toks:=s.toks+1}->Sm (So X.prog X.w) X.A (f (.int i t) (.int j u)) Q E s):OpR X f (rI0 λi j=>.int (g i j)):=by
 intro a s σ H x y v u Q I b c h;let⟨i,j,rfl,rfl,q⟩:=h;let⟨t,rfl⟩:=b;let⟨d,rfl⟩:=c;show rule i j t d s _ _ ⟨.int (g i j),H,I.tok _,⟨_,rfl⟩,q⟩
theorem opB0{g:Int->Int->Bool}(rule:∀(i j:Int)(t u:Tok)(s:Sg)(Q:Se->Sg->Prop)(E:Se->Sg->Prop),Q (.bool (g i j)) s->Sm (So X.prog X.w) X.A (f (.int i t) (.int j u)) Q E s):OpR X f (rI0 λi j=>.bl (g i j)):=by
 intro a s σ H x y v u Q I b c h;let⟨i,j,rfl,rfl,q⟩:=h;let⟨t,rfl⟩:=b;let⟨d,rfl⟩:=c;show rule i j t d s _ _ ⟨.bl (g i j),H,I,rfl,q⟩
def CDiv(i j:Int):Prop:=0<j/\j<1073741824
def CPow(i j:Int):Prop:=0<=j/\j<=1000000/\i.natAbs<2^64
def CMul(i j:Int):Prop:=(-(2^64)<i/\i<2^64)\/(-(2^64)<j/\j<2^64)
theorem CMul.ok{i j:Int}(h:CMul i j):IntMulOk i j:=by
 rcases h with ⟨a,b⟩|⟨a,b⟩
 .exact .of_left (intBits_le_64 a b)
 .exact .of_right (intBits_le_64 a b)
theorem yA:OpR X (SB .Add) (rI0 λi j=>.int (i+j)):=opI0 λ_ _ _ _ _ _ _ q=>add_int q
theorem wf:OpR X (SB .Sub) (rI0 λi j=>.int (i-j)):=opI0 λ_ _ _ _ _ _ _ q=>sub_int q
theorem wg:OpR X (SB .Mult) (rI CMul λi j=>.int (i*j)):=opI λ_ _ _ _ _ _ _ a q=>mul_int q a.ok
theorem ix:OpR X (SB .FloorDiv) (rI CDiv λi j=>.int (i / j)):=opI λi j _ _ _ _ _ a q=>by
 let b:(0:Int)<j:=a.1;let c:j<1073741824:=a.2;show floordiv_int ∎ (by rw[Int.fdiv_eq_ediv_of_nonneg i ∎];show q) (.inl (PyProof.noPylong_small ∎))
theorem wH:OpR X (SB .Mod) (rI (λ_ j=>0<j) λi j=>.int (i%j)):=opI λi j _ _ _ _ _ a q=>by
 let b:(0:Int)<j:=a;show mod_int' ∎ (by rw[Int.fmod_eq_emod_of_nonneg i ∎];show q)
theorem vT:OpR X (SB .Pow) (rI CPow λi j=>.int (i^j.toNat)):=opI λ_ _ _ _ _ _ _ a q=>pow_int_small a.1 a.2.1 a.2.2 q
theorem unI{g:Int->Int}(rule:∀(i:Int)(t:Tok)(s:Sg)(Q:Se->Sg->Prop)(E:Se->Sg->Prop),Q (.int (g i) s.toks) {s with toks:=s.toks+1}->Sm (So X.prog X.w) X.A (f (.int i t)) Q E s):UnR X f (rU λi=>.int (g i)):=by
 intro a s σ H x v Q I b h;let⟨i,rfl,q⟩:=h;let⟨t,rfl⟩:=b;show rule i t s _ _ ⟨.int (g i),H,I.tok _,⟨_,rfl⟩,q⟩
theorem yM:UnR X (unaryOp .USub) (rU λi=>.int (-i)):=unI λ_ _ _ _ _ q=>neg_int q
noncomputable def scal:V->V->Bool
 |.non,.non=>Sc|.non,.int _=>Sc|.int _,.non=>Sc|.non,.bl _=>Sc|.bl _,.non=>Sc|.non,.str _=>Sc|.str _,.non=>Sc
 |.int _,.int _=>Sc|.bl _,.bl _=>Sc|.str _,.str _=>Sc|.byt _,.byt _=>Sc
 |.int _,.str _=>Sc|.str _,.int _=>Sc|.bl _,.str _=>Sc|.str _,.bl _=>Sc
 |_,_=>Sd
def rEq:R2:=λx y H Q=>scal x y=Sc/\Q (.bl (decide (x=y))) H
def rNe:R2:=λx y H Q=>scal x y=Sc/\Q (.bl (!decide (x=y))) H
theorem iy{i j:Int}:decide (V.int i=V.int j)=(i == j):=by
 rw[cP];simp
theorem iz{i j:Bool}:decide (V.bl i=V.bl j)=(i == j):=by
 rw[cP];simp
theorem oA:decide (V.str i=V.str j)=(i == j):=by
 rw[cP];simp
theorem oB:decide (V.byt i=V.byt j)=(i.toList == j.toList):=by
 rw[cP];cases i;cases j;simp
theorem zh{a:List (Sf×Ss)}{σ:St}{H:Hp}{s:Sg}{Q:VK}{k b:Bool}(I:Inv X a σ H s)(q:Q (.bl k) H)(e:k=b):EP X a σ Q (.bool b) s:=by
 subst e;show⟨.bl k,H,I,rfl,q⟩
theorem yJ:OpR X (SC .Eq) rEq:=by
 intro e s σ H x y v u Q I d a h;let⟨c,q⟩:=h;cases x with
 |non=>
  cases d;cases y with
  |non=>cases a;show PySem.EqNone.eq_none_none (zh I q ∅)
  |bl j=>cases a;show PySem.EqNone.eq_none_bool (zh I q ∅)
  |int j=>obtain⟨b,rfl⟩:=a;show PySem.EqNone.eq_none_int (zh I q ∅)
  |str j=>obtain⟨b,rfl⟩:=a;show PySem.EqNone.eq_none_str (zh I q ∅)
  |_=>show absurd (show Sd=Sc from c) aL
 |bl i=>
  cases d;cases y with
  |non=>cases a;show PySem.EqNone.eq_bool_none (zh I q ∅)
  |bl j=>cases a;show eq_bool (zh I q iz)
  |str j=>obtain⟨b,rfl⟩:=a;show PySem.EqMixed.eq_bool_str (zh I q ∅)
  |_=>show absurd (show Sd=Sc from c) aL
 |int i=>
  let⟨t,rfl⟩:=d;cases y with
  |non=>cases a;show PySem.EqNone.eq_int_none (zh I q ∅)
  |int j=>obtain⟨b,rfl⟩:=a;show eq_int (zh I q iy)
  |str j=>obtain⟨b,rfl⟩:=a;show PySem.EqMixed.eq_int_str (zh I q ∅)
  |_=>show absurd (show Sd=Sc from c) aL
 |str i=>
  let⟨t,rfl⟩:=d;cases y with
  |non=>cases a;show PySem.EqNone.eq_str_none (zh I q ∅)
  |bl j=>cases a;show PySem.EqMixed.eq_str_bool (zh I q ∅)
  |int j=>obtain⟨b,rfl⟩:=a;show PySem.EqMixed.eq_str_int (zh I q ∅)
  |str j=>obtain⟨b,rfl⟩:=a;show eq_str (zh I q oA)
  |_=>show absurd (show Sd=Sc from c) aL
 |byt i=>
  let⟨t,rfl⟩:=d;cases y with
  |byt j=>obtain⟨b,rfl⟩:=a;show PySem.W.eq_bytes (zh I q oB)
  |_=>show absurd (show Sd=Sc from c) aL
 |_=>cases y<;>show absurd (show Sd=Sc from c) aL
theorem xr:OpR X (SC .NotEq) rNe:=by
 intro e s σ H x y v u Q I d a h;let⟨c,q⟩:=h;cases x with
 |non=>
  cases d;cases y with
  |non=>cases a;show PySem.EqNone.ne_none_none (zh I q ∅)
  |bl j=>cases a;show PySem.EqNone.ne_none_bool (zh I q ∅)
  |int j=>obtain⟨b,rfl⟩:=a;show PySem.EqNone.ne_none_int (zh I q ∅)
  |str j=>obtain⟨b,rfl⟩:=a;show PySem.EqNone.ne_none_str (zh I q ∅)
  |_=>show absurd (show Sd=Sc from c) aL
 |bl i=>
  cases d;cases y with
  |non=>cases a;show PySem.EqNone.ne_bool_none (zh I q ∅)
  |bl j=>cases a;show ne_bool (zh I q (congrArg not iz))
  |str j=>obtain⟨b,rfl⟩:=a;show PySem.EqMixed.ne_bool_str (zh I q ∅)
  |_=>show absurd (show Sd=Sc from c) aL
 |int i=>
  let⟨t,rfl⟩:=d;cases y with
  |non=>cases a;show PySem.EqNone.ne_int_none (zh I q ∅)
  |int j=>obtain⟨b,rfl⟩:=a;show ne_int (zh I q (congrArg not iy))
  |str j=>obtain⟨b,rfl⟩:=a;show PySem.EqMixed.ne_int_str (zh I q ∅)
  |_=>show absurd (show Sd=Sc from c) aL
 |str i=>
  let⟨t,rfl⟩:=d;cases y with
  |non=>cases a;show PySem.EqNone.ne_str_none (zh I q ∅)
  |bl j=>cases a;show PySem.EqMixed.ne_str_bool (zh I q ∅)
  |int j=>obtain⟨b,rfl⟩:=a;show PySem.EqMixed.ne_str_int (zh I q ∅)
  |str j=>obtain⟨b,rfl⟩:=a;show ne_str (zh I q (congrArg not oA))
  |_=>show absurd (show Sd=Sc from c) aL
 |byt i=>
  let⟨t,rfl⟩:=d;cases y with
  |byt j=>obtain⟨b,rfl⟩:=a;show PySem.W.ne_bytes (zh I q (congrArg not oB))
  |_=>show absurd (show Sd=Sc from c) aL
 |_=>cases y<;>show absurd (show Sd=Sc from c) aL
theorem xG:OpR X (SC .Lt) (rI0 λi j=>.bl (decide (i<j))):=opB0 λ_ _ _ _ _ _ _ q=>lt_int q
theorem kw:OpR X (SC .LtE) (rI0 λi j=>.bl (decide (i<=j))):=opB0 λ_ _ _ _ _ _ _ q=>le_int q
theorem wh:OpR X (SC .Gt) (rI0 λi j=>.bl (decide (j<i))):=opB0 λ_ _ _ _ _ _ _ q=>gt_int q
theorem wA4:OpR X (SC .GtE) (rI0 λi j=>.bl (decide (j<=i))):=opB0 λ_ _ _ _ _ _ _ q=>ge_int q
theorem oC:OpR X (SC .Is) (λx y H Q=>y=.non/\Q (.bl (decide (x=.non))) H):=by
 intro a s σ H x y v u Q I b c h;let⟨rfl,q⟩:=h;cases c;refine is_none_gen (zh I q ?_);cases x <;> first
  |(cases b;rfl)
  |(obtain⟨t,rfl⟩:=b;rfl)
theorem oD:OpR X (SC .IsNot) (λx y H Q=>y=.non/\Q (.bl (!decide (x=.non))) H):=by
 intro a s σ H x y v u Q I b c h;let⟨rfl,q⟩:=h;cases c;refine isnot_none_gen (zh I q ?_);cases x <;> first
  |(cases b;rfl)
  |(obtain⟨t,rfl⟩:=b;rfl)
theorem zR(b:Sl){a:CmpOp}(h:a≠.In:=by decide)(c:a≠.NotIn:=by decide):Sy a b=Sd:=by
 let d:(a == CmpOp.In)=Sd:=by cases a<;>first|rfl|show absurd rfl h
 let e:(a == CmpOp.NotIn)=Sd:=by cases a<;>first|rfl|show absurd rfl c
 cases b<;>simp[Sy,d,e]
theorem zu(e:OpR X (SC d) r)(f:PE X a ta)(g:PE X b tb)(i:Sy d b=Sd):PE X (.Compare a [d] [b] pos) (tOp r ta tb):=by
 intro c s σ H Q I h;show wpAny_Compare1 (binT f g I h λv u j x y k l m n q=>e c j σ k x y v u Q l m n q) i
def tTest(t:TE):TT:=λσ H Q=>t σ H λx H'=>∃k,x=.bl k/\Q k H'
theorem zM(g:OpR X (SC f) r)(i:PE X a ta)(j:PE X b tb)(l:Sy f b=Sd):PT X (.Compare a [f] [b] pos) (tTest (tOp r ta tb)):=by
 intro d s σ H Q I h;show wpAny_isTrue_Compare1 (thn (i d s σ H _ I h) λv m hq_=>?_) l;let⟨x,n,o,p,q⟩:=hq_;show thn (j d m σ n _ o q) λu t hq_=>?_;let⟨y,w,A,B,C⟩:=hq_;show thn (g d t σ w x y v u _ A p B C) λc J hq_=>?_;let⟨z,D,E,F,k,e,G⟩:=hq_;subst e;cases F;show dN ⟨D,E,G⟩
def oE(r r':R2)(ta tb tc:TE):TE:=λσ H Q=>ta σ H λx H1=>tb σ H1 λy H2=>r x y H2 λz H3 => ∃k,z = .bl k /\
 (if k=Sc then tc σ H3 λw' H4=>r' y w' H4 Q else Q (.bl Sd) H3)
theorem oF{i g:CmpOp}(q:OpR X (SC i) r)(j:OpR X (SC g) l)(t:PE X a ta)(w:PE X b tb)(A:PE X c tc)(B:lastMarks [i,g] [b,c]=Sd:=by with_unfolding_all rfl):PE X (.Compare a [i,g] [b,c] pos) (oE r l ta tb tc):=by
 intro f s σ H Q I h;show Compare_chain (thn (t f s σ H _ I h) λv C hq_=>?_) B;let⟨x,D,E,F,G⟩:=hq_;show chain_link (thn (w f C σ D _ E G) λu J hq_=>?_);let⟨y,K,L,m,M⟩:=hq_;show thn (q f J σ K x y v u _ L F m M) λd N hq_=>?_;let⟨z,n,o,O,k,e,p⟩:=hq_;subst e;cases O;show dN ?_;cases k with
 |false=>show ite_ff ⟨.bl Sd,n,o,rfl,p⟩
 |true=>show ite_tt (chain_last (thn (A f N σ n _ o p) λP R ⟨S,T,U,V,W⟩=>j f R σ T y S u P Q U m V W))
def TruV(K:SJ)(x:V)(H:Hp)(k:Bool):Prop:=
 match x with
 |.non=>k=Sd
 |.bl b=>k=b
 |.int i=>k=(i != 0)
 |.str y=>y.length<=Sn/\k=((y.length:Int) != 0)
 |.byt y=>y.size<=Sn/\k=((y.size:Int) != 0)
 |.ref p=>(∃xs,SqL K H p xs/\k=!xs.isEmpty)\/(∃xs,SqT K H p xs/\k=!xs.isEmpty)\/∃kvs,H p=Sa (.dK kvs)/\k=!kvs.isEmpty
 |_=>False
theorem qOn{κ:Type}{kvs:List (κ×V)}{vs:List (κ×Se)}(r:KV kvs vs):(!vs.isEmpty)=!kvs.isEmpty:=by
 cases r<;>rfl
theorem oG(r:Vals xs its):(!its.toArray.isEmpty)=!xs.isEmpty:=by
 cases r<;>simp
theorem vU:(Sn:Nat)<2^63:=by rw[bV];decide
theorem qY4:TruR X (λx H Q=>∃k,TruV X.K x H k/\Q k H):=by
 intro u s σ H x v Q I g h;let⟨k,e,q⟩:=h;let C:=vU;let D:Sn=16777216:=bV;cases x with
 |non=>
  cases g;let a:k=Sd:=e;subst a;show truthy_none ⟨H,I,q⟩
 |bl b=>
  cases g;let a:k=b:=e;subst a;show dN ⟨H,I,q⟩
 |int i=>
  let⟨t,rfl⟩:=g;let a:k=(i != 0):=e;subst a;show PySem.P.truthy_int ⟨H,I,q⟩
 |str y=>
  let⟨t,rfl⟩:=g;obtain⟨A,a⟩:y.length<=Sn/\k=((y.length:Int) != 0):=e;subst a;show PySem.P.truthy_str ∎ ⟨H,I.tok _,q⟩
 |byt y=>
  let⟨t,rfl⟩:=g;obtain⟨A,a⟩:y.size<=Sn/\k=((y.size:Int) != 0):=e;subst a;show PySem.W.truthy_bytes ∎ ⟨H,I.tok _,q⟩
 |ref p=>
  cases g;let a:(∃f,SqL X.K H p f/\k=!f.isEmpty)\/(∃f,SqT X.K H p f/\k=!f.isEmpty)\/∃c,H p=Sa (.dK c)/\k=!c.isEmpty:=e;rcases a with ⟨f,j,a⟩|⟨f,j,a⟩|⟨c,j,a⟩
  .subst a;let⟨n,r,o,z⟩:=I.list j;let d:=r.length;show wpAny_truthy_list o.isList (by simp only[aP];lia) ⟨H,I.tok _,by rw[oG r];show q⟩
  .subst a;let⟨n,r,o,z⟩:=I.tuple j;let d:=r.length;show truthy_tuple o (by simp only[aP];lia) ⟨H,I.tok _,by rw[oG r];show q⟩
  .subst a;obtain⟨z,B,l,r,m⟩:c.length<=Sn/\(p == SH)=Sd/\∃l,KV c l/\s.heap.DictOf (zy X.prog X.w) p l:=I.hok p _ j;let d:c.length=l.length:=fI r;show wpAny_truthy_dict B m ∎ ⟨H,I.tok _,by rw[qOn r];show q⟩
 |_=>show(show False from e).elim
theorem oH(e:PE X a ta)(f:∀b,isTrue a X.env b=(do let v <-b;Sz a.pos;SA [v] (truthy v))):PT X a (λσ H Q=>ta σ H λx d=>∃k,TruV X.K x d k/\Q k d):=by
 intro c s σ H Q I h;show isTrue_plain (thn (e c s σ H _ I h) λv g hq_=>?_) (f _);let⟨x,i,j,l,m⟩:=hq_;show qY4 c g σ i x v Q j l m
theorem vals1(r:Vals [x] us):∃u,us=[u]/\RelV x u:=by
 cases r with
 |cons a b=>cases b;show⟨_,rfl,a⟩
theorem vals2(r:Vals [x,y] us):∃u a,us=[u,a]/\RelV x u/\RelV y a:=by
 cases r with
 |cons b c=>
  cases c with
  |cons d e=>cases e;show⟨_,_,rfl,b,d⟩
theorem oI:CallR X (.builtin "abs") (λxs H Q=>∃i,xs=[.int i]/\Q (.int (if i<0 then -i else i)) H):=by
 intro a s σ H xs b Q I r h;let⟨i,rfl,q⟩:=h;let⟨u,rfl,t,rfl⟩:=vals1 r;show call_abs_int λu tk=>⟨.int (if i<0 then -i else i),H,I.tok _,⟨_,rfl⟩,q⟩
theorem qSf(c:X.calm=Sc):CallR X (.builtin "min") (λxs H Q=>∃i j,xs=[.int i,.int j]/\Q (.int (if j<i then j else i)) H):=by
 intro b s σ H xs d Q I r h;let⟨i,j,rfl,q⟩:=h;obtain⟨u,e,rfl,⟨t,rfl⟩,⟨f,rfl⟩⟩:=vals2 r;show min_two_ints (I.ok.hd c) λg tk k=>⟨_,H,I.kept k,?_,q⟩;by_cases a:j<i
 .rw [if_pos a,if_pos a];show⟨_,rfl⟩
 .rw [if_neg a,if_neg a];show⟨_,rfl⟩
theorem wj:CallR X (.type "int") (λxs H Q=>(∃i,xs=[.int i]/\Q (.int i) H)\/∃k,xs=[.bl k]/\Q (.int (if k then 1 else 0)) H):=by
 intro a s σ H xs c Q I r h;rcases h with ⟨i,rfl,q⟩|⟨k,rfl,q⟩
 .let⟨u,rfl,t,rfl⟩:=vals1 r;show call_int_int ⟨.int i,H,I,⟨_,rfl⟩,q⟩
 .let⟨u,rfl,b⟩:=vals1 r;cases b;show call_int_bool ⟨.int (if k then 1 else 0),H,I.tok _,⟨_,rfl⟩,q⟩
noncomputable def putF(f:Str)(v:V):List (Str×V)->List (Str×V)
 |[]=>[(f,v)]
 |(g,x)::r=>if g=f then (g,v)::r else (g,x)::putF f v r
theorem RelO.some_of(r:RelO (Sa v) o):∃u,o=Sa u/\RelV v u:=by
 cases o with
 |none=>show(show False from r).elim
 |some u=>show⟨u,rfl,r⟩
structure Cls(K:SJ)(C:Sf):Prop where
 pg:PySem.W.plainGet K C Str.empty=Sc
 hd:PySem.W.hasDictIn K C=Sc
 po:PySem.W.plainOver K C=Sc
 sa:PySem.W.findIn K (.ref C) "__setattr__"=Sa (Sa (.builtin "object.__setattr__"))
def uh(K:SJ)(C:Sf)(f:Str):Prop:=PySem.W.findIn K (.ref C) f=Sa Sb
def tFld(K:SJ)(ta:TE)(f:Str):TE:=λσ H Q=>ta σ H λx H1=>∃a C dx fs v,x=.ref a/\H1 a=Sa (.ins C dx fs)/\Cls K C/\uh K C f/\fs.lookup f=Sa v/\Q v H1
def sFld(K:SJ)(ta tv:TE)(f:Str):TS:=λD σ H=>tv σ H λy H1=>ta σ H1 λx H2 => ∃a C dx fs,x = .ref a/\H2 a=Sa (.ins C dx fs)/\Cls K C/\uh K C f/\fs.length<1000 /\
 D.nx σ (upd H2 a (.ins C dx (putF f y fs)))
structure Room(k:Nat)(A:Sj):Prop where
 hd:A.handled=Sb
 dp:A.depth+3*k+5<recursionLimit
 un:A.units+16*k+200<cLine
 gd:A.guards=Sa []:=by rfl
theorem Room.mono{j k:Nat}(r:Room k A)(h:j<=k):Room j A:=⟨r.hd,by let:=r.dp;lia,by let:=r.un;lia,r.gd⟩
theorem Room.deeper{k:Nat}(r:Room (k+1) A)(env:Env):Room k (A.deeper env):=⟨r.hd,by let:=r.dp;change A.depth+1+3*k+5<_;lia,by let:=r.un;change A.units+3+16*k+200<_;lia,r.gd⟩
theorem Room.depth{k:Nat}(r:Room k A):A.depth<recursionLimit:=by let:=r.dp;lia
theorem Room.units{k:Nat}(r:Room k A):A.units+64<cLine:=by let:=r.un;lia
def tNil:TA:=λ_ H Q=>Q [] H
def tCons(ta:TE)(tr:TA):TA:=λσ H Q=>ta σ H λx H1=>tr σ H1 λxs H2=>Q (x::xs) H2
theorem pa_nil:PA X [] tNil:=λ_ _ _ _ H Q I h=>Calls.spliced_nil ⟨[],H,I,.nil,h⟩
theorem zA(b:PE X e te)(c:PA X es t)(d:Sv (e::es) X.env=(Sd,Sw e X.env)::Sv es X.env:=by rfl):PA X (e::es) (tCons te t):=by
 intro pos a s σ H Q I h;rw[d];change Sm _ _ (spliced ((Sd,Sw e X.env)::backTo pos (Sv es X.env))) _ _ s;show eR (thn (b a s σ H _ I h) λu f hq_=>?_);let⟨x,g,i,j,k⟩:=hq_;show thn (c pos a f σ g _ i k) λq r hq_=>?_;let⟨l,m,n,o,p⟩:=hq_;show⟨x::l,m,n,.cons j o,p⟩
def tTup(t:TA):TE:=λσ H Q=>t σ H λxs H1=>xs.length<=Sn/\∀p,H1 p=Sb->Q (.ref p) (upd H1 p (.tup xs))
def tLst(t:TA):TE:=λσ H Q=>t σ H λxs H1=>xs.length<=Sn/\∀p,H1 p=Sb->Q (.ref p) (upd H1 p (.lst xs))
theorem zT{x1}(h:PA X es t):PE X (.Tuple es x1 pos) (tTup t):=by
 intro a s σ H Q I g;show wpAny_Tuple_spliced (thn (h pos a s σ H _ I g) λi c hq_=>?_);let⟨j,d,f,r,z,q⟩:=hq_;show⟨by rw[<-r.length];show z,?_⟩;let k:d c.heap.objs.size=Sb:=f.hok.fresh (aI _);show⟨.ref c.heap.objs.size,upd d c.heap.objs.size (.tup j),f.laid (t':=c.toks) (λb u e=>aJ _ e) (aI _) ?_,rfl,q _ k⟩;show⟨z,i,r,⟨_,aW _ rfl,rfl,_,rfl⟩⟩
theorem zW(h:PA X es t):PE X (.List es pos) (tLst t):=by
 intro a s σ H Q I g;show wpAny_List_spliced (thn (h pos a s σ H _ I g) λi c hq_=>?_);let⟨j,d,f,r,z,q⟩:=hq_;show⟨by rw[<-r.length];show z,?_⟩;let k:d c.heap.objs.size=Sb:=f.hok.fresh (aI _);show⟨.ref c.heap.objs.size,upd d c.heap.objs.size (.lst j),f.laid (t':=c.toks) (λb u e=>aJ _ e) (aI _) ?_,rfl,q _ k⟩;show⟨z,i,0,r,aW _ rfl⟩
abbrev Sp:=List V->Hp->VK->XK->Prop
abbrev CXT:=List Env->Hp->Sg->XK->Se->Sg->Prop
structure Env0(P:Sh)(w:Si)(K:SJ)(mg:Str->Option Se)(base:Sk)(A:Sj)(outer:List Env)(s:Sg)(H:Hp):Prop where
 frames:A.frames=Sa outer
 mod:Mod K mg base
 bs:∀b o,base.get? b=Sa o->s.heap.get? b=Sa o/\H b=Sb
 bsz:base.objs.size<=s.heap.objs.size
 funs:s.heap.FunFrames base outer
 frf:∀b∈frs outer,H b=Sb
 hok:HOk P w H s.heap
 bare:AllBare s.gens
def CE(outer:List Env)(P:Sh)(w:Si)(H:Hp)(s:Sg)(Q:VK)(u:Se)(s':Sg):Prop:=
 ∃v H',s'.os=s.os/\AllBare s'.gens/\Un (frs outer) [] H H' s.heap s'.heap/\HOk P w H' s'.heap/\RelV v u/\Q v H'
def CR(CX:CXT)(outer:List Env)(P:Sh)(w:Si)(H:Hp)(s:Sg)(Q:VK)(E:XK)(r:Result)(s':Sg):Prop:=
 match r with
 |.ok (.ret u)=>CE outer P w H s Q u s'
 |.ok _=>False
 |.error e=>CX outer H s E e s'
structure FnOk(P:Sh)(w:Si)(K:SJ)(mg:Str->Option Se)(base:Sk)(CX:CXT)(k:Nat)(f:Sf)(fd:FuncData)(ps:List Str)(sp:Sp):Prop where
 len:∀vs H Q E,sp vs H Q E->vs.length=ps.length
 run:∀(A:Sj) (outer:List Env) (s:Sg) (H:Hp) (args:Args) (us:List Se) (vs:List V) (Q:VK) (E:XK),Room k A->Env0 P w K mg base A outer s H->BindsTo s fd args (ps.zip us)->Vals vs us->sp vs H Q E ->
  codeAny (So P w) A (.call (.ref f) args) (CR CX outer P w H s Q E) s
theorem Inv.env0(I:Inv X pins σ H s):Env0 X.prog X.w X.K X.mg X.base X.A X.stack s H:=⟨I.ok.frames,I.ok.mod,I.bs,cH I.ok.bsz I.sz,I.stack,I.stkFree,I.hok,I.bare⟩
theorem Inv.after(I:Inv X pins σ H s)(h:CE X.stack X.prog X.w H s Q u s'):EP X pins σ Q u s':=by
 let⟨v,c,os,bare,un,hok,r,q⟩:=h;let⟨e,g,d,t,a⟩:=s';obtain rfl:a=s.os:=os;show⟨v,c,I.call (h':=e) (g':=g) (d':=d) (t':=t) (ch:=[]) un hok bare (λb z=>absurd z ∅),r,q⟩
def tCall(sp:Sp)(dvs:List V)(E:XK)(t:TA):TE:=λσ H Q=>t σ H λvs H1=>sp (vs++dvs) H1 Q E
def tMeth(C:Sf)(m:Str)(sp:Sp)(dvs:List V)(E:XK)(ta:TE)(t:TA):TE:=λσ H Q=>ta σ H λx H1 => ∃a dx fs,x = .ref a/\H1 a=Sa (.ins C dx fs)/\fs.lookup m=Sb /\
 t σ H1 λvs H2=>sp (x::(vs++dvs)) H2 Q E
def tMake(C:Sf)(sp:Sp)(dvs:List V)(E:XK)(t:TA):TE:=λσ H Q=>t σ H λvs H1 => ∀x dx,H1 x=Sb->H1 dx=Sb->dx≠x ->
 sp (.ref x::(vs++dvs)) (upd (upd H1 dx (.own x)) x (.ins C dx [])) (λv H2=>v=.non/\Q (.ref x) H2) E
def Binds(K:SJ)(fd:FuncData)(ps:List Str)(ds:List Se):Prop:=
 ∀(s:Sg)(us:List Se),K.In s.heap->(us++ds).length=ps.length->BindsTo s fd ⟨us,[]⟩ (ps.zip (us++ds))
theorem Binds.all{K:SJ}(h:∀us:List Se,us.length=a.length->bindArgs b ⟨us,[]⟩=pure (a.zip us)):Binds K b a []:=λs us _ c=>by
 rw[cG]at c ⊢;show .of_eq (h us c)
def kx(CX:CXT)(X:Cx)(E:XK):Prop:=∀(pins:List (Sf×Ss))(σ:St)(H:Hp)(s:Sg)(e:Se)(s':Sg),Inv X pins σ H s->CX X.stack H s E e s'->X.xe e s'
theorem qYb{a:List (Sf×Ss)}{σ:St}{H:Hp}{s:Sg}{Q:VK}{us:List Se}{vs:List V}(F:FnOk X.prog X.w X.K X.mg X.base CX k f fd ps sp)(d:Room k X.A)(g:Binds X.K fd ps ds)(hd:Vals dvs ds)(i:kx CX X E)(I:Inv X a σ H s)(r:Vals vs us)(h:sp (vs++dvs) H Q E):Sm (So X.prog X.w) X.A (call (.ref f) us) (EP X a σ Q) X.xe s:=by
 let c:Vals (vs++dvs) (us++ds):=r.append hd;let j:(us++ds).length=ps.length:=by rw[<-c.length];show F.len _ _ _ _ h
 show wpAny_call (gZ (F.run X.A X.stack s H ⟨us,[]⟩ (us++ds) (vs++dvs) Q E d I.env0 (g s us I.kIn j) c h) λr l b=>?_);cases r with
 |error e=>show i a σ H s e l I b
 |ok fl=>
  cases fl with
  |ret u=>show I.after b
  |next=>show False.elim b
  |brk=>show False.elim b
  |cont=>show False.elim b
theorem qX5(F:FnOk X.prog X.w X.K X.mg X.base CX k f fd ps sp)(g:Room k X.A)(i:Gl X x)(j:X.mg x=Sa (.ref f))(l:PySem.W.keepIn X.K (.ref f)=Sc)(m:Binds X.K fd ps ds)(hd:Vals dvs ds)(n:kx CX X E)
  (o:PA X (e::es) t) (b:(x == ("__debug__" : Str))=Sd:=by decide) (u:Sv (e::es) X.env=(Sd,Sw e X.env)::Sv es X.env:=by rfl) (c:(backTo pos (Sv es X.env)).any (·.1)=Sd:=by rfl) :
  PE X (.Call (.Name x p) (e::es) [] pos) (tCall sp dvs E t):=by
 intro a s σ H Q I h;show wpAny_Call_Name_kw (ip I i j ?_ b);show PySem.W.callWith_K (h₀:=X.base) I.ok.mod.kin l (thn (o pos a s σ H _ I h) λv y hq_=>?_) u c;let⟨z,B,d,r,q⟩:=hq_;show⟨d.kIn,?_⟩;show qYb F g m hd n d r q
structure FnScope(N P:List Str)(sc:Su):Prop where
 kind:sc.kind=.function
 co:sc.isCoroutine=Sd
 gen:sc.isGenerator=Sd
 nd:N.Nodup
 pre:N.take P.length=P
 par:∀x∈P,sc.names.lookup x=Sa .local\/sc.names.lookup x=Sa .cell
 nofree:∀y∈sc.names,y.2≠.free
theorem oJ{kindOf:Str->Option SG}:∀ {binds:List (Str×Se)} {m:Str->Option Se},(∀v,(x,v)∉binds)->bindL kindOf binds m x=m x
 |[],_,_=>rfl
 |(n,v)::r,m,h=>by
  unfold bindL;rw[oJ λw a=>h w (aS _ a)];split
  .let:x≠n:=by rintro rfl;show h v aT
   simp[this]
  .rfl
theorem oK{kindOf:Str->Option SG}{x:Str}:∀ {binds:List (Str×Se)} {m:Str->Option Se},(∀v,(x,v)∉binds)->bindC kindOf binds m x=m x
 |[],_,_=>rfl
 |(n,v)::r,m,h=>by
  unfold bindC;rw[oK λw a=>h w (aS _ a)];split
  .rfl
  .let:x≠n:=by rintro rfl;show h v aT
   simp[this]
theorem oM{kindOf:Str->Option SG}:∀ {P:List Str} {vs:List Se} {i:Nat} {m:Str->Option Se},P.Nodup->P[i]? = Sa x->vs[i]? = Sa v->kindOf x=Sa .local ->
  bindL kindOf (P.zip vs) m x=Sa v
 |[],_,_,_,_,h,_,_=>by simp at h
 |_::_,[],_,_,_,_,h,_=>by simp at h
 |p::P,w::vs,0,m,nd,a,b,c=>by
  simp at a b;subst a;subst b;change bindL kindOf ((p,w)::P.zip vs) m p=_;unfold bindL;rw[oJ λv d=>(cQ.mp nd).1 (List.of_mem_zip d).1,if_pos c];simp
 |p::P,w::vs,i+1,m,nd,a,b,c=>by
  change bindL kindOf ((p,w)::P.zip vs) m x=_;unfold bindL;show oM (i:=i) (cQ.mp nd).2 (by simpa using a) (by simpa using b) c
theorem oN{kindOf:Str->Option SG}:∀ {P:List Str} {vs:List Se} {i:Nat} {m:Str->Option Se},P.Nodup->P[i]? = Sa x->vs[i]? = Sa v->kindOf x≠Sa .local ->
  bindC kindOf (P.zip vs) m x=Sa v
 |[],_,_,_,_,h,_,_=>by simp at h
 |_::_,[],_,_,_,_,h,_=>by simp at h
 |p::P,w::vs,0,m,nd,a,b,c=>by
  simp at a b;subst a;subst b;change bindC kindOf ((p,w)::P.zip vs) m p=_;unfold bindC;rw[oK λv d=>(cQ.mp nd).1 (List.of_mem_zip d).1,if_neg c];simp
 |p::P,w::vs,i+1,m,nd,a,b,c=>by
  change bindC kindOf ((p,w)::P.zip vs) m x=_;unfold bindC;show oN (i:=i) (cQ.mp nd).2 (by simpa using a) (by simpa using b) c
noncomputable def start(N:List Str)(vs:List V):St:=vs.map Sa++List.replicate (N.length-vs.length) Sb
noncomputable def cxOf(CX:CXT)(P:Sh)(w:Si)(K:SJ)(mg:Str->Option Se)(base:Sk)(N:List Str)(qual:Str)(scope:Su)(f:Sf)(cd:Se)(A:Sj)(outer:List Env)(s:Sg)(H:Hp)(E:XK):Cx where
 prog:=P
 w:=w
 K:=K
 mg:=mg
 base:=base
 A:=A.deeper (envOfC qual scope s.heap.objs.size f cd)
 N:=N
 s₀:=s
 H₀:=H
 env:=envOfC qual scope s.heap.objs.size f cd
 outer:=outer
 stack:=envOfC qual scope s.heap.objs.size f cd::outer
 ex:=[]
 calm:=Sc
 fn:=λ_=>Sc
 pn:=[]
 xe:=λe s'=>Sm (So P w) (A.deeper (envOfC qual scope s.heap.objs.size f cd)) (leaving (envOfC qual scope s.heap.objs.size f cd) e) (λ_ s''=>CX outer H s E e s'') (λe' s''=>CX outer H s E e' s'') s'
theorem oO{a:Su}{n:Nat}{x:Str}(h:a.names.lookup x=Sa .cell):∃c,(cellsFrom n a.names []).lookup x=Sa c:=by
 let q:=PySem.W.cellsFrom_some a.names n [] (.inl h);show Option.isSome_iff_exists.mp q
theorem qRw{K:SJ}(S:FnScope N l scope)(hd:A.handled=Sb)(j:Env0 P w K mg base A outer s H)(O:vs.length=l.length)(r:Vals vs us)(x:InCallC s s.heap.objs.size (bindL (envOfC d scope s.heap.objs.size f B).kindOf (l.zip us) λ_=>Sb) (cellsFrom (s.heap.objs.size+1) scope.names []) (bindC (envOfC d scope s.heap.objs.size f B).kindOf (l.zip us) λ_=>Sb) F):Inv (cxOf CX P w K mg base N d scope f B A outer s H E) [] (start N vs) H F:=by
 let J:l.length<=N.length:=by let:=congrArg List.length S.pre;rw[aY]at this;lia
 let⟨C,tk,rfl,G⟩:=x.done;let m:∀b:Sf,b∉(cxOf CX P w K mg base N d scope f B A outer s H E).ex:=λb z=>absurd (show b∈([]:List Sf)from z) ∅
 show⟨⟨j.mod,S.kind,rfl,rfl,aI _,λy z c C g=>?_,λy hy=>?_,λy c _ h=>?_,λ_=>hd,Around.frames_deeper j.frames,.inr ⟨rfl,rfl⟩,λb z=>absurd z (m b),j.bs,j.bsz,λb _ _=>m b,λb z=>absurd z (m b),j.funs,j.frf⟩,
  rfl,j.bare,Un.kept G,⟨_,x.toInCall.ns,λi y v C g Q=>?_⟩,λy c h=>⟨_,x.cell y c h⟩,j.hok.fresh (aI _),λy c h=>?_,λp o=>absurd (show p∈([]:List (Sf×Ss))from o) ∅,j.hok.kept G,?_⟩
 .exact name_of_addr x.apart (eK C) (eK g)
 .let hy:scope.names.lookup y=Sa .cell\/scope.names.lookup y=Sa .free:=hy;rcases hy with hy|hy
  .exact oO hy
  .exact absurd rfl (S.nofree _ (eK hy))
 .exact cV (x.above y c (eK h))
 .let D:i<vs.length:=by
   unfold start at g;by_cases D:i<vs.length
   .exact D
   .rw [bY (by simpa using D)]at g;rw[dS]at g;split at g<;>cases g
  let L:vs[i]? = Sa v:=by
   unfold start at g;rw[bQ (by simpa using D),aR]at g;cases e:vs[i]? with
   |none=>rw[e]at g;cases g
   |some a=>rw[e]at g;cases g;rfl
  let⟨u,I,M⟩:=r.get L;let o:l[i]? = Sa y:=by
   rw[<-S.pre,List.getElem?_take_of_lt ∎];show C
  let t:l.Nodup:=by rw[<-S.pre];show S.nd.sublist (List.take_sublist _ _)
  show⟨u,M,?_⟩;rcases S.par y (aK o)with k|k
  .exact .inl ⟨k,oM t o I k⟩
  .let⟨c,e⟩:=oO (n:=s.heap.objs.size+1) k;show .inr ⟨.inl k,c,e,?_⟩;let q:=x.cell y c e;rw[oN t o I (by change scope.names.lookup y≠_;rw[k];decide)]at q;show q
 .exact j.hok.fresh (cV (x.above y c (eK h)))
 .unfold start;change _=N.length;rw[aF,aA,dQ];lia
theorem wA8{K:SJ}{k:Nat}{g:List Sr}{O kV doc R c ct Z:Se}(lk:K.lookup f=Sa ⟨Z,od,.func (PySem.W.fnOf name a d g scope O kV doc R T c ct),D⟩)(F:PySem.W.codeIn K c a=Sc)(S:FnScope N C scope)(len:∀vs H Q E,sp vs H Q E->vs.length=C.length)(j:∀(A:Sj) (outer:List Env) (s:Sg) (H:Hp) (vs:List V) (Q:VK) (E:XK),Room k (A.deeper (envOfC a scope s.heap.objs.size f c))->sp vs H Q E ->
   ∃t,PSs (cxOf CX P w K mg base N a scope f c A outer s H E) g t/\t {nx:=λ_ i=>Q .non i,rt:=Q} (start N vs) H) :
  FnOk P w K mg base CX (k+1) f (PySem.W.fnOf name a d g scope O kV doc R T c ct) C sp:=by
 show⟨len,λA outer s H U us vs Q E G p hb r z=>?_⟩;let hl:=len _ _ _ _ z;let X:K.In s.heap:=p.mod.kin.keeps λb o e=>(p.bs b o e).1;let lim:s.heap.NoLimit:=p.mod.nolimit.keeps λb o e=>(p.bs b o e).1;let l:∀y∈C.zip us,scope.names.lookup y.1=Sa .local\/(scope.names.lookup y.1=Sa .cell/\((cellsFrom (s.heap.objs.size+1) scope.names []).lookup y.1).isSome=Sc):=λ⟨n,v⟩ hy=>by
  rcases S.par n (List.of_mem_zip hy).1 with q|q
  .exact .inl q
  .exact .inr ⟨q,PySem.W.cellsFrom_some _ _ _ (.inl q)⟩
 show codeAny_call_function G.depth (X _ _ lk) rfl S.co S.gen rfl (PySem.W.codeRec_of X F) (hb _ _ _ _ ?_);show wpAny_newFunctionEnv_cells S.kind l λa0 he Y x=>?_;subst he;show⟨lim.keeps x.toInCall.keep,codeAny_func ?_⟩;let⟨t,ht,hq⟩:=j A outer s H vs Q E (G.deeper _) z;let I:Inv (cxOf CX P w K mg base N a scope f c A outer s H E) [] (start N vs) H Y:=qRw S G.hd p hl r x;show fP (ht [] Y (start N vs) H _ I hq) (λfl L m=>?_) λe L m=>m;let B:∀{h:St}{i:Hp}{v:V}{u:Se},Inv (cxOf CX P w K mg base N a scope f c A outer s H E) [] h i L->RelV v u->Q v i->CE outer P w H s Q u L:=
  λ{h i v u}J M q=>⟨v,i,J.os,J.bare,J.base,J.hok,M,q⟩
 cases fl with
 |ret u=>
  let⟨v,h,i,J,M,q⟩:=m;show B J M q
 |next=>
  let⟨h,i,J,q⟩:=m;show B (v:=V.non) (u:=Value.none) J rfl q
 |brk=>
  let⟨_,_,_,q⟩:=m;show False.elim q
 |cont=>
  let⟨_,_,_,q⟩:=m;show False.elim q
section
variable{X:Cx}{x:Str}{p pos:Sx}{e:Sl}{es:List Sl}{t:TA}{id T:String}{r:List V->Hp->VK->Prop}
def tCB(r:List V->Hp->VK->Prop)(t:TA):TE:=λσ H Q=>t σ H λvs H1=>r vs H1 Q
theorem zN(d:CallR X (.builtin id) r)(f:Gl X x)(g:X.mg x=Sb)(i:SF x=Sa (.builtin id))(j:PA X (e::es) t)(k:x ≠ "__name__" :=by decide)(b:(x == ("__debug__" : Str))=Sd:=by decide)
  (l:Sv (e::es) X.env=(Sd,Sw e X.env)::Sv es X.env:=by rfl) (c:(backTo pos (Sv es X.env)).any (·.1)=Sd:=by rfl):PE X (.Call (.Name x p) (e::es) [] pos) (tCB r t):=by
 intro a s σ H Q I h;show wpAny_Call_Name_kw (xn I f g i ?_ k b);show PyProof.Rows.callWith_builtin1 (thn (j pos a s σ H _ I h) λm n hq_=>?_) l c;let⟨o,q,u,v,w⟩:=hq_;show d a n σ q o m Q u v w
theorem yB(d:CallR X (.type T) r)(f:Gl X x)(g:X.mg x=Sb)(i:SF x=Sa (.type T))(j:PA X (e::es) t)(k:x ≠ "__name__" :=by decide)(b:(x == ("__debug__" : Str))=Sd:=by decide)
  (l:Sv (e::es) X.env=(Sd,Sw e X.env)::Sv es X.env:=by rfl) (c:(backTo pos (Sv es X.env)).any (·.1)=Sd:=by rfl):PE X (.Call (.Name x p) (e::es) [] pos) (tCB r t):=by
 intro a s σ H Q I h;show wpAny_Call_Name_kw (xn I f g i ?_ k b);show dB (thn (j pos a s σ H _ I h) λm n hq_=>?_) l c;let⟨o,q,u,v,w⟩:=hq_;show d a n σ q o m Q u v w
end
end L2
namespace HT
open PySem PyProof.Rows
def lexLt:List Int->List Int->Bool
 |[],[]=>Sd
 |[],_::_=>Sc
 |_::_,[]=>Sd
 |x::xs,y::ys=>if x=y then lexLt xs ys else decide (x<y)
theorem lexLt_cons(x y:Int)(xs ys:List Int):lexLt (x::xs) (y::ys)=if x=y then lexLt xs ys else decide (x<y):=rfl
section
open PySem.SeqAt
open PySem.AutoSeq1 (wpAny_loadPart')
open PySem.MeetsSeq PySem.MeetsSeq2 PySem.MeetsSeq3
end
theorem cat_tup{t b:Sf}(u:IsTup s.heap t vs.toArray)(v:IsTup s.heap b ws.toArray)(k:vs ≠ [])
  (x:ws=[]->Q (.ref t) s) (y:ws≠[]->Q (.ref s.heap.objs.size) {s with heap:=s.heap.push {cls:=.type "tuple",data:=.seq (vs++ws).toArray}})
  (j:vs.length+ws.length<=Sn):Sm (So prog w) A (SB .Add (.ref t) (.ref b)) Q E s:=by
 obtain⟨⟨cls,l,data,m⟩,h,o,n,p⟩:=id u;obtain⟨⟨q,c,data2,d⟩,a,f,r,g⟩:=id v;simp only at o p f g;subst o p f g;let e:vs.toArray++ws.toArray=(vs++ws).toArray:=by simp
 by_cases i:ws=[]
 .exact concat_meets ⟨_,h,rfl⟩ ⟨_,a,rfl⟩ noFill_tuple_add seq_tuple_add PySem.F.slot_tuple_add PySem.F.entry_tuple_add (PySem.F.args_tuple_add_2 _ _)
   (tuple_addW1 t b vs.toArray ws.toArray n r l c m d (by simpa using k) (by simp[i])) ⟨h,a,x i⟩
 .refine concat_meets ⟨_,h,rfl⟩ ⟨_,a,rfl⟩ noFill_tuple_add seq_tuple_add PySem.F.slot_tuple_add PySem.F.entry_tuple_add (PySem.F.args_tuple_add_2 _ _)
   (tuple_addW2 t b vs.toArray ws.toArray n r l c m d (by simpa using k) (by simpa using i) (by rw[aP,aP];show j)) ⟨h,a,?_⟩
  rw[e];show y i
def sIx(n d:Nat):Option Int->Nat
 |none=>d
 |some v=>if v<0 then (v+(n:Int)).toNat else min v.toNat n
theorem sIx_none(n d:Nat):sIx n d Sb=d:=rfl
theorem sIx_nat(n d k:Nat):sIx n d (Sa (k:Int))=min k n:=by
 change(if (k:Int)<0 then ((k:Int)+(n:Int)).toNat else min (k:Int).toNat n)=min k n;rw[if_neg ∎,bE]
theorem qYa(n d:Nat)(hd:d<=n)(o:Option Int):sIx n d o<=n:=by
 cases o with
 |none=>show hd
 |some v=>
  change(if v<0 then (v+(n:Int)).toNat else min v.toNat n)<=n;by_cases a:v<0
  .rw [if_pos a];lia
  .rw [if_neg a];show Nat.min_le_right _ _
theorem oP(v:Int)(n d:Nat):(if v<0 then max (v+(n:Int)) 0 else min v (n:Int))=((sIx n d (Sa v):Nat):Int):=by
 change(if v<0 then max (v+(n:Int)) 0 else min v (n:Int))=(((if v<0 then (v+(n:Int)).toNat else min v.toNat n):Nat):Int);by_cases a:v<0
 .simp only[if_pos a];lia
 .simp only[if_neg a];lia
theorem qOy(lo hi:Option Int)(n:Nat):Builtin.Slice.sliceAdjust lo hi 1 (n:Int)=(((sIx n 0 lo:Nat):Int),((sIx n n hi:Nat):Int)):=by
 let a:¬((1:Int)<0):=by lia
 unfold Builtin.Slice.sliceAdjust;simp only[a,if_false];show Prod.ext ?_ ?_
 .cases lo with
  |none=>rfl
  |some v=>show oP v n 0
 .cases hi with
  |none=>rfl
  |some v=>show oP v n n
theorem qO7(i j:Nat):Builtin.Slice.slicePlaces (i:Int) (j:Int) 1=j-i:=by
 unfold Builtin.Slice.slicePlaces;let a:(1:Int)>0:=by lia
 simp only[a,if_true,Int.ediv_one];split<;>lia
theorem slicePart_(p:IsPart v o)(h:Q o s):Sm (So prog w) A (Builtin.Slice.slicePartIndex v) Q E s:=by
 cases p with
 |none=>show slicePart_none h
 |int i t=>show slicePart_int h
theorem qFs{lo hi:Option Int}{n:Nat}(f:s.heap.IsSliceOf e c d .none)(g:IsPart c lo)(i:IsPart d hi)(h:Q (((sIx n 0 lo:Nat):Int),1,sIx n n hi-sIx n 0 lo) s):Sm (So prog w) A (Builtin.Slice.sliceApplied (.ref e) (pure (n:Int))) Q E s:=by
 let⟨os,a,j,b⟩:=id f;unfold Builtin.Slice.sliceApplied Builtin.Slice.sliceFields;show aB (aB (dX a b (x:=c) rfl (aB (dX a b (x:=d) rfl (aB (dX a b (x:=.none) rfl (aD ?_)))))));show aB (slicePart_none ?_);change Sm _ _ (if ((1:Int) == 0)=Sc then _ else _) _ _ s;rw[if_neg ⋯];show aB (slicePart_ g (aB (slicePart_ i (aB (aD ?_)))));change Sm _ _ (match Builtin.Slice.sliceAdjust lo hi 1 (n:Int)with|(lo,hi)=>pure (lo,(1:Int),Builtin.Slice.slicePlaces lo hi 1)) _ _ s;rw[qOy lo hi n];change Sm _ _ (pure (((sIx n 0 lo:Nat):Int),(1:Int),Builtin.Slice.slicePlaces ((sIx n 0 lo:Nat):Int) ((sIx n n hi:Nat):Int) 1)) _ _ s
 rw[qO7];show aD h
theorem qTi(xs:Array Se)(i k:Nat):((List.range k).filterMap λ(m:Nat)=>xs[((i:Int)+(m:Int)*1).toNat]?).toArray=((xs.toList.drop i).take k).toArray:=by
 let e:(λ(m:Nat)=>xs[((i:Int)+(m:Int)*1).toNat]?)=λm=>xs[i+m]?:=by
  funext m
  let:((i:Int)+(m:Int)*1).toNat=i+m:=by lia
  rw[this]
 rw[e];let:=pick_run xs i k;rw[List.filterMap_map]at this;let a:((λx=>xs[x]?)∘λx=>i+x)=λm=>xs[i+m]?:=rfl;rw[a]at this;rw[this]
theorem getItem_tuple_cut{t c:Sf}{lo hi:Option Int}(b:IsTup s.heap t items)(k:s.heap.IsSliceOf c i j .none)(l:IsPart i lo)(n:IsPart j hi)(hw : ¬(sIx items.size 0 lo=0/\sIx items.size items.size hi=items.size))
  (h:Q (.ref s.heap.objs.size) {s with heap:=s.heap.push {cls:=.type "tuple",data:=.seq ((items.toList.drop (sIx items.size 0 lo)).take (sIx items.size items.size hi-sIx items.size 0 lo)).toArray}})
  (o:items.size<=Sn):Sm (So prog w) A (getItem (.ref t) (.ref c)) Q E s:=by
 let a:sizeOk (.seq ((items.toList.drop (sIx items.size 0 lo)).take (sIx items.size items.size hi-sIx items.size 0 lo)).toArray):=by
  change((items.toList.drop (sIx items.size 0 lo)).take (sIx items.size items.size hi-sIx items.size 0 lo)).toArray.size<=Sn;rw[aP,aY,fH,aQ];lia
 let r:sIx items.size items.size hi<=items.size:=qYa _ _ (aI _) hi;let⟨os,d,e,p⟩:=id k;let f:s.TypeIs (.ref c) "slice":=⟨os,d,e⟩;unfold getItem
 try with_reducible refine bU ?_
 first|show aB (aD ?_)|skip
 show aB (wpAny_sequenceKey b.typeIs ⋯ ?_)
 refine aB (dY (name:=Str.ofString "__getitem__") b.typeIs cR
  (cK cR b.typeIs entry_tuple_getitem ?_ (args_tuple_getitem _ _)))
 change Sm _ _ (Builtin.Tuple.tupleItemsOf (.ref t) >>=_) _ _ s;show aB (tupleItemsOf_ b ?_);show aB (gC f ?_);rw[if_pos ⋯];show aB (qFs k l n ?_);let g:¬((((sIx items.size 0 lo:Nat):Int) == 0&&(1:Int) == 1&&(sIx items.size items.size hi-sIx items.size 0 lo) == items.size)=Sc):=by
  intro q;rw[bT,bT]at q;let u:((sIx items.size 0 lo:Nat):Int)=0:=eq_of_beq q.1.1;let v:sIx items.size items.size hi-sIx items.size 0 lo=items.size:=eq_of_beq q.2;show hw ⟨∎,∎⟩
 change Sm _ _ (if (((sIx items.size 0 lo:Nat):Int) == 0&&(1:Int) == 1&&(sIx items.size items.size hi-sIx items.size 0 lo) == items.size)=Sc then _ else _) _ _ s;rw[if_neg g,qTi]
 first
  |show aB (m:=Builtin.Tuple.tupleExact _) (bZ (aD ⟨_,rfl,aD h⟩) a)
  |show aB (m:=Builtin.Tuple.tupleExact _) (bZ (aB (aD (aD ⟨_,rfl,aD h⟩))) a)
  |show aB (aB (m:=Builtin.Tuple.tupleExact _) (bZ (aD (aD ⟨_,rfl,aD h⟩)) a))
  |show aB (aB (m:=Builtin.Tuple.tupleExact _) (bZ (aD ⟨_,rfl,aD h⟩) a))
end HT
namespace L2
open PySem PySem.Spec PyProof.Rows
abbrev TO:=St->Hp->(Option Int->Hp->Prop)->Prop
def PO(X:Cx)(e:Option Sl)(t:TO):Prop:=
 ∀(pins:List (Sf×Ss)) (s:Sg) (σ : St) (H:Hp) (Q:Option Int->Hp->Prop),Inv X pins σ H s->t σ H Q ->
  Sm (So X.prog X.w) X.A (evalPart e X.env) (λu s'=>∃o H',Inv X pins σ H' s'/\IsPart u o/\Q o H') X.xe s
def ui:TO:=λ_ H Q=>Q Sb H
def tPart(t:TE):TO:=λσ H Q=>t σ H λx H1=>∃i,x=.int i/\Q (Sa i) H1
theorem uj:∀{us:List Se},Vals (ns.map V.int) us->IntsAre us ns:=by
 induction ns with
 |nil=>intro us r;rw[fW]at r;cases r;show .nil
 |cons n ns a=>
  intro us r;rw[bJ]at r;cases r with
  |cons b c=>
   let⟨t,e⟩:=b;subst e;show .cons n t (a c)
section
variable{X:Cx}{e:Sl}{te:TE}{lo hi:Option Sl}{tl th:TO}{pos p2:Sx}
theorem yN:PO X Sb ui:=by
 intro a s σ H Q I h;rw[evalPart_none];show aD ⟨Sb,H,I,.none,h⟩
theorem yO(h:PE X e te):PO X (Sa e) (tPart te):=by
 intro a s σ H Q I b;rw[evalPart_some];show thn (h a s σ H _ I b) λu j hq_=>?_;let⟨x,c,d,f,g⟩:=hq_;let⟨i,rfl,q⟩:=g;let⟨t,rfl⟩:=f;show⟨Sa i,c,d,.int i t,q⟩
def SlR(X:Cx)(r:V->Option Int->Option Int->Hp->VK->Prop):Prop:=
 ∀(pins:List (Sf×Ss)) (s:Sg) (σ : St) (H:Hp) (x:V) (v vl vu:Se) (lo hi:Option Int) (sl:Sf) (Q:VK),Inv X pins σ H s->RelV x v->s.heap.IsSliceOf sl vl vu .none->IsPart vl lo->IsPart vu hi->r x lo hi H Q ->
  ∃T id,typeLookup (.type T) "__getitem__"=pure (Sa (.builtin id))/\s.TypeIs v T/\Sm (So X.prog X.w) X.A (getItem v (.ref sl)) (EP X pins σ Q) X.xe s
def tSl(r:V->Option Int->Option Int->Hp->VK->Prop)(te:TE)(tl th:TO):TE:=λσ H Q=>te σ H λx H1=>tl σ H1 λl H2=>th σ H2 λu H3=>r x l u H3 Q
theorem yP(i:SlR X r)(j:PE X e te)(k:PO X lo tl)(m:PO X hi th):PE X (.Subscript e (.Slice lo hi Sb p2) pos) (tSl r te tl th):=by
 intro a s σ H Q I h;show Subscript_ (thn (j a s σ H _ I h) λv n hq_=>?_);let⟨x,o,p,t,y⟩:=hq_;show wpAny_Slice (thn (k a n σ o _ p y) λd z hq_=>?_);let⟨l,B,C,D,E⟩:=hq_;show thn (m a z σ B _ C E) λf c hq_=>?_;let⟨u,g,F,G,J⟩:=hq_;rw[evalPart_none];show aD ?_;let K:Inv X a σ g {c with heap:=c.heap.push {cls:=.type "slice",data:=.fields #[d,f,.none]}}:=F.kept (t':=c.toks) λb N q=>aJ _ q;let⟨T,id,hT,L,M⟩:=i a {c with heap:=c.heap.push {cls:=.type "slice",data:=.fields #[d,f,.none]}} σ g x v d f l u c.heap.objs.size Q K t (Heap.IsSliceOf.new ..) D G J;change Sm (So X.prog X.w) X.A (subscriptTail e (.Slice lo hi Sb p2) v (.ref c.heap.objs.size)) (EP X a σ Q) X.xe {c with heap:=c.heap.push {cls:=.type "slice",data:=.fields #[d,f,.none]}}
 show tail_any (ops:=[.ref c.heap.objs.size,v]) L hT M (by with_unfolding_all rfl)
noncomputable def cutV(xs:List V)(lo hi:Option Int):List V:=(xs.drop (HT.sIx xs.length 0 lo)).take (HT.sIx xs.length xs.length hi-HT.sIx xs.length 0 lo)
theorem oQ(xs:List V)(lo hi:Option Int):(cutV xs lo hi).length<=xs.length:=by
 unfold cutV;rw[aY,fH];lia
def rSlT(K:SJ):V->Option Int->Option Int->Hp->VK->Prop:=λx lo hi H Q => ∃a xs,x = .ref a/\SqT K H a xs /\
 ¬(HT.sIx xs.length 0 lo=0/\HT.sIx xs.length xs.length hi=xs.length)/\∀p,H p=Sb->Q (.ref p) (upd H p (.tup (cutV xs lo hi)))
theorem wm:SlR X (rSlT X.K):=by
 intro f s σ H x v t u lo hi w Q I j k l m h;let⟨a,d,rfl,n,p,q⟩:=h;cases j;let⟨e,r,g,i⟩:=I.tuple n;let c:e.toArray.size=d.length:=by rw[aP];show r.length.symm
 show⟨"tuple",_,cR.lookup,g.typeIs,?_⟩;show HT.getItem_tuple_cut g k l m (by rw[c];show p) ?_ (by rw[c];show i);rw[c];show⟨.ref s.heap.objs.size,_,I.laid (t':=s.toks) (o:=.tup (cutV d lo hi)) (λb y q=>aJ _ q) (aI _) ?_,rfl,q _ (I.hok.fresh (aI _))⟩;show⟨cH (oQ d lo hi) i,_,(r.drop (HT.sIx d.length 0 lo)).take (HT.sIx d.length d.length hi-HT.sIx d.length 0 lo),IsTup.new _ _⟩
def rCatT(K:SJ):R2:=λx y H Q => ∃a b xs ys,x = .ref a/\y = .ref b/\SqT K H a xs/\SqT K H b ys/\xs ≠ []/\xs.length+ys.length<=Sn /\
 (ys=[]->Q (.ref a) H)/\(ys≠[]->∀p,H p=Sb->Q (.ref p) (upd H p (.tup (xs++ys))))
theorem Vals.nil_iff(r:Vals xs us):us=[]↔xs=[]:=by
 cases r with
 |nil=>simp
 |cons _ _=>simp
theorem oR:OpR X (SB .Add) (rCatT X.K):=by
 intro e s σ H x y v u Q I i j h;let⟨a,b,k,ys,rfl,rfl,l,m,n,f,p,r⟩:=h;cases i;cases j;let⟨t,d,A,_⟩:=I.tuple l;let⟨g,c,p2,_⟩:=I.tuple m;show HT.cat_tup A p2 (λz=>n (d.nil_iff.mp z)) (λz=>⟨.ref a,H,I,rfl,p (c.nil_iff.mp z)⟩) (λz=>?_) (by rw[<-d.length,<-c.length];show f);show⟨.ref s.heap.objs.size,_,I.laid (t':=s.toks) (o:=.tup (k++ys)) (λb B q=>aJ _ q) (aI _) ?_,rfl,r (λw=>z (c.nil_iff.mpr w)) _ (I.hok.fresh (aI _))⟩;show⟨by rw[aF];show f,_,d.append c,IsTup.new _ _⟩
end
noncomputable def ixN(n:Nat)(i:Int):Option Nat:=if 0<=i then (if i<n then Sa i.toNat else Sb)else if -(n:Int)<=i then Sa (i+n).toNat else Sb
noncomputable def atI{α:Type}(xs:List α)(i:Int):Option α:=(ixN xs.length i).bind λj=>xs[j]?
theorem oS{n:Nat}{i:Int}{j:Nat}(h:ixN n i=Sa j):seqIndex? i n=Sa j/\j<n/\-(n:Int)<=i/\i<n:=by
 unfold ixN at h;by_cases b:0<=i
 .rw [if_pos b]at h;by_cases a:i<n
  .rw [if_pos a]at h;let e:i.toNat=j:=bI h;show⟨by rw[seqIndex_of b a,e],∎,∎,a⟩
  .rw [if_neg a]at h;cases h
 .rw [if_neg b]at h;by_cases a:-(n:Int)<=i
  .rw [if_pos a]at h;let e:(i+n).toNat=j:=bI h;show⟨by rw[seqIndex_neg ∎ a,e],∎,a,∎⟩
  .rw [if_neg a]at h;cases h
theorem oT{α:Type}{xs:List α}{i:Int}{v:α}(h:atI xs i=Sa v):∃j,seqIndex? i xs.length=Sa j/\xs[j]? = Sa v/\j<xs.length/\-(xs.length:Int)<=i/\i<xs.length:=by
 unfold atI at h;cases e:ixN xs.length i with
 |none=>rw[e]at h;cases h
 |some j=>
  rw[e]at h;let⟨a,b,c,d⟩:=oS e;show⟨j,a,h,b,c,d⟩
theorem zS{α:Type}{xs:List α}{j:Nat}{v:α}(h:xs[j]? = Sa v):atI xs (j:Int)=Sa v:=by
 let a:j<xs.length:=(aC.mp h).1;let e:ixN xs.length (j:Int)=Sa j:=by
  unfold ixN;rw[if_pos ∎,if_pos ∎];simp
 unfold atI;rw[e];show h
theorem ul{α:Type}(xs:List α)(v:α):atI (xs++[v]) (-1)=Sa v:=by
 let a:(xs++[v]).length=xs.length+1:=by simp
 let e:ixN (xs++[v]).length (-1)=Sa xs.length:=by
  unfold ixN;rw[a,if_neg ⋯,if_pos ∎]
  congr 1
  lia
 unfold atI;rw[e];change(xs++[v])[xs.length]? = Sa v;simp
def oU(b:Sl):Prop:=∀o i,subscripted b Sd o i=operate [o,i] (getItem o i)
def IxR(X:Cx)(r:R2):Prop:=
 ∀(value slice:Sl) (pins:List (Sf×Ss)) (s:Sg) (σ : St) (H:Hp) (x y:V) (v u:Se) (Q:VK),Inv X pins σ H s->RelV x v->RelV y u->r x y H Q ->
  subscripted slice Sd v u=operate [v,u] (getItem v u)->Sm (So X.prog X.w) X.A (subscriptTail value slice v u) (EP X pins σ Q) X.xe s
def MtR(X:Cx)(id:String)(r:V->List V->Hp->VK->Prop):Prop:=
 ∀(pins:List (Sf×Ss)) (s:Sg) (σ : St) (H:Hp) (x:V) (xs:List V) (v:Se) (us:List Se) (Q:VK),Inv X pins σ H s->RelV x v->Vals xs us->r x xs H Q ->
  Sm (So X.prog X.w) X.A (call (.builtin id) (v::us)) (EP X pins σ Q) X.xe s
section
variable{X:Cx}{a b:Sl}
theorem zH(d:IxR X r)(e:PE X a ta)(f:PE X b tb)(g:oU b):PE X (.Subscript a b pos) (tOp r ta tb):=by
 intro c s σ H Q I h;show Subscript_ (binT e f I h λv u i x y j k l m q=>d a b c i σ j x y v u Q k l m q (g _ _))
def rIxL(K:SJ):R2:=λx y H Q=>∃p xs i v,x=.ref p/\y=.int i/\SqL K H p xs/\atI xs i=Sa v/\Q v H
def rIxT(K:SJ):R2:=λx y H Q=>∃p xs i v,x=.ref p/\y=.int i/\SqT K H p xs/\atI xs i=Sa v/\Q v H
theorem zO:IxR X (rIxL X.K):=by
 intro d slice a s σ H x y v u Q I o A h l;let⟨p,L,i,z,rfl,rfl,B,C,q⟩:=h;cases o;let⟨t,rfl⟩:=A;let⟨e,r,f,M⟩:=I.list B;let⟨j,c,D,N,E,F⟩:=oT C;let⟨w,m,g⟩:=r.get D;let G:=r.length;let O:=vU;let b:EP X a σ Q w s:=⟨z,H,I,g,q⟩;by_cases n:0<=i
 .let k:i.toNat=j:=by
   rw[seqIndex_of n F]at c;show bI c
  show item_listR f.isList n ∎ (by rw[k];simpa using m) b l
 .let k:(i+(e.toArray.size:Int)).toNat=j:=by
   rw[seqIndex_neg ∎ E]at c;rw[aP,<-G];show bI c
  exact subscriptTail_builtinR (x:=w) f.isList.typeIs slot_list_getitem.lookup
   (wpAny_getItem_list_neg (Q:=λr J=>r=w/\EP X a σ Q r J) f.isList ∎ (by rw[aP]<;>lia) ∎ (by rw[k];simpa using m) ⟨rfl,b⟩) l
theorem yW:IxR X (rIxT X.K):=by
 intro b slice a s σ H x y v u Q I f g h k;let⟨p,E,i,z,rfl,rfl,l,m,q⟩:=h;cases f;let⟨t,rfl⟩:=g;let⟨n,r,e,F⟩:=I.tuple l;let⟨j,o,A,G,J,L⟩:=oT m;let⟨w,B,c⟩:=r.get A;let C:=r.length;let M:=vU;let d:EP X a σ Q w s:=⟨z,H,I,c,q⟩;exact subscriptTail_builtinR (x:=w) e.typeIs slot_tuple_getitem.lookup
  (getItem_tuple (j:=j) (Q:=λr D=>r=w/\EP X a σ Q r D) e ∎ ∎ (by rw[aP,<-C];show o) (by simpa using B) ⟨rfl,d⟩) k
theorem qOm(its:List Se)(n j:Nat)(u:Se):Obj.mapSeq (·.setIfInBounds j u) {cls:=.type "list",data:=.seq its.toArray n}={cls:=.type "list",data:=.seq (its.set j u).toArray n}:=by
 simp[Obj.mapSeq]
theorem Inv.lst{a:List (Sf×Ss)}{σ:St}{H:Hp}{s:Sg}{p:Sf}{xs:List V}(I:Inv X a σ H s)(h:H p=Sa (.lst xs)):∃(its:List Se)(n:Nat),Vals xs its/\s.heap.get? p=Sa {cls:=.type "list",data:=.seq its.toArray n}/\xs.length<=Sn:=by
 let⟨z,its,n,r,e⟩:=I.hok p _ h;show⟨its,n,r,e,z⟩
theorem Inv.lstUpd{a:List (Sf×Ss)}{σ : St}{H:Hp}{s:Sg}{p:Sf}{xs ys:List V}{its its':List Se}{n c:Nat}{f:Ss->Ss}(I:Inv X a σ H s)(h:H p=Sa (.lst xs))
  (g:s.heap.get? p=Sa {cls:=.type "list",data:=.seq its.toArray n}) (d:f {cls:=.type "list",data:=.seq its.toArray n}={cls:=.type "list",data:=.seq its'.toArray c}) (r:Vals ys its') (i:ys.length<=Sn) (t:Nat) :
  Inv X a σ (upd H p (.lst ys)) {s with heap:=s.heap.update p f,toks:=t}:=by
 let e:(s.heap.update p f).get? p=Sa {cls:=.type "list",data:=.seq its'.toArray c}:=by
  rw[cS f g (by rw[d]<;>rfl),d]
 show I.write (x:=p) (e:=p) (by rw[h];trivial) (.inl rfl) (λb u j q=>(cX _ _ (eI j)).trans q) ⟨_,e⟩ ?_;show⟨i,its',c,r,e⟩
def rSetL:V->V->V->Hp->(Hp->Prop)->Prop:=λo i v H Q=>∃p xs k j,o=.ref p/\i=.int k/\H p=Sa (.lst xs)/\ixN xs.length k=Sa j/\Q (upd H p (.lst (xs.set j v)))
theorem um:PSet X rSetL:=by
 intro a s σ H o i v E F u Q I y z A h;let⟨p,B,k,j,rfl,rfl,g,C,q⟩:=h;cases y;let⟨t,rfl⟩:=z;let⟨b,n,r,d,D⟩:=I.lst g;let⟨c,G,l,m⟩:=oS C;let e:=r.length;let J:=vU;let w:Inv X a σ (upd H p (.lst (B.set j v))) {s with heap:=s.heap.update p (Obj.mapSeq (·.setIfInBounds j u))}:=
  I.lstUpd g d (qOm b n j u) (r.set A j) (by rw[List.length_set];show D) s.toks
 by_cases x:0<=k
 .let f:k.toNat=j:=by
   rw[seqIndex_of x m]at c;show bI c
  show PySem.W.ki_setAt d x ∎ (by rw[aP,<-e];show m) (by rw[f];show⟨_,w,q⟩)
 .let f:(k+(b.toArray.size:Int)).toNat=j:=by
   rw[seqIndex_neg ∎ l]at c;rw[aP,<-e];show bI c
  show PySem.W.ki_setBack d ∎ (by rw[aP,<-e];show l) ∎ (by rw[f];show⟨_,w,q⟩)
theorem qJu(lo hi:Option Int)(n:Nat):(sliceBounds lo hi Sb n).1=((HT.sIx n 0 lo:Nat):Int)/\(sliceBounds lo hi Sb n).2.1=((HT.sIx n n hi:Nat):Int)/\(sliceBounds lo hi Sb n).2.2=1:=by
 show⟨?_,?_,rfl⟩
 .cases lo with
  |none=>simp[sliceBounds,HT.sIx]
  |some i=>
   simp only[sliceBounds,HT.sIx,Option.getD_none,show(1:Int)>0 by decide,if_true];by_cases h:i<0
   .simp only[h,if_true]<;>lia
   .simp only[h,if_false]<;>lia
 .cases hi with
  |none=>simp[sliceBounds,HT.sIx]
  |some i=>
   simp only[sliceBounds,HT.sIx,Option.getD_none,show(1:Int)>0 by decide,if_true];by_cases h:i<0
   .simp only[h,if_true]<;>lia
   .simp only[h,if_false]<;>lia
theorem qI5(its:List Se)(lo hi:Option Int):slicePick its.toArray lo hi Sb=((its.drop (HT.sIx its.length 0 lo)).take (HT.sIx its.length its.length hi-HT.sIx its.length 0 lo)).toArray:=by
 let⟨a,b,c⟩:=qJu lo hi its.toArray.size;unfold slicePick;rw[a,b,c];simp only[sliceRange_one,pick_run,aP]<;>rfl
def rSlL(K:SJ):V->Option Int->Option Int->Hp->VK->Prop:=λx lo hi H Q=>∃a xs,x=.ref a/\SqL K H a xs/\∀p,H p=Sb->Q (.ref p) (upd H p (.lst (cutV xs lo hi)))
theorem ym:SlR X (rSlL X.K):=by
 intro f s σ H x v t u lo e w Q I i j k l h;let⟨a,c,rfl,m,q⟩:=h;cases i;let⟨n,r,g,p⟩:=I.list m;let d:=r.length;show⟨"list",_,slot_list_getitem.lookup,g.isList.typeIs,?_⟩;show wpAny_getItem_list_slice g.isList j k l .none ∅ ?_ (by rw[aP]<;>lia);rw[qI5,<-d];show⟨.ref s.heap.objs.size,_,I.laid (t':=s.toks) (o:=.lst (cutV c lo e)) (λb y q=>aJ _ q) (aI _) ?_,rfl,q _ (I.hok.fresh (aI _))⟩;show⟨cH (oQ c lo e) p,_,0,(r.drop (HT.sIx c.length 0 lo)).take (HT.sIx c.length c.length e-HT.sIx c.length 0 lo),aW _ rfl⟩
noncomputable def flatV:V->Bool
 |.non=>Sc
 |.bl _=>Sc
 |.int _=>Sc
 |.str _=>Sc
 |_=>Sd
noncomputable def eqV:V->V->Bool
 |.non,.non=>Sc
 |.bl a,.bl b=>a == b
 |.bl a,.int b=>(if a then 1 else 0) == b
 |.int a,.bl b=>a == (if b then 1 else 0)
 |.int a,.int b=>a == b
 |.str a,.str b=>a == b
 |_,_=>Sd
theorem qZn(e:RelV y u)(c:RelV x v)(g:flatV y=Sc)(f:flatV x=Sc):SeqAt.EqAt A s u v (eqV y x):=by
 cases y with
 |non=>
  cases e;cases x with
  |non=>cases c;show SeqAt.EqAt.same _
  |bl b=>cases c;show SeqAt.EqAt.none_bool b
  |int b=>obtain⟨t,rfl⟩:=c;show SeqAt.EqAt.none_int b t
  |str b=>obtain⟨t,rfl⟩:=c;show SeqAt.EqAt.none_str b t
  |_=>show absurd (show Sd=Sc from f) aL
 |bl a=>
  cases e;cases x with
  |non=>cases c;show SeqAt.EqAt.bool_none a
  |bl b=>cases c;show SeqAt.EqAt.bool_bool a b
  |int b=>obtain⟨t,rfl⟩:=c;show SeqAt.EqAt.bool_int a b t
  |str b=>obtain⟨t,rfl⟩:=c;show SeqAt.EqAt.bool_str a b t
  |_=>show absurd (show Sd=Sc from f) aL
 |int a=>
  let⟨d,rfl⟩:=e;cases x with
  |non=>cases c;show SeqAt.EqAt.int_none a d
  |bl b=>cases c;show SeqAt.EqAt.int_bool a d b
  |int b=>obtain⟨t,rfl⟩:=c;show SeqAt.EqAt.int_int a d b t
  |str b=>obtain⟨t,rfl⟩:=c;show SeqAt.EqAt.int_str a d b t
  |_=>show absurd (show Sd=Sc from f) aL
 |str a=>
  let⟨d,rfl⟩:=e;cases x with
  |non=>cases c;show SeqAt.EqAt.str_none a d
  |bl b=>cases c;show SeqAt.EqAt.str_bool a d b
  |int b=>obtain⟨t,rfl⟩:=c;show SeqAt.EqAt.str_int a d b t
  |str b=>obtain⟨t,rfl⟩:=c;show SeqAt.EqAt.str_str a d b t
  |_=>show absurd (show Sd=Sc from f) aL
 |_=>show absurd (show Sd=Sc from g) aL
noncomputable def eqU(x:V)(u:Se):Bool:=match u with
 |.none=>eqV .non x
 |.bool b=>eqV (.bl b) x
 |.int i _=>eqV (.int i) x
 |.str z _=>eqV (.str z) x
 |_=>Sd
theorem oV(r:RelV y u)(f:flatV y=Sc):eqU x u=eqV y x:=by
 cases y with
 |non=>cases r;rfl
 |bl b=>cases r;rfl
 |int i=>obtain⟨t,rfl⟩:=r;rfl
 |str z=>obtain⟨t,rfl⟩:=r;rfl
 |_=>show absurd (show Sd=Sc from f) aL
theorem uo(h:Vals xs us)(f:xs.all flatV=Sc):us.any (eqU x)=xs.any λy=>eqV y x:=by
 induction h with
 |nil=>rfl
 |cons r t a=>
  rw[List.all_cons,bT]at f;rw[gM,gM,oV r f.1,a f.2]
theorem uq(a:RelV x v)(b:flatV x=Sc)(h:Vals xs us)(f:xs.all flatV=Sc):∀u∈us,SeqAt.EqAt A s u v (eqU x u):=by
 induction h with
 |nil=>intro u hu;cases hu
 |cons r t c=>
  intro d hu;rw[List.all_cons,bT]at f;rcases aM.mp hu with rfl|hu
  .rw [oV r f.1];show qZn r a f.1 b
  .exact c f.2 d hu
noncomputable def inV(x:V)(xs:List V):Bool:=xs.any λy=>eqV y x
def rIn(K:SJ)(neg:Bool):R2:=λx y H Q=>∃p xs,y=.ref p/\(SqL K H p xs\/SqT K H p xs)/\flatV x=Sc/\xs.all flatV=Sc/\Q (.bl (if neg then !inV x xs else inV x xs)) H
theorem xH:OpR X (SC .In) (rIn X.K Sd):=by
 intro d s σ H x y v u Q I e g h;let⟨p,j,rfl,hq,f,fs,q⟩:=h;cases g;rcases hq with hq|hq
 .let⟨a,r,b,i⟩:=I.list hq;show SeqAt.in_listAt (eqU x) b.isList (λw c=>uq e f r fs w (by simpa using c)) ⟨.bl _,H,I,rfl,?_⟩;rw[show a.toArray.any (eqU x)=a.any (eqU x)by simp,uo r fs];show q
 .let⟨a,r,b,i⟩:=I.tuple hq;show SeqAt.in_tupleAt (eqU x) b (λw c=>uq e f r fs w (by simpa using c)) ⟨.bl _,H,I,rfl,?_⟩;rw[show a.toArray.any (eqU x)=a.any (eqU x)by simp,uo r fs];show q
theorem qKh:OpR X (SC .NotIn) (rIn X.K Sc):=by
 intro d s σ H x y v u Q I e g h;let⟨p,j,rfl,hq,f,fs,q⟩:=h;cases g;rcases hq with hq|hq
 .let⟨a,r,b,i⟩:=I.list hq;show SeqAt.notIn_listAt (eqU x) b.isList (λw c=>uq e f r fs w (by simpa using c)) ⟨.bl _,H,I,rfl,?_⟩;rw[show a.toArray.any (eqU x)=a.any (eqU x)by simp,uo r fs];show q
 .let⟨a,r,b,i⟩:=I.tuple hq;show SeqAt.notIn_tupleAt (eqU x) b (λw c=>uq e f r fs w (by simpa using c)) ⟨.bl _,H,I,rfl,?_⟩;rw[show a.toArray.any (eqU x)=a.any (eqU x)by simp,uo r fs];show q
theorem yn:CallR X (.builtin "len") (λxs H Q=>∃p ys,xs=[.ref p]/\(SqL X.K H p ys\/SqT X.K H p ys)/\Q (.int ys.length) H):=by
 intro e s σ H xs i Q I r h;let⟨p,ys,rfl,hq,q⟩:=h;let⟨u,rfl,f⟩:=vals1 r;cases f;let j:=vU;rcases hq with hq|hq
 .let⟨b,c,d,g⟩:=I.list hq;let a:=c.length;show Calls.call_len_list d.isList (by simp only[aP]<;>lia) ⟨.int ys.length,H,I.tok _,⟨s.toks+1,by rw[aP,a]⟩,q⟩
 .let⟨b,c,d,g⟩:=I.tuple hq;let a:=c.length;show len_tuple d (by simp only[aP]<;>lia) ⟨.int ys.length,H,I.tok _,⟨s.toks+1,by rw[aP,a]⟩,q⟩
theorem wI:CallR X (.type "list") (λxs H Q=>∃p ys,xs=[.ref p]/\(SqL X.K H p ys\/SqT X.K H p ys)/\∀l,H l=Sb->Q (.ref l) (upd H l (.lst ys))):=by
 intro g s σ H xs B Q I r h;let⟨p,ys,rfl,hq,q⟩:=h;let⟨u,rfl,A⟩:=vals1 r;cases A;let i:∀(a:List Se),Vals ys a->ys.length<=Sn -> ∀(c:Sk) (d:Nat),(∀b z,s.heap.get? b=Sa z->c.get? b=Sa z) ->
   c.get? s.heap.objs.size=Sa {cls:=.type "list",dict:=Sb,data:=.seq a.toArray d,slots:=#[]}->EP X g σ Q (.ref s.heap.objs.size) {s with heap:=c}:=λa f j c d k e=>
  ⟨.ref s.heap.objs.size,_,I.laid (t':=s.toks) k (aI _) (show ObjOk X.prog X.w _ c _ (.lst ys)from⟨j,a,d,f,e⟩),rfl,q _ (I.hok.fresh (aI _))⟩
 rcases hq with hq|hq
 .let⟨a,f,t,j⟩:=I.list hq;let m:=f.length;let⟨o,v,x,n,y⟩:=t.isList;show call_list_seq p (.inl rfl) v x y (λc d k e=>i a f j c d k e) (by simp only[aP]<;>lia)
 .let⟨a,f,t,j⟩:=I.tuple hq;let m:=f.length;let⟨o,v,x,n,y⟩:=t;show call_list_seq p (.inr rfl) v x y (λc d k e=>i a f j c d k e) (by simp only[aP]<;>lia)
def tyV(K:SJ)(T:String)(x:V)(H:Hp):Prop:=match x with
 |.str _=>T="str"
 |.int _=>T="int"
 | .ref p=>(T = "list" /\ ∃xs,SqL K H p xs)\/(T = "tuple" /\ ∃o,K.lookup p=Sa o/\o.cls = .type "tuple" /\ o.dict=Sb) \/
   (T="dict"/\((∃kvs,H p=Sa (.dK kvs))\/∃kvs,H p=Sa (.dT kvs)))\/(T="set"/\∃S n,H p=Sa (.set S n))
 |_=>False
theorem oW{f:List (Sf×Ss)}{σ:St}{H:Hp}{s:Sg}{T:String}{x:V}{v:Se}(I:Inv X f σ H s)(r:RelV x v)(ty:tyV X.K T x H):s.TypeIs v T/\∀a,v=.ref a->∃ob,s.heap.get? a=Sa ob/\ob.dict=Sb:=by
 cases x with
 |str z=>
  let⟨t,rfl⟩:=r;cases (show T="str" from ty);show⟨typeIs_str s z t,λ_ e=>nomatch e⟩
 |int i=>
  let⟨t,rfl⟩:=r;cases (show T="int" from ty);show⟨typeIs_int s i t,λ_ e=>nomatch e⟩
 |ref p=>
  cases r;rcases ty with ⟨rfl,u,l⟩|⟨rfl,o,b,m,g⟩|⟨rfl,b⟩|⟨rfl,S,n,b⟩
  .let⟨q,_,k,_⟩:=I.list l;show⟨k.isList.typeIs,λa e=>?_⟩;cases e;let⟨o,n,e,c,g,_⟩:=k;show⟨o,e,g⟩
  .refine⟨⟨o,I.kIn p o b,m⟩,λa e=>?_⟩;cases e;show⟨o,I.kIn _ o b,g⟩
  .let z:∃o,s.heap.get? p=Sa o/\o.ExactDict:=by
    rcases b with ⟨h,b⟩|⟨h,b⟩
    .let⟨_,_,_,_,o,_,_,e,d,_⟩:=I.hok p _ b;show⟨o,e,d⟩
    .let⟨_,_,_,_,o,_,_,e,d,_⟩:=I.hok p _ b;show⟨o,e,d⟩
   let⟨o,e,d⟩:=z;show⟨⟨o,e,d.1⟩,λa j=>?_⟩;cases j;show⟨o,e,d.2.1⟩
  .let⟨o,_,_,_,e,d,_⟩:=I.hok p _ b;show⟨⟨o,e,d.1⟩,λa j=>?_⟩;cases j;show⟨o,e,d.2.1⟩
 |_=>show False.elim ty
def tBM0(K:SJ)(T:String)(r:V->List V->Hp->VK->Prop)(to:TE):TE:=λσ H Q=>to σ H λx H1=>tyV K T x H1/\r x [] H1 Q
def tBM(K:SJ)(T:String)(r:V->List V->Hp->VK->Prop)(to:TE)(t:TA):TE:=λσ H Q=>to σ H λx H1=>tyV K T x H1/\t σ H1 λxs H2=>r x xs H2 Q
variable{o e:Sl}{es:List Sl}{to:TE}{t:TA}{name:Str}{apos cpos:Sx}{T id:String}{r:V->List V->Hp->VK->Prop}
theorem oX(g:PlainAttrs T)(slot:Slot T name id)(d:typeOf (.builtin id)=pure (.type "method_descriptor"))(i:MtR X id r)(j:PE X o to)
  (b:attributeBase o name X.env (Sw o X.env)=Sw o X.env:=by rfl) (c:(apos.endLine == cpos.line)=Sc:=by rfl):PE X (.Call (.Attribute o name apos) [] [] cpos) (tBM0 X.K T r to):=by
 intro a s σ H Q I h;show wpAny_Call_method0_late b c (thn (j a s σ H _ I h) λv k hq_=>?_);let⟨x,l,e,f,ty,m⟩:=hq_;let⟨n,p⟩:=oW e f ty;show⟨T,id,g,slot,d,n,p,fF rfl (PySem.evalArgs_none (i a k σ l x [] v [] Q e f .nil m))⟩
theorem yU(l:PlainAttrs T)(slot:Slot T name id)(g:typeOf (.builtin id)=pure (.type "method_descriptor"))(m:MtR X id r)(n:PE X o to)(p:PA X (e::es) t)
  (c:attributeBase o name X.env (Sw o X.env)=Sw o X.env:=by rfl)
  (f:((backTo cpos (Sv (e::es) X.env)).all (λx => !x.1)&&(backToKw cpos (keywordEach [] X.env)).all (λx=>x.1.isSome)
   && decide ((e::es).length+([]:List Keyword).length+(if ([]:List Keyword).isEmpty then 0 else 1)<30))=Sc:=by rfl)
  (d:(apos.endLine == cpos.line)=Sc:=by rfl) (q:Sv (e::es) X.env=(Sd,Sw e X.env)::Sv es X.env:=by rfl) (b:(backTo cpos (Sv es X.env)).any (·.1)=Sd:=by rfl) :
  PE X (.Call (.Attribute o name apos) (e::es) [] cpos) (tBM X.K T r to t):=by
 intro a s σ H Q I h;show wpAny_Call_method_late c f d rfl (thn (n a s σ H _ I h) λv u hq_=>?_);let⟨x,w,i,j,ty,y⟩:=hq_;let⟨z,A⟩:=oW i j ty;show⟨T,id,l,slot,g,z,A,?_⟩;let k:=p cpos a u σ w _ i y;rw[q]at k ⊢;show fF (by change(Sd||(backTo cpos (Sv es X.env)).any (·.1))=Sd;rw[b]<;>rfl) (gO ?_);show thn k λB C hq_=>?_;let⟨D,E,F,G,J⟩:=hq_;show m a C σ E x D v B Q F j G J
end
def MtM(X:Cx)(id:String)(r:V->List V->Hp->VK->Prop):Prop:=
 ∀(pins:List (Sf×Ss)) (s:Sg) (σ : St) (H:Hp) (x:V) (xs:List V) (v:Se) (us:List Se) (Q:VK),Inv X pins σ H s->RelV x v->Vals xs us->r x xs H Q ->
  Sm (So X.prog X.w) X.A (call (.builtin id) (v::us)) (EP X pins σ Q) X.xe s
theorem Vals.one(h:Vals [x] us):∃u,us=[u]/\RelV x u:=by
 cases h with|cons r t=>cases t;show⟨_,rfl,r⟩
theorem Vals.two(h:Vals [x,y] us):∃u v,us=[u,v]/\RelV x u/\RelV y v:=by
 cases h with|cons r t=>cases t with|cons q t=>cases t;show⟨_,_,rfl,r,q⟩
theorem Vals.zero:∀ {us:List Se},Vals [] us->us = []
 |_,.nil=>rfl
theorem Vals.dropLast(h:Vals xs us):Vals xs.dropLast us.dropLast:=by
 induction h with
 |nil=>show .nil
 |cons r t a=>
  cases t with
  |nil=>show .nil
  |cons q b=>show .cons r a
theorem Vals.reverse(h:Vals xs us):Vals xs.reverse us.reverse:=by
 induction h with
 |nil=>show .nil
 |cons r t a=>rw[List.reverse_cons,List.reverse_cons];show Vals.append a (.cons r .nil)
theorem Vals.rep(h:Vals xs us):∀k:Nat,Vals (List.replicate k xs).flatten (List.replicate k us).flatten
 |0=>.nil
 |k+1=>by
  rw[eL,eL,List.flatten_cons,List.flatten_cons];show Vals.append h (Vals.rep h k)
theorem qOq{α:Type}(l:List α):l.eraseIdx (l.length-1)=l.dropLast:=by
 induction l with
 |nil=>rfl
 |cons a r c=>
  cases r with
  |nil=>rfl
  |cons b r=>
   let e:(a::b::r).length-1=((b::r).length-1)+1:=by
    let d:(a::b::r).length=r.length+2:=rfl;let f:(b::r).length=r.length+1:=rfl;lia
   rw[e,List.eraseIdx_cons_succ,c]
   all_goals rfl
theorem oY(its:List Se):∀(k:Nat)(a:List Se),
  List.foldl (λx1 x2=>x1++x2) a.toArray (List.replicate k its.toArray)=(a++(List.replicate k its).flatten).toArray
 |0,a=>by simp
 |k+1,a=>by
  let e:a.toArray++its.toArray=(a++its).toArray:=by simp
  let b:(a++its)++(List.replicate k its).flatten=a++(List.replicate (k+1) its).flatten:=by
   rw[eL,List.flatten_cons,fR]
  rw[<-b,<-oY its k (a++its),<-e,eL,gD]
theorem Inv.lset{its its':List Se}{n:Nat}{f:Array Se->Array Se}{t':Nat}(I:Inv X pins σ H s)(a:H l=Sa (.lst xs))
  (e:s.heap.get? l=Sa {cls:=.type "list",data:=.seq its.toArray n}) (b:f its.toArray=its'.toArray) (c:Vals ys its') (d:ys.length<=Sn) :
  Inv X pins σ (upd H l (.lst ys)) {s with heap:=s.heap.update l (Obj.mapSeq f),toks:=t'}:=by
 let q:=PySem.IsL.update e f;rw[b]at q;show I.write (x:=l) (e:=l) (by rw[a];show trivial) (.inl rfl) (λi u g h=>(cX s.heap (Obj.mapSeq f) (eI g)).trans h) ⟨_,q⟩ ?_;show⟨d,its',_,c,q⟩
theorem Inv.lnew{t':Nat}(I:Inv X pins σ H s)(a:Vals ys its)(hz:ys.length<=Sn):Inv X pins σ (upd H s.heap.objs.size (.lst ys)) {s with heap:=s.heap.push {cls:=.type "list",data:=.seq its.toArray},toks:=t'}:=
 I.laid (λ_ _ q=>aJ _ q) (aI _) ⟨hz,its,0,a,aW _ rfl⟩
theorem Inv.fresh(I:Inv X pins σ H s):H s.heap.objs.size=Sb:=I.hok.fresh (aI _)
theorem Inv.lstM(I:Inv X pins σ H s)(a:H l=Sa (.lst xs)):xs.length<=Sn/\∃(its:List Se)(n:Nat),Vals xs its/\xs.length=its.length/\s.heap.get? l=Sa {cls:=.type "list",data:=.seq its.toArray n}:=by
 let⟨z,its,n,r,e⟩:=I.hok l _ a;show⟨z,its,n,r,r.length,e⟩
theorem oZ{n:Nat}(h:n<=Sn):Builtin.List.listTooLong n=Sd:=by
 unfold Builtin.List.listTooLong;show decide_eq_false ∎
def oj:V->List V->Hp->VK->Prop:=λx vs H Q=>∃l xs y,x=.ref l/\vs=[y]/\H l=Sa (.lst xs)/\xs.length<Sn/\Q .non (upd H l (.lst (xs++[y])))
theorem yh:MtM X "list.append" oj:=by
 intro b s σ H x i v j Q I d f h;let⟨l,k,y,rfl,rfl,c,m,q⟩:=h;cases d;let⟨u,rfl,g⟩:=f.one;let⟨z,a,n,r,o,e⟩:=I.lstM c;show call_meets F.slot_list_append ⟨_,e,rfl⟩ F.entry_list_append (F.args_list_append_2 _ _) (PySem.list_append l a.toArray n u (by rw[aP];lia)) ⟨e,?_⟩;show⟨.non,_,I.lset (its':=a++[u]) c e ∅ (r.append (.cons g .nil)) ?_,rfl,q⟩;rw[aF,bF];lia
def om:V->List V->Hp->VK->Prop:=λx vs H Q=>∃l b xs zs,x=.ref l/\vs=[.ref b]/\H l=Sa (.lst xs)/\H b=Sa (.lst zs)/\xs.length+zs.length<=Sn/\Q .non (upd H l (.lst (xs++zs)))
theorem ky:MtM X "list.extend" om:=by
 intro f s σ H x y v A Q I i j h;let⟨l,b,B,C,rfl,rfl,g,k,D,q⟩:=h;cases i;let⟨u,rfl,m⟩:=j.one;cases m;let⟨z,a,n,r,E,e⟩:=I.lstM g;let⟨G,its2,o,p,t,w⟩:=I.lstM k;let d:a.toArray.size+its2.toArray.size<=Sn:=by rw[aP,aP];lia
 let c:¬(!a.toArray.isEmpty&&Builtin.List.listTooLong (a.toArray.size+its2.toArray.size))=Sc:=by
  rw[oZ d,Bool.and_false];show aL
 refine call_meets F.slot_list_extend ⟨_,e,rfl⟩ F.entry_list_extend (F.args_list_extend_2 _ _)
  (AutoSeq1.list_extend_list_list_0 l a.toArray n b its2.toArray o c (by rw[aP];lia) ∎) ⟨e,w,?_⟩
 show⟨.non,_,I.lset (its':=a++its2) g e ∅ (r.append p) ?_,rfl,q⟩;rw[aF];lia
def rPop:V->List V->Hp->VK->Prop:=λx vs H Q=>∃l xs y,x=.ref l/\vs=[]/\H l=Sa (.lst xs)/\xs[xs.length-1]? = Sa y/\Q y (upd H l (.lst xs.dropLast))
theorem on:MtM X "list.pop" rPop:=by
 intro d s σ H x p v t Q I g i h;let⟨l,w,y,rfl,rfl,f,j,q⟩:=h;cases g;let b:=i.zero;subst b;let⟨z,a,n,r,k,e⟩:=I.lstM f;let⟨u,m,o⟩:=r.get j;let c:a.toArray[a.toArray.size-1]? = Sa u:=by
  change a.toArray[a.length-1]? = Sa u;rw[<-bN,<-k];show m
 show call_meets F.slot_list_pop ⟨_,e,rfl⟩ F.entry_list_pop (F.args_list_pop_1 _) (MeetsSeq.list_pop_last l a.toArray n u c (by rw[aP];lia)) ⟨e,?_⟩;show⟨y,_,I.lset (its':=a.dropLast) f e ?_ r.dropLast ?_,o,q⟩
 .show a.toArray.eraseIdxIfInBounds (a.toArray.size-1)=a.dropLast.toArray;rw[aP,List.eraseIdxIfInBounds_toArray,qOq]
 .rw [List.length_dropLast];lia
def rCat:R2:=λx y H Q=>∃l b xs zs,x=.ref l/\y=.ref b/\H l=Sa (.lst xs)/\H b=Sa (.lst zs)/\xs.length+zs.length<=Sn/\∀p,H p=Sb->Q (.ref p) (upd H p (.lst (xs++zs)))
theorem wn:OpR X (SB .Add) rCat:=by
 intro c s σ H x y v u Q I d f h;let⟨l,b,p,t,rfl,rfl,g,i,w,q⟩:=h;cases d;cases f;let⟨z,a,n,r,A,e⟩:=I.lstM g;let⟨B,its2,C,j,k,m⟩:=I.lstM i;show PySem.P.add_list e m ?_ (by rw[aP,aP];lia);let o:a.toArray++its2.toArray=(a++its2).toArray:=by simp
 rw[o];show⟨.ref _,_,I.lnew (t':=s.toks) (r.append j) (by rw[aF];lia),rfl,q _ I.fresh⟩
def rRep:R2:=λx y H Q => ∃l k xs,x = .ref l/\y = .int k/\H l=Sa (.lst xs) /\ -(2^63)<=k/\k<2^63/\xs.length*k.toNat<=Sn /\
 ∀p,H p=Sb->Q (.ref p) (upd H p (.lst (List.replicate k.toNat xs).flatten))
theorem oq{α:Type}(xs:List α)(k:Nat):(List.replicate k xs).flatten.length=k*xs.length:=by
 induction k with
 |zero=>simp
 |succ k a=>rw[eL,List.flatten_cons,aF,a,Nat.succ_mul,Nat.add_comm]
theorem ot:OpR X (SB .Mult) rRep:=by
 intro o s σ H x y v u Q I w A h;let⟨l,k,K,rfl,rfl,B,C,D,p,q⟩:=h;cases w;let⟨t,rfl⟩:=A;let⟨z,b,n,r,E,e⟩:=I.lstM B;let d:b.toArray.size*k.toNat<=Sn:=by rw[aP,<-E];show p
 let f:¬b.toArray.size*k.toNat>(2^63-1) / 8:=by
  let:(Sn:Nat)<=(2^63-1) / 8:=by decide
  lia
 let g:¬(!Builtin.List.listFitsIndex k)=Sc:=by
  rw[fitsIndex_both C D];show aL
 let c:¬Builtin.List.listTooLong (b.toArray.size*k.toNat)=Sc:=by
  rw[oZ d];show aL
 let i:List.foldl (λj x2=>j++x2) #[] (List.replicate (if b.toArray.isEmpty=Sc then 0 else k.toNat) b.toArray)=(List.replicate k.toNat b).flatten.toArray:=by
  let G:∀m:Nat,List.foldl (λj x2=>j++x2) #[] (List.replicate m b.toArray)=(List.replicate m b).flatten.toArray:=λm=>by
   let:=oY b m [];rw[List.nil_append]at this;show this
  rw[G];cases b with
  |nil=>simp
  |cons a L=>rw[if_neg ∅]
 refine wpAny_binaryOp_repeat_ref (T := "list") (U := "int") ⋯ ⟨_,e,rfl⟩ (λJ=>typeIs_int J k t) noFill_list_mul F.fills_int_mul F.slot_int_rmul repeat_list F.slot_int_index.lookup
  (call_meets F.slot_int_rmul (typeIs_int s k t) F.entry_int_rmul (F.args_int_rmul_2 _ _) (int___rmul___int_list k t l b.toArray n)
   ⟨e,rfl,⟨_,e,rfl⟩,call_meets F.slot_list_mul ⟨_,e,rfl⟩ F.entry_list_mul (F.args_list_mul_2 _ _) (AutoListH.list___mul___list_int_3 l b.toArray n k t g f c) ⟨e,?_⟩⟩)
 rw[i];show⟨.ref _,_,I.lnew (t':=s.toks) (r.rep k.toNat) (by rw[oq,Nat.mul_comm];show p),rfl,q _ I.fresh⟩
section
variable[DecidableEq κ]
noncomputable def valV(kvs:List (κ×V))(k:κ):Option V:=(kvs.find? λkv=>decide (kv.1=k)).map (·.2)
noncomputable def putK(kvs:List (κ×V))(k:κ)(v:V):List (κ×V):=if (kvs.any λkv=>decide (kv.1=k))=Sc then kvs.map (λkv=>if kv.1=k then (kv.1,v)else kv)else kvs++[(k,v)]
theorem yp{p:κ×V}{r:List (κ×V)}{k:κ}(e:p.1=k):valV (p::r) k=Sa p.2:=by simp[valV,gE,e]
theorem yq{k:κ}(e:¬p.1=k):valV (p::r) k=valV r k:=by simp[valV,gE,e]
theorem wp(k : κ):∀kvs:List (κ × V),(kvs.any λa=>decide (a.1=k))=(valV kvs k).isSome
 |[]=>rfl
 |p::r=>by
  rw[gM];by_cases e:p.1=k
  .simp only[yp e,decide_eq_true e,Bool.true_or,Option.isSome_some]
  .rw [yq e,decide_eq_false e,Bool.false_or];show wp k r
theorem ou(k j : κ)(y:V):∀kvs:List (κ × V),valV (kvs.map λa=>if a.1=k then (a.1,y) else a) j=(valV kvs j).map λx=>if j=k then y else x
 |[]=>rfl
 |p::r=>by
  let b:=ou k j y r;rw[bJ];by_cases h:p.1=k
  .rw [if_pos h];by_cases e:p.1=j
   .rw [yp (p:=(p.1,y)) e,yp e,fO,if_pos (e.symm.trans h)]
   .rw [yq (p:=(p.1,y)) e,yq e,b]
  .rw [if_neg h];by_cases e:p.1=j
   .rw [yp (p:=p) e,yp e,fO,if_neg (λz=>h (e.trans z))]
   .rw [yq (p:=p) e,yq e,b]
theorem ow(k j : κ)(y:V):∀kvs:List (κ × V),valV kvs k=Sb->valV (kvs ++ [(k,y)]) j=if j=k then Sa y else valV kvs j
 |[],_=>by
  by_cases e:k=j
  .rw [if_pos e.symm];show yp (p:=(k,y)) e
  .rw [if_neg (λz=>e z.symm)];show yq (p:=(k,y)) e
 |p::r,a=>by
  rw[List.cons_append];let b:¬p.1=k:=λz=>by rw[yp z]at a;cases a
  rw[yq b]at a;let c:=ow k j y r a;by_cases e:p.1=j
  .rw [yp e,yp e,if_neg (λz=>b (e.trans z))]
  .rw [yq e,yq e,c]
theorem xP(kvs:List (κ×V))(k j:κ)(y:V):valV (putK kvs k y) j=if j=k then Sa y else valV kvs j:=by
 unfold putK;by_cases a:(kvs.any λb=>decide (b.1=k))=Sc
 .rw [if_pos a,ou];rw[wp]at a;by_cases e:j=k
  .let⟨x,c⟩:=Option.isSome_iff_exists.mp a;rw[if_pos e,e,c,fO,if_pos rfl]
  .rw [if_neg e];cases valV kvs j with
   |none=>rfl
   |some x=>rw[fO,if_neg e]
 .rw [if_neg a];show ow k j y kvs ?_;rw[wp]at a;cases q:valV kvs k with
  |none=>rfl
  |some x=>rw[q]at a;show(a rfl).elim
theorem xQ(kvs:List (κ×V))(k:κ)(v:V):(putK kvs k v).length<=kvs.length+1:=by
 unfold putK;split
 .rw [aA];lia
 .rw [aF,bK,List.length_nil];lia
theorem vV{k:κ}(v:V)(h:valV kvs k=Sb):putK kvs k v=kvs++[(k,v)]:=by
 unfold putK;rw[wp,h];show if_neg ⋯
theorem RelO.isSome_eq(r:RelO o u):o.isSome=u.isSome:=by
 cases o with
 |none=>cases u with
  |none=>rfl
  |some _=>show(show False from r).elim
 |some _=>cases u with
  |none=>show(show False from r).elim
  |some _=>rfl
theorem RelO.getD(r:RelO o u)(rd:RelV d d'):RelV (o.getD d) (u.getD d'):=by
 cases o with
 |none=>cases u with
  |none=>show rd
  |some _=>show(show False from r).elim
 |some _=>cases u with
  |none=>show(show False from r).elim
  |some _=>show r
theorem KV.val(r:KV kvs vs)(k:κ):RelO (valV kvs k) (valueAt vs k):=by
 unfold KV at r
 induction r with
 |nil=>show True.intro
 |@cons p q i a h t f=>
  let⟨d,g⟩:=h;by_cases e:p.1=k
  .let c:q.1=k:=d.symm.trans e;let b:valueAt (q::a) k=Sa q.2:=by simp[valueAt,gE,c]
   rw[yp e,b];show g
  .let c:¬q.1=k:=λz=>e (d.trans z);let b:valueAt (q::a) k=valueAt a k:=by simp[valueAt,gE,c]
   rw[yq e,b];show f
theorem KV.any(r:KV kvs vs)(k:κ):(kvs.any λa=>decide (a.1=k))=vs.any λa=>decide (a.1=k):=by
 unfold KV at r
 induction r with
 |nil=>rfl
 |cons h t b=>rw[gM,gM,b,h.1]
theorem KV.repl(r:KV kvs vs)(k:κ)(c:RelV y u):KV (kvs.map λa=>if a.1=k then (a.1,y)else a) (vs.map λa=>if a.1=k then (a.1,u)else a):=by
 unfold KV at r ⊢
 induction r with
 |nil=>show .nil
 |@cons p q g i h t d=>
  rw[bJ,bJ];show .cons ?_ d;let⟨b,f⟩:=h;by_cases e:p.1=k
  .rw [if_pos e,if_pos (b.symm.trans e)];show⟨b,c⟩
  .rw [if_neg e,if_neg (λz=>e (b.trans z))];show⟨b,f⟩
theorem KV.put(r:KV kvs vs)(k:κ)(a:RelV y u):KV (putK kvs k y) (stored vs k u):=by
 unfold putK stored;rw[r.any k];by_cases e:(vs.any λb=>decide (b.1=k))=Sc
 .rw [if_pos e,if_pos e];show r.repl k a
 .rw [if_neg e,if_neg e];show Paired.snoc r ⟨rfl,a⟩
theorem KV.keys{kvs:List (κ×V)}{vs:List (κ×Se)}(r:KV kvs vs):kvs.map (·.1)=vs.map (·.1):=by
 unfold KV at r
 induction r with
 |nil=>rfl
 |cons h t a=>rw[bJ,bJ,a,h.1]
theorem KV.length{kvs:List (κ×V)}{vs:List (κ×Se)}(r:KV kvs vs):kvs.length=vs.length:=fI r
end
theorem xR{k:Key}(r:RelV (kV k) u):(zy P w).is k u=Sc:=by
 cases k with
 |inl i=>obtain⟨t,e⟩:=(show ∃t,u=Value.int i t from r);subst e;show qM1 P w i t
 |inr x=>obtain⟨t,e⟩:=(show ∃t,u=Value.str x t from r);subst e;show qM0 P w x t
theorem ox:∀ {ks:List Key} {us:List Se},Vals (ks.map kV) us->ItemsAre (zy P w) ks us
 |[],_,r=>by rw[fW]at r;cases r;show .nil
 |k::ks,_,r=>by
  rw[bJ]at r;cases r with
  |cons h t=>show .cons (xR h) (ox t)
abbrev KT(H:Hp):List (List Key×V)->List (List Key×Sf×Se)->Prop:=Paired λp q=>p.1=q.1/\H q.2.1=Sa (.tup (p.1.map kV))/\RelV p.2 q.2.2
theorem KT.val(r:KT H kvs xs)(k:List Key):RelO (valV kvs k) ((atKey xs k).map (·.2)):=by
 induction r with
 |nil=>show True.intro
 |@cons p q i a h t f=>
  let⟨d,_,g⟩:=h;by_cases e:p.1=k
  .let c:q.1=k:=d.symm.trans e;let b:atKey (q::a) k=Sa q.2:=by simp[atKey,gE,c]
   rw[yp e,b];show g
  .let c:¬q.1=k:=λz=>e (d.trans z);let b:atKey (q::a) k=atKey a k:=by simp[atKey,gE,c]
   rw[yq e,b];show f
theorem KT.repl(r:KT H kvs xs)(k:List Key)(d:RelV y u):KT H (kvs.map λb=>if b.1=k then (b.1,y)else b) (xs.map (putAt k u)):=by
 induction r with
 |nil=>show .nil
 |@cons p q i j h t f=>
  rw[bJ,bJ];show .cons ?_ f;let⟨a,c,g⟩:=h;unfold putAt;by_cases e:p.1=k
  .rw [if_pos e,if_pos (a.symm.trans e)];show⟨a,c,d⟩
  .rw [if_neg e,if_neg (λz=>e (a.trans z))];show⟨a,c,g⟩
theorem KT.put(r:KT H kvs xs)(k:List Key)(c:H b=Sa (.tup (k.map kV)))(a:RelV y u):KT H (putK kvs k y) (storedH xs k b u):=by
 let e:(kvs.any λd=>decide (d.1=k))=(atKey xs k).isSome:=by
  rw[wp,(r.val k).isSome_eq,Option.isSome_map]
 unfold putK storedH;rw[e];by_cases q:(atKey xs k).isSome=Sc
 .rw [if_pos q,if_pos q];show r.repl k a
 .rw [if_neg q,if_neg q];show Paired.snoc r ⟨rfl,c,a⟩
theorem KT.keeps(r:KT H kvs xs)(c:∀b ys,H b=Sa (.tup ys)->a b=Sa (.tup ys)):KT a kvs xs:=Paired.mapP r λ_ _ z=>⟨z.1,c _ _ z.2.1,z.2.2⟩
theorem oy(ok:HOk P w H h)(e:Rd H a u):ObjOk P w H h a u:=e.ok ok
theorem xY(ok:HOk P w H h)(e:Rd H a (.dK kvs)):kvs.length<=Sn/\(a == SH)=Sd/\∃vs,KV kvs vs/\h.DictOf (zy P w) a vs:=show ObjOk P w H h a (.dK kvs)from oy ok e
theorem wq{kvs:List (Key×V)}(ok:HOk P w H h)(e:H a=Sa (.dK kvs)):kvs.length<=Sn/\(a == SH)=Sd/\∃vs,KV kvs vs/\h.DictOf (zy P w) a vs:=xY ok (.inl e)
theorem wJ(ok:HOk P w H h)(e:H a=Sa (.tup (ks.map kV))):(tupleKind (zy P w)).is h ks a:=by
 let⟨_,b,r,o,c,d,n,f⟩:=(show ObjOk P w H h a (.tup (ks.map kV))from ok a _ e);show⟨o,b.toArray,n,c,d,f,by simpa using ox r⟩
theorem wK(ok:HOk P w H h)(e:Rd H a (.dT kvs)):kvs.length<=Sn/\(a == SH)=Sd /\
  ∃xs,KT H kvs xs/\h.DictOfH (tupleKind (zy P w)) a xs:=by
 let⟨z,y,xs,r,o,c,d,f,g,i,j,k⟩:=(show ObjOk P w H h a (.dT kvs)from oy ok e);show⟨z,y,xs,r,o,c,d,f,g,i,j,λx hx=>?_,k⟩;let all:∀{l:List (List Key×V)}{m:List (List Key×Sf×Se)},KT H l m->∀x∈m,(tupleKind (zy P w)).is h x.1 x.2.1:=by
  intro l m q
  induction q with
  |nil=>intro x hx;show nomatch hx
  |@cons p q s u b t n=>
   intro x hx;rcases aM.mp hx with e|hx
   .subst e;show wJ ok (by rw[<-b.1];show b.2.1)
   .exact n x hx
 show all r x hx
theorem oz(ok:HOk P w H h)(e:H a=Sa (.dT kvs)):kvs.length<=Sn/\(a == SH)=Sd /\
  ∃xs,KT H kvs xs/\h.DictOfH (tupleKind (zy P w)) a xs:=wK ok (.inl e)
def DGet(H:Hp)(a:Sf)(y:V)(r:Option V):Prop:=(∃kvs k,Rd H a (.dK kvs)/\y=kV k/\r=valV kvs k)\/∃kvs k b,Rd H a (.dT kvs)/\y=.ref b/\H b=Sa (.tup (k.map kV))/\r=valV kvs k
def DPut(H:Hp)(a:Sf)(y v:V)(H':Hp):Prop:=
 (∃kvs k,H a=Sa (.dK kvs)/\y=kV k/\kvs.length<Sn/\H'=upd H a (.dK (putK kvs k v)))\/
 ∃kvs k b,H a=Sa (.dT kvs)/\y=.ref b/\H b=Sa (.tup (k.map kV))/\kvs.length<Sn/\H'=upd H a (.dT (putK kvs k v))
theorem DGet.k{k:Key}(e:H a=Sa (.dK kvs)):DGet H a (kV k) (valV kvs k):=.inl ⟨kvs,k,.inl e,rfl,rfl⟩
theorem DGet.t{k:List Key}(e:H a=Sa (.dT kvs))(c:H b=Sa (.tup (k.map kV))):DGet H a (.ref b) (valV kvs k):=.inr ⟨kvs,k,b,.inl e,rfl,c,rfl⟩
theorem DPut.k{k:Key}(e:H a=Sa (.dK kvs))(b:kvs.length<Sn):DPut H a (kV k) v (upd H a (.dK (putK kvs k v))):=.inl ⟨kvs,k,e,rfl,b,rfl⟩
theorem DPut.t{k:List Key}(e:H a=Sa (.dT kvs))(c:H b=Sa (.tup (k.map kV)))(d:kvs.length<Sn):DPut H a (.ref b) v (upd H a (.dT (putK kvs k v))):=.inr ⟨kvs,k,b,e,rfl,c,d,rfl⟩
theorem Inv.big(I:Inv X pins σ H s):SH<s.heap.objs.size:=by
 let h:Sq<s.heap.objs.size:=(I.mod.glob.keeps I.bk).lt;show Nat.lt_trans ⋯ h
theorem qSb(x:A.units+1<cLine)(I:Inv X pins σ H s)(g:DGet H a y (Sa v))(r:RelV y u)(h:∀f t,Inv X pins σ H t->RelV v f->Q f t):Sm (So X.prog X.w) A (getItem (.ref a) u) Q E s:=by
 rcases g with ⟨i,k,e,j,l⟩|⟨i,k,b,e,j,B,l⟩
 .subst j;let⟨z,C,D,c,m⟩:=xY I.hok e;let⟨f,n,d⟩:=RelO.some_of (v:=v) (o:=valueAt D k) (by rw[l];show c.val k);show wpAny_getItem_of (xR r) m.mapOf n (h f _ (I.tok _) d)
 .subst j;cases (show u=Value.ref b from r);let⟨z,C,F,c,m⟩:=wK I.hok e;let⟨f,n,d⟩:=RelO.some_of (v:=v) (o:=(atKey F k).map (·.2)) (by rw[l];show c.val k);let⟨p,G,q⟩:=Option.map_eq_some_iff.mp n;show wpAny_getItem_heap (eS x) (wJ I.hok B) m G ?_;rw[q];show h f _ (I.tok _) d
theorem d_in(p:A.units+1<cLine)(I:Inv X pins σ H s)(g:DGet H a y o)(m:RelV y u)(h:∀n,Inv X pins σ H n->Q (.bool o.isSome) n):Sm (So X.prog X.w) A (SC .In u (.ref a)) Q E s:=by
 rcases g with ⟨d,k,e,f,l⟩|⟨d,k,b,e,f,r,l⟩
 .subst f;let⟨z,i,t,c,j⟩:=xY I.hok e;show wpAny_in_of (xR m) i j.mapOf ?_;rw[<-(c.val k).isSome_eq,<-l];show h _ (I.tok _)
 .subst f;cases (show u=Value.ref b from m);let⟨z,i,v,c,j⟩:=wK I.hok e;show wpAny_in_heap (eS p) (wJ I.hok r) i j ?_;let q:=(c.val k).isSome_eq;rw[Option.isSome_map]at q;rw[<-q,<-l];show h _ (I.tok _)
theorem qXt(p:A.units+1<cLine)(I:Inv X pins σ H s)(g:DGet H a y o)(m:RelV y u)(h:∀n,Inv X pins σ H n->Q (.bool (!o.isSome)) n):Sm (So X.prog X.w) A (SC .NotIn u (.ref a)) Q E s:=by
 rcases g with ⟨d,k,e,f,l⟩|⟨d,k,b,e,f,r,l⟩
 .subst f;let⟨z,i,t,c,j⟩:=xY I.hok e;show wpAny_notIn_of (xR m) i j.mapOf ?_;rw[<-(c.val k).isSome_eq,<-l];show h _ (I.tok _)
 .subst f;cases (show u=Value.ref b from m);let⟨z,i,v,c,j⟩:=wK I.hok e;show wpAny_notIn_heap (eS p) (wJ I.hok r) i j ?_;let q:=(c.val k).isSome_eq;rw[Option.isSome_map]at q;rw[<-q,<-l];show h _ (I.tok _)
theorem wL{t':Nat}(I:Inv X pins σ H s)(mu:Mut (H a))(c:Heap.SameBut a s.heap h')(d:∃q,h'.get? a=Sa q)(new:ObjOk X.prog X.w (upd H a ob) h' a ob):Inv X pins σ (upd H a ob) {s with heap:=h',toks:=t'}:=
 I.write (x:=a) (e:=a) mu (.inl rfl) (λb q f z=>(c.2 b f).trans z) d new
theorem vW(z:kvs.length<=Sn)(hd:(a == SH)=Sd)(b:KV kvs vs)(d:h'.DictOf (zy P w) a vs):ObjOk P w c h' a (.dK kvs):=⟨z,hd,vs,b,d⟩
theorem qSa(M:A.units+1<cLine)(I:Inv X pins σ H s)(g:DPut H a y v C)(D:RelV y u)(F:RelV v r)(h:∀G,Inv X pins σ C G->Q () G):Sm (So X.prog X.w) A (setItem (.ref a) u r) Q E s:=by
 rcases g with ⟨d,k,e,m,l,n⟩|⟨d,k,b,e,m,J,l,n⟩
 .subst m n;let⟨z,o,N,f,p⟩:=wq I.hok e;let t:N.length<=Sn:=by rw[<-f.length];show z
  let x:(putK d k v).length<=Sn:=by let:=xQ d k v;lia
  show wpAny_setItem_pairs (hsz:=t) (xR D) p λK i B=>h _ ?_;let O:∃q,K.get? a=Sa q:=let ⟨q,_,_,j,_⟩:=i;⟨q,j⟩
  show wL I (by rw[e];show True.intro) B O (vW x o (f.put k F) i)
 .subst m n;cases (show u=Value.ref b from D);let⟨z,o,P,f,p⟩:=oz I.hok e;let t:P.length<=Sn:=by rw[<-fI f];show z
  let x:(putK d k v).length<=Sn:=by let:=xQ d k v;lia
  show wpAny_setItem_heap (hsz:=t) (eS M) (wJ I.hok J) p λK i B=>h _ ?_;let⟨q,R,S,j,T,U,V,_,W⟩:=i;show wL I (by rw[e];show True.intro) B ⟨q,j⟩ ⟨x,o,_,(f.put k J F).keeps λc Y L=>?_,q,R,S,j,T,U,V,W⟩;rw[zC (xm L e (λz=>nomatch z))];show L
theorem wA9(I:Inv X pins σ H s)(e:Rd H a (.dK kvs))(h:∀t c,Inv X pins σ H c->Q (.int kvs.length t) c):Sm (So X.prog X.w) A (call (.builtin "len") [.ref a]) Q E s:=by
 let⟨z,d,g,b,f⟩:=xY I.hok e;show call_len_dict d f (by rw[<-b.length];rw[bV]at z;lia) ?_;rw[<-b.length];show h _ _ (I.tok _)
def NoSl(i:Sl):Prop:=∀ov iv,subscripted i Sd ov iv=operate [ov,iv] (getItem ov iv)
theorem qWn{k:Sx}{T id:String}
  (l:typeLookup (.type T) "__getitem__"=pure (Sa (.builtin id))) (m:NoSl slice)
  (h:Sm (So prog w) A (Sw a env) (λo d=>Sm (So prog w) A (Sw slice env) (λi b=>b.TypeIs o T/\Sm (So prog w) A (getItem o i) Q E b) E d) E s) :
  Sm (So prog w) A (Sw (.Subscript a slice k) env) Q E s:=by
 show Subscript_ (fP h (λo d g=>fP g (λi b c=>?_) λ_ _ x=>x) λ_ _ x=>x);let⟨hT,c⟩:=c;unfold subscriptTail;show aB ?_;rw[getitemInPython_of_ne hT.not_modules];show aB (wpAny_specialOf hT l ?_);let f:Sm (So prog w) A (subscripted slice Sd o i) (λr e=>Sm (So prog w) A (letTemporaryGo a o r >>=λ_=>pure r) Q E e) E b:=by
  rw[m o i];show wpAny_operating (fP c (λr e j=>aB (wpAny_letTemporaryGo (aD j))) λ_ _ x=>x)
 first
  |show aD (aB f)
  |show aB (aD (aB f))
  |show aB f
theorem qM5{X:Cx}{c:List (Sf×Ss)}{σ:St}{H:Hp}{s:Sg}{a:Sf}{y:V}{o:Option V}(I:Inv X c σ H s)(g:DGet H a y o):s.TypeIs (.ref a) "dict":=by
 rcases g with ⟨d,k,e,_,_⟩|⟨d,k,b,e,_,_,_⟩
 .let⟨_,_,h,_,f⟩:=xY I.hok e;show f.typeIs
 .let⟨_,_,i,_,f⟩:=wK I.hok e;show f.typeIs
def tDGet(td ty:TE):TE:=λσ H Q=>td σ H λx H1=>ty σ H1 λy H2=>∃a v,x=.ref a/\DGet H2 a y (Sa v)/\Q v H2
def tDIn(ty td:TE):TE:=λσ H Q=>ty σ H λy H1=>td σ H1 λx H2=>∃a o,x=.ref a/\DGet H2 a y o/\Q (.bl o.isSome) H2
def QA(ty td:TE):TE:=λσ H Q=>ty σ H λy H1=>td σ H1 λx H2=>∃a o,x=.ref a/\DGet H2 a y o/\Q (.bl (!o.isSome)) H2
def sDPut(td ty tv:TE):TS:=λD σ H=>tv σ H λv H1=>td σ H1 λx H2=>ty σ H2 λy H3=>∃a H4,x=.ref a/\DPut H3 a y v H4/\D.nx σ H4
theorem qX4(e:X.A.units+1<cLine)(f:PE X o td)(hi:PE X i ty)(j:NoSl i):PE X (.Subscript o i pos) (tDGet td ty):=by
 intro b s σ H Q I h;show qWn PySem.F.slot_dict_getitem.lookup j (thn (f b s σ H _ I h) λu k hq_=>?_);let⟨x,l,m,n,p⟩:=hq_;show thn (hi b k σ l _ m p) λB C hq_=>?_;let⟨y,q,d,r,a,v,t,g,w⟩:=hq_;subst t;obtain rfl:u=Value.ref a:=n;show⟨qM5 d g,qSb e d g r λD E z c=>⟨v,q,z,c,w⟩⟩
theorem qZ6(c:X.A.units+1<cLine)(hi:PE X i ty)(d:PE X o td):PC X .In i o (tDIn ty td):=by
 intro b s σ H Q I h;show thn (hi b s σ H _ I h) λw e hq_=>?_;let⟨y,f,j,k,l⟩:=hq_;show thn (d b e σ f _ j l) λu z hq_=>?_;let⟨x,m,n,p,a,q,r,g,t⟩:=hq_;subst r;obtain rfl:u=Value.ref a:=p;show d_in c n g k λB v=>⟨.bl q.isSome,m,v,rfl,t⟩
theorem kz(c:X.A.units+1<cLine)(hi:PE X i ty)(d:PE X o td):PC X .NotIn i o (QA ty td):=by
 intro b s σ H Q I h;show thn (hi b s σ H _ I h) λw e hq_=>?_;let⟨y,f,j,k,l⟩:=hq_;show thn (d b e σ f _ j l) λu z hq_=>?_;let⟨x,m,n,p,a,q,r,g,t⟩:=hq_;subst r;obtain rfl:u=Value.ref a:=p;show qXt c n g k λB v=>⟨.bl (!q.isSome),m,v,rfl,t⟩
theorem jA(c:X.A.units+1<cLine)(d:PE X o td)(hi:PE X i ty)(e:PE X value tv)(f:SE value (Sa (.Subscript o i pos')) pos.line X.env=pure Sd):PS X (.Assign [.Subscript o i pos'] value pos) (sDPut td ty tv):=by
 intro b s σ H D I h;show wpAny_Assign_Subscript (thn (e b s σ H _ I h) λr j hq_=>?_) f;let⟨v,k,l,m,n⟩:=hq_;show thn (d b j σ k _ l n) λu p hq_=>?_;let⟨x,q,t,w,z⟩:=hq_;show thn (hi b p σ q _ t z) λK L hq_=>?_;let⟨y,M,B,C,a,E,F,g,G⟩:=hq_;subst F;obtain rfl:u=Value.ref a:=w;show qSa c B g C m λN J=>⟨σ,E,J,G⟩
theorem ur(h:Sk)(a:SH<h.objs.size):ObjOk P w H (h.push {cls:=.type "dict",data:=.dict #[]}) h.objs.size (.dK []):=⟨bL _,beq_eq_false_iff_ne.mpr (eI (aX a)),[],.nil,Heap.DictOf.new h⟩
theorem qUh{P:Sh}{w:Si}{H:Hp}(h:Sk)(a:SH<h.objs.size):ObjOk P w H (h.push {cls:=.type "dict",data:=.dict #[]}) h.objs.size (.dT []):=⟨bL _,beq_eq_false_iff_ne.mpr (eI (aX a)),[],.nil,_,#[],0,aW _ rfl,⟨rfl,rfl,rfl⟩,rfl,rfl,List.nodup_nil⟩
def QB:TE:=λ_ H Q=>∀p,H p=Sb->Q (.ref p) (upd H p (.dK []))
def qY9:TE:=λ_ H Q=>∀p,H p=Sb->Q (.ref p) (upd H p (.dT []))
theorem pe_dnewK:PE X (.Dict [] [] pos) QB:=λb s σ H Q I h=>
 wpAny_Dict_empty ⟨.ref s.heap.objs.size,_,I.laid (a:=s.heap.objs.size) (o:=.dK []) (t':=s.toks) (λ_ _ q=>aJ _ q) (aI _) (ur s.heap I.big),rfl,h _ (I.hok.fresh (aI _))⟩
theorem QC:PE X (.Dict [] [] pos) qY9:=λb s σ H Q I h=>
 wpAny_Dict_empty ⟨.ref s.heap.objs.size,_,I.laid (a:=s.heap.objs.size) (o:=.dT []) (t':=s.toks) (λ_ _ q=>aJ _ q) (aI _) (qUh s.heap I.big),rfl,h _ (I.hok.fresh (aI _))⟩
def jB:List (TE×TE)->St->Hp->(List (V×V)->Hp->Prop)->Prop
 |[],_,H,Q=>Q [] H
 |(tk,tv)::r,σ,H,Q=>tk σ H λx H1=>tv σ H1 λy H2=>jB r σ H2 λps H3=>Q ((x,y)::ps) H3
abbrev VV:List (V×V)->List (Se×Se)->Prop:=Paired λp q=>RelV p.1 q.1/\RelV p.2 q.2
def PPs(X:Cx)(pos:Sx)(keys:List (Option Sl))(values:List Sl)(trs:List (TE×TE)):Prop:=
 ∀(pins:List (Sf×Ss)) (s:Sg) (σ : St) (H:Hp) (Q:List (V×V)->Hp->Prop),Inv X pins σ H s->jB trs σ H Q ->
  Sm (So X.prog X.w) X.A (evalPairs (pairTrees keys values X.env pos)) (λvs s'=>∃ps H',Inv X pins σ H' s'/\VV ps vs/\Q ps H') X.xe s
theorem qX1:PPs X a [] [] []:=λb s σ H Q I h=>pairTrees_nil_walk ⟨[],H,I,.nil,h⟩
theorem qTh{k v:Sl}{tk e:TE}(f:PE X k tk)(g:PE X v e)(i:PPs X b ks vs c):PPs X b (Sa k::ks) (v::vs) ((tk,e)::c):=λa s σ H Q I h=>
 pairTrees_cons_walk (thn (f a s σ H _ I h) λu j ⟨x,l,m,n,o⟩=>thn (g a j σ l _ m o) λD p ⟨y,q,r,t,w⟩=>
  thn (i a p σ q _ r w) λE F ⟨z,A,B,d,C⟩=>⟨(x,y)::z,A,B,.cons ⟨n,t⟩ d,C⟩)
noncomputable def yc(kvs more:List (Key×V)):List (Key×V):=more.foldl (λacc kv=>putK acc kv.1 kv.2) kvs
theorem KV.merge:∀{more:List (Key×V)}{rs:List (Key×Se)}{kvs:List (Key×V)}{vs:List (Key×Se)},KV more rs->KV kvs vs->KV (yc kvs more) (merged vs rs):=by
 intro more rs kvs vs r;unfold KV at r
 induction r generalizing kvs vs with
 |nil=>intro q;show q
 |@cons p q c d h t a=>
  intro b;let e:KV (putK kvs p.1 p.2) (stored vs q.1 q.2):=by
   let:=b.put p.1 h.2;rw[<-h.1];show this
  show a e
theorem jC:∀(more kvs:List (Key×V)),(yc kvs more).length<=kvs.length+more.length
 |[],kvs=>by change kvs.length<=kvs.length+0;lia
 |p::r,kvs=>by
  let a:=jC r (putK kvs p.1 p.2);let b:=xQ kvs p.1 p.2;change(yc (putK kvs p.1 p.2) r).length<=_;rw[bK];lia
theorem QD:∀ {kvs:List (Key×V)} {d:List (Se×Se)},VV (kvs.map λe=>(kV e.1,e.2)) d -> ∃rs,Carries (zy P w) d rs/\KV kvs rs
 |[],_,r=>by rw[fW]at r;cases r;show⟨[],True.intro,.nil⟩
 |p::kvs,_,r=>by
  rw[bJ]at r;cases r with
  |@cons a b as bs h t=>
   let⟨rs,c,q⟩:=QD (P:=P) (w:=w) t;let⟨g,f⟩:=b;show⟨(p.1,f)::rs,⟨xR h.1,rfl,c⟩,.cons ⟨rfl,h.2⟩ q⟩
def tDisp(trs:List (TE×TE)):TE:=λσ H Q=>∀p,H p=Sb->jB trs σ (upd H p (.dK [])) λps H2=>H2 p=Sa (.dK [])/\∃kvs:List (Key×V),ps=kvs.map (λkv=>(kV kv.1,kv.2))/\kvs.length<=15/\Q (.ref p) (upd H2 p (.dK (yc [] kvs)))
theorem qX3{keys:List (Option Sl)}(h:PPs X d keys b f)(g:keys.all (·.isSome)=Sc)(p:keys.length=b.length)(r:keys≠[])(l:keys.length<=15):PE X (.Dict keys b d) (tDisp f):=by
 intro i s σ H Q I q;let t:=I.hok.fresh (aI s.heap.objs.size);let u:=I.laid (a:=s.heap.objs.size) (o:=.dK []) (h':=s.heap.push {cls:=.type "dict",data:=.dict #[]}) (t':=s.toks) (λ_ _ q=>aJ _ q) (aI _) (ur s.heap I.big);show wpAny_Dict_walk (knd:=zy X.prog X.w) g p r l (thn (h i _ σ _ _ u (q _ t)) λM N hq_=>?_);let⟨O,R,n,m,e,j,v,S,x⟩:=hq_;subst v;let⟨y,c,A⟩:=QD (P:=X.prog) (w:=X.w) m;let⟨z,B,C,D,E⟩:=wq n.hok e;cases D;show⟨y,c,E,λh' k F=>⟨.ref s.heap.objs.size,_,?_,rfl,x⟩⟩;let G:(yc [] j).length<=Sn:=by
  let J:=jC j [];rw[List.length_nil]at J;rw[bV];lia
 let K:∃q,h'.get? s.heap.objs.size=Sa q:=let ⟨q,_,_,L,_⟩:=k;⟨q,L⟩
 show wL n (by rw[e];show True.intro) F K (vW G B (A.merge .nil) k)
structure M2(X:Cx)(o:Sl)(m:Str)(apos:Sx)(e f:Sl)(cpos:Sx):Prop where
 base:attributeBase o m X.env (Sw o X.env)=Sw o X.env
 few:((backTo cpos (Sv [e,f] X.env)).all (λx => !x.1)&&(backToKw cpos (keywordEach [] X.env)).all (λx=>x.1.isSome)
  && decide (([e,f]:List Sl).length+([]:List Keyword).length+(if ([]:List Keyword).isEmpty then 0 else 1)<30))=Sc
 line:(apos.endLine == cpos.line)=Sc
 trees:backTo cpos (Sv [e,f] X.env)=[(Sd,Sw e X.env),(Sd,Sw f X.env)]
def IsD(H:Hp)(a:Sf):Prop:=(∃kvs,Rd H a (.dK kvs))\/∃kvs,Rd H a (.dT kvs)
theorem jD{X:Cx}{c:List (Sf×Ss)}{σ:St}{H:Hp}{s:Sg}{a:Sf}(I:Inv X c σ H s)(d:IsD H a):s.TypeIs (.ref a) "dict"/\(∀b,Value.ref a=.ref b->∃ob,s.heap.get? b=Sa ob/\ob.dict=Sb)/\(a == SH)=Sd:=by
 rcases d with ⟨g,e⟩|⟨g,e⟩
 .let⟨_,h,k,_,f⟩:=xY I.hok e;show⟨f.typeIs,λb q=>?_,h⟩;cases q;let⟨ob,_,_,i,j,_⟩:=f;show⟨ob,i,j.2.1⟩
 .let⟨_,h,l,_,f⟩:=wK I.hok e;show⟨f.typeIs,λb q=>?_,h⟩;cases q;let⟨ob,_,_,i,j,_⟩:=f;show⟨ob,i,j.2.1⟩
theorem qZq(t:A.units+1<cLine)(I:Inv X pins σ H s)(g:DGet H a y o)(n:RelV y u)(rd:RelV d r)(h:∀p q,Inv X pins σ H q->RelV (o.getD d) p->Q p q):Sm (So X.prog X.w) A (call (.builtin "dict.get") [.ref a,u,r]) Q E s:=by
 rcases g with ⟨i,k,e,j,l⟩|⟨i,k,b,e,j,v,l⟩
 .subst j;let⟨z,m,B,c,f⟩:=xY I.hok e;show call_meetsIn PySem.F.slot_dict_get f.typeIs PySem.F.entry_dict_get (PySem.F.args_dict_get_3 _ _ _) (meets_dict_get_default (zy X.prog X.w) a (xR n) m r) ⟨_,f.mapOf,h _ _ (I.tok _) ?_⟩;rw[l];show(c.val k).getD rd
 .subst j;cases (show u=Value.ref b from n);let⟨z,m,x,c,f⟩:=wK I.hok e;show call_meetsIn PySem.F.slot_dict_get f.typeIs PySem.F.entry_dict_get (PySem.F.args_dict_get_3 _ _ _) (meetsH_dict_get_default (tupleKind (zy X.prog X.w)) a b m r) ⟨eS t,k,x,wJ I.hok v,f,h _ _ (I.tok _) ?_⟩;rw[l];show(c.val k).getD rd
def QE(td ty tx:TE):TE:=λσ H Q=>td σ H λx H1=>∃a,x=.ref a/\IsD H1 a/\ty σ H1 λy H2=>tx σ H2 λz H3=>∃o,DGet H3 a y o/\Q (o.getD z) H3
theorem jE(j:X.A.units+1<cLine)(k:PE X o td)(l:PE X e ty)(n:PE X f tx)(m:M2 X o "get" apos e f cpos):PE X (.Call (.Attribute o "get" apos) [e,f] [] cpos) (QE td ty tx):=by
 intro b s σ H Q I h;show wpAny_Call_method m.base m.few m.line PySem.F.plainAttrs_dict PySem.F.slot_dict_get PySem.F.type_dict_get (thn (k b s σ H _ I h) λu p hq_=>?_);let⟨x,q,i,r,a,t,d,v⟩:=hq_;subst t;obtain rfl:u=Value.ref a:=r;let⟨w,B,_⟩:=jD i d;show⟨w,B,?_⟩;rw[m.trees];show fF rfl (gO (eR (thn (l b p σ q _ i v) λP C hq_=>?_)));let⟨y,D,E,G,J⟩:=hq_;show eR (thn (n b C σ D _ E J) λR S hq_=>?_);let⟨z,K,L,M,T,g,N⟩:=hq_;show Calls.spliced_nil ?_;show qZq j L g G M λU V O c=>⟨_,K,O,c,N⟩
end L2
namespace Att
open PySem PySem.W PySem.Calls PyProof.Rows
theorem qGu:∀(ns:List Int)(vs:List Se),WellAll P h vs (ns.map WData.int)->IntsAre vs ns:=by
 intro ns
 induction ns with
 |nil=>
  intro vs w;rw[fW]at w;cases w;show .nil
 |cons n ns c=>
  intro vs w;rw[bJ]at w;cases w with
  |cons a b=>
   cases a;show .cons _ _ (c _ b)
theorem qQ0{l:OpenLaw}{n:Nat}(o:l.most=Sa n){P:Params}{h:Sk}{args:List WData}{b:List Se}(c:l.row.toRowW.claim.pre args=Sc)(j:WellAll P h b args):∃a vs ns,b=[Value.ref a]/\args=[WData.list (ns.map WData.int)]/\h.get? a=Sa {cls:=.type "list",data:=.seq vs.toArray}/\IntsAre vs ns/\ns.length<=n:=by
 let k:WShape.hasAll [] args [.list .int]=Sc:=(pre_splitW c).1;let m:l.pre.holds [] {args:=args}=Sc:=(pre_splitW c).2;let⟨d,r,rfl,p,s⟩:=hasAllW_cons k;obtain rfl:=hasAllW_nil s;let⟨x,rfl,t⟩:=hasW_list p;let⟨ns,rfl⟩:=items_int t;let e:ns.length<=n:=by
  unfold OpenLaw.pre at m;let g:(WTm.not (.lt (.lit (.int (n:Int))) (.len (.arg 0)))).holds [] {args:=[.list (ns.map .int)]}=Sc:=by
   let g:=(holds_andW m).1;rw[o]at g;show g
  let i:=condW_of g (w_not (w_lt w_lit (w_len_list (w_arg rfl))));rw[aA]at i;show Nat.le_of_not_lt λq=>?_;let u:(n:Int)<((ns.length:Nat):Int):=by lia
  first
   |(rw[decide_eq_true u]at i;show absurd i ⋯)
   |(simp at i;lia)
 cases j with
 |cons w1 v=>
  cases v;cases w1 with
  |list w f=>show⟨_,_,ns,rfl,rfl,w,qGu ns _ f,e⟩
theorem qQt(l:OpenLaw)(args:List WData):l.row.toRowW.claim.post args (.bool Sc) args=Sc:=
 postW_of (r:=l.row.toRowW) (X:=(Sc == Sc))
  (show WShape.has [] (.bool Sc) .bool=Sc by first|rfl|decide|simp[WShape.has,WShape.arms,WShape.armsAll])
  (show(WTm.eq .res (.lit (.bool Sc))).value [] {args:=args,res:=Sa (.bool Sc),after:=args}=Sa (.bool (Sc == Sc))from w_eq_bool (w_res rfl) w_lit) rfl
theorem attach_call{l:OpenLaw}{n:Nat}{q:Sh}{c:List Str}{y:(Str->Option Se)->Sk->Prop}{z:Si->Sk->Prop}{d:DefRec}(E:l.most=Sa n)(p:d.params.defaults=[])(call:∀(w:Si)(s₀ b:Sg)(mg s:Str->Option Se)(g:Sf)(o:Ss)(t k doc:Se)(a:Sf)(vs:List Se)(ns:List Int),
   Ground q c [] y w s₀ mg s b.heap->z w b.heap->
   b.heap.get? g=Sa o->o.data=.func (docDef d.name d.params d.body d.scope t k doc)->b.heap.CodeRec k d.name->mg d.name=Sa (.ref g)->
   b.heap.get? a=Sa {cls:=.type "list",data:=.seq vs.toArray}->IntsAre vs ns->ns.length<=n->b.gens=#[]->
   codeAny (So l.prog w) callerA (.call (.ref g) ⟨[.ref a],[]⟩) (λr m=>r=.ok (.ret (.bool Sc))/\OldK b.heap m.heap/\m.os=b.os/\AllBare m.gens) b) :
  WalkO q c y z l.row.toRowW d [] (λf vs=>PySem.call f vs):=by
 intro w s₀ b mg s G Y g o t k doc F kV H I u A v J B C R h D K x L;obtain rfl:F=.none:=Dflts.none A p;obtain rfl:kV=.none:=Dflts.noKw A;let⟨a,vs,ns,rfl,rfl,i,e,j⟩:=qQ0 E h x;show enter_call (gZ (call w s₀ b mg s g o t k doc a vs ns G Y H (fd_plain I) u v i e j J) λr m M=>?_);let⟨rfl,N,O,P⟩:=M;show⟨.inl ⟨.bool Sc,.bool Sc,[],rfl,λ_=>rfl,.bool Sc,qQt l _,λ_=>⟨List.Pairwise.nil,λ_ Q=>(nomatch Q)⟩⟩,N,O,P⟩
end Att
namespace L2
open PySem PySem.Spec PyProof.Rows
theorem jF(h:IntsAre vs ns):Vals (ns.map V.int) vs:=by
 induction h with
 |nil=>show .nil
 |cons n t _ a=>show .cons ⟨t,rfl⟩ a
def Only(H:Hp):Prop:=∀b,H b=Sb\/∃o xs,H b=Sa (.frz o (.lst xs))
theorem qU7{P:Sh}{w:Si}{K:SJ}{mg L:Str->Option Se}{CX:CXT}{k:Nat}{M a:Sf}{U:FuncData}{x:Str}{sp:Sp}{c : Sg}{vs:List Se}{ns:List Int}
  (X:K.In c.heap) (t:c.heap.Ns Sq mg) (f:c.heap.Ns builtinsNs L) (N:∀x:Str,x≠"__name__"->L x=SF x) (y:c.heap.NoLimit) (hg:c.gens=#[])
  (J:c.heap.get? a=Sa {cls:=.type "list",data:=.seq vs.toArray}) (Y:IntsAre vs ns) (Z:ns.length<=Sn) (hr:Room k callerA)
  (F:∀g:Sk,K.In g->g.Ns Sq mg->FnOk P w K mg g CX k M U [x] sp) (p:∀(s:Sg)(u:Se),BindsTo s U ⟨[u],[]⟩ [(x,u)])
  (O:∀H:Hp,Only H->SqL K H a (ns.map V.int)->sp [.ref a] H (λv _=>v=.bl Sc) λ_ _ _=>False)
  (Q:∀H e i,CX [] H c (λ_ _ _=>False) e i->False) :
  codeAny (So P w) callerA (.call (.ref M) ⟨[.ref a],[]⟩) (λr i=>r=.ok (.ret (.bool Sc))/\OldK c.heap i.heap/\i.os=c.os/\AllBare i.gens) c:=by
 let rv:=jF Y;let A:=Y.length;let l:∀H:Hp,Only H->SqL K H a (ns.map V.int)->HOk P w H c.heap->(∀b,H b≠Sb->b=a)->(H a≠Sb->K.lookup a=Sb) ->
   codeAny (So P w) callerA (.call (.ref M) ⟨[.ref a],[]⟩) (λr i=>r=.ok (.ret (.bool Sc))/\OldK c.heap i.heap/\i.os=c.os/\AllBare i.gens) c:=by
  intro H hO hS B hA hK;let base_of:∀{b:Sf}{o:Ss},c.heap.get? b=Sa o->H b=Sb->(hidT c.heap H).get? b=Sa o:=λe n=>qUb e n;let R:∀{b:Sf}{o:Ss}{C:Array DictEntry}{D:Nat},c.heap.get? b=Sa o->o.data=.dict C D->H b=Sb:=λ{b o C D}e d=>by
   cases q:H b with
   |none=>rfl
   |some u=>
    let S:b=a:=hA b (by rw[q];simp);subst S;rw[J]at e;cases e;let d':Data.seq vs.toArray _=Data.dict C D:=d;cases d'
  let j:∀{b:Sf}{m:Str->Option Se},c.heap.Ns b m->(hidT c.heap H).Ns b m:=λ{b m} ⟨o,C,D,e,d,r⟩=>⟨o,C,D,base_of e (R e d),d,r⟩
  let E:K.In (hidT c.heap H):=λb o e=>base_of (X b o e) (by
   cases q:H b with
   |none=>rfl
   |some u=>
    let S:b=a:=hA b (by rw[q];simp);subst S
    rw[hK (by rw[q];simp)]at e;cases e)
  let hM:Mod K mg (hidT c.heap H):=⟨E,j t,⟨L,j f,N⟩,let ⟨mc,h1,h2⟩:=y;⟨mc,j h1,h2⟩⟩;let e0:Env0 P w K mg (hidT c.heap H) callerA [] c H:=⟨rfl,hM,λb o e=>qXg e,Nat.le_of_eq (qRy _ _),trivial,λb f=>absurd (show b∈([]:List Sf)from f) ∅,B,.of_eq hg⟩;show gZ ((F _ E (j t)).run callerA [] c H ⟨[.ref a],[]⟩ [.ref a] [.ref a] _ _ hr e0 (p c (.ref a)) (.cons rfl .nil) (O H hO hS)) λr i h=>?_;cases r with
  |error e=>show(Q H e i h).elim
  |ok fl=>
   cases fl with
   |next=>show False.elim h
   |brk=>show False.elim h
   |cont=>show False.elim h
   |ret u=>
    let⟨v,H',os,bare,un,G,r',q⟩:=h;let q':v=.bl Sc:=q;subst q';obtain rfl:u=Value.bool Sc:=r';show⟨rfl,OldK.of_keep λb o e=>?_,os,bare⟩;cases q:H b with
    |none=>show un.keep b o e q (by intro z;show absurd (show b∈([]:List Sf)from z) ∅) ∅
    |some u=>
     rcases hO b with z|⟨ob,xs,z⟩
     .rw [q]at z;cases z
     .let z2:=un.frzs b ob _ z;let⟨e1,_⟩:=B b _ z;let⟨e2,_⟩:=G b _ z2;rw[e]at e1;cases e1;show e2
 cases T:K.lookup a with
 |some o=>
  let e:=X a o T;rw[J]at e;cases e;show l (λ_=>Sb) (λ_=>.inl rfl) (.inr ⟨_,vs.toArray,_,T,rfl,rfl,rfl,by rw[aP,A];show Z,by simpa using rv⟩) (λb u z=>by let I:(Sb:Option HO)=Sa u:=z;cases I) (λb z=>absurd rfl z) λz=>absurd rfl z
 |none=>
  show l (λb=>if b=a then Sa (.frz {cls:=.type "list",data:=.seq vs.toArray} (.lst (ns.map V.int)))else Sb) (λb=>?_) (.inl (.inr ⟨{cls:=.type "list",data:=.seq vs.toArray},if_pos rfl⟩)) (λb u z=>?_) (λb z=>?_) λ_=>T
  .by_cases f:b=a
   .exact .inr ⟨_,_,if_pos f⟩
   .exact .inl (if_neg f)
  .by_cases f:b=a
   .let I:=(if_pos f).symm.trans z;cases I;subst f;show⟨J,by rw[aA];show Z,vs,_,rv,J⟩
   .let I:=(if_neg f).symm.trans z;cases I
  .by_cases f:b=a
   .exact f
   .exact absurd (if_neg f) z
theorem qWe{l:PySem.W.OpenLaw}{n k:Nat}{q:Sh}{i:List Str}{L:(Str->Option Se)->Sk->Prop}{E:Si->Sk->Prop}{d:DefRec}{K:Params->SJ}{CX:Si->CXT}{sp:Si->Sp}{x:Str}(M:l.most=Sa n)(t:n<=Sn)(y:d.params.defaults = [])(N:Room k callerA)(O:∀(w:Si) (h:Sk),E w h->(K w.params).In h)(F:∀(w:Si) (mg:Str->Option Se) (r:Sf) (h:Sk),(K w.params).In h->h.Ns Sq mg->mg d.name=Sa (.ref r) ->
   ∃z:FuncData,(∀(s:Sg) (u:Se),BindsTo s z ⟨[u],[]⟩ [(x,u)]) /\
    ∀base:Sk,(K w.params).In base->base.Ns Sq mg->FnOk l.prog w (K w.params) mg base (CX w) k r z [x] (sp w))
  (A:∀(w:Si)(H:Hp)(a:Sf)(ns:List Int),ns.length<=n->Only H->SqL (K w.params) H a (ns.map V.int)->sp w [.ref a] H (λv _=>v=.bl Sc) λ_ _ _=>False)
  (B:∀(w:Si)(H:Hp)(s:Sg)(e:Se)(C:Sg),CX w [] H s (λ_ _ _=>False) e C->False) :
  PySem.W.WalkO q i L E l.row.toRowW d [] (λf vs=>PySem.call f vs):=by
 show Att.attach_call M y λw I m mg Z r o pm cd doc a vs ns G Y ho hd P D p j c Q=>?_;let J:=O w _ Y;let⟨z,R,S⟩:=F w mg r _ J G.T.g D;show qU7 J G.T.g G.T.b G.T.builtins G.T.nolimit Q p j (cH c t) N S R (λH U X=>A w H a ns c U X) λH e C=>B w H m e C
noncomputable def xS(s:Sr):Arguments:=match s with
 |.FunctionDef _ a _ _ _ _ _ _ _ _=>a
 |_=>{posonlyargs:=[],args:=[],vararg:=Sb,kwonlyargs:=[],kw_defaults:=[],kwarg:=Sb,defaults:=[]}
noncomputable def xB(s:Sr):List Sr:=match s with
 |.FunctionDef _ _ b _ _ _ _ _ _ _=>b
 |_=>[]
noncomputable def za(s:Sr):Su:=match s with
 |.FunctionDef _ _ _ _ _ _ sc _ _ _=>sc
 |_=>{kind:=.function,names:=[],isGenerator:=Sd,isCoroutine:=Sd}
abbrev CX0:CXT:=λ_ _ _ _ _ _=>False
abbrev E0:XK:=λ_ _ _=>False
theorem pass0:kx CX0 X E0:=λ_ _ _ _ _ _ _ h=>h.elim
structure Fun(K:SJ)(x qual:Str)(st:Sr)(f:Sf)(fd:FuncData):Prop where
 ex:∃(oc:Se)(od:Option Sf)(kV doc pm:Se)(an:Option Sf)(cdv ct:Se)(osl:Array (Option Se)),
  fd=PySem.W.fnOf x qual (xS st) (xB st) (za st) .none kV doc pm an cdv ct/\K.lookup f=Sa ⟨oc,od,.func fd,osl⟩/\PySem.W.codeIn K cdv qual=Sc
 kp:PySem.W.keepIn K (.ref f)=Sc
section
variable{P:Sh}{w:Si}{K:SJ}{mg:Str->Option Se}{base:Sk}
theorem Fun.ok{st:Sr}{k:Nat}(F:Fun K x a st f i)(S:FnScope N d (za st))(len:∀vs H Q E,sp vs H Q E->vs.length=d.length)(c:∀(b:Se) (A:Sj) (outer:List Env) (s:Sg) (H:Hp) (vs:List V) (Q:VK) (E:XK),Room k (A.deeper (envOfC a (za st) s.heap.objs.size f b))->sp vs H Q E ->
   ∃t,PSs (cxOf CX0 P w K mg base N a (za st) f b A outer s H E).nox (xB st) t/\t {nx:=λ_ j=>Q .non j,rt:=Q} (start N vs) H):FnOk P w K mg base CX0 (k+1) f i d sp:=by
 let⟨o,p,kV,doc,r,u,b,v,l,rfl,m,e⟩:=F.ex;show wA8 m e S len λA outer s H vs Q E n g=>?_;let⟨t,h,q⟩:=c b A outer s H vs Q E n g;show⟨t,h.nox,q⟩
theorem Fun.binds{st:Sr}{g:FuncData}(F:Fun K x a st f g)(h:∀(kV doc d:Se)(e:Option Sf)(b ct:Se)(us:List Se),us.length=c.length->bindArgs (PySem.W.fnOf x a (xS st) (xB st) (za st) .none kV doc d e b ct) ⟨us,[]⟩=pure (c.zip us)):Binds K g c []:=by
 let⟨k,l,kV,doc,d,e,b,ct,i,rfl,m,j⟩:=F.ex;show .all (h kV doc d e b ct)
theorem QF{st:Sr}{kV doc g b ct:Se}(l:K.lookup f=Sa ⟨h,i,.func (PySem.W.fnOf x a (xS st) (xB st) (za st) .none kV doc g e b ct),d⟩)(c:PySem.W.codeIn K b a=Sc)(k:PySem.W.keepIn K (.ref f)=Sc):Fun K x a st f (PySem.W.fnOf x a (xS st) (xB st) (za st) .none kV doc g e b ct):=⟨⟨h,i,kV,doc,g,e,b,ct,d,rfl,l,c⟩,k⟩
end
theorem zk{k:Nat}(a:Room k A):A.units+1<cLine:=Nat.lt_of_le_of_lt (Nat.add_le_add_left (by decide:1<=64) _) a.units
theorem zU{n:Nat}(h:n<=1000):n<Sn:=Nat.lt_of_le_of_lt h ⋯
theorem pv(i:Nat){x:Str}{a:Sx}(c:X.N[i]? = Sa x:=by rfl)(d:Vis X.env.scope x:=by first | show Or.inl rfl | show Or.inr (Or.inl rfl) | show Or.inr (Or.inr rfl))(e:(x == ("__debug__" : Str))=Sd:=by decide)
  (b:(x == ("__classdict__" : Str))=Sd:=by decide):PE X (.Name x a) (tVar i):=qZ2 c d e b
theorem qSh:CallR X (.builtin "len") (λxs H Q=>∃a kvs,xs=[V.ref a]/\H a=Sa (.dK kvs)/\Q (.int kvs.length) H):=by
 intro b s σ H xs f Q I r h;let⟨a,kvs,rfl,c,q⟩:=h;let⟨u,rfl,d⟩:=vals1 r;cases d;show wA9 I (.inl c) λt g e=>⟨.int kvs.length,H,e,⟨t,rfl⟩,q⟩
theorem iteF{A B:Prop}(h:B):if Sd=Sc then A else B:=by
 rw[if_neg aL];show h
theorem iteT{A B:Prop}(h:A):if Sc=Sc then A else B:=by
 rw[if_pos rfl];show h
theorem ite2{c A B:Prop} [Decidable c] (a:c->A)(b:¬c->B):if c then A else B:=by
 by_cases h:c
 .rw [if_pos h];show a h
 .rw [if_neg h];show b h
def Same(H H':Hp):Prop:=∀b o,H b=Sa o->H' b=Sa o
theorem Same.seq{K:SJ}(e:Same H b)(h:SqL K H a xs):SqL K b a xs:=by
 rcases h with(h|⟨o,h⟩)|h
 .exact .inl (.inl (e _ _ h))
 .exact .inl (.inr ⟨o,e _ _ h⟩)
 .exact .inr h
end L2
set_option maxHeartbeats 4000000
namespace L2
open PySem PySem.Spec PyProof.Rows
abbrev TB:=St->Hp->(St->Hp->Prop)->Prop
def PB(X:Cx)(m:Sem Unit)(B:TB):Prop:=
 ∀(pins:List (Sf×Ss)) (s:Sg) (σ : St) (H:Hp) (Q:St->Hp->Prop),Inv X pins σ H s->B σ H Q ->
  Sm (So X.prog X.w) X.A m (λ_ s'=>∃σ' H',Inv X pins σ' H' s'/\Q σ' H') X.xe s
def tAll:List TT->TT
 |[]=>λ_ H Q=>Q Sc H
 |t::r=>λσ H Q=>t σ H λb H1=>if b=Sc then tAll r σ H1 Q else Q Sd H1
inductive PTs(X:Cx):List Sl->List TT->Prop
 |nil:PTs X [] []
 |cons {e es t ts}:PT X e t->PTs X es ts->PTs X (e::es) (t::ts)
noncomputable def wt(ifs:List Sl)(env:Env)(b:Bool):Sem Bool:=forIn ifs b λc r=>if r=Sc then do let ok <-isTrue c env (Sw c env);pure (ForInStep.yield ok)else pure (ForInStep.yield r)
theorem QG(h:Q Sd s):∀a:List Sl,Sm M A (wt a env Sd) Q E s
 |[]=>aD h
 |c::r=>by
  unfold wt;simp only[fS,cD,if_false];show aB (aD (QG h r))
theorem QH:∀ {c:List Sl} {ts:List TT},PTs X c ts -> ∀(a:List (Sf×Ss)) (s:Sg) (σ : St) (H:Hp) (Q:Bool->Hp->Prop),Inv X a σ H s->tAll ts σ H Q ->
  Sm (So X.prog X.w) X.A (wt c X.env Sc) (TP X a σ Q) X.xe s
 |_,_,.nil,a,s,σ,H,Q,I,h=>aD ⟨H,I,h⟩
 |_,_,.cons (es:=es) i j,a,s,σ,H,Q,I,h=>by
  unfold wt;simp only[fS,if_true];show aB (aB (thn (i a s σ H _ I h) λb d hq_=>?_));let⟨e,f,g⟩:=hq_;show aD ?_;cases b with
  |true=>show QH j a d σ e Q f g
  |false=>show QG (show TP X a σ Q Sd d from⟨e,f,g⟩) es
def LoopT(J:It)(g:TG)(tt:TT)(B:TB):TB:=λσ H Q => ∃W:Nat->Nat->St->Hp->Prop,(∃m,W 0 m σ H) /\ ∀i m σ H,W i m σ H ->
 (J.stop i H/\Q σ H)\/(J.go i H/\∀x H',J.yld i H x H'->g x σ H' λσ2 H2=>tt σ2 H2 λb H3=>
  if b=Sc then B σ2 H3 (λσ3 H4=>∃m',m'<m/\W (i+1) m' σ3 H4)else ∃m',m'<m/\W (i+1) m' σ2 H3)
def CompR(X:Cx)(pins:List (Sf×Ss))(Q:St->Hp->Prop):Result->Sg->Prop
 |.ok _,s'=>∃σ' H',Inv X pins σ' H' s'/\Q σ' H'
 |.error _,_=>False
structure ClauseAt(X:Cx)(e:Sl)(d:Nat)(acc:Se)(tg iter:Sl)(ifs:List Sl)(beh:Sem Unit):Prop where
 quiet:∀it,(Code.compLoop e d it acc X.env).quiet=Sc
 under:∀it,X.A.under (Code.compLoop e d it acc X.env)=X.A
 den:∀it,(So X.prog X.w).den (.compLoop e d it acc X.env)=(compTurn e d it acc X.env).onRaise (λx=>do noteFrame x X.env;theTreesLotGoes x)
 turn:∀it,compTurn e d it acc X.env=(do
   Sz iter.pos
   match <-pyNext it with
   |none=>pure (.done .next)
   |some v=>
    letOwnedTupleGo tg it v
    assign tg X.env v
    let ok <-wt ifs X.env Sc
    if ok then beh
    again (.compLoop e d it acc X.env))
 start:∀(it:Se) (R:Result->Sg->Prop) (s:Sg),codeAny (So X.prog X.w) X.A (.compLoop e d it acc X.env) R s ->
  Sm (So X.prog X.w) X.A (pyIter it) (λit' s'=>codeAny (So X.prog X.w) X.A (.compLoop e d it' acc X.env) R s') (λ_ _=>False) s->codeAny (So X.prog X.w) X.A (.compStart e d it acc X.env) R s
theorem QI{X:Cx}{e:Sl}{d:Nat}{L:Se}{tg M:Sl}{N:List Sl}{O:Sem Unit}{J:It}{y:List Sf}{it:Sf}{Y:Nat->Sk->Prop}{g:TG}{P:List TT}{B:TB}(a0:X.xe=λ_ _=>False)(hc:X.calm=Sc)(C:ClauseAt X e d L tg M N O)(T:Turn X.prog X.w X.K tg J y it Y)(hg:PG X tg g)(ht:PTs X N P)(c:PB X O B){a:List (Sf×Ss)}{σ:St}{H:Hp}{s:Sg}{Q:St->Hp->Prop}(I:Inv X a σ H s)(st:Y 0 s.heap)(f:∀b∈y,FpOk X a H b)(q:LoopT J g (tAll P) B σ H Q):codeAny (So X.prog X.w) X.A (.compLoop e d (.ref it) L X.env) (CompR X a Q) s:=by
 obtain⟨W,⟨m0,w0⟩,S⟩:=q;let j:∀{p:Hp},(∀b∈y,p b=Sb)->∀b∈y,FpOk X a p b:=λhn b c=>⟨hn b c,(f b c).2⟩;show codeAny_loop (C.quiet _) (λn Z=>∃i k p,Inv X a k p Z/\Y i Z.heap/\(∀b∈y,p b=Sb)/\W i n k p) ?_ m0 ⟨0,σ,H,I,st,λb c=>(f b c).1,w0⟩;rintro n s3 ⟨i,l,H3,I3,st3,U,w3⟩;rw[C.under,C.den];show wpAny_noted ?_;rw[C.turn];show aB (eY ?_);let lift:∀{α:Type}{t:Sem α}{R:α->Sg->Prop}{s:Sg},Sm (So X.prog X.w) X.A t R X.xe s->Sm (So X.prog X.w) X.A t R (notedBy (So X.prog X.w) X.A X.env λx Z=>CompR X a Q (.error x) Z) s:=by
  intro α t R s h;rw[a0]at h;show fP h (λ_ _ z=>z) λ_ _ z=>z.elim
 rcases S i n l H3 w3 with ⟨stop,qn⟩|⟨go,step⟩
 .refine aB (lift (thn (T.done X rfl rfl rfl hc i a s3 l H3 X.xe I3 (j U) st3 stop) λr s4 hq_=>?_));let⟨hr,I4⟩:=hq_;subst hr;show aD ⟨l,H3,I4,qn⟩
 .refine aB (lift (thn (T.item X rfl rfl rfl hc i a s3 l H3 X.xe I3 (j U) st3 go) λr s4 hq_=>?_));let⟨u,hr,h4⟩:=hq_;subst hr;show aB (lift (thn h4 λ_ s5 hq_=>?_));let⟨x,H5,I5,r5,y5,D,a1⟩:=hq_;let a2:=I5.pinned (j a1) (T.obj _ _ D);show aB (lift (thn (hg _ s5 l H5 x u _ a2 r5 (step x H5 y5)) λ_ s6 hq_=>?_));let⟨V,H6,I6,q6⟩:=hq_;let again:∀{v:St}{E:Hp}{F:Sg},Inv X (a++vS y s5.heap) v E F->(∃m',m'<n/\W (i+1) m' v E)->∃m,m<n/\∃i k p,Inv X a k p F/\Y i F.heap/\(∀b∈y,p b=Sb)/\W i m k p:=λ{v E F} G ⟨m',hm,w7⟩=>by
   show⟨m',hm,i+1,v,E,G.unpinned,T.keep _ _ _ D λb c o e=>(G.pin (b,o) (bM _ (bM _ (ug c e)))).1,λb c=>?_,w7⟩;let⟨o,e,_⟩:=T.obj _ _ D b c;show(G.pin (b,o) (bM _ (bM _ (ug c e)))).2.1
  show aB (lift (thn (QH ht _ s6 V H6 _ I6 q6) λok F hq_=>?_));let⟨E,G,q7⟩:=hq_;cases ok with
  |false=>
   show aD ⟨rfl,again G q7⟩
  |true=>
   show aB (lift (thn (c _ F V E _ G q7) λ_ s8 hq_=>?_));let⟨a3,H8,I8,q8⟩:=hq_;show aD ⟨rfl,again I8 q8⟩
theorem jG(env:Env):∀(names:List (Str×SG)) (cs:List (Str×Sf)),(∀x∈names,x.2 = .free -> ∃c,env.cells.lookup x.1=Sa c) ->
  (∀x c,cs.lookup x=Sa c->env.cells.lookup x=Sa c)->
  ∃g,(forIn names cs λ(x:Str×SG) (r:List (Str×Sf))=>(if (x.2 == NameKind.free)=Sc then do let c <-cellOf env x.1;pure (ForInStep.yield ((x.1,c)::r)) else pure (ForInStep.yield r):Sem (ForInStep (List (Str×Sf)))))=pure g /\
   (∀x c,g.lookup x=Sa c->env.cells.lookup x=Sa c)/\(∀x,(x,NameKind.free)∈names\/(∃c,cs.lookup x=Sa c)->∃c,g.lookup x=Sa c)
 |[],cs,_,j=>⟨cs,rfl,j,λx h=>h.elim (λz=>nomatch z) id⟩
 |(n,k)::r,cs,m,j=>by
  rw[fS];let o:∀x∈r,x.2=.free->∃c,env.cells.lookup x.1=Sa c:=λx hx=>m x (aS _ hx);by_cases l:k=.free
  .subst l;let⟨c,p⟩:=m (n,.free) aT rfl;let i:cellOf env n=pure c:=by unfold cellOf;rw[p]
   let⟨g,e,a,b⟩:=jG env r ((n,c)::cs) o (λx d hx=>by
    rw[gT]at hx;cases f:x == n with
    |true=>
     rw[f]at hx;let:x=n:=eq_of_beq f;cases hx;rw[this];show p
    |false=>rw[f]at hx;show j x d hx)
   show⟨g,?_,a,λx hx=>b x ?_⟩
   .rw [i];show e
   .by_cases f:x=n
    .exact .inr ⟨c,by rw[gT,f,beq_self_eq_true]⟩
    .rcases hx with hx|⟨d,hx⟩
     .rcases aM.mp hx with z|z
      .exact absurd (congrArg Prod.fst z) f
      .exact .inl z
     .refine .inr ⟨d,?_⟩;let:(x == n)=Sd:=by simpa using f
      rw[gT,this];show hx
  .let q:(k == NameKind.free)=Sd:=by simpa using l
   let⟨g,e,a,b⟩:=jG env r cs o j;show⟨g,?_,a,λx hx=>b x ?_⟩
   .show (if (k == NameKind.free)=Sc then _ else _) >>=_=_;rw[q];show e
   .rcases hx with hx|hx
    .rcases aM.mp hx with z|z
     .exact absurd (congrArg Prod.snd z).symm l
     .exact .inl z
    .exact .inr hx
theorem QJ(h:∀x∈scope.names,x.2=.free->∃c,env.cells.lookup x.1=Sa c):∃d,closureFor scope env=pure d/\(∀x c,d.lookup x=Sa c->env.cells.lookup x=Sa c)/\∀x,(x,NameKind.free)∈scope.names->∃c,d.lookup x=Sa c:=by
 let⟨d,e,a,b⟩:=jG env scope.names [] h (λx c f=>nomatch f);show⟨d,?_,a,λx f=>b x (.inl f)⟩;unfold closureFor;change(forIn scope.names ([]:List (Str×Sf)) _) >>=_=_;let g:(forIn scope.names ([]:List (Str×Sf)) λ(x:Str×SG)(r:List (Str×Sf))=>(match x with|(name,kind)=>if (kind == NameKind.free)=Sc then do let c <-cellOf env name;pure (ForInStep.yield ((name,c)::r))else pure (ForInStep.yield r):Sem (ForInStep (List (Str×Sf)))))=pure d:=e;rw[g];rfl
noncomputable def relK(env:Env)(x:Str)(k:SG):SG:=if (k == .free&&env.scope.kind == .function&&env.kindOf x == Sa .cell)=Sc then .cell else k
theorem QK(env:Env)(x:Str):∀names:List (Str×SG),
  (names.map λ(n,k)=>if (k == NameKind.free&&env.scope.kind == .function&&env.kindOf n == Sa .cell)then (n,NameKind.cell)else (n,k)).lookup x=(names.lookup x).map (relK env x)
 |[]=>rfl
 |(n,k)::r=>by
  let a:=QK env x r;change List.lookup x ((if (k == NameKind.free&&env.scope.kind == .function&&env.kindOf n == Sa .cell)=Sc then (n,NameKind.cell)else (n,k))::_)=_;let e:(if (k == NameKind.free&&env.scope.kind == .function&&env.kindOf n == Sa .cell)=Sc then (n,NameKind.cell)else (n,k))=(n,relK env n k):=by
   unfold relK;split<;>rfl
  rw[e,gT,gT];cases b:x == n with
  |true=>have:=eq_of_beq b;subst this;rfl
  |false=>show a
theorem QL(scope:Su)(env:Env)(x:Str):(relabel scope env).names.lookup x=(scope.names.lookup x).map (relK env x):=QK env x scope.names
noncomputable def zP(X:Cx)(own:List Str)(cap:List Nat)(scope:Su)(cl:List (Str×Sf))(s:Sg)(H:Hp)(ex:List Sf):Cx:=
 {X with N:=own++cap.map (λj=>X.N.getD j ""),env:=compEnvC scope cl s.heap.objs.size X.env,s₀:=s,H₀:=H,outer:=X.stack,ex:=ex,fn:=λ_=>Sd,pn:=[],xe:=λ_ _=>False}
noncomputable def vX(own:List Str)(cap:List Nat)(σ:St):St:=own.map (λ_=>Sb)++cap.map (λj=>(σ[j]?).join)
structure CompScope(X:Cx)(own:List Str)(cap:List Nat)(scope:Su):Prop where
 kind:scope.kind=.function
 nocell:∀x∈scope.names,x.2≠.cell
 names:∀x∈scope.names,x.2=.local->scope.names.lookup x.1=Sa .local
 free:∀x∈scope.names,x.2=.free->X.env.kindOf x.1=Sa .cell\/X.env.kindOf x.1=Sa .free
 own:∀x∈own,scope.names.lookup x=Sa .local
 caps:∀j∈cap,scope.names.lookup (X.N.getD j "")=Sa .free/\j<X.N.length
theorem qUp{X:Cx}{a:List Str}{cap:List Nat}{scope:Su}{J:List (Str×Sf)}{t:List (Sf×Ss)}{σ:St}{H:Hp}{s:Sg}{K:List Sf}{h':Sk}{tk:Nat}(S:CompScope X a cap scope)(I:Inv X t σ H s)(f:∀x c,J.lookup x=Sa c->X.env.cells.lookup x=Sa c)(A:∀x,(x,NameKind.free)∈scope.names->∃c,J.lookup x=Sa c)(L:∀b∈K,FpOk X t H b)(P:∀b∈K,b<s.heap.objs.size)(Q:h'.Ns s.heap.objs.size (λx=>([]:List (Str×Se)).reverse.lookup x))(C:∀b u,s.heap.get? b=Sa u->h'.get? b=Sa u):Inv (zP X a cap scope J s H K) [] (vX a cap σ) H {s with heap:=h',toks:=tk}:=by
 let kc:∀x k,(relabel scope X.env).names.lookup x=Sa k->(k=.cell\/k=.free)->(x,NameKind.free)∈scope.names:=by
  intro x k e C;rw[QL]at e;cases q:scope.names.lookup x with
  |none=>rw[q]at e;cases e
  |some M=>
   rw[q]at e;let O:relK X.env x M=k:=bI e;let w:=eK q;let h0:M≠.cell:=S.nocell _ w;let:M=.free:=by
    unfold relK at O;by_cases g:(M == NameKind.free&&X.env.scope.kind == .function&&X.env.kindOf x == Sa .cell)=Sc
    .simp only[bT,beq_iff_eq]at g;show g.1.1
    .rw [if_neg g]at O;rcases C with z|z
     .exact absurd (O.trans z) h0
     .exact O.trans z
   rw[this]at w;show w
 let ok:(zP X a cap scope J s H K).Ok :={
  mod:=I.ok.mod
  kind:=S.kind
  glob:=I.ok.glob
  blt:=I.ok.blt
  above:=aI _
  inj:=λx y c B d=>I.ok.inj x y c (f x c B) (f y c d)
  has:=λx hx=>by
   rcases hx with hx|hx
   .exact A x (kc x _ hx (.inl rfl))
   .exact A x (kc x _ hx (.inr rfl))
  cab:=λx c h=>absurd h (show ¬(Sd=Sc)from aL)
  hd:=I.ok.hd
  frames:=I.ok.frames
  stk:=.inl rfl
  exf:=λb g=>⟨aX (P b g),λx c e=>(L b g).2.2.2.2.1 x c (f x c e)⟩
  bs:=I.bs
  bsz:=cH I.ok.bsz I.sz
  noex:=λb o e g=>by
   rcases (L b g).2.2.2.1 with z|z
   .exact I.ok.noex b o e z
   .exact absurd (bS (aO e) (cH I.ok.bsz z)) (eX _)
  exfs:=λb g w=>by
   rcases aM.mp (I.stkSub b w)with z|z
   .exact (L b g).2.1 z
   .exact (L b g).2.2.1 z
  funs:=I.stack
  frf:=I.stkFree}
 show⟨ok,rfl,I.bare,Un.kept C,⟨_,Q,λi x v B d e3=>?_⟩,λx c e=>?_,I.hok.fresh (aI _),λx c e=>I.freeC x c (f x c e),λp hp=>absurd (show p∈([]:List (Sf×Ss))from hp) ∅,I.hok.kept C,?_⟩
 .let B:(a++cap.map (λj=>X.N.getD j ""))[i]? = Sa x:=B;let d:(a.map (λ_=>(Sb:Option V))++cap.map (λj=>(σ[j]?).join))[i]? = Sa (Sa v):=d;by_cases R:i<a.length
  .rw [bQ (by simpa using R),aR]at d;cases q:a[i]? with
   |none=>rw[q]at d;cases d
   |some y=>rw[q]at d;cases d
  .rw [bY (by simpa using R),aR]at B;rw[bY (by simpa using R),aR,aA]at d;cases q:cap[i-a.length]? with
   |none=>rw[q]at d;cases d
   |some j=>
    rw[q]at B d;let D:X.N.getD j ""=x:=bI B;let n:(σ[j]?).join=Sa v:=bI d;let⟨T,E⟩:=S.caps j (aK q);rw[D]at T;let U:X.N[j]? = Sa x:=by
     rw[aE E,<-D,aV,aE E];rfl
    let W:σ[j]? = Sa (Sa v):=by
     cases z:σ[j]? with
     |none=>rw[z]at n;cases n
     |some o=>rw[z]at n;rw[show o=Sa v from n]
    let⟨m,hn,hl⟩:=I.loc;let w:=eK T;let F:=S.free _ w rfl;let Y:Vis X.env.scope x:=by
     rcases F with z|z
     .exact .inr (.inl z)
     .exact .inr (.inr z)
    let⟨u,r,l⟩:=hl j x v U W Y;show⟨u,r,.inr ?_⟩;rcases l with ⟨kl,_⟩|⟨_,c,hc,z⟩
    .rcases F with z|z
     .rw [kl]at z;cases z
     .rw [kl]at z;cases z
    .let⟨c',G⟩:=A x w;let:=f x c' G;rw[hc]at this;cases this;show⟨?_,c,G,?_⟩
     .let q:(relabel scope X.env).names.lookup x=Sa (relK X.env x .free):=by rw[QL,T];rfl
      change(relabel scope X.env).names.lookup x=Sa .cell\/(relabel scope X.env).names.lookup x=Sa .free;rw[q];unfold relK;split
      .exact .inl rfl
      .exact .inr rfl
     .let⟨o,Z,hd⟩:=z;show⟨o,C c o Z,hd⟩
 .let⟨v,o,Z,hd⟩:=I.cell x c (f x c e);show⟨v,o,C c o Z,hd⟩
 .show (a.map (λ_=>(Sb:Option V))++cap.map (λj=>(σ[j]?).join)).length=(a++cap.map (λj=>X.N.getD j "")).length;simp only[aF,aA]
def vY(X:Cx)(m:Sem Se)(o:HO):Prop:=
 ∀(pins:List (Sf×Ss)) (s:Sg) (σ : St) (H:Hp) (E:Se->Sg->Prop) (Q:Se->Sg->Prop),Inv X pins σ H s ->
  (∀l s',s.heap.objs.size<=l->H l=Sb->Inv X pins σ (upd H l o) s'->(∀b u,s.heap.get? b=Sa u->s'.heap.get? b=Sa u)->Q (.ref l) s')->Sm (So X.prog X.w) X.A m Q E s
theorem jH:vY X (newList []) (.lst []):=by
 intro a s σ H E Q I h;show wpAny_newList (h _ _ (aI _) I.fresh (I.lnew (its:=[]) (t':=s.toks) .nil (bL _)) λb u e=>aJ _ e)
theorem QM{X:Cx}{e:Sl}{tg M:Sl}{N:List Sl}{scope:Su}{a:List Str}{d:List Nat}{v:Sem Se}{o:HO}{k:List (Str×Sf)}{behOf:Se->Env->Sem Unit}{g:TG}{O:List TT}{P:Sf->TB}(hc:X.calm=Sc)(S:CompScope X a d scope)(U:∀x c,k.lookup x=Sa c->X.env.cells.lookup x=Sa c)(a7:∀x,(x,NameKind.free)∈scope.names->∃c,k.lookup x=Sa c)(V:vY X v o)(hC:∀s H ex l,ClauseAt (zP X a d scope k s H ex) e 0 (.ref l) tg M N (behOf (.ref l) (zP X a d scope k s H ex).env))(hg:∀s H ex,PG (zP X a d scope k s H ex) tg g)(ht:∀s H ex,PTs (zP X a d scope k s H ex) N O)(j:∀s H ex l,PB (zP X a d scope k s H ex) (behOf (.ref l) (zP X a d scope k s H ex).env) (P l)){i:List (Sf×Ss)}{σ:St}{s2:Sg}{W:Se}{Q:Sf->Hp->Prop}{E:Se->Sg->Prop}{R:Se->Sf->Result->Sg->Prop}(h:PIE X i σ tg (λJ H1=>∀l,H1 l=Sb->LoopT J g (tAll O) (P l) (vX a d σ) (upd H1 l o) λ_ n=>Q l n) W s2)(hR:∀l C B K,Inv X i σ K B->FpOk X i K C->(∃m,B.heap.Ns C m)->Q l K->R (.ref l) C (.ok .next) B)(a8:∀F C f B,R F C (.ok .next) B->R F C (.ok f) B):Sm (So X.prog X.w) X.A v (λF Y=>Sm (So X.prog X.w) X.A (newFunctionEnv scope X.env.globals k [] X.env.qual Sb .none (Sa X.env)) (λG Z=>
   codeAny (So X.prog X.w) X.A (.compStart e 0 W F {G with scope:=relabel scope X.env}) (R F G.locals) Z) E Y) E s2:=by
 let⟨it,D,tn,J,n,rfl,I2,T,st2,f2,q⟩:=h;let a9:∀b∈D,b<s2.heap.objs.size:=λb j=>by
  let⟨ob,e,_⟩:=T.obj _ _ st2 b j;show aO e
 show V i s2 σ n E _ I2 λl t hl hn I3 k3=>?_;let q':=q l hn;let f3:∀b∈D,FpOk X i (upd n l o) b:=λb j=>by
  let⟨a1,a2⟩:=f2 b j;show⟨?_,a2⟩;rw[zC (aX (bS (a9 b j) hl))];show a1
 let a6:∀b∈D,b<t.heap.objs.size:=λb j=>by
  let⟨ob,e,_⟩:=T.obj _ _ st2 b j;show aO (k3 b ob e)
 show wpAny_newFunctionEnv S.nocell (by intro y hy;simp at hy) (λh1 b0 b1=>?_) S.kind;let k4:∀b u,t.heap.get? b=Sa u->h1.get? b=Sa u:=λb u e=>by
  show b1.extBut b u (aX (aO e)) (aJ _ e)
 let I4:Inv (zP X a d scope k t (upd n l o) D) [] (vX a d σ) (upd n l o) {t with heap:=h1,toks:=t.toks+([]:List (Str×Se)).length}:=qUp S I3 U a7 f3 a6 b0 k4;let st4:tn 0 h1:=T.keep _ _ _ st2 λb j ob e=>k4 b ob (k3 b ob e);let f4:∀b∈D,FpOk (zP X a d scope k t (upd n l o) D) [] (upd n l o) b:=λb j=>by
  let⟨a0,a1,a2,a3,a4,a5⟩:=f3 b j;show⟨a0,aX (a6 b j),λhm=>?_,.inl j,λx c ex=>a4 x c (U x c ex),λp hp=>absurd (show p∈([]:List (Sf×Ss))from hp) ∅⟩;rcases aM.mp (I3.stkSub b hm)with z|z
  .exact a1 z
  .exact a2 z
 let b2:∀(r:Result)(B:Sg),CompR (zP X a d scope k t (upd n l o) D) [] (λ_ n=>Q l n) r B->R (.ref l) t.heap.objs.size r B:=by
  intro r B hr;cases r with
  |error x=>show(show False from hr).elim
  |ok f=>
   let⟨b4,H5,L,q5⟩:=(show ∃b3 K,Inv (zP X a d scope k t (upd n l o) D) [] b3 K B/\Q l K from hr);let I6:Inv X i σ H5 B:=I3.call' (ch:=D) L.os L.base L.hok L.bare λb j=>(f3 b j).2.2.2 |> λ⟨z1,z2,z3⟩=>⟨z1,(f3 b j).2.1,z2,z3⟩
   show a8 _ _ _ _ (hR l _ B H5 I6 (I3.fpOk (aI _) L.free) ?_ q5);let⟨m,hm,_⟩:=L.loc;show⟨m,hm⟩
 let I:∀s4:Sg,s4 = { t with heap:=h1,toks:=t.toks+([]:List (Str×Se)).length } ->
   codeAny (So X.prog X.w) X.A (.compLoop e 0 (.ref it) (.ref l) (zP X a d scope k t (upd n l o) D).env) (R (.ref l) t.heap.objs.size) s4:=by
  rintro s4 rfl;show gZ (QI (X:=zP X a d scope k t (upd n l o) D) rfl hc (hC _ _ _ _) T (hg _ _ _) (ht _ _ _) (j _ _ _ l) I4 st4 f4 q') b2
 show(hC t (upd n l o) D l).start (.ref it) _ _ (I _ rfl) (T.self _ 0 _ _ _ st4 (I _ rfl))
section
variable{X:Cx}{e:Sl}{tg iter:Sl}{ifs:List Sl}{gs:List Comprehension}{scope:Su}{own:List Str}{cap:List Nat}{newAcc:Sem Se}{o:HO}{behOf:Se->Env->Sem Unit}{wi:TI}{g:TG}{tts:List TT}{Bof:Sf->TB}{cpos:Sx}
def tComp(own:List Str)(cap:List Nat)(o:HO)(wi:TI)(g:TG)(tts:List TT)(Bof:Sf->TB):TE:=λσ H Q=>wi σ H λJ H1=>∀l,H1 l=Sb->LoopT J g (tAll tts) (Bof l) (vX own cap σ) (upd H1 l o) λ_ H2=>Q (.ref l) H2
theorem QN(u:X.calm=Sc)(S:CompScope X own cap scope)(n:clausesOf e=⟨tg,iter,ifs,0⟩::gs)(hi:PI X tg iter wi)(i:vY X newAcc o)(y:∀c s H ex l,ClauseAt (zP X own cap scope c s H ex) e 0 (.ref l) tg iter ifs (behOf (.ref l) (zP X own cap scope c s H ex).env))(B:∀c s H ex,PG (zP X own cap scope c s H ex) tg g)(D:∀c s H ex,PTs (zP X own cap scope c s H ex) ifs tts)(p:∀c s H ex l,PB (zP X own cap scope c s H ex) (behOf (.ref l) (zP X own cap scope c s H ex).env) (Bof l))(E:∀x,SD iter X.env x=pure x):∀(a:List (Sf×Ss)) (s:Sg) (σ : St) (H:Hp) (Q:VK),Inv X a σ H s->tComp own cap o wi g tts Bof σ H Q ->
   Sm (So X.prog X.w) X.A (comprehension e scope X.env cpos newAcc Sd (Sw iter X.env)) (EP X a σ Q) X.xe s:=by
 intro a s σ H Q I h;let⟨c,d,F,G⟩:=QJ (scope:=scope) (env:=X.env) λx J K=>I.ok.has x.1 (S.free x J K);show wpAny_comprehension_free (use:=Sb) n E d S.kind S.names (thn (hi a s σ H _ I h) λv U L=>thn L λM V N=>?_);show QM (R:=λj C=>compPost (So X.prog X.w) X.A X.xe Sb (EP X a σ Q) j C) u S F G i (y c) (B c) (D c) (p c) N (λl C t O P k r q=>?_) (λj C f t z=>z);let⟨m,r⟩:=r;show⟨m,r,λW T=>⟨.ref l,O,P.turned (t':=t.toks) (λb o p e=>(T.2 b p).trans e) k.1 k.2.1 k.2.2.2.1 k.2.2.2.2.1 k.2.2.2.2.2,rfl,q⟩⟩
theorem jI{i:Nat}{t:Sx}(M:X.calm=Sc)(S:CompScope X own cap scope)(u:clausesOf e=⟨tg,iter,ifs,0⟩::gs)(hi:PI X tg iter wi)(p:vY X newAcc o)(O:∀d s H ex l,ClauseAt (zP X own cap scope d s H ex) e 0 (.ref l) tg iter ifs (behOf (.ref l) (zP X own cap scope d s H ex).env))(P:∀d s H ex,PG (zP X own cap scope d s H ex) tg g)(Q:∀d s H ex,PTs (zP X own cap scope d s H ex) ifs tts)(y:∀d s H ex l,PB (zP X own cap scope d s H ex) (behOf (.ref l) (zP X own cap scope d s H ex).env) (Bof l))(T:∀x,SD iter X.env x=pure x)(U:X.N.Nodup)(B:X.N[i]? = Sa x)(E:Loc X.env.scope x)(F:X.fn x=Sc\/X.env.scope.names.lookup x=Sa .local):∀(c:List (Sf×Ss)) (s:Sg) (σ : St) (H:Hp) (D:Ends),Inv X c σ H s->tComp own cap o wi g tts Bof σ H (λv V=>D.nx (σ.set i (Sa v)) V) ->
   Sm (So X.prog X.w) X.A (comprehension e scope X.env cpos newAcc Sd (Sw iter X.env) (Sa (assign (.Name x t) X.env))) (λ_ n=>SP X c D .next n) X.xe s:=by
 intro c s σ H D I h;let⟨d,j,W,Y⟩:=QJ (scope:=scope) (env:=X.env) λx E F=>I.ok.has x.1 (S.free x E F);show wpAny_comprehension_free (use:=Sa (assign (.Name x t) X.env)) u T j S.kind S.names (thn (hi c s σ H _ I h) λv s1 Z=>thn Z λa0 s2 q2=>?_);show QM (R:=λr C=>compPost (So X.prog X.w) X.A X.xe (Sa (assign (.Name x t) X.env)) (λ_ n=>SP X c D .next n) r C) M S W Y p (O d) (P d) (Q d) (y d) q2 (λl C n H' I' k G q=>?_) (λr C f n z=>z);let⟨m,G⟩:=G;change Sm (So X.prog X.w) X.A (assign (.Name x t) X.env (.ref l)) _ X.xe n;show wpAny_assign_Name (io (v:=.ref l) I' U B E rfl (λJ K hq_=>?_) F);let⟨a,sa,ha⟩:=hq_
 let L:C≠a:=by
  rcases ha with z|z
  .rw [z];show k.2.1
  .exact eI (k.2.2.2.2.1 x a z)
 show⟨m,G.sameBut sa L,λh' sb=>⟨_,H',K.turned (t':=J.toks) (λb o y e=>(sb.2 b y).trans e) k.1 k.2.1 k.2.2.2.1 k.2.2.2.2.1 k.2.2.2.2.2,q⟩⟩
end
def eApp(te:TE)(l:Sf):TB:=λσ H Q=>te σ H λv H1=>∃vs,H1 l=Sa (.lst vs)/\vs.length<Sn/\Q σ (upd H1 l (.lst (vs++[v])))
noncomputable def vZ(elt:Sl)(acc:Se)(env:Env):Sem Unit:=do let _ <-call (.builtin "list.append") [acc,<-Sw elt env]
theorem jJ(f:PE X b d):PB X (vZ b (.ref l) X.env) (eApp d l):=by
 intro a s σ H Q I h;show aB (thn (f a s σ H _ I h) λv g hq_=>?_);let⟨x,i,j,k,m,e,n,q⟩:=hq_;show aB (thn (yh a g σ i (.ref l) [x] (.ref l) [v] (λ_ c=>Q σ c) j rfl (.cons k .nil) ⟨l,m,x,rfl,rfl,e,n,q⟩) λu r hq_=>?_);let⟨z,c,o,_,p⟩:=hq_;show aD ⟨σ,c,o,p⟩
theorem QO:ClauseAt X (.ListComp b [⟨f,a,c,0⟩] scope e) 0 d f a c (vZ b d X.env) where
 quiet:=λ_=>rfl
 under:=λ_=>rfl
 den:=λ_=>rfl
 turn:=λ_=>rfl
 start:=λi R s g h=>codeAny_compStart_list g (fP h (λ_ _ z=>z) λ_ _ z=>z.elim)
theorem Inv.turnLaid{X:Cx}{a:List (Sf×Ss)}{σ:St}{H:Hp}{s:Sg}{h':Sk}{t':Nat}{ch:List Sf}{p:Sf}{o:HO}(I:Inv X a σ H s)(k:∀b u,b∉ch->s.heap.get? b=Sa u->h'.get? b=Sa u)(x:∀b∈ch,∃u,h'.get? b=Sa u)(i:∀b∈ch,FpOk X a H b)(l:s.heap.objs.size<=p)(new:ObjOk X.prog X.w (upd H p o) h' p o):Inv X a σ (upd H p o) {s with heap:=h',toks:=t'}:=by
 let g:H p=Sb:=I.hok.fresh l;let h:∀b u,H b=Sa u->b∉ch:=λb u e d=>by rw[(i b d).1]at e;cases e
 refine I.step (g':=s.gens) (d':=s.drawn) (ch:=ch) (λb d=>?_) (λb u _ _ f e _=>k b u f e) (λb u _ _ f e _=>⟨u.slots,k b u f e⟩) (λb u _ e n=>?_)
  (λb u f e=>⟨u,k b u f e⟩) (λb t e=>?_) (λb j t e=>?_) (λb J e=>?_) (λm y=>?_) (λb u e=>?_) I.bare
 .let⟨_,A,_,B,C,D⟩:=i b d;show⟨B,A,C,D⟩
 .rw [zC (aX (bS (aO e) l))];show n
 .rw [zC (zG e g)];show e
 .rw [zC (zG e g)];show e
 .exact⟨#[],by rw[zC (zG e g),e];simp⟩
 .let⟨j,E,F,G,r⟩:=y;show⟨j,E,F,k _ j (λd=>(i _ d).2.1 rfl) G,r⟩
 .by_cases d:b=p
  .subst d;rw[zB]at e;cases e;show new
  .rw [zC d]at e;show(I.hok b u e).stay (λc v f q=>k c v ?_ q) (λc q=>by rw[zC (zG q g)];show q) λc t q=>by rw[zC (zG q g)];show q
   rcases f with z|z
   .rw [z];show h b u e
   .exact h c _ z
noncomputable def Ite(K:SJ)(a:Sf):It:=⟨λi H=>∃xs x,SqL K H a xs/\xs[i]? = Sa x,λi H x H'=>∃p y,x=.ref p/\H p=Sb/\(∀ys,SqL K H a ys->ys[i]? = Sa y)/\H'=upd H p (.tup [.int (i:Int),y]),λi H=>∃xs,SqL K H a xs/\xs.length<=i⟩
theorem qPa{K:SJ}{k:Nat}(a e it:Sf)(m:e≠it):Turn P w K (.Tuple r k D) (Ite K a) [e,it] e (λi h=>(∃c,IsEnum h e it (i:Nat) c)/\h.IsListIter it a i) where
 mem:=by simp
 obj:=λi h st b f=>by
  obtain⟨⟨c,g⟩,⟨o,F,G,h3⟩⟩:=st;rcases aM.mp f with z|z
  .subst z
   show⟨_,g,λv z=>by
    let z':Data.fields _=Data.cell v:=z
    cases z'⟩
  .let z:b=it:=by simpa using z
   subst z;show⟨o,F,λv z=>by rw[h3]at z;cases z⟩
 keep:=λi h h' st Y=>by
  obtain⟨⟨c,g⟩,n⟩:=st;show⟨⟨c,Y e ∅ _ g⟩,n.at λo q=>Y it ∅ o q⟩
 item:=by
  intro X J L M Z i j s σ H E I B st N;subst J L M;let⟨xs,x,C,O⟩:=N;obtain⟨⟨c,g⟩,n⟩:=st;let⟨Q,R,p,hz⟩:=I.list C;let⟨u,hu,ru⟩:=R.get O;show wpAny_pyNext_enum_item g n p.isList (x:=u) (by simpa using hu) m λF S t ht a0 hk=>?_;show⟨_,rfl,wpAny_letOwnedTupleGo_enum S λG y T=>?_⟩;let l:e<s.heap.objs.size:=aO g;let d:Heap.SameBut e F G:=T;let I1:Inv X j σ (upd H s.heap.objs.size (.tup [.int (i:Int),x])) {s with heap:=G,toks:=s.toks+1}:=by
   show I.turnLaid (ch:=[e,it]) (λb o f q=>?_) (λb f=>?_) B (aI _) ?_
   .let A:b≠e:=λz=>f (by simp[z]);let U:b≠it:=λz=>f (by simp[z]);show(d.2 b A).trans (hk b o A U q)
   .rcases aM.mp f with z|z
    .subst z;show⟨_,y⟩
    .let z:b=it:=by simpa using z
     subst z;let⟨o,q,_⟩:=t;show⟨o,(d.2 _ (eI m)).trans q⟩
   .refine⟨by change 2<=Sn;decide,[.int (i:Int) s.toks,u],.cons ⟨_,rfl⟩ (.cons ru .nil),⟨_,(d.2 _ (dP l)).trans ht,rfl,_,rfl⟩⟩
  show⟨.ref s.heap.objs.size,_,I1,rfl,⟨s.heap.objs.size,x,rfl,I.fresh,λys hy=>by rw[I.list_inj hy C];show O,rfl⟩,⟨⟨_,by
   let:((i+1:Nat):Int)=(i:Int)+1:=by lia
   rw[this];show y⟩,t.extBut d.extBut (eI m)⟩,λb f=>?_⟩
  let V:b<s.heap.objs.size:=by
   rcases aM.mp f with z|z
   .rw [z];show l
   .let z:b=it:=by simpa using z
    rw[z];let⟨o,q,_⟩:=n;show aO q
  rw[zC (aX V)];show(B b f).1
 done:=by
  intro X J L M Z i j s σ H E I B st N;subst J L M;let⟨xs,C,O⟩:=N;obtain⟨⟨c,g⟩,n⟩:=st;let⟨Q,R,p,hz⟩:=I.list C;let⟨f0,f1,f2,f3,f4,f5⟩:=B it ∅;let hl:=R.length;show wpAny_pyNext_enum_end (I.ok.hd Z) g n p.isList (by simp;lia) λh' eb=>⟨rfl,I.turned (t':=s.toks) (λb o f q=>eb b o f q) f0 f1 f3 f4 f5⟩
 self:=λ_ _ _ _ _ st h=>by
  obtain⟨⟨c,g⟩,_⟩:=st;show wpAny_pyIter_enum g h
def iEnum(K:SJ)(ta:TA):TI:=λσ H R=>ta σ H λvs H1=>∃a,vs=[.ref a]/\(∃xs,SqL K H1 a xs)/\R (Ite K a) H1
theorem xt(o:Gl X "enumerate")(r:X.mg "enumerate"=Sb)(t:PA X [a] j)(v:Sv [a] X.env=[(Sd,Sw a X.env)]:=by rfl):PI X (.Tuple elts k tpos) (.Call (.Name "enumerate" p) [a] [] f) (iEnum X.K j):=by
 intro d s σ H R I h;show Call_ (xn I o r boot_enumerate (dB (thn (t f d s σ H _ I h) λM c hq_=>?_) v rfl));let⟨N,m,i,w,x⟩:=hq_;obtain⟨l,e,⟨O,y⟩,q⟩:=x;subst e;let⟨u,rfl,A⟩:=vals1 w;cases A;let⟨B,P,C,Q⟩:=i.list y;show call_enumerate_list C.isList λD n E F G=>?_;show wpAny_pyIter_enum n ?_;let J:Inv X d σ m {c with heap:=D}:=i.kept (t':=c.toks) G;show⟨c.heap.objs.size+1,[c.heap.objs.size+1,c.heap.objs.size],_,_,m,rfl,J,qPa l (c.heap.objs.size+1) c.heap.objs.size (dP (eE _)),⟨⟨_,n⟩,E⟩,λb L=>?_,q⟩;let g:c.heap.objs.size<=b:=by
  rcases aM.mp L with z|z
  .rw [z];show fN _
  .let z:b=c.heap.objs.size:=by simpa using z
   rw[z];show aI _
 show i.fpOk g (i.hok.fresh g)
section
variable{X:Cx}{elt tg iter tg2 iter2:Sl}{ifs ifs2:List Sl}{scope:Su}{g g2:TG}{pos:Sx}
theorem yK(own:List Str)(cap:List Nat)(c:X.calm=Sc)(S:CompScope X own cap scope)(hi:PI X tg iter wi)(d:∀a s H ex,PG (zP X own cap scope a s H ex) tg g)(e:∀a s H ex,PTs (zP X own cap scope a s H ex) ifs tts)(f:∀a s H ex,PE (zP X own cap scope a s H ex) elt te)(i:∀x,SD iter X.env x=pure x:=by intro _;rfl):PE X (.ListComp elt [⟨tg,iter,ifs,0⟩] scope pos) (tComp own cap (.lst []) wi g tts (eApp te)):=by
 intro b s σ H Q I h;show QN (behOf:=vZ elt) c S rfl hi jH (λ_ _ _ _ _=>QO) d e (λa s H ex l=>jJ (f a s H ex)) i b s σ H Q I h
theorem xZ{i:Nat}{x:Str}{d a:Sx}(own:List Str)(cap:List Nat)(j:X.calm=Sc)(S:CompScope X own cap scope)(k:X.N.Nodup)(e:X.N[i]? = Sa x)(m:Loc X.env.scope x)(hi:PI X tg iter wi)(n:∀b s H ex,PG (zP X own cap scope b s H ex) tg g)(o:∀b s H ex,PTs (zP X own cap scope b s H ex) ifs tts)(p:∀b s H ex,PE (zP X own cap scope b s H ex) elt te)(f:SE (.ListComp elt [⟨tg,iter,ifs,0⟩] scope pos) (Sa (.Name x d)) a.line X.env=pure Sc:=by rfl)(q:∀x,SD iter X.env x=pure x:=by intro _;rfl)(r:X.fn x=Sc\/X.env.scope.names.lookup x=Sa .local:=by first|show .inl rfl|show .inr rfl|assumption):PS X (.Assign [.Name x d] (.ListComp elt [⟨tg,iter,ifs,0⟩] scope pos) a) (tAsg (tComp own cap (.lst []) wi g tts (eApp te)) (gName i)):=by
 intro c s σ H D I h;rw[exec_Assign_Name_used _ _ _ _ f];show aB (eY (aB ?_));change Sm _ X.A (do let _ <-comprehension (.ListComp elt [⟨tg,iter,ifs,0⟩] scope pos) scope X.env _ (newList []) Sd (Sw iter X.env) (Sa (assign (.Name x d) X.env))) _ _ s;show aB (thn (jI (behOf:=vZ elt) j S rfl hi jH (λ_ _ _ _ _=>QO) n o (λb s H ex l=>jJ (p b s H ex)) q k e m r c s σ H D I h) λ_ u t=>?_);show aD (aD t)
noncomputable def ut(e iter2:Sl)(d:Nat)(acc:Se)(env:Env):Sem Unit:=do
 let x <-Sw iter2 env
 Sz iter2.pos
 let x <-SD iter2 env x
 let _ <-runOwn (.compStart e d (<-SA [x] (pyIter x)) acc env) env
def bNext(wi2:TI)(g2:TG)(tts2:List TT)(B:TB):TB:=λσ H Q=>wi2 σ H λJ H1=>LoopT J g2 (tAll tts2) B σ H1 Q
theorem qX7{d:Nat}(g:X.xe=λ_ _=>False)(j:X.calm=Sc)(C:ClauseAt X e d b tg2 iter2 ifs2 c)(hi:PI X tg2 iter2 wi2)(k:PG X tg2 g2)(l:PTs X ifs2 tts2)(m:PB X c B)(n:∀x,SD iter2 X.env x=pure x):PB X (ut e iter2 d b X.env) (bNext wi2 g2 tts2 B):=by
 intro a s σ H Q I h;show aB (thn (hi a s σ H _ I h) λv A o=>aB (eY (aB (wpAny_of_eq (n v) (aB (bU (thn o λp t u=>?_)))))));let⟨w,D,E,J,F,rfl,y,T,st2,z,q⟩:=u;let L:=QI g j C T k l m y st2 z q;show aB (wpAny_runOwn ?_);show gZ (C.start (.ref w) (CompR X a Q) t L (T.self _ 0 _ _ _ st2 L)) λr G i=>?_;cases r with
 |error x=>show(show False from i).elim
 |ok f=>show aD i
theorem QP{d:Nat}(hd:gens[d]? = Sa ⟨tg,iter,ifs,0⟩)(it:Se)(R:Result->Sg->Prop)(s:Sg)(f:codeAny (So X.prog X.w) X.A (.compLoop (.ListComp elt gens scope pos) d it a X.env) R s)(h:Sm (So X.prog X.w) X.A (pyIter it) (λb c=>codeAny (So X.prog X.w) X.A (.compLoop (.ListComp elt gens scope pos) d b a X.env) R c) (λ_ _=>False) s):codeAny (So X.prog X.w) X.A (.compStart (.ListComp elt gens scope pos) d it a X.env) R s:=by
 show codeAny_of_tree ?_;change Sm _ X.A ((compStart (.ListComp elt gens scope pos) d it a X.env).onRaise (λx=>do noteFrame x X.env;Sz theWindowsPlace)) _ _ s;show wpAny_notedAt ?_;unfold compStart;let g:(clausesOf (.ListComp elt gens scope pos))[d]? = Sa ⟨tg,iter,ifs,0⟩:=hd;rw[g];change Sm _ _ (ask >>=_) _ _ s;show aB (dH (wpAny_ite ?_));let e:Sm (So X.prog X.w) X.A (pyIter it) (λb c=>codeAny (So X.prog X.w) X.A (.compLoop (.ListComp elt gens scope pos) d b a X.env) R c) (notedBy (So X.prog X.w) X.A X.env λx c=>R (.error x) c) s:=fP h (λ_ _ z=>z) λ_ _ z=>z.elim;split
 .first
   |show aB (aD (aD (And.intro rfl f)))
   |show aD (And.intro rfl f)
 .first
   |show aB (dJ (aB (eY (aB (fP e (λb c e=>aD (And.intro rfl e)) λ_ _ x=>x)))))
   |(show aB (dJ ?_);change Sm _ _ (Sz iter.pos >>=_) _ _ s;show aB (eY (aB (fP e (λb c e=>aD (And.intro rfl e)) λ_ _ x=>x))))
theorem qJ0:ClauseAt X (.ListComp elt [⟨tg,iter,ifs,0⟩,⟨tg2,iter2,ifs2,0⟩] scope pos) 0 a tg iter ifs (ut (.ListComp elt [⟨tg,iter,ifs,0⟩,⟨tg2,iter2,ifs2,0⟩] scope pos) iter2 1 a X.env) where
 quiet:=λ_=>rfl
 under:=λ_=>rfl
 den:=λ_=>rfl
 turn:=λb=>by
  let e:compTurn (.ListComp elt [⟨tg,iter,ifs,0⟩,⟨tg2,iter2,ifs2,0⟩] scope pos) 0 b a X.env=(do
   Sz iter.pos
   match <-pyNext b with
   |none=>pure (.done .next)
   |some v=>
    letOwnedTupleGo tg b v
    assign tg X.env v
    let ok <-wt ifs X.env Sc
    if ok then
     let x <-Sw iter2 X.env
     Sz iter2.pos
     let x <-SD iter2 X.env x
     let _ <-runOwn (.compStart (.ListComp elt [⟨tg,iter,ifs,0⟩,⟨tg2,iter2,ifs2,0⟩] scope pos) 1 (<-SA [x] (pyIter x)) a X.env) X.env
    again (.compLoop (.ListComp elt [⟨tg,iter,ifs,0⟩,⟨tg2,iter2,ifs2,0⟩] scope pos) 0 b a X.env)):=rfl
  rw[e];unfold ut;simp only[bind_assoc,pure_bind]
  first
   |done
   |rfl
   |(congr 1;funext _;congr 1;funext r;cases r<;>rfl)
 start:=λb R s=>QP rfl b R s
theorem qIz:ClauseAt X (.ListComp elt [⟨tg,iter,ifs,0⟩,⟨tg2,iter2,ifs2,0⟩] scope pos) 1 a tg2 iter2 ifs2 (vZ elt a X.env) where
 quiet:=λ_=>rfl
 under:=λ_=>rfl
 den:=λ_=>rfl
 turn:=λ_=>rfl
 start:=λb R s=>QP rfl b R s
end
end L2
namespace Srt
open PySem PySem.W PyProof.Rows
def run{α : Type}(lt:Nat->Nat->Bool):KasT α -> α
 |.ret a=>a
 |.ask i j k=>run lt (k (lt i j))
theorem wu{α β : Type}(lt:Nat->Nat->Bool)(f : α -> KasT β):∀t:KasT α,run lt (t.bind f)=run lt (f (run lt t))
 |.ret _=>rfl
 |.ask i j k=>wu lt f (k (lt i j))
section
variable(lt:Nat->Nat->Bool)
structure Ord:Prop where
 asym:∀a b,lt a b=Sc->lt b a=Sd
 trans:∀a b c,lt b a=Sd->lt c b=Sd->lt c a=Sd
abbrev at'(p:Array Nat)(i:Nat):Nat:=p.getD i 0
def Up(p:Array Nat)(k:Nat):Prop:=∀i j,i<=j->j<k->lt (at' p j) (at' p i)=Sd
def Dn(p:Array Nat)(k:Nat):Prop:=∀i j,i<=j->j<k->lt (at' p i) (at' p j)=Sd
def Eqs(p:Array Nat)(a b:Nat):Prop:=∀i j,a<=i->i<b->a<=j->j<b->lt (at' p i) (at' p j)=Sd
end
theorem Ord.irr(O:Ord lt)(a:Nat):lt a a=Sd:=by
 cases h:lt a a with
 |false=>rfl
 |true=>rw[<-h];show(O.asym a a h)
theorem va{i j:Nat}(h:p[i]? = q[j]?):at' p i=at' q j:=by
 unfold at';rw[cB,cB,h]
theorem xu{i j:Nat}(a:j<=p.size)(k:Nat):at' (kas_rev p i j) k=if i<=k/\k<j then at' p (i+j-1-k)else at' p k:=by
 let h:=getElem?_mirror_all (i:=i) a k;by_cases c:i<=k/\k<j
 .rw [if_pos c]at h ⊢;show va h
 .rw [if_neg c]at h ⊢;show va h
theorem QQ{k l:Nat}(a:k<p.size)(b:l<=k)(i:Nat):at' (bubble p k (k-l)) i=if i=l then at' p k else if l<i/\i<=k then at' p (i-1)else at' p i:=by
 let h:=getElem?_bubble a (k-l) ∎ i;let e:k-(k-l)=l:=by lia
 rw[e]at h;by_cases c:i=l
 .rw [if_pos c]at h ⊢;show va h
 .rw [if_neg c]at h ⊢;by_cases d:l<i/\i<=k
  .rw [if_pos d]at h ⊢;show va h
  .rw [if_neg d]at h ⊢;show va h
theorem Up.snoc(O:Ord lt){n:Nat}(c:1<=n)(u:Up lt p n)(h:lt (at' p n) (at' p (n-1))=Sd):Up lt p (n+1):=by
 intro i j a d;by_cases e:j=n
 .subst e;by_cases b:i=j
  .subst b;show O.irr _
  .exact O.trans _ (at' p (j-1)) _ (u i (j-1) ∎ ∎) h
 .exact u i j a ∎
theorem Dn.snoc(O:Ord lt){n:Nat}(c:1<=n)(u:Dn lt p n)(h:lt (at' p (n-1)) (at' p n)=Sd):Dn lt p (n+1):=by
 intro i j a d;by_cases e:j=n
 .subst e;by_cases b:i=j
  .subst b;show O.irr _
  .exact O.trans _ (at' p (j-1)) _ h (u i (j-1) ∎ ∎)
 .exact u i j a ∎
theorem jK(O:Ord lt)(p:Array Nat):∀(f n:Nat),1<=n->Up lt p n->n<=run lt (kas_asc p f n)/\run lt (kas_asc p f n)<=n+f/\Up lt p (run lt (kas_asc p f n)) /\
  (run lt (kas_asc p f n)<n+f->lt (at' p (run lt (kas_asc p f n))) (at' p (run lt (kas_asc p f n)-1))=Sc)
 |0,n,g,u=>⟨aI _,aI _,u,λh=>absurd h (eX _)⟩
 |f+1,n,g,u=>by
  let i:run lt (kas_asc p (f+1) n)=if lt (at' p n) (at' p (n-1))=Sc then n else run lt (kas_asc p f (n+1)):=by
   change run lt (if lt (at' p n) (at' p (n-1))=Sc then KasT.ret n else kas_asc p f (n+1))=_;cases lt (at' p n) (at' p (n-1))<;>rfl
  rw[i];cases c:lt (at' p n) (at' p (n-1))with
  |true=>
   simp only[if_true];show⟨aI _,∎,u,λ_=>c⟩
  |false=>
   simp only[cD,if_false];let⟨a,b,d,e⟩:=jK O p f (n+1) ∎ (u.snoc O g c);show⟨∎,∎,d,λh=>e ∎⟩
theorem xb(p:Array Nat)(i j:Nat):(kas_rev p i j).Perm p:=mirror_perm _ _ _ _
theorem wM(p:Array Nat)(i j:Nat):(kas_rev p i j).size=p.size:=mirror_size _ _ _ _
theorem Dn.revEq(O:Ord lt){a n:Nat}(f:n<=p.size)(h:a<=n)(u:Dn lt p n)(e:Eqs lt p a n):Dn lt (kas_rev p a n) n:=by
 intro i j c g;rw[xu f,xu f];by_cases d:a<=i/\i<n
 .by_cases b:a<=j/\j<n
  .rw [if_pos d,if_pos b];show e _ _ ∎ ∎ ∎ ∎
  .lia
 .by_cases b:a<=j/\j<n
  .rw [if_neg d,if_pos b];show u _ _ ∎ ∎
  .rw [if_neg d,if_neg b];show u _ _ c g
theorem uu(O:Ord lt):∀(f:Nat) (p:Array Nat) (n q:Nat),q+1<=n->n+f<=p.size->Dn lt p n->Eqs lt p (n - (q+1)) n ->
  ∃b a g,run lt (kas_desc f p n q)=(b,a,g)/\b.Perm p/\b.size=p.size/\n<=a/\a<=n+f/\g+1<=a/\Dn lt b a/\Eqs lt b (a-(g+1)) a
 |0,p,n,q,v,B,u,e=>⟨p,n,q,rfl,gF _,rfl,aI _,aI _,v,u,e⟩
 |f+1,p,n,q,v,B,u,e=>by
  unfold kas_desc;change ∃b a g,run lt (if lt (at' p n) (at' p (n-1))=Sc then _ else _)=_/\_;cases c:lt (at' p n) (at' p (n-1))with
  |true=>
   simp only[if_true];by_cases y:q>0
   .rw [if_pos y];let C:Dn lt (kas_rev p (n-(q+1)) n) n:=u.revEq O ∎ ∎ e;let D:at' (kas_rev p (n-(q+1)) n) n=at' p n:=by rw[xu ∎,if_neg ∎]
    let E:at' (kas_rev p (n-(q+1)) n) (n-1)=at' p (n-(q+1)):=by
     rw[xu ∎,if_pos ∎];congr 1;lia
    let F:Dn lt (kas_rev p (n-(q+1)) n) (n+1):=C.snoc O ∎ (by
     rw[D,E]
     show O.trans _ (at' p (n-1)) _ (O.asym _ _ c) (e _ _ ∎ ∎ ∎ ∎))
    let⟨b,a,g,r,h,l,z,A,m,o,s⟩:=uu O f (kas_rev p (n-(q+1)) n) (n+1) 0 ∎ (by rw[wM];lia) F (λi j _ _ _ _=>by
     let:i=j:=by lia
     subst this;show O.irr _)
    show⟨b,a,g,r,h.trans (xb _ _ _),l.trans (wM _ _ _),∎,∎,m,o,s⟩
   .rw [if_neg y]
    let⟨b,a,g,r,h,l,z,A,m,o,s⟩:=uu O f p (n+1) 0 ∎ ∎ (u.snoc O ∎ (O.asym _ _ c)) (λi j _ _ _ _=>by
     let:i=j:=by lia
     subst this;show O.irr _)
    show⟨b,a,g,r,h,l,∎,∎,m,o,s⟩
  |false=>
   simp only[cD,if_false];change ∃b a g,run lt (if lt (at' p (n-1)) (at' p n)=Sc then _ else _)=_/\_;cases d:lt (at' p (n-1)) (at' p n)with
   |true=>
    simp only[if_true];show⟨p,n,q,rfl,gF _,rfl,aI _,∎,v,u,e⟩
   |false=>
    simp only[cD,if_false]
    let⟨b,a,g,r,h,l,z,A,m,o,s⟩:=uu O f p (n+1) (q+1) ∎ ∎ (u.snoc O ∎ d) (λi j G w H x=>by
     let t:∀k,n+1-(q+1+1)<=k->k<n+1->lt (at' p k) (at' p (n-1))=Sd/\lt (at' p (n-1)) (at' p k)=Sd:=by
      intro k J K;by_cases I:k=n
      .subst I;show⟨c,d⟩
      .exact⟨e _ _ ∎ ∎ ∎ ∎,e _ _ ∎ ∎ ∎ ∎⟩
     show O.trans _ (at' p (n-1)) _ (t j H x).2 (t i G w).1)
    show⟨b,a,g,r,h,l,∎,∎,m,o,s⟩
theorem Dn.rev{n:Nat}(a:n<=p.size)(u:Dn lt p n):Up lt (kas_rev p 0 n) n:=by
 intro i j b c;rw[xu a,xu a,if_pos ∎,if_pos ∎];show u _ _ ∎ ∎
theorem QR(O:Ord lt){n nrem:Nat}(e:1<=n)(f:n<=nrem)(hz:nrem<=p.size)(u:Dn lt p n):∃m c,run lt (kas_tail3 n nrem p)=(m,c)/\c.Perm p/\c.size=p.size/\1<=m/\m<=nrem/\Up lt c m:=by
 let⟨a,b,d,_⟩:=jK O (kas_rev p 0 n) (nrem-n) n e (u.rev ∎);show⟨_,_,wu lt _ _,xb _ _ _,wM _ _ _,∎,∎,d⟩
theorem QS(O:Ord lt){n nrem:Nat}(v:1<=n)(w:n+1<=nrem)(hz:nrem<=p.size)(u:Dn lt p (n+1)):∃m a,run lt (kas_descPart n nrem p)=(m,a)/\a.Perm p/\a.size=p.size/\1<=m/\m<=nrem/\Up lt a m:=by
 let⟨a,b,l,r,o,x,y,z,A,q,t⟩:=uu O (nrem-(n+1)) p (n+1) 0 ∎ ∎ u (λi j _ _ _ _=>by
  let:i=j:=by lia
  subst this;show O.irr _)
 unfold kas_descPart;rw[wu,r];dsimp only;by_cases s:l>0
 .rw [if_pos s];let⟨m,c,e,d,f,g,h,k⟩:=QR O (p:=kas_rev a (b-(l+1)) b) (n:=b) (nrem:=nrem) ∎ ∎ (by rw[wM];lia) (q.revEq O ∎ ∎ t);show⟨m,c,e,(d.trans (xb _ _ _)).trans o,by rw[f,wM];lia,g,h,k⟩
 .rw [if_neg s];let⟨m,c,e,d,f,g,h,k⟩:=QR O (p:=a) (n:=b) (nrem:=nrem) ∎ ∎ ∎ q;show⟨m,c,e,d.trans o,by rw[f];lia,g,h,k⟩
theorem qUo(O:Ord lt){nrem:Nat}(F:1<=nrem)(hz:nrem<=p.size):∃m g,run lt (kas_count nrem p)=(m,g)/\g.Perm p/\g.size=p.size/\1<=m/\m<=nrem/\Up lt g m:=by
 let⟨a,b,d,e⟩:=jK O p (nrem-1) 1 ∎ (λi j h l=>by
  let:i=j:=by lia
  subst this;show O.irr _)
 unfold kas_count;rw[wu];generalize G:run lt (kas_asc p (nrem-1) 1)=n at a b d e;by_cases c:n=nrem
 .rw [if_pos (by simp[c])];show⟨n,p,rfl,gF _,rfl,a,∎,d⟩
 .rw [if_neg (by simp[c])];let k:=e ∎;by_cases r:n>1
  .rw [if_pos r];change ∃m g,run lt (if lt (at' p 0) (at' p (n-1))=Sc then _ else _)=_/\_;cases f:lt (at' p 0) (at' p (n-1))with
   |true=>
    simp only[if_true];show⟨n,p,rfl,gF _,rfl,a,∎,d⟩
   |false=>
    simp only[cD,if_false];let all:∀i j,i<n->j<n->lt (at' p i) (at' p j)=Sd:=by
     intro i j s l;let t:lt (at' p (n-1)) (at' p j)=Sd:=d j (n-1) ∎ ∎;let v:lt (at' p i) (at' p 0)=Sd:=d 0 i ∎ s;show O.trans _ (at' p 0) _ (O.trans _ (at' p (n-1)) _ t f) v
    let u:Dn lt (kas_rev p 0 n) (n+1):=by
     intro i j h l;rw[xu ∎,xu ∎];by_cases w:j=n
     .subst w;rw[if_neg (show ¬(0<=j/\j<j)by lia)];by_cases o:i=j
      .subst o;rw[if_neg ∎];show O.irr _
      .rw [if_pos ∎];show O.trans _ (at' p (j-1)) _ (O.asym _ _ k) (all _ _ ∎ ∎)
     .rw [if_pos ∎,if_pos ∎];show all _ _ ∎ ∎
    let⟨m,x,q,y,z,A,B,C⟩:=QS O (p:=kas_rev p 0 n) (n:=n) (nrem:=nrem) a ∎ (by rw[wM];lia) u;show⟨m,x,q,y.trans (xb _ _ _),by rw[z,wM],A,B,C⟩
  .rw [if_neg r];let D:n=1:=by lia
   subst D;let u:Dn lt p (1+1):=by
    intro i j h l;by_cases o:i=j
    .subst o;show O.irr _
    .let E:i=0:=by lia
     let q:j=1:=by lia
     subst E;subst q;show O.asym _ _ k
   show QS O ∎ ∎ hz u
theorem jL(O:Ord lt){k:Nat}(u:Up lt p k):∀(f l r:Nat),l<=r->r<=k->r - l<=f->(∀i,i<l->lt (at' p k) (at' p i)=Sd)->(∀i,r<=i->i<k->lt (at' p k) (at' p i)=Sc) ->
  ∃m,run lt (kas_place p k f l r)=m/\m<=k/\(∀i,i<m->lt (at' p k) (at' p i)=Sd)/\∀i,m<=i->i<k->lt (at' p k) (at' p i)=Sc
 |0,l,r,h,j,n,a,b=>⟨l,rfl,∎,a,λi e=>b i ∎⟩
 |f+1,l,r,h,j,n,a,b=>by
  unfold kas_place;by_cases c:l>=r
  .rw [if_pos c];show⟨l,rfl,∎,a,λi e=>b i ∎⟩
  .rw [if_neg c];change ∃m,run lt (if lt (at' p k) (at' p ((l+r) / 2))=Sc then _ else _)=m/\_;cases d:lt (at' p k) (at' p ((l+r) / 2))with
   |true=>
    simp only[if_true];show jL O u f l ((l+r) / 2) ∎ ∎ ∎ a λi e g=>?_;by_cases o:r<=i
    .exact b i o g
    .cases z:lt (at' p k) (at' p i)with
     |true=>rfl
     |false=>
      let x:=u ((l+r) / 2) i e g;let:=O.trans _ _ _ x z;rw[d]at this;cases this
   |false=>
    simp only[cD,if_false];show jL O u f ((l+r) / 2+1) r ∎ ∎ ∎ (λi e=>?_) b;by_cases q:i<l
    .exact a i q
    .exact O.trans _ _ _ (u i ((l+r) / 2) ∎ ∎) d
theorem qZr(O:Ord lt){k l:Nat}(e:k<p.size)(f:l<=k)(u:Up lt p k)(a:∀i,i<l->lt (at' p k) (at' p i)=Sd)(b:∀i,l<=i->i<k->lt (at' p k) (at' p i)=Sc):Up lt (bubble p k (k-l)) (k+1):=by
 intro i j d n;rw[QQ e f,QQ e f];by_cases g:i=l
 .rw [if_pos g];by_cases c:j=l
  .rw [if_pos c];show O.irr _
  .rw [if_neg c,if_pos ∎];show O.asym _ _ (b _ ∎ ∎)
 .rw [if_neg g];by_cases c:j=l
  .rw [if_pos c,if_neg ∎];show a i ∎
  .rw [if_neg c];by_cases h:l<i/\i<=k
   .rw [if_pos h,if_pos ∎];show u _ _ ∎ ∎
   .rw [if_neg h];by_cases m:l<j/\j<=k
    .rw [if_pos m];show u _ _ ∎ ∎
    .rw [if_neg m];show u _ _ d ∎
theorem QT(O:Ord lt):∀(f:Nat) (p:Array Nat) (k:Nat),k+f=p.size->Up lt p k -> ∃c,run lt (kas_bin f p k)=c/\c.Perm p/\c.size=p.size/\Up lt c p.size
 |0,p,k,h,u=>⟨p,rfl,gF _,rfl,by rw[<-h];show u⟩
 |f+1,p,k,h,u=>by
  unfold kas_bin;rw[wu];let⟨m,e,j,a,b⟩:=jL O u k 0 k ∎ ∎ ∎ (λi d=>absurd d ∎) (λi d l=>absurd l ∎);rw[e];let⟨c,n,o,q,g⟩:=QT O f (bubble p k (k-m)) (k+1) (by rw[bubble_size];lia) (qZr O ∎ j u a b);show⟨c,n,o.trans (bubble_perm _ _ _),by rw[q,bubble_size],by rw[bubble_size]at g;show g⟩
theorem sort_ok(O:Ord lt){n:Nat}(g:1<=n):∃p,run lt (kas_sort n)=p/\p.Perm (List.toArray (List.range n))/\p.size=n/\Up lt p n:=by
 let⟨m,p,e,a,h,l,o,b⟩:=qUo O (p:=List.toArray (List.range n)) (nrem:=n) g ∅;let d:p.size=n:=by rw[h];simp
 unfold kas_sort;rw[wu,e];dsimp only;by_cases c:m<n
 .rw [if_pos c];let em:max m 1=m:=by lia
  rw[em];let⟨i,j,k,q,f⟩:=QT O (n-m) p m ∎ b;show⟨i,j,k.trans a,∎,by rw[d]at f;show f⟩
 .rw [if_neg c];let:m=n:=by lia
  subst this;show⟨p,rfl,a,d,b⟩
def Asks{α : Type}(n:Nat):KasT α -> Prop
 |.ret _=>True
 |.ask i j k=>i<n/\j<n/\∀b,Asks n (k b)
def Ends'{α : Type}(n:Nat)(P : α -> Prop):KasT α -> Prop
 |.ret a=>P a
 |.ask i j k=>i<n/\j<n/\∀b,Ends' n P (k b)
theorem ww{α β : Type}{n:Nat}{P : α -> Prop}{R : β -> Prop}{f : α -> KasT β}(c:∀a,P a->Ends' n R (f a)):∀ {t:KasT α},Ends' n P t->Ends' n R (t.bind f)
 |.ret a,h=>c a h
 |.ask _ _ k,⟨d,e,g⟩=>⟨d,e,λb=>ww c (g b)⟩
def Bd(n:Nat)(p:Array Nat):Prop:=∀i,at' p i<n
theorem Bd.of{n:Nat}(b:0<n)(h:q.Perm p)(c:∀x∈p,x<n):Bd n q/\∀x∈q,x<n:=by
 let a:∀x∈q,x<n:=λx d=>c x ((Array.Perm.mem_iff h).mp d);show⟨λi=>?_,a⟩;unfold at';rw[cB];cases e:q[i]? with
 |none=>show b
 |some x=>show a x (Array.mem_of_getElem? e)
section
variable(h0:0<n)
abbrev Ok(n:Nat)(p:Array Nat):Prop:=Bd n p/\∀x∈p,x<n
include h0
theorem Ok.perm(h:Ok n p)(a:q.Perm p):Ok n q:=Bd.of h0 a h.2
theorem jM(a:Ok n p):∀(f k:Nat),Ends' n (λ_=>True) (kas_asc p f k)
 |0,_=>trivial
 |f+1,k=>⟨a.1 _,a.1 _,λb=>by
  cases b with
  |true=>show trivial
  |false=>show jM a f (k+1)⟩
theorem uv:∀(f:Nat) (p:Array Nat) (k q:Nat),Ok n p->Ends' n (λr=>Ok n r.1) (kas_desc f p k q)
 |0,p,_,_,a=>a
 |f+1,p,k,q,a=>⟨a.1 _,a.1 _,λb=>by
  cases b with
  |true=>
   change Ends' n _ (if q>0 then _ else _);by_cases c:q>0
   .rw [if_pos c];show uv f _ _ _ (a.perm h0 (xb _ _ _))
   .rw [if_neg c];show uv f _ _ _ a
  |false=>
   show⟨a.1 _,a.1 _,λd=>?_⟩;cases d with
   |true=>show a
   |false=>show uv f _ _ _ a⟩
theorem QU(b:Ok n p)(k m:Nat):Ends' n (λr=>Ok n r.2) (kas_tail3 k m p):=by
 unfold kas_tail3;show ww (P:=λ_=>True) (λa _=>?_) (jM h0 (b.perm h0 (xb _ _ _)) _ _);show b.perm h0 (xb _ _ _)
theorem QV(d:Ok n p)(k m:Nat):Ends' n (λr=>Ok n r.2) (kas_descPart k m p):=by
 unfold kas_descPart
 show ww (P:=λr=>Ok n r.1) (λa b=>by
  by_cases c:a.2.2>0
  .rw [if_pos c];show QU h0 (b.perm h0 (xb _ _ _)) _ _
  .rw [if_neg c];show QU h0 b _ _) (uv h0 _ _ _ _ d)
theorem qOs(d:Ok n p)(m:Nat):Ends' n (λr=>Ok n r.2) (kas_count m p):=by
 unfold kas_count
 show ww (P:=λ_=>True) (λa _=>by
  by_cases c:(a == m)=Sc
  .rw [if_pos c];show d
  .rw [if_neg c];by_cases e:a>1
   .rw [if_pos e];show⟨d.1 _,d.1 _,λb=>?_⟩;cases b with
    |true=>show d
    |false=>show QV h0 (d.perm h0 (xb _ _ _)) _ _
   .rw [if_neg e];show QV h0 d _ _) (jM h0 d _ _)
theorem jN{p:Array Nat}(a:Ok n p)(k:Nat):∀(f l r:Nat),Ends' n (λ_=>True) (kas_place p k f l r)
 |0,_,_=>trivial
 |f+1,l,r=>by
  unfold kas_place;by_cases c:l>=r
  .rw [if_pos c];show trivial
  .rw [if_neg c];show⟨a.1 _,a.1 _,λb=>?_⟩;cases b with
   |true=>show jN a k f _ _
   |false=>show jN a k f _ _
theorem QW:∀(f:Nat) (p:Array Nat) (k:Nat),Ok n p->Ends' n (λ_=>True) (kas_bin f p k)
 |0,_,_,_=>trivial
 |f+1,p,k,a=>ww (P:=λ_=>True) (λl _=>QW f _ _ (a.perm h0 (bubble_perm _ _ _))) (jN h0 a k _ _ _)
theorem sort_ends:Ends' n (λ_=>True) (kas_sort n):=by
 let b:Ok n (List.toArray (List.range n)):=Bd.of h0 (gF _) (λx d=>by simpa using d);show ww (P:=λr=>Ok n r.2) (λa e=>?_) (qOs h0 b n);by_cases c:a.1<n
 .rw [if_pos c];show QW h0 _ _ _ e
 .rw [if_neg c];show trivial
end
theorem wp_run_in{α : Type}{n:Nat}{lt:Nat->Nat->Bool}{a:Nat->Nat->(Bool->Sg->Prop)->Sg->Prop}{s:Sg}{Q : α -> Sg->Prop}{P : α -> Prop}(h:∀i j C,i<n->j<n->C (lt i j) s->a i j C s):∀t:KasT α,Ends' n P t->Q (run lt t) s->t.kasWp a Q s
 |.ret _,_,q=>q
 |.ask i j k,e,q=>h i j _ e.1 e.2.1 (wp_run_in h (k (lt i j)) (e.2.2 _) q)
end Srt
namespace L2
open PySem PySem.Spec PyProof.Rows
theorem HOk.gone(x:HOk P w H h)(c:h.get? D=Sb):H D=Sb:=by
 cases q:H D with
 |none=>rfl
 |some u=>
  let z:∃a,h.get? D=Sa a:=by
   let:=x D u q;cases u with
   |lst xs=>obtain⟨_,_,_,_,e⟩:=this;show⟨_,e⟩
   |tup xs=>obtain⟨_,_,_,a,e,_⟩:=this;show⟨_,e⟩
   |dK b=>obtain⟨_,_,_,_,o,_,_,e,_⟩:=this;show⟨_,e⟩
   |dT b=>obtain⟨_,_,_,_,o,_,_,e,_⟩:=this;show⟨_,e⟩
   |set S n=>obtain⟨o,_,_,_,e,_⟩:=this;show⟨_,e⟩
   |ins C dx fs=>obtain⟨_,_,_,e,_⟩:=this;show⟨_,e⟩
   |own y=>obtain⟨_,e⟩:=this;show⟨_,e⟩
   |xd fs=>obtain⟨_,⟨_,_,_,e,_⟩,_⟩:=this;show⟨_,e⟩
   |rng lo hi=>obtain⟨_,_,_,e⟩:=this;show⟨_,e⟩
   |frz a u=>obtain⟨e,_⟩:=this;show⟨_,e⟩
   |tbl d=>show⟨_,this⟩
   |met f y=>show⟨_,this⟩
   |ext φ=>obtain⟨_,⟨_,e⟩,_⟩:=this;show⟨_,e⟩
  let⟨a,z⟩:=z;rw[c]at z;cases z
theorem Inv.ledgerLaid{X:Cx}{d:List (Sf×Ss)}{σ:St}{H:Hp}{s:Sg}{h':Sk}{t':Nat}{D:Sf}{o:HO}{m:Str->Option Se}(I:Inv X d σ H s)(F:Fr X.base X.env.locals s.heap m)(g:Fr X.base X.env.locals h' m)(N:News X.base X.env.locals h' (wZ X.base s.heap X.env.locals))(i:s.heap.get? D=Sb)(r:D≠X.env.locals)(new:ObjOk X.prog X.w (upd H D o) h' D o):Inv X d σ (upd H D o) {s with heap:=h',toks:=t'}:=by
 let k:∀b u,b≠X.env.locals->s.heap.get? b=Sa u->h'.get? b=Sa u:=λb u a e=>by
  cases q:X.base.get? b with
  |some v=>
   let:=I.bk b v q;rw[e]at this;cases this;show g.keep b _ q
  |none=>show(N (b,u) (kr a q e)).1
 let f:H D=Sb:=I.hok.gone i;let h:∀b u,s.heap.get? b=Sa u->b≠D:=λb u e z=>by rw[z,i]at e;cases e
 refine I.step (g':=s.gens) (d':=s.drawn) (ch :=[]) (λ_ z=>nomatch z) (λb u a _ _ e _=>k b u a e) (λb u a _ _ e _=>⟨u.slots,k b u a e⟩) (λb u _ e n=>by rw [zC (h b u e)];exact n)
  (λb u _ e=>?_) (λb j e=>by rw[zC (zG e f)];show e) (λb R j e=>by rw[zC (zG e f)];show e) (λb S e=>⟨#[],by rw[zC (zG e f),e];simp⟩) (λt A=>?_) (λb u e=>?_) I.bare
 .by_cases a:b=X.env.locals
  .let⟨B,_,_,C,_⟩:=g.ns;show⟨B,by rw[a];show C⟩
  .exact⟨u,k b u a e⟩
 .let:t=m:=by
   let⟨T,E,G,J,K,_,L⟩:=A;let⟨U,M,O,l,p,_,P⟩:=F.ns;rw[J]at l;cases l;rw[K]at p;cases p
   funext x;rw[<-L,<-P]
  rw[this];show g.ns
 .by_cases a:b=D
  .subst a;rw[zB]at e;cases e;show new
  .rw [zC a]at e;show(I.hok b u e).stay (λc v Q q=>k c v ?_ q) (λc q=>by rw[zC (zG q f)];show q) λc j q=>by rw[zC (zG q f)];show q
   intro z;rcases Q with y|y
   .rw [<-y,z,I.free]at e;cases e
   .rw [z,I.free]at y;cases y
end L2
namespace Srt
open PySem PySem.W PyProof.Rows
theorem QX:∀a b:List Int,HT.lexLt a b=Sc->HT.lexLt b a=Sd
 |[],[],h=>by simp[HT.lexLt]at h
 |[],_::_,_=>rfl
 |_::_,[],h=>by simp[HT.lexLt]at h
 |x::xs,y::c,h=>by
  rw[HT.lexLt_cons]at h ⊢;by_cases e:x=y
  .subst e;simp only[if_true]at h ⊢;show QX xs c h
  .rw [if_neg e]at h;rw[if_neg (λz=>e z.symm)];let:x<y:=of_decide_eq_true h;show decide_eq_false ∎
theorem QY:∀a b c:List Int,HT.lexLt b a=Sd->HT.lexLt c b=Sd->HT.lexLt c a=Sd
 |a,[],[],h,_=>by cases a<;>first|rfl|show h
 |[],_,_::_,_,_=>rfl
 |_,_::_,[],_,h=>by simp[HT.lexLt]at h
 |_::_,[],_::_,h,_=>by simp[HT.lexLt]at h
 |x::xs,y::i,z::zs,e,d=>by
  rw[HT.lexLt_cons]at e d ⊢;by_cases g:y=x
  .subst g;simp only[if_true]at e;by_cases f:z=y
   .subst f;simp only[if_true]at d ⊢;show QY xs i zs e d
   .rw [if_neg f]at d ⊢;show d
  .rw [if_neg g]at e;let j:¬y<x:=of_decide_eq_false e;by_cases f:z=y
   .subst f;rw[if_neg g];show e
   .rw [if_neg f]at d;let k:¬z<y:=of_decide_eq_false d;rw[if_neg ∎];show decide_eq_false ∎
theorem lex_ord(ts:List (List Int)):Ord (λi j=>HT.lexLt (ts.getD i []) (ts.getD j [])):=⟨λ_ _=>QX _ _,λ_ _ _=>QY _ _ _⟩
theorem katlex{a:Bool}:∀ {ns ms:List Int} {us c:List Se} {i:Nat},IntsAre us ns->IntsAre c ms->a=decide (ns.length<ms.length)->Q (HT.lexLt ns ms) s ->
  KatLex prog w A Sc a Q (us.zip c) i s
 |[],[],_,_,_,.nil,.nil,hf,q=>by subst hf;show q
 |[],_::_,_,_,_,.nil,.cons _ _ _,hf,q=>by subst hf;show q
 |_::_,[],_,_,_,.cons _ _ _,.nil,hf,q=>by
  subst hf;show q
 |n::ns,m::ms,_,_,i,.cons _ t d,.cons _ g f,hf,q=>by
  rw[HT.lexLt_cons]at q;show kat_cons (wpAny_eqBool_int ?_);by_cases e:n=m
  .subst e;rw[beq_self_eq_true];rw[if_pos rfl]at q;show kat_yes (katlex d f (by subst hf;simp) q)
  .rw [if_neg e]at q;let:(n == m)=Sd:=beq_eq_false_iff_ne.mpr e;rw[this];show kat_no ?_;cases b:(Sc&&i == 0)with
   |true=>show oneLt_int q
   |false=>show kat_one _ _ (lt_int (show PySem.W.BoolBack Q (.bool (decide (n<m))) s from q))
def TupAt(h:Sk):List Se->List (List Int)->Prop:=Paired λu t=>∃a o xs k,u=Value.ref a/\h.get? a=Sa o/\o.cls=.type "tuple"/\o.data=.seq xs k/\IntsAre xs.toList t
theorem TupAt.get:∀ {us:List Se} {ts:List (List Int)} (i:Nat),TupAt h us ts->i<ts.length -> ∃a o xs k,us.getD i Value.none=Value.ref a/\h.get? a=Sa o/\o.data = .seq xs k/\IntsAre xs.toList (ts.getD i [])
 |_,_,_,.nil,hi=>absurd hi ∅
 |_,_,0,.cons ⟨a,o,xs,k,e,b,f,c,d⟩ _,_=>⟨a,o,xs,k,e,b,c,d⟩
 |_::us,_::ts,i+1,.cons _ r,hi=>TupAt.get i r (by simpa using hi)
theorem TupAt.firsts:∀ {us:List Se} {ts:List (List Int)},TupAt h us ts->(∀t∈ts,t ≠ []) -> ∃fs:List Se,KatTups h us fs/\fs.length=us.length /\ ∀v∈fs,∃i t,v=Value.int i t
 |_,_,.nil,_=>⟨[],trivial,rfl,λ_ h=>nomatch h⟩
 |_::us,t::ts,.cons ⟨a,o,xs,k,e,f,g,j,b⟩ r,d=>by
  let⟨fs,m,p,q⟩:=TupAt.firsts r λt s=>d t (aS _ s);let c:=d t aT;let⟨l⟩:=xs;let b:IntsAre l t:=b;cases b with
  |nil=>show absurd rfl c
  |cons n tk w=>
   subst e;show⟨Value.int n tk::fs,KatTups.cons f g j rfl m,by simp[p],λv u=>?_⟩;rcases aM.mp u with z|z
   .exact⟨n,tk,z⟩
   .exact q v z
end Srt
namespace L2
open PySem PySem.Spec PyProof.Rows
def TupI(K:SJ)(H:Hp):List V->List (List Int)->Prop:=Paired λv t=>∃a,v=.ref a/\SqT K H a (t.map V.int)
theorem TupI.len{K:SJ}(h:TupI K H vs ts):vs.length=ts.length:=fI h
theorem TupI.at(I:Inv X pins σ H s):∀ {vs:List V} {us:List Se} {ts:List (List Int)},TupI X.K H vs ts->Vals vs us->Srt.TupAt s.heap us ts
 |_,_,_,.nil,.nil=>.nil
 |_,_,_,.cons ⟨a,e,c⟩ r,.cons d f=>by
  subst e;cases d;obtain⟨b,g,⟨o,h,i,n,j⟩,_⟩:=I.tuple c;show .cons ⟨a,o,b.toArray,n,rfl,h,i,j,by simpa using uj g⟩ (TupI.at I r f)
theorem qP6(r:Vals vs us)(i:Nat):RelV (vs.getD i .non) (us.getD i Value.none):=by
 cases e:vs[i]? with
 |none=>
  let a:=r.none_of e;rw[aV,aV,e,a];rfl
 |some x=>
  let⟨u,b,c⟩:=r.get e;rw[aV,aV,e,b];show c
theorem QZ(r:Vals vs us):∀l:List Nat,Vals (l.map λi=>vs.getD i .non) (l.map λi=>us.getD i Value.none)
 |[]=>.nil
 |i::l=>.cons (qP6 r i) (QZ r l)
theorem qIo{α β:Type}(b:α)(c:β):∀(vs:List α)(ts:List β),vs.length=ts.length->(List.range vs.length).map (λi=>(vs.getD i b,ts.getD i c))=vs.zip ts:=by
 intro vs ts h;show List.ext_getElem? λi=>?_;rw[aR];by_cases a:i<vs.length
 .let d:i<ts.length:=by lia
  let e:i<(vs.zip ts).length:=by rw[List.length_zip];lia
  rw[List.getElem?_range a,aE e,List.getElem_zip];simp[aV,a,d]
 .rw [eN (by simpa using a),eN (by rw[List.length_zip];lia)];rfl
def qYs(K:SJ):List V->Hp->VK->Prop:=λxs H Q => ∃(a:Sf) (vs:List V) (ts:List (List Int)),xs = [.ref a]/\SqL K H a vs/\TupI K H vs ts/\(∀t∈ts,t ≠ [])/\ts.length<64 /\
 ∀(l:Sf)(ps:List (V×List Int)),H l=Sb->ps.Perm (vs.zip ts)->(ps.map (·.2)).Pairwise (λa b=>HT.lexLt b a=Sd)->Q (.ref l) (upd H l (.lst (ps.map (·.1))))
theorem qOa(r:s.heap.IsList l [v].toArray)
  (h:∀h' c,(∀b o,s.heap.get? b=Sa o->h'.get? b=Sa o)->h'.get? (s.heap.objs.size+1)=Sa (seqObj "list" #[v] c)->Q (.ref (s.heap.objs.size+1)) {s with heap:=h'}):Sm (So prog w) A (call (.builtin "sorted") [.ref l]) Q E s:=by
 show gQ kind_sorted plain_sorted entry_sorted (args_sorted1 _) ?_;unfold Builtin.«sorted»;show aB (m:=checkCount "sorted" 1 1 _) (aD (aB (collect_list r (aB (wpAny_newList ?_)))));generalize p:(s.heap.push (seqObj "list" #[] 0)).update s.heap.objs.size (Obj.mapSeq (·++[v].toArray))=a;let j:a.objs.size=s.heap.objs.size+1:=by rw[<-p,Heap.size_update,size_push']
 let t:∀b o,s.heap.get? b=Sa o->a.get? b=Sa o:=λb o e=>by
  let g:b<s.heap.objs.size:=aO e;rw[<-p,Heap.get?_update_ne _ _ _ _ (aX g),fT _ _ _ (aX g)];show e
 let d:(a.push (seqObj "list" [v].toArray 0)).get? a.objs.size=Sa (seqObj "list" [v].toArray 0):=aW _ rfl;change Sm _ _ _ _ _ {s with heap:=a.push (seqObj "list" [v].toArray 0)};rw[j]at d ⊢;show aB (bU (cK slot_list_sort ⟨_,d,rfl⟩ entry_list_sort ?_ (args_list_sort _)));rw[list_sort_plain];obtain⟨k,q⟩:∃k,((a.push (seqObj "list" [v].toArray 0)).update (s.heap.objs.size+1) (Obj.mapSeq λ_=>#[])).get? (s.heap.objs.size+1)=Sa (seqObj "list" #[] k):=⟨_,get?_update_seq d λ_=>#[]⟩;show aB (listItems_at d rfl (aB (listUpdate_at d rfl (aB (seqEpoch_at q rfl (aB (wpAny_newTuple (aB (wpAny_newList (bU ?_)))))))))) 
 dsimp only;rw[if_pos ∅,if_pos ∅];show aB (aD ?_);rw[StateT.run_pure];show aB (aD ?_);dsimp only;let i:((a.push (seqObj "list" [v].toArray 0)).update (s.heap.objs.size+1) (Obj.mapSeq λ_=>(#[]:Array Se))).objs.size=s.heap.objs.size+2:=by rw[Heap.size_update,size_push',j]
 let n:((((a.push (seqObj "list" [v].toArray 0)).update (s.heap.objs.size+1) (Obj.mapSeq λ_=>(#[]:Array Se))).push (seqObj "tuple" [v].toArray 0)).push (seqObj "list" #[] 0)).get? (s.heap.objs.size+1)=Sa (seqObj "list" #[] k):=by
  rw[fT _ _ _ (aX (by rw[size_push',i];show dR (eE _))),fT _ _ _ (aX (by rw[i];show eE _))];show q
 let u:Array.map (λx:Keyed=>x.snd) (arrOf (SortSt.mk' general' ([v].toArray.zip [v].toArray) #[] 7 Sb))=#[v]:=by
  change Array.map (λx:Keyed=>x.snd) ([v].toArray.zip [v].toArray)=#[v];simp
 rw[u];show aB (seqEpoch_at n rfl (aB (listUpdate_at n rfl ?_ (hsz2:=by change 1<=_;decide))));simp only[bne_self_eq_false,cD,if_false];obtain⟨c,y⟩:∃c,(((((a.push (seqObj "list" [v].toArray 0)).update (s.heap.objs.size+1) (Obj.mapSeq λ_=>(#[]:Array Se))).push (seqObj "tuple" [v].toArray 0)).push (seqObj "list" #[] 0)).update (s.heap.objs.size+1) (Obj.mapSeq λ_=>#[v])).get? (s.heap.objs.size+1)=Sa (seqObj "list" #[v] c):=⟨_,get?_update_seq n λ_=>#[v]⟩;show aD ⟨_,rfl,aD ⟨_,rfl,h (((((a.push (seqObj "list" [v].toArray 0)).update (s.heap.objs.size+1) (Obj.mapSeq λ_=>(#[]:Array Se))).push (seqObj "tuple" [v].toArray 0)).push (seqObj "list" #[] 0)).update (s.heap.objs.size+1) (Obj.mapSeq λ_=>#[v])) c (λb o e=>?_) y⟩⟩
 let g:b<s.heap.objs.size:=aO e;let f:b<s.heap.objs.size+1:=dR g;rw[Heap.get?_update_ne _ _ _ _ (aX f),fT _ _ _ (aX (by rw[size_push',i];show dR (dR f))),fT _ _ _ (aX (by rw[i];show dR f)),Heap.get?_update_ne _ _ _ _ (aX f),fT _ _ _ (aX (by rw[j];show f))];show t b o e
theorem Same.seqT{K:SJ}(e:Same H b)(h:SqT K H a xs):SqT K b a xs:=by
 rcases h with(h|⟨o,h⟩)|h
 .exact .inl (.inl (e _ _ h))
 .exact .inl (.inr ⟨o,e _ _ h⟩)
 .exact .inr h
mutual
def Den(K:SJ)(G:Hp):PyData->V->Prop
 |.none,v=>v=.non
 |.bool b,v=>v=.bl b
 |.int i,v=>v=.int i
 |.str x,v=>v=.str x
 |.list ds,v=>∃a vs,v=.ref a/\SqL K G a vs/\DenL K G ds vs
 |.tuple ds,v=>∃a vs,v=.ref a/\SqT K G a vs/\DenL K G ds vs
 |.dict _,_=>False
def DenL(K:SJ)(G:Hp):List PyData->List V->Prop
 |[],vs=>vs=[]
 |d::ds,vs=>∃v r,vs=v::r/\Den K G d v/\DenL K G ds r
end
section
variable{K:SJ}{G G':Hp}
mutual
theorem Den.mono(h:Same G G'):∀ {d:PyData} {v:V},Den K G d v->Den K G' d v
 |.none,_,e=>by simp only[Den]at e ⊢;show e
 |.bool _,_,e=>by simp only[Den]at e ⊢;show e
 |.int _,_,e=>by simp only[Den]at e ⊢;show e
 |.str _,_,e=>by simp only[Den]at e ⊢;show e
 |.list ds,_,e=>by
  simp only[Den]at e ⊢;let⟨a,b,c,f,g⟩:=e;show⟨a,b,c,h.seq f,DenL.mono h g⟩
 |.tuple ds,_,e=>by
  simp only[Den]at e ⊢;let⟨a,b,c,f,g⟩:=e;show⟨a,b,c,h.seqT f,DenL.mono h g⟩
 |.dict _,_,e=>by simp only[Den]at e
theorem DenL.mono(h:Same G G'):∀ {ds:List PyData} {vs:List V},DenL K G ds vs->DenL K G' ds vs
 |[],_,e=>by simp only[DenL]at e ⊢;show e
 |d::ds,_,e=>by
  simp only[DenL]at e ⊢;let⟨v,r,a,b,c⟩:=e;show⟨v,r,a,Den.mono h b,DenL.mono h c⟩
end
theorem DenL.len:∀ {ds:List PyData} {vs:List V},DenL K G ds vs->vs.length=ds.length
 |[],_,e=>by simp only[DenL]at e;rw[e];rfl
 |d::ds,_,e=>by
  simp only[DenL]at e;let⟨v,r,rfl,_,a⟩:=e;simp[DenL.len a]
theorem DenL.nil:DenL K G [] []:=by simp only[DenL]
theorem DenL.cons{d:PyData}{ds:List PyData}{v:V}{vs:List V}(a:Den K G d v)(b:DenL K G ds vs):DenL K G (d::ds) (v::vs):=by
 simp only[DenL];show⟨v,vs,rfl,a,b⟩
theorem DenL.append:∀ {ds es:List PyData} {vs ws:List V},DenL K G ds vs->DenL K G es ws->DenL K G (ds++es) (vs++ws)
 |[],_,_,_,e,f=>by simp only[DenL]at e;subst e;show f
 |d::ds,_,_,_,e,f=>by
  simp only[DenL]at e;let⟨v,r,rfl,a,b⟩:=e;show .cons a (DenL.append b f)
theorem DenL.get:∀ {ds:List PyData} {vs:List V} {i:Nat} {v:V},DenL K G ds vs->vs[i]? = Sa v -> ∃d,ds[i]? = Sa d/\Den K G d v
 |[],_,_,_,e,h=>by simp only[DenL]at e;subst e;simp at h
 |d::ds,_,0,_,e,h=>by
  simp only[DenL]at e;let⟨v,r,rfl,a,b⟩:=e;simp at h;subst h;show⟨d,rfl,a⟩
 |d::ds,_,i+1,_,e,h=>by
  simp only[DenL]at e;let⟨v,r,rfl,a,b⟩:=e;show DenL.get (i:=i) b (by simpa using h)
theorem DenL.get':∀ {ds:List PyData} {vs:List V} {i:Nat} {d:PyData},DenL K G ds vs->ds[i]? = Sa d -> ∃v,vs[i]? = Sa v/\Den K G d v
 |[],_,_,_,e,h=>by simp at h
 |d::ds,_,0,_,e,h=>by
  simp only[DenL]at e;let⟨v,r,rfl,a,b⟩:=e;simp at h;subst h;show⟨v,rfl,a⟩
 |d::ds,_,i+1,_,e,h=>by
  simp only[DenL]at e;let⟨v,r,rfl,a,b⟩:=e;show DenL.get' (i:=i) b (by simpa using h)
theorem Den.int{i:Int}:Den K G (.int i) (.int i):=by simp only[Den]
theorem Den.list(h:SqL K G a vs)(e:DenL K G ds vs):Den K G (.list ds) (.ref a):=by simp only[Den];show⟨a,vs,rfl,h,e⟩
theorem Den.tuple(h:SqT K G a vs)(e:DenL K G ds vs):Den K G (.tuple ds) (.ref a):=by simp only[Den];show⟨a,vs,rfl,h,e⟩
theorem Den.ofInt{i:Int}(h:Den K G (.int i) v):v=.int i:=by simpa only[Den]using h
theorem Den.ofStr(h:Den K G (.str i) v):v=.str i:=by simpa only[Den]using h
theorem Den.ofList(h:Den K G (.list ds) v):∃a vs,v=.ref a/\SqL K G a vs/\DenL K G ds vs:=by simpa only[Den]using h
theorem Den.ofTuple(h:Den K G (.tuple ds) v):∃a vs,v=.ref a/\SqT K G a vs/\DenL K G ds vs:=by simpa only[Den]using h
theorem DenL.ofCons(h:DenL K G (d::ds) vs):∃v r,vs=v::r/\Den K G d v/\DenL K G ds r:=by simpa only[DenL]using h
theorem DenL.ofNil(h:DenL K G [] vs):vs=[]:=by simpa only[DenL]using h
theorem DenL.ints:∀ {ns:List Int} {vs:List V},DenL K G (ns.map PyData.int) vs->vs=ns.map V.int
 |[],_,e=>e.ofNil
 |n::ns,_,e=>by
  let⟨v,r,rfl,a,b⟩:=DenL.ofCons e;rw[a.ofInt,DenL.ints b];rfl
theorem DenL.ofInts:∀ns:List Int,DenL K G (ns.map PyData.int) (ns.map V.int)
 |[]=>.nil
 |n::ns=>.cons .int (DenL.ofInts ns)
end
mutual
theorem Den.reads(I:Inv X pins σ H s):∀ {d:PyData} {v:V} {u:Se},Den X.K H d v->RelV v u -> ∃as,Reads s.heap u d as
 |.none,_,_,e,r=>by simp only[Den]at e;subst e;cases r;show⟨_,.none⟩
 |.bool b,_,_,e,r=>by simp only[Den]at e;subst e;cases r;show⟨_,.bool b⟩
 |.int i,_,_,e,r=>by simp only[Den]at e;subst e;let⟨t,rfl⟩:=r;show⟨_,.int i t⟩
 |.str x,_,_,e,r=>by simp only[Den]at e;subst e;let⟨t,rfl⟩:=r;show⟨_,.str x t⟩
 |.list ds,_,_,e,r=>by
  simp only[Den]at e;let⟨a,p,rfl,c,f⟩:=e;cases r;obtain⟨g,h,⟨o,n,j,k,q,l⟩,_⟩:=I.list c;let⟨as,m⟩:=DenL.reads I f h;show⟨_,.list j k l (by simpa using m)⟩
 |.tuple ds,_,_,e,r=>by
  simp only[Den]at e;let⟨a,p,rfl,c,f⟩:=e;cases r;obtain⟨g,h,⟨o,j,k,n,l⟩,_⟩:=I.tuple c;let⟨as,m⟩:=DenL.reads I f h;show⟨_,.tuple j k l (by simpa using m)⟩
 |.dict _,_,_,e,_=>by simp only[Den]at e
theorem DenL.reads(I:Inv X pins σ H s):∀ {ds:List PyData} {vs:List V} {us:List Se},DenL X.K H ds vs->Vals vs us -> ∃as,ReadsAll s.heap us ds as
 |[],_,_,e,r=>by simp only[DenL]at e;subst e;cases r;show⟨_,.nil⟩
 |d::ds,_,_,e,r=>by
  simp only[DenL]at e;let⟨v,i,rfl,a,b⟩:=e;cases r with
  |cons c f=>
   let⟨as,g⟩:=Den.reads I a c;let⟨bs,h⟩:=DenL.reads I b f;show⟨_,.cons g h⟩
end
def rEqD(K:SJ)(neg:Bool):R2:=λx y H Q=>∃da db,Den K H da x/\Den K H db y/\SeqAt.shaped da=Sc/\SeqAt.shaped db=Sc/\Q (.bl (if neg then !PyData.eqv da db else PyData.eqv da db)) H
theorem qZ9(b:Room k X.A):OpR X (SC .NotEq) (rEqD X.K Sc):=by
 intro a s σ H x y v u Q I c d h;let⟨m,n,e,f,g,i,q⟩:=h;let⟨o,j⟩:=Den.reads I e c;let⟨bs,l⟩:=Den.reads I f d;show SeqAt.compareNe_shaped j l g i b.units ⟨.bl _,H,I,rfl,q⟩
mutual
theorem Qa:∀d:PyData,d.hasDict=Sd->PyData.eqv d d=Sc
 |.none,_=>by simp only[PyData.eqv]
 |.bool _,_=>by simp only[PyData.eqv,beq_self_eq_true]
 |.int _,_=>by simp only[PyData.eqv,beq_self_eq_true]
 |.str _,_=>by simp only[PyData.eqv,beq_self_eq_true]
 |.list ds,h=>by simp only[PyData.eqv];show jO ds (by simpa only[PyData.hasDict]using h)
 |.tuple ds,h=>by simp only[PyData.eqv];show jO ds (by simpa only[PyData.hasDict]using h)
 |.dict _,h=>by simp[PyData.hasDict]at h
theorem jO:∀ds:List PyData,PyData.hasDictAll ds=Sd->PyData.eqvAll ds ds=Sc
 |[],_=>by simp only[PyData.eqvAll]
 |d::ds,h=>by
  simp only[PyData.hasDictAll,Bool.or_eq_false_iff]at h;simp only[PyData.eqvAll,Qa d h.1,jO ds h.2,Bool.and_self]
end
end L2
namespace Miss
open PySem PySem.Spec PyProof.Rows
theorem qXk:typeLookup (.type "list") "keys"=pure Sb:=am_miss_of_fast (by decide +kernel)
theorem wA6:typeLookup (.type "list") "__getattr__"=pure Sb:=am_miss_of_fast (by decide +kernel)
theorem entry:Meets (Builtin.«object.__getattribute__» ⟨[.ref a,.str "keys" u],[]⟩) (λA R s=>s.heap.get? a=Sa {cls:=.type "list",dict:=Sb,data:=.seq its n,slots:=#[]}/\raisesAttr (.ref a) "keys" A R s):=
 Meets.of_wp λprog w A R s b=>by
  let⟨c,g,d,tk,os⟩:=s;let⟨e,b⟩:=b;let hT:(⟨c,g,d,tk,os⟩:Sg).TypeIs (.ref a) "list":=⟨_,e,rfl⟩;let f:=qXk;unfold Builtin.«object.__getattribute__»
  repeat (any_goals (first|assumption|wp_step))
  show wpAny_raiseAttrError b.1 b.2 (attrMsg_fits (by decide +kernel) (by rw[bV];decide +kernel))
theorem no_keys(i:A.handled=Sb)(f:s.heap.get? a=Sa { cls :=.type "list",dict:=Sb,data :=.seq its n,slots := #[] })
  (h:∀c tk,(∀b o,s.heap.get? b=Sa o->c.get? b=Sa o)->Q Sb {s with heap:=c,toks:=tk}):Sm (So prog w) A (getAttr? (.ref a) "keys") Q E s:=by
 let⟨j,g,d,tk,os⟩:=s;let hT:∀tk,(⟨j,g,d,tk,os⟩:Sg).TypeIs (.ref a) "list":=λ_=>⟨_,f,rfl⟩;let l:=sub_AttributeError;let m:=hJ.lookup;let p:=hJ.bind (.ref a);let q:=wA6;unfold getAttr? getAttrBy? getAttrBy
 repeat (any_goals (first|assumption|((with_reducible change Sm _ _ (call (Value.builtin "list.__getattribute__") _ _) _ _ _);show call_meets hJ (hT _) F.entry_list_ga (F.args_list_getattribute_2 _ _) (entry (its:=its) (n:=n)) ⟨f,i,λc k e x=>?_⟩)|wp_step))
 let⟨r,t,u⟩:=x.there;change Sm _ _ (getattributeRaised _ _ (Value.type "list") _ _ _ _) _ _ _;unfold getattributeRaised
 repeat (any_goals (first|assumption|wp_step))
 show h _ _ x.keeps
theorem entry_loop:entryFor table "dict.update.loop"=Sa Builtin.«dict.update.loop»:=entryFor_of_tree (by kernel_rfl)
theorem plain_loop:plainId "dict.update.loop"=Sc:=by decide +kernel
end Miss
namespace L2
open PySem PySem.Spec PyProof.Rows
theorem Qb:vY X newDict (.dK []):=by
 intro a s σ H E Q I h;show bZ (h _ _ (aI _) I.fresh (I.laid (t':=s.toks) (λ_ _ q=>aJ _ q) (aI _) (ur s.heap I.big)) λb u e=>aJ _ e) ?_
 first|trivial|size_fits|decide
def ePut(tk tv:TE)(l:Sf):TB:=λσ H Q=>tk σ H λx H1=>tv σ H1 λy H2=>∃kvs k,x=kV k/\H2 l=Sa (.dK kvs)/\kvs.length<Sn/\Q σ (upd H2 l (.dK (putK kvs k y)))
noncomputable def ux(k v:Sl)(acc:Se)(env:Env):Sem Unit:=do
 let kv <-Sw k env
 let vv <-SA [kv] (Sw v env)
 match acc with
 |.ref d=>do
  Sz {k.pos with endLine:=v.pos.endLine,endCol:=v.pos.endCol}
  SA [kv,vv] (dictSet d kv vv)
 |_=>unsupported "internal:dictcomp"
theorem Qc{k v:Sl}{tk g:TE}(m:PE X k tk)(n:PE X v g):PB X (ux k v (.ref l) X.env) (ePut tk g l):=by
 intro a s σ H Q I h;show aB (thn (m a s σ H _ I h) λu o hq_=>?_);let⟨x,p,r,t,w⟩:=hq_;show aB (bU (thn (n a o σ p _ r w) λK L hq_=>?_));let⟨y,M,i,A,b,f,e,j,N,q⟩:=hq_;subst e;let⟨z,B,O,c,C⟩:=wq i.hok j;let D:(putK b f y).length<=Sn:=by let:=xQ b f y;lia
 show aB (eY (bU (wpAny_dictSet_pairs (xR t) C (λE d F=>?_) (by rw[<-c.length];show z))));let G:∃q,E.get? l=Sa q:=let ⟨q,_,_,J,_⟩:=d;⟨q,J⟩
 show⟨σ,_,wL i (by rw[j];show True.intro) F G (vW D B (c.put f A) d),q⟩
theorem Qd{k v e a:Sl}:ClauseAt X (.DictComp k v [⟨e,a,b,0⟩] scope d) 0 c e a b (ux k v c X.env) where
 quiet:=λ_=>rfl
 under:=λ_=>rfl
 den:=λ_=>rfl
 turn:=λ_=>rfl
 start:=λg R s f h=>codeAny_compStart_dict f (fP h (λ_ _ z=>z) λ_ _ z=>z.elim)
theorem wA3(own:List Str)(cap:List Nat)(c:X.calm=Sc)(S:CompScope X own cap scope)(hi:PI X tg iter wi)(d:∀a s H ex,PG (zP X own cap scope a s H ex) tg g)(e:∀a s H ex,PTs (zP X own cap scope a s H ex) ifs tts)(f:∀a s H ex,PE (zP X own cap scope a s H ex) ke tk)(i:∀a s H ex,PE (zP X own cap scope a s H ex) ve tv)(j:∀x,SD iter X.env x=pure x:=by intro _;rfl):PE X (.DictComp ke ve [⟨tg,iter,ifs,0⟩] scope pos) (tComp own cap (.dK []) wi g tts (ePut tk tv)):=by
 intro b s σ H Q I h;show QN (behOf:=ux ke ve) c S rfl hi Qb (λ_ _ _ _ _=>Qd) d e (λa s H ex l=>Qc (f a s H ex) (i a s H ex)) j b s σ H Q I h
noncomputable def Itd(d:Sf)(o:Ss)(kvs:List (Key×V)):It:=⟨λi H=>H d=Sa (.frz o (.dK kvs))/\i<kvs.length,λi H x H'=>H'=H/\∃k v,kvs[i]? = Sa (k,v)/\x=kV k,λi H=>H d=Sa (.frz o (.dK kvs))/\kvs.length<=i⟩
def iDict(td:TE):TI:=λσ H R=>td σ H λx H1=>∃d kvs,x=.ref d/\H1 d=Sa (.dK kvs)/\∀o,R (Itd d o kvs) (upd H1 d (.frz o (.dK kvs)))
def PairsAt(H:Hp):List V->List (Key×V)->Prop:=Paired λv kv=>∃a,v=.ref a/\H a=Sa (.tup [kV kv.1,kv.2])
theorem PairsAt.mono(h:∀b xs,H b=Sa (.tup xs)->c b=Sa (.tup xs))(p:PairsAt H vs kvs):PairsAt c vs kvs:=Paired.mapP p λ_ _ ⟨a,e,q⟩=>⟨a,e,h _ _ q⟩
theorem Qe{X:Cx}{c:List (Sf×Ss)}{σ : St}{l d it:Sf}(hh:X.A.handled=Sb):∀ {more:List (Key×V)} {items:List V} {i:Nat} {A:Sj} {H:Hp} {s:Sg} {kvs:List (Key×V)} {R:Result->Sg->Prop},A.handled=Sb->Inv X c σ H s->s.heap.IsListIter it l i->FpOk X c H it ->
  H l=Sa (.lst items)->H d=Sa (.dK kvs)->l≠d->PairsAt H (items.drop i) more->kvs.length+more.length<=Sn->(∀F,Inv X c σ (upd H d (.dK (yc kvs more))) F->R (.ok (.ret .none)) F)->
  codeAny (So X.prog X.w) A (.builtin "dict.update.loop" ⟨[.ref d,.ref it,rawInt i,.none],[]⟩) R s
 |[],items,i,A,H,s,kvs,R,P,I,st,hf,G,hd,g,m,hz,h=>by
  show dZ Miss.entry_loop ?_;rw[cW Miss.plain_loop _];let⟨j,n,r,Q,_⟩:=I.lst G;let a0:items.length<=i:=by
   let:=fI m;rw[fH]at this;let e:([]:List (Key×V)).length=0:=rfl;lia
  let S:=r.length;change Sm _ _ (pyNext (.ref it) >>=_) _ _ s;let⟨o,J,f2,K,L,M⟩:=hf;show aB (wpAny_pyNext_list_end (show A.in1.handled=Sb from P) st (l:=l) (items:=j.toArray) ⟨_,Q,rfl,n,rfl⟩ (by simp;lia) λt eb=>?_);let y:Inv X c σ H {s with heap:=t}:=I.turned (t':=s.toks) (λb N p e=>eb b N p e) o J K L M;let e1:upd H d (.dK (yc kvs []))=H:=by
   funext b
   by_cases p:b=d
   .subst p;rw[zB,hd];rfl
   .rw [zC p]
  rw[e1]at h;change Sm _ _ (Builtin.Dict.addKeywords d [] >>=_) _ _ _;show aB (aD (aD (h _ y)))
 |(k,w)::more,items,i,A,H,s,kvs,R,P,I,st,hf,G,hd,g,m,hz,h=>by
  show dZ Miss.entry_loop ?_;rw[cW Miss.plain_loop _];let⟨j,n,r,Q,_⟩:=I.lst G;let S:=r.length;cases O:items.drop i with
  |nil=>rw[O]at m;cases m
  |cons v rest=>
   rw[O]at m;cases m with
   |cons hv hr=>
    let⟨a,rfl,ha⟩:=hv;let hi:items[i]? = Sa (.ref a):=by rw[<-List.head?_drop,O];rfl
    let⟨u,hu,ru⟩:=r.get hi;cases ru;let⟨o,J,f2,K,L,M⟩:=id hf;change Sm _ _ (pyNext (.ref it) >>=_) _ _ s;show aB (wpAny_pyNext_list_item st (l:=l) (items:=j.toArray) ⟨_,Q,rfl,n,rfl⟩ (x:=.ref a) (by simpa using hu) λt U sb=>?_);let y:Inv X c σ H {s with heap:=t}:=I.turned (t':=s.toks) (λb N p e=>(sb.2 b p).trans e) o J K L M;let⟨_,a1,rt,N,B,W,n2,Y⟩:=(show ObjOk X.prog X.w H t a (.tup [kV k,w])from y.hok a _ ha);let⟨uk,uw,rfl,rk,Z⟩:=vals2 rt;show aB (bU (aB (wpAny_tryCatch ?_)));unfold Builtin.Dict.pairItems;show aB (gC (T:="tuple") ⟨N,B,W⟩ ?_);rw[if_pos ⋯];show aB (fA B Y (aD ?_))
    change Sm _ _ (SA [uk,uw] (dictSet d uk uw)) _ _ _;let⟨z,hs,vs,C,dd⟩:=wq y.hok hd;let a2:kvs.length+(more.length+1)<=Sn:=hz;let a3:(putK kvs k w).length<=kvs.length+1:=xQ kvs k w;show bU (wpAny_dictSet_pairs (xR rk) dd (λh2 D E=>aD ?_) (by rw[<-C.length];show z));let he:∃q,h2.get? d=Sa q:=let ⟨q,_,_,hq,_⟩:=D;⟨q,hq⟩
    let I2:Inv X c σ (upd H d (.dK (putK kvs k w))) {s with heap:=h2,toks:=s.toks+1}:=wL (s:={s with heap:=t}) (t':=s.toks+1) y (by rw[hd];show True.intro) E he (vW ∎ hs (C.put k Z) D);let f:it≠d:=λz=>by rw[z,hd]at o;cases o
    let tk:∀b xs,H b=Sa (.tup xs)->upd H d (.dK (putK kvs k w)) b=Sa (.tup xs):=λb xs q=>by
     rw[zC (xm q hd (by intro z;cases z))];show q
    show⟨fX Miss.plain_loop _,?_⟩;let e3:(i:Int)+1=((i+1:Nat):Int):=by lia
    rw[e3];show Qe hh (more:=more) (items:=items) (i:=i+1) (kvs:=putK kvs k w) P I2 (U.extBut E.extBut f) ⟨by rw[zC f];show o,J,f2,K,L,M⟩ (by rw[zC g];show G) zB g ?_ ∎ λF I'=>h F ?_
    .let e4:items.drop (i+1)=rest:=by rw[<-List.tail_drop,O];rfl
     rw[e4];show PairsAt.mono tk hr
    .rw [ik]at I';show I'
noncomputable def wo(ts:List Sf)(H:Hp):Hp:=λb=>if b∈ts then Sb else H b
theorem vc(h:b∈ts):wo ts H b=Sb:=if_pos h
theorem yC(h:b∉ts):wo ts H b=H b:=if_neg h
theorem xw(ts:List Sf)(H:Hp):Same (wo ts H) H:=λb o e=>by
 by_cases h:b∈ts
 .rw [vc h]at e;cases e
 .rw [yC h]at e;show e
noncomputable def Ext(ts:List Sf)(H H':Hp):Prop:=∀b o,b∉ts->H b=Sa o->H' b=Sa o
theorem Ext.refl(ts:List Sf)(H:Hp):Ext ts H H:=λ_ _ _ h=>h
theorem Ext.trans(a:Ext ts H d)(b:Ext ts d f):Ext ts H f:=λc o h e=>b c o h (a c o h e)
theorem Ext.same(a:Ext ts H c):Same (wo ts H) (wo ts c):=λb o e=>by
 by_cases h:b∈ts
 .rw [vc h]at e;cases e
 .rw [yC h]at e ⊢;show a b o h e
theorem Ext.put{t:Sf}(h:t∈ts):Ext ts H (upd H t o):=λb u a e=>by
 let ne:b≠t:=λz=>a (by rw[z];show h);rw[zC ne];show e
theorem Ext.laid(h:H l=Sb):Ext ts H (upd H l o):=λb u _ e=>by
 rw[zC (zG e h)];show e
theorem layQq(z:upd H p o=G)(h:H p=Sb):Ext [] H G/\G p=Sa o:=by subst z;show⟨.laid h,zB⟩
theorem Ext.mono(a:Ext ts H c)(h:∀b∈ts,b∈us):Ext us H c:=λb o d e=>a b o (λz=>d (h b z)) e
theorem Ext.drop(a:Ext (l::ts) H c)(h:H l=Sb):Ext ts H c:=λb o d e=>a b o (λz=>by
 rcases aM.mp z with y|y
 .rw [y,h]at e;cases e
 .exact d y) e
noncomputable def yo(H0:Hp)(ts:List Sf)(H:Hp):Hp:=λb=>match H0 b with
 |some _=>Sb
 |none=>wo ts H b
theorem yj(a:H0 b=Sb)(h:b∉ts):yo H0 ts H b=H b:=by
 unfold yo;rw[a];show yC h
theorem xT(h:yo H0 ts H b=Sa o):H0 b=Sb/\b∉ts/\H b=Sa o:=by
 unfold yo at h;cases z:H0 b with
 |some _=>rw[z]at h;cases h
 |none=>
  rw[z]at h;let h:wo ts H b=Sa o:=h;by_cases a:b∈ts
  .rw [vc a]at h;cases h
  .rw [yC a]at h;show⟨rfl,a,h⟩
theorem Ext.none(a:Ext ts H c)(h:b∉ts)(e:c b=Sb):H b=Sb:=by
 cases z:H b with
 |none=>rfl
 |some o=>rw[a _ _ h z]at e;cases e
theorem Ext.young(a:Ext ts H c):Same (yo H0 ts H) (yo H0 ts c):=λb o e=>by
 let⟨f,d,g⟩:=xT e;rw[yj f d];show a b o d g
theorem wN(h:∀b∈ts,b∈us):Same (yo H0 us H) (yo H0 ts H):=λb o e=>by
 let⟨a,c,d⟩:=xT e;rw[yj a (λz=>c (h b z))];show d
theorem jP:Same (yo H0 ts H) (wo ts H):=λb o e=>by
 let⟨d,a,c⟩:=xT e;rw[yC a];show c
theorem Qf:Same (yo H0 ts H) H:=λb o e=>(xT e).2.2
theorem uy(a:Ext ts H0 c)(h:∀b∈ts,b∈us):Same (yo c us H) (yo H0 us H):=λb o e=>by
 let⟨f,d,g⟩:=xT e;rw[yj (a.none (λz=>d (h b z)) f) d];show g
theorem Qg{H0 a:Hp}(h:∀b∈us,b∈ts\/a b≠Sb):Same (yo a ts H) (yo a us H):=λb o e=>by
 let⟨c,d,f⟩:=xT e;rw[yj c (λz=>(h b z).elim d (λy=>y c))];show f
def Tape(H:Hp)(t:Sf)(k:Nat):Prop:=∃(a b c:Int),H t=Sa (.lst [.int a,.int b,.int c])/\0<=a/\0<=b/\b<2^62/\0<=c/\c<=k
theorem Tape.mono{t:Sf}{k j:Nat}(h:Tape H t k)(l:k<=j):Tape H t j:=by
 let⟨a,b,c,d,e,f,g,i,m⟩:=h;show⟨a,b,c,d,e,f,g,i,∎⟩
theorem Tape.ext{t:Sf}{k:Nat}(h:Tape H t k)(e:Ext ts H d)(f:t∉ts):Tape d t k:=by
 let⟨a,b,c,g,r⟩:=h;show⟨a,b,c,e _ _ f g,r⟩
theorem Tape.ne{t l:Sf}{k:Nat}(h:Tape H t k)(d:H l=Sb):l≠t:=by
 let⟨a,b,c,e,_⟩:=h;show(zG e d).symm
def xc:Sp:=λvs H Q _=>∃(t:Sf)(k:Nat)(n:Int),vs=[.ref t,.int n]/\Tape H t k/\k<=2^40/\0<n/\n<2^24/\∀(r:Int)(H':Hp),0<=r->r<n->Tape H' t (k+1)->Ext [t] H H'->(∀b,b≠t->H' b=H b)->Q (.int r) H'
section
variable{K:SJ}{H:Hp}{Q:VK}{p:Sf}{xs:List V}{i j:Int}{v:V}
theorem yV(h:ta σ H λx a=>tb σ a λy b=>r x y b Q):tOp r ta tb σ H Q:=h
theorem zm(h:σ[n]? = Sa (Sa v))(q:Q v H):tVar n σ H Q:=⟨v,h,q⟩
theorem r_c(q:Q v H):tC v σ H Q:=q
theorem xx{g:Int->Int->V}(q:Q (g i j) H):rI0 g (.int i) (.int j) H Q:=⟨i,j,rfl,rfl,q⟩
theorem xy(c:(-(2^64)<i/\i<2^64)\/(-(2^64)<j/\j<2^64))(q:Q (.int (i*j)) H):rI CMul (λi j=>.int (i*j)) (.int i) (.int j) H Q:=⟨i,j,rfl,rfl,c,q⟩
theorem wx(a:0<=j)(b:j<=1000000)(c:i.natAbs<2^64)(q:Q (.int (i^j.toNat)) H):rI CPow (λi j=>.int (i^j.toNat)) (.int i) (.int j) H Q:=⟨i,j,rfl,rfl,⟨a,b,c⟩,q⟩
theorem Qh(a:0<j)(b:j<1073741824)(q:Q (.int (i / j)) H):rI CDiv (λi j=>.int (i / j)) (.int i) (.int j) H Q:=⟨i,j,rfl,rfl,⟨a,b⟩,q⟩
theorem xz(c:0<j)(q:Q (.int (i%j)) H):rI (λ_ j=>0<j) (λi j=>.int (i%j)) (.int i) (.int j) H Q:=⟨i,j,rfl,rfl,c,q⟩
theorem vf{g:Int->V}(h:ta σ H λx a=>rU g x a Q):tUn (rU g) ta σ H Q:=h
theorem r_u{g:Int->V}(q:Q (g i) H):rU g (.int i) H Q:=⟨i,rfl,q⟩
theorem zL(h:SqL K H p xs)(e:atI xs i=Sa v)(q:Q v H):rIxL K (.ref p) (.int i) H Q:=⟨p,xs,i,v,rfl,rfl,h,e,q⟩
theorem yH(h:SqT K H p xs)(e:atI xs i=Sa v)(q:Q v H):rIxT K (.ref p) (.int i) H Q:=⟨p,xs,i,v,rfl,rfl,h,e,q⟩
theorem qZw(h:t ⟨u ⟨d,c,a,b⟩,c,a,b⟩ σ H):tSeq t u ⟨d,c,a,b⟩ σ H:=h
theorem Qi{g:TG}(h:te σ H λx e=>g x σ e a):tAsg te g ⟨a,d,b,c⟩ σ H:=h
theorem vg(q:R (σ.set n (Sa v)) H):gName n v σ H R:=q
theorem Qj(h:te σ H a):tRet te ⟨b,a,c,d⟩ σ H:=h
theorem Qk{a b c:St->Hp->Prop}{d:VK}(h:te σ H λ_ e=>a σ e):tDrop te ⟨a,d,b,c⟩ σ H:=h
theorem uz(h:a σ H):tNext ⟨a,d,b,c⟩ σ H:=h
theorem r_if(h:tt σ H λb f=>if b=Sc then t ⟨a,e,c,d⟩ σ f else u ⟨a,e,c,d⟩ σ f):tIfS tt t u ⟨a,e,c,d⟩ σ H:=h
theorem xI(h:te σ H λx a=>∃k,x=.bl k/\R k a):tTest te σ H R:=h
theorem vh(h:te σ H λx a=>∃k,x=.bl k/\R k a):tB te σ H R:=h
theorem yr{b:Bool}{R:Bool->Prop}(q:R b):∃k,V.bl b=.bl k/\R k:=⟨b,rfl,q⟩
theorem vi(h:to σ H λo a=>ti σ a λi b=>ts o i v b λc=>R σ c):gSub to ti ts v σ H R:=h
theorem kA(h:H p=Sa (.lst xs))(e:ixN xs.length i=Sa n)(q:R (upd H p (.lst (xs.set n v)))):rSetL (.ref p) (.int i) v H R:=⟨p,xs,i,n,rfl,rfl,h,e,q⟩
theorem xf{R:List V->Hp->Prop}(q:R [] H):tNil σ H R:=q
theorem xJ(h:ta σ H λx a=>tr σ a λxs b=>R (x::xs) b):tCons ta tr σ H R:=h
theorem wA(h:tl σ H λxs a=>xs.length<=Sn/\∀p,a p=Sb->Q (.ref p) (upd a p (.tup xs))):tTup tl σ H Q:=h
theorem vj(h:tl σ H λxs a=>xs.length<=Sn/\∀p,a p=Sb->Q (.ref p) (upd a p (.lst xs))):tLst tl σ H Q:=h
theorem vk(h:tl σ H λvs a=>sp (vs++dvs) a Q E):tCall sp dvs E tl σ H Q:=h
theorem vm(h:tl σ H λvs b=>a vs b Q):tCB a tl σ H Q:=h
theorem vn(h:tt σ H λb a=>if b=Sc then ta σ a Q else tb σ a Q):tIf tt ta tb σ H Q:=h
theorem yt(h:tt σ H λc a=>if c=Sc then t2 σ a R else R Sd a):tAnd tt t2 σ H R:=h
theorem wB(h:tt σ H λc a=>if c=Sc then R Sc a else t2 σ a R):tOr tt t2 σ H R:=h
theorem vo(h:tt σ H λc a=>R (!c) a):tNot tt σ H R:=h
theorem vp(h:tl σ H λvs e=>∃v w,vs=[v,w]/\a ((σ.set n (Sa v)).set m (Sa w)) e):tPar n m tl ⟨a,d,b,c⟩ σ H:=h
end
section
variable{K:SJ}{H:Hp}{l t:Sf}{xs:List V}
theorem zi(hT:Tape H t k)(c:k<=2^40)(d:0<n)(e:n<2^24)(q:∀r a,0<=r->r<n->Tape a t (k+1)->Ext [t] H a->(∀b,b≠t->a b=H b)->Q (.int r) a):xc ([.ref t,.int n]++[]) H Q E:=⟨t,k,n,rfl,hT,c,d,e,q⟩
theorem xC(q:Q (.bl (decide (i=j))) H):rEq (.int i) (.int j) H Q:=⟨rfl,by
 let e:decide (V.int i=V.int j)=decide (i=j):=by rw[cP];simp
 rw[e];show q⟩
theorem jQ(q:Q (.bl (!decide (i=j))) H):rNe (.int i) (.int j) H Q:=⟨rfl,by
 let e:decide (V.int i=V.int j)=decide (i=j):=by rw[cP];simp
 rw[e];show q⟩
theorem kB(q:Q (.bl (decide (a=b))) H):rEq (.str a) (.str b) H Q:=⟨rfl,by
 let e:decide (V.str a=V.str b)=decide (a=b):=by rw[cP];simp
 rw[e];show q⟩
theorem qZz(q:Q (.bl (!decide (a=b))) H):rNe (.str a) (.str b) H Q:=⟨rfl,by
 let e:decide (V.str a=V.str b)=decide (a=b):=by rw[cP];simp
 rw[e];show q⟩
theorem yD{R:Prop}(h:H l=Sa (.lst xs))(q:R):tyV K "list" (.ref l) H/\R:=⟨.inl ⟨rfl,_,SqL.of h⟩,q⟩
theorem yd(h:H l=Sa (.lst xs))(hz:xs.length<Sn)(q:Q .non (upd H l (.lst (xs++[y])))):oj (.ref l) [y] H Q:=⟨l,xs,y,rfl,rfl,h,hz,q⟩
theorem bit01(b:Bool):0<=(if b=Sc then (1:Int)else 0)/\(if b=Sc then (1:Int)else 0)<=1:=by cases b<;>decide
end
theorem len2{n:Nat}(h:n<=1000):n<=Sn:=cH h ⋯
theorem zb{K:SJ}:(cxOf CX P w K mg base N a scope f b A outer s H E).nox.K=K:=rfl
theorem zg:(zP X a b scope c s H ex).K=X.K:=rfl
def Has(P:Sh)(w:Si)(K:SJ)(mg:Str->Option Se)(base:Sk)(x:Str)(k:Nat)(ps:List Str)(sp:Sp):Prop:=
 ∃f fd,FnOk P w K mg base CX0 k f fd ps sp/\mg x=Sa (.ref f)/\PySem.W.keepIn K (.ref f)=Sc/\Binds K fd ps []
theorem zF{X:Cx}{x:Str}{k j:Nat}{d:List Str}{sp:Sp}{e:Sl}{es:List Sl}{t:TA}{p a:Sx}(h:Has X.prog X.w X.K X.mg X.base x k d sp)(g:Room j X.A)(i:k<=j)(l:PA X (e::es) t)(m:Gl X x:=by rfl)
  (b:(x == ("__debug__" : Str))=Sd:=by decide) (n:Sv (e::es) X.env=(Sd,Sw e X.env)::Sv es X.env:=by rfl) (c:(backTo a (Sv es X.env)).any (·.1)=Sd:=by rfl) :
  PE X (.Call (.Name x p) (e::es) [] a) (tCall sp [] E0 t):=by
 let⟨f,s,G,o,q,r⟩:=h;show qX5 G (g.mono i) m o q r .nil pass0 l b n c
def Ql(K:SJ):Sp:=λvs H Q _=>∃(a:Sf)(ns:List Int)(k:Nat),vs=[.ref a,.int k]/\SqL K H a (ns.map V.int)/\k<=100/\∀(t:Sf)(H':Hp),H t=Sb->Tape H' t 0->Same H H'->Q (.ref t) H'
noncomputable def chk(X:Cx)(own:List Str)(cap:List Nat)(scope:Su):Bool:=
 decide (scope.kind=.function)&&(scope.names.all λx=>decide (x.2≠.cell))&&(scope.names.all λx=>!decide (x.2=.local)||decide (scope.names.lookup x.1=Sa .local)) &&
 (scope.names.all λx=>!decide (x.2=.free)||(decide (X.env.scope.names.lookup x.1=Sa .cell)||decide (X.env.scope.names.lookup x.1=Sa .free)))&&(own.all λx=>decide (scope.names.lookup x=Sa .local)) &&
 (cap.all λj=>decide (scope.names.lookup (X.N.getD j "")=Sa .free)&&decide (j<X.N.length))
theorem CompScope.of{X:Cx}{own:List Str}{a:List Nat}{scope:Su}(h:chk X own a scope=Sc):CompScope X own a scope:=by
 unfold chk at h;simp only[bT,dM,decide_eq_true_eq,eA,Bool.not_eq_true',decide_eq_false_iff_not]at h;obtain⟨⟨⟨⟨⟨c,d⟩,f⟩,g⟩,i⟩,k⟩:=h;show⟨c,λx b=>d x b,λx b e=>(f x b).resolve_left (λz=>z e),λx b e=>(g x b).resolve_left (λz=>z e),i,λj l=>k j l⟩
section
variable{K:SJ}{a:Sf}{xs:List V}{g:TG}{tt:TT}{B:TB}{σ:St}{H:Hp}{Q:St->Hp->Prop}
theorem vq{n:Nat}(Pv:Nat->St->Hp->Prop)(l:Pv 0 σ H)(h:∀i σ H,i<n->Pv i σ H->J.go i H)(j:∀σ H,Pv n σ H->J.stop n H)(o:∀i σ H(R:St->Hp->Prop),i<n->Pv i σ H->(∀c a,Pv (i+1) c a->R c a)->∀x a,J.yld i H x a->g x σ a λd q=>tt d q λb k=>if b=Sc then B d k R else R d k)(hd:∀σ H,Pv n σ H->Q σ H):LoopT J g tt B σ H Q:=by
 show⟨λi m σ H=>m=n-i/\i<=n/\Pv i σ H,⟨n,∅,bL _,l⟩,?_⟩;rintro i m σ H ⟨rfl,s,p⟩;by_cases f:i<n
 .refine .inr ⟨h i σ H f p,λx a y=>?_⟩;show o i σ H _ f p (λc a r=>⟨n-(i+1),∎,rfl,f,r⟩) x a y
 .let e:i=n:=by lia
  subst e;show .inl ⟨j σ H p,hd σ H p⟩
theorem zn(Pv:Nat->St->Hp->Prop)(l:Pv 0 σ H)(h:∀i σ H,i<=xs.length->Pv i σ H->SqL K H a xs)(m:∀i x σ H(R:St->Hp->Prop),xs[i]? = Sa x->Pv i σ H->(∀d j,Pv (i+1) d j->R d j)->g x σ H λc o=>tt c o λb k=>if b=Sc then B c k R else R c k)(hd:∀σ H,Pv xs.length σ H->Q σ H):LoopT (Itl K a) g tt B σ H Q:=by
 show vq (n:=xs.length) Pv l (λi σ H f p=>⟨xs,xs[i],h i σ H (cV f) p,by simp[f]⟩) (λσ H p=>⟨xs,h _ σ H (aI _) p,aI _⟩) (λi σ H R f p q x j y=>?_) hd;let⟨e,y⟩:=y;subst e;show m i x σ _ R (y xs (h i σ _ (cV f) p)) p q
theorem wO{lo:Int}{n:Nat}(Pv:Nat->St->Hp->Prop)(j:Pv 0 σ H)(k:∀i σ H(R:St->Hp->Prop),i<n->Pv i σ H->(∀c d,Pv (i+1) c d->R c d)->g (.int (lo+i)) σ H λa l=>tt a l λb h=>if b=Sc then B a h R else R a h)(hd:∀σ H,Pv n σ H->Q σ H):LoopT (Itr lo n) g tt B σ H Q:=by
 show vq (n:=n) Pv j (λi σ H f p=>f) (λσ H p=>aI _) (λi σ H R f p m x d y=>?_) hd;let⟨e,y⟩:=y;subst e y;show k i σ _ R f p m
theorem Qm(Pv:Nat->St->Hp->Prop)(l:Pv 0 σ H)(h:∀i σ H,i<=xs.length->Pv i σ H->SqL K H a xs)(m:∀i x σ H p(R:St->Hp->Prop),xs[i]? = Sa x->Pv i σ H->H p=Sb->(∀d j,Pv (i+1) d j->R d j)->g (.ref p) σ (upd H p (.tup [.int i,x])) λc o=>tt c o λb k=>if b=Sc then B c k R else R c k)(hd:∀σ H,Pv xs.length σ H->Q σ H):LoopT (Ite K a) g tt B σ H Q:=by
 show vq (n:=xs.length) Pv l (λi σ H f p=>⟨xs,xs[i],h i σ H (cV f) p,by simp[f]⟩) (λσ H p=>⟨xs,h _ σ H (aI _) p,aI _⟩) (λi σ H R f p r x j y=>?_) hd;let⟨q,y,e,s,t,u⟩:=y;subst e u;show m i y σ H q R (t xs (h i σ H (cV f) p)) p s r
end
theorem qS2{K:SJ}{a:Sf}{xs:List V}{g:TG}{j:TS}{D:Ends}{σ : St}{H:Hp}(Pv:Nat->St->Hp->Prop)(l:Pv 0 σ H)(n:∀i σ H,i<=xs.length->Pv i σ H->SqL K H a xs)(o:∀i x σ H p,xs[i]? = Sa x->Pv i σ H->H p=Sb->g (.ref p) σ (upd H p (.tup [.int i,x])) λb h=>j { D with nx:=Pv (i+1),ct:=Pv (i+1),bk:=D.nx } b h)(s:∀ σ H,Pv xs.length σ H->D.nx σ H):∃W:Nat->Nat->St->Hp->Prop,(∃m,W 0 m σ H) /\ ∀i m σ H,W i m σ H ->
   ((Ite K a).stop i H/\D.nx σ H)\/((Ite K a).go i H/\∃N:St->Hp->Prop,(∀c d,N c d->∃k,k<m/\W (i+1) k c d)/\∀x d,(Ite K a).yld i H x d->g x σ d λb h=>j {D with nx:=N,ct:=N,bk:=D.nx} b h):=by
 show⟨λi m σ H=>m=xs.length-i/\i<=xs.length/\Pv i σ H,⟨xs.length,∅,bL _,l⟩,?_⟩;rintro i m σ H ⟨rfl,t,p⟩;let q:=n i σ H t p;by_cases f:i<xs.length
 .refine .inr ⟨⟨xs,xs[i],q,by simp[f]⟩,Pv (i+1),λc d u=>⟨xs.length-(i+1),∎,rfl,f,u⟩,λx d y=>?_⟩;let⟨r,y,e,v,w,z⟩:=y;subst e z;show o i y σ H r (w xs q) p v
 .let e:i=xs.length:=by lia
  subst e;show .inl ⟨⟨xs,q,aI _⟩,s σ H p⟩
theorem vt{K:SJ}{a:Sf}{xs:List V}{g:TG}{j:TS}{b:St->Hp->Prop}{f:VK}{σ : St}{H:Hp}(Pv:Nat->St->Hp->Prop)(l:Pv 0 σ H)(n:∀i σ H,i<=xs.length->Pv i σ H->SqL K H a xs)(o:∀i x σ H p,xs[i]? = Sa x->Pv i σ H->H p=Sb->g (.ref p) σ (upd H p (.tup [.int i,x])) λc h=>j ⟨Pv (i+1),f,b,Pv (i+1)⟩ c h)(hd:∀ σ H,Pv xs.length σ H->b σ H):∃W:Nat->Nat->St->Hp->Prop,(∃m,W 0 m σ H) /\ ∀i m σ H,W i m σ H ->
   ((Ite K a).stop i H/\b σ H)\/((Ite K a).go i H/\∃N:St->Hp->Prop,(∀d e,N d e->∃k,k<m/\W (i+1) k d e)/\∀x e,(Ite K a).yld i H x e->g x σ e λc h=>j ⟨N,f,b,N⟩ c h):=
 qS2 (D:=⟨b,f,b,b⟩) Pv l n o hd
noncomputable abbrev intsD(ns:List Int):PyData:=.list (ns.map .int)
section
variable{K:SJ}{σ:St}{H:Hp}{Q:VK}{l d:Sf}{xs:List V}{to ta tb te td ty tk tv tx:TE}{tl:TA}
theorem vx(h:to σ H λx a=>tyV K T x a/\tl σ a λxs b=>r x xs b Q):tBM K T r to tl σ H Q:=h
theorem vy(h:to σ H λx a=>tyV K T x a/\r x [] a Q):tBM0 K T r to σ H Q:=h
theorem vz(h:wi σ H λJ d=>∀l,d l=Sb->LoopT J g (tAll tts) (c l) (vX a b σ) (upd d l o) λ_ e=>Q (.ref l) e):tComp a b o wi g tts c σ H Q:=h
theorem uA(h:te σ H λx b=>∃a,x=.ref a/\(∃xs,SqL K b a xs)/\R (Itl K a) b):iList K te σ H R:=h
theorem uB(h:tl σ H λvs b=>∃a,vs=[.ref a]/\(∃xs,SqL K b a xs)/\R (Ite K a) b):iEnum K tl σ H R:=h
theorem uC(h:te σ H λx a=>∃d kvs,x=.ref d/\a d=Sa (.dK kvs)/\∀o,R (Itd d o kvs) (upd a d (.frz o (.dK kvs)))):iDict te σ H R:=h
theorem uD(h:te σ H λx b=>∃a,x=.ref a/\(∃xs,SqT K b a xs)/\R (Itt K a) b):iTup K te σ H R:=h
theorem uE(h:tl σ H λvs a=>∃j:Int,vs=[.int j]/\-(2^62)<=j/\j<2^62/\R (Itr 0 j.toNat) a):iRng1 tl σ H R:=h
theorem kC{c j k:St->Hp->Prop}(h:wi σ H λJ l => ∃W:Nat->Nat->St->Hp->Prop,(∃m,W 0 m σ l) /\ ∀i m σ H,W i m σ H ->
 (J.stop i H/\c σ H)\/(J.go i H/\∃N:St->Hp->Prop,(∀a b,N a b->∃f,f<m/\W (i+1) f a b)/\∀x b,J.yld i H x b->g x σ b λd n=>tb2 ⟨N,e,c,N⟩ d n)):tFor wi g tb2 ⟨c,e,j,k⟩ σ H:=h
theorem Qn(h:∀p,H p=Sb->Q (.ref p) (upd H p (.dK []))):QB σ H Q:=h
theorem uF(h:ty σ H λy c=>td σ c λx b=>∃a o,x=.ref a/\DGet b a y o/\Q (.bl o.isSome) b):tDIn ty td σ H Q:=h
theorem uG(h:ty σ H λy c=>td σ c λx b=>∃a o,x=.ref a/\DGet b a y o/\Q (.bl (!o.isSome)) b):QA ty td σ H Q:=h
theorem uH(h:td σ H λx c=>ty σ c λy b=>∃a v,x=.ref a/\DGet b a y (Sa v)/\Q v b):tDGet td ty σ H Q:=h
theorem kE(h:td σ H λx b=>∃a,x=.ref a/\IsD b a/\ty σ b λy d=>tx σ d λz c=>∃o,DGet c a y o/\Q (o.getD z) c):QE td ty tx σ H Q:=h
theorem uI{b d e:St->Hp->Prop}(h:tv σ H λv g=>td σ g λx i=>ty σ i λy j=>∃a c,x=.ref a/\DPut j a y v c/\b σ c):sDPut td ty tv ⟨b,f,d,e⟩ σ H:=h
theorem wC(h:te σ H λv a=>∃vs,a l=Sa (.lst vs)/\vs.length<Sn/\R σ (upd a l (.lst (vs++[v])))):eApp te l σ H R:=h
theorem uJ(h:tk σ H λx b=>tv σ b λy a=>∃kvs k,x=kV k/\a l=Sa (.dK kvs)/\kvs.length<Sn/\R σ (upd a l (.dK (putK kvs k y)))):ePut tk tv l σ H R:=h
theorem wz(h:R Sc H):tAll [] σ H R:=h
theorem vA(h:a σ H λb c=>if b=Sc then R Sc c else R Sd c):tAll [a] σ H R:=h
theorem zv{n:Nat}{t:TGs}(h:SqT K H l xs)(a:xs.length=n)(q:t xs σ H R):gTup K n t (.ref l) σ H R:=⟨l,xs,rfl,h,a,q⟩
theorem xg{t:TG}(h:t v σ H λa b=>u xs a b R):gCons t u (v::xs) σ H R:=⟨v,xs,rfl,h⟩
theorem wD{R:St->Hp->Prop}(h:R σ H):gNil [] σ H R:=⟨rfl,h⟩
theorem vB{r:V->Option Int->Option Int->Hp->VK->Prop}{a b:TO}(h:te σ H λx c=>a σ c λl d=>b σ d λu e=>r x l u e Q):tSl r te a b σ H Q:=h
theorem vC(h:R Sb H):ui σ H R:=h
theorem vD(h:te σ H λx a=>∃i,x=.int i/\R (Sa i) a):tPart te σ H R:=h
end
def Nx(N A:St->Hp->Prop):Prop:=∀σ H,A σ H->N σ H
theorem yu(h:Nx N A)(q:A σ H):N σ H:=h σ H q
def NxV(Q' Q:VK):Prop:=∀v H,Q v H->Q' v H
theorem uK(h:NxV a Q)(q:Q v H):a v H:=h v H q
theorem r_sq{t u:TS}(C:St->Hp->Prop)(g:∀a e,C a e->u ⟨f,d,b,c⟩ a e)(h:(∀a e,C a e->u ⟨f,d,b,c⟩ a e)->t ⟨u ⟨f,d,b,c⟩,d,b,c⟩ σ H):tSeq t u ⟨f,d,b,c⟩ σ H:=h g
theorem xU{K:SJ}{g:TG}{k:TS}(Pv:Nat->St->Hp->Prop)(n:Pv 0 σ H)(o:∀i σ H,i<=xs.length->Pv i σ H->SqL K H a xs)(p:∀i x σ H,xs[i]? = Sa x->Pv i σ H -> ∀(N B C:St->Hp->Prop) (R:VK),Nx N (Pv (i+1))->Nx C (Pv (i+1))->NxV R f->g x σ H λb j=>k ⟨N,R,B,C⟩ b j)(hd:∀ σ H,Pv xs.length σ H->c σ H):∃W:Nat->Nat->St->Hp->Prop,(∃m,W 0 m σ H) /\ ∀i m σ H,W i m σ H ->
   ((Itl K a).stop i H/\c σ H)\/((Itl K a).go i H/\∃N:St->Hp->Prop,(∀d e,N d e->∃l,l<m/\W (i+1) l d e)/\∀x e,(Itl K a).yld i H x e->g x σ e λb j=>k ⟨N,f,c,N⟩ b j):=
 qUf (D:=⟨c,f,c,c⟩) Pv n o (λi x σ H q r=>p i x σ H q r _ _ _ _ (λ_ _ h=>h) (λ_ _ h=>h) (λ_ _ h=>h)) hd
theorem xh{lo:Int}{n:Nat}{g:TG}{j:TS}{b:St->Hp->Prop}{e:VK}{σ : St}{H:Hp}(Pv:Nat->St->Hp->Prop)(l:Pv 0 σ H)(o:∀i σ H,i<n->Pv i σ H -> ∀(N B C:St->Hp->Prop) (R:VK),Nx N (Pv (i+1))->Nx C (Pv (i+1))->NxV R e->g (.int (lo+i)) σ H λa f=>j ⟨N,R,B,C⟩ a f)(hd:∀ σ H,Pv n σ H->b σ H):∃W:Nat->Nat->St->Hp->Prop,(∃m,W 0 m σ H) /\ ∀i m σ H,W i m σ H ->
   ((Itr lo n).stop i H/\b σ H)\/((Itr lo n).go i H/\∃N:St->Hp->Prop,(∀c d,N c d->∃k,k<m/\W (i+1) k c d)/\∀x d,(Itr lo n).yld i H x d->g x σ d λa f=>j ⟨N,e,b,N⟩ a f):=
 qS1 (D:=⟨b,e,b,b⟩) Pv l (λi σ H p q=>o i σ H p q _ _ _ _ (λ_ _ h=>h) (λ_ _ h=>h) (λ_ _ h=>h)) hd
theorem Qo{K:SJ}{a:Sf}{xs:List V}{g:TG}{j:TS}{e:St->Hp->Prop}{k:VK}{σ : St}{H:Hp}(Pv:Nat->St->Hp->Prop)(n:Pv 0 σ H)(o:∀i σ H,i<=xs.length->Pv i σ H->SqL K H a xs)(q:∀i x σ H p,xs[i]? = Sa x->Pv i σ H->H p=Sb -> ∀(N B C:St->Hp->Prop) (R:VK),Nx N (Pv (i+1))->Nx C (Pv (i+1))->NxV R k->g (.ref p) σ (upd H p (.tup [.int i,x])) λb f=>j ⟨N,R,B,C⟩ b f)(hd:∀ σ H,Pv xs.length σ H->e σ H):∃W:Nat->Nat->St->Hp->Prop,(∃m,W 0 m σ H) /\ ∀i m σ H,W i m σ H ->
   ((Ite K a).stop i H/\e σ H)\/((Ite K a).go i H/\∃N:St->Hp->Prop,(∀c d,N c d->∃l,l<m/\W (i+1) l c d)/\∀x d,(Ite K a).yld i H x d->g x σ d λb f=>j ⟨N,k,e,N⟩ b f):=
 vt Pv n o (λi x σ H p r s t=>q i x σ H p r s t _ _ _ _ (λ_ _ h=>h) (λ_ _ h=>h) (λ_ _ h=>h)) hd
theorem vE{W:Nat->St->Hp->Prop}{m:Nat}{d:TS}{e n2:St->Hp->Prop}{f:VK}{σ:St}{H:Hp}(h:∀N:St->Hp->Prop,Nx N (λa c=>∃b,b<m/\W b a c)->d ⟨N,f,e,N⟩ σ H):∃N:St->Hp->Prop,(∀a c,N a c->∃b,b<m/\W b a c)/\d ⟨N,f,e,N⟩ σ H:=⟨_,λ_ _ h=>h,h _ λ_ _ h=>h⟩
theorem Ext.k(e:Ext ts H a)(h:H b=Sa o)(n:b∉ts:=by simp):a b=Sa o:=e b o n h
theorem Ext.no(a:Ext ts H c)(e:c b=Sb)(h:b∉ts:=by simp):H b=Sb:=a.none h e
theorem Ext.mo(a:Ext ts H c)(h:∀b∈ts,b∈us:=by simp):Ext us H c:=a.mono h
theorem Ext.pt{t:Sf}(h:t∈ts:=by simp):Ext ts H (upd H t o):=.put h
theorem yQ{X:Cx}{b:Sx}(i:Nat){x:Str}{e:Sl}{c:TE}{a:Sx}(d:PE X e c)(f:X.N.Nodup:=by show of_decide_eq_true rfl)(g:X.N[i]? = Sa x:=by show rfl)(h:Loc X.env.scope x:=by first|show Or.inl rfl|show Or.inr rfl)(j:SE e (Sa (.Name x a)) b.line X.env=pure Sd:=by rfl)(k:X.fn x=Sc\/X.env.scope.names.lookup x=Sa .local:=by first|show .inl rfl|show .inr rfl|assumption):PS X (.Assign [.Name x a] e b) (tAsg c (gName i)):=zZ f g h d j k
theorem zj{X:Cx}{a:Sx}(i:Nat){x:Str}(b:X.N.Nodup:=by show of_decide_eq_true rfl)(c:X.N[i]? = Sa x:=by show rfl)(d:Loc X.env.scope x:=by first|show Or.inl rfl|show Or.inr rfl)(e:X.fn x=Sc\/X.env.scope.names.lookup x=Sa .local:=by first|show .inl rfl|show .inr rfl|assumption):PG X (.Name x a) (gName i):=zJ b c d e
theorem fsc{N P:List Str}{h:Su}(a:h.kind=.function:=by show rfl)(b:h.isCoroutine=Sd:=by show rfl)(c:h.isGenerator=Sd:=by show rfl)(d:N.Nodup:=by decide +kernel)(e:N.take P.length=P:=by show rfl)(f:∀x∈P,h.names.lookup x=Sa .local\/h.names.lookup x=Sa .cell:=by decide +kernel)(g:∀y∈h.names,y.2≠.free:=by decide +kernel):FnScope N P h:=⟨a,b,c,d,e,f,g⟩
theorem Fun.go{K:SJ}{st:Sr}{k:Nat}(F:Fun K x a st f e)(S:FnScope N d (za st))(b:∀(c:Se) (A:Sj) (outer:List Env) (s:Sg) (H:Hp) (vs:List V) (Q:VK) (E:XK),Room k (A.deeper (envOfC a (za st) s.heap.objs.size f c))->sp vs H Q E ->
   ∃t,PSs (cxOf CX0 P w K mg base N a (za st) f c A outer s H E).nox (xB st) t/\t {nx:=λ_ g=>Q .non g,rt:=Q} (start N vs) H)
  (len:∀vs H Q E,sp vs H Q E->vs.length=d.length:=by(intro vs H Q E zqz;(repeat (first|obtain⟨rfl,_⟩:=zqz|obtain⟨_,zqz⟩:=zqz));rfl)):FnOk P w K mg base CX0 (k+1) f e d sp:=F.ok S len b
theorem wP{X:Cx}{d i c:Sl}{e:List Sl}{scope:Su}{k:TI}{g:TG}{f:List TT}{l:TE}{j:Sx}(a:List Str)(b:List Nat)(hi:PI X i c k)(m:∀h s H ex,PG (zP X a b scope h s H ex) i g)(n:∀h s H ex,PTs (zP X a b scope h s H ex) e f)(o:∀h s H ex,PE (zP X a b scope h s H ex) d l)(p:X.calm=Sc:=by show rfl)(S:CompScope X a b scope:=by show .of rfl)(q:∀x,SD c X.env x=pure x:=by intro _;rfl):PE X (.ListComp d [⟨i,c,e,0⟩] scope j) (tComp a b (.lst []) k g f (eApp l)):=yK a b p S hi m n o q
theorem jR{X:Cx}{e l a:Sl}{f:List Sl}{scope:Su}{o:TI}{g:TG}{h:List TT}{p:TE}{j:Sx}(i:Nat){x:Str}{q d:Sx}(b:List Str)(c:List Nat)(hi:PI X l a o)(r:∀k s H ex,PG (zP X b c scope k s H ex) l g)(t:∀k s H ex,PTs (zP X b c scope k s H ex) f h)(u:∀k s H ex,PE (zP X b c scope k s H ex) e p)(v:X.calm=Sc:=by show rfl)(S:CompScope X b c scope:=by show .of rfl)(w:X.N.Nodup:=by show of_decide_eq_true rfl)(m:X.N[i]? = Sa x:=by show rfl)(y:Loc X.env.scope x:=by first|show Or.inl rfl|show Or.inr rfl)(n:SE (.ListComp e [⟨l,a,f,0⟩] scope j) (Sa (.Name x q)) d.line X.env=pure Sc:=by rfl)(z:∀x,SD a X.env x=pure x:=by intro _;rfl)(A:X.fn x=Sc\/X.env.scope.names.lookup x=Sa .local:=by first|show .inl rfl|show .inr rfl|assumption):PS X (.Assign [.Name x q] (.ListComp e [⟨l,a,f,0⟩] scope j) d) (tAsg (tComp b c (.lst []) o g h (eApp p)) (gName i)):=xZ b c v S w m y hi r t u n z A
inductive Deed where
 |set (b n:Int)
 |add (b o:Int)
 |tell (b:Int)
 |call (c:Int)
 |save (b:Int)
 |back (b:Int)
noncomputable def deedD:Deed->PyData
 |.set b n=>.tuple [.str "set",.int b,.int n]
 |.add b o=>.tuple [.str "add",.int b,.int o]
 |.tell b=>.tuple [.str "tell",.int b]
 |.call c=>.tuple [.str "call",.int c]
 |.save b=>.tuple [.str "save",.int b]
 |.back b=>.tuple [.str "back",.int b]
def wQ(works:Int):Deed->Prop
 |.set b n=>0<=b/\b<8/\-(10^12)<=n/\n<=10^12
 |.add b o=>0<=b/\b<8/\0<=o/\o<8
 |.tell b=>0<=b/\b<8
 |.call c=>0<=c/\c<works
 |.save b=>0<=b/\b<8
 |.back b=>0<=b/\b<8
noncomputable def endD:List Int->PyData
 |[]=>.tuple [.str "out"]
 |[x]=>.tuple [.str "go",.int x]
 |x::y::_=>.tuple [.str "fork",.int x,.int y]
structure Blk where
 ds:List Deed
 ns:List Int
noncomputable def blkD(b:Blk):PyData:=.tuple [.list (b.ds.map deedD),endD b.ns]
noncomputable def workD(w:List Blk):PyData:=.list (w.map blkD)
def NsOk(m:Int)(ns:List Int):Prop:=ns=[]\/(∃x,ns=[x]/\1<=x/\x<m)\/∃x y,ns=[x,y]/\x≠y/\1<=x/\x<m/\1<=y/\y<m
structure BlkOk(m works:Int)(b:Blk):Prop where
 ns:NsOk m b.ns
 ds:∀d∈b.ds,wQ works d
 few:b.ds.length<=20
structure WorkOk(m works:Int)(w:List Blk):Prop where
 len:(w.length:Int)=m
 blk:∀b∈w,BlkOk m works b
theorem xi{ns:List Int}{r:Int}(b:0<=r)(c:r<ns.length):∃n,n∈ns/\atI (ns.map V.int) r=Sa (.int n):=by
 let⟨j,rfl⟩:=Int.eq_ofNat_of_zero_le b;let a:j<ns.length:=by exact_mod_cast c
 show⟨ns[j],cN a,?_⟩;let:=zS (xs:=ns.map V.int) (j:=j) (by rw[aR,aE a];rfl);show this
def qYw:List V->Hp->VK->Prop:=λxs H Q=>∃j:Int,xs=[.int j]/\∀l,H l=Sb->Q (.ref l) (upd H l (.rng 0 j))
theorem qM8:CallR X (.type "range") qYw:=by
 intro a s σ H c d Q I r h;let⟨j,rfl,q⟩:=h;let⟨u,rfl,t,rfl⟩:=vals1 r;show call_range_1 ⟨.ref s.heap.objs.size,_,?_,rfl,q _ (I.hok.fresh (aI _))⟩;show I.laid (λb o e=>aJ _ e) (aI _) ⟨_,_,_,aW _ rfl⟩
def qTd:List V->Hp->VK->Prop:=λxs H Q=>∃(p:Sf)(j:Nat),xs=[.ref p]/\H p=Sa (.rng 0 j)/\j<=1000/\∀l,H l=Sb->Q (.ref l) (upd H l (.lst ((List.range j).map λ(i:Nat)=>V.int (i:Int))))
theorem qJ1(w:X.A.handled=Sb):CallR X (.type "list") qTd:=by
 intro g s σ H E a Q I r h;let⟨p,j,rfl,x,y,q⟩:=h;let⟨u,rfl,z⟩:=vals1 r;cases z;obtain⟨t,u,v,e⟩:∃t u v,s.heap.get? p=Sa {cls:=.type "range",data:=.fields #[.int 0 t,.int (j:Int) u,.int 1 v]}:=I.hok p _ x;show call_list_range w e (small_one ⋯ ⋯ ∎ ∎) (n:=j) (by rw[rangeSize_one];split<;>lia) ∎ λF tk b c B C l=>?_;show⟨.ref s.heap.objs.size,_,I.laid (o:=.lst ((List.range j).map λ(i:Nat)=>V.int (i:Int))) B (aI _) (show _/\_ from⟨?_,b.toList,c,?_,?_⟩),rfl,q _ (I.hok.fresh (aI _))⟩
 .rw [aA,cL];show len2 y
 .let m:b.toList.length=j:=by rw[aQ];show l.1
  let d:∀(i:Nat)v,b.toList[i]? = Sa v->∃t,v=Value.int (i:Int) t:=λi v d=>by
   let⟨t,h⟩:=l.2 i v (by rw[<-d,bN]);show⟨t,by rw[h];congr 1;lia⟩
  generalize b.toList=a at m d;subst m;let f:∀(a:List Se)(k:Nat),(∀(i:Nat)v,a[i]? = Sa v->∃t,v=Value.int ((k+i:Nat):Int) t)->Vals ((List.range' k a.length).map λ(i:Nat)=>V.int (i:Int)) a:=by
   intro a
   induction a with
   |nil=>intro k _;show .nil
   |cons u a D=>
    intro k h;let⟨t,rfl⟩:=h 0 u rfl;show .cons ⟨t,rfl⟩ (D (k+1) λi v e=>?_);let⟨t,e⟩:=h (i+1) v e;show⟨t,by rw[e];congr 1;lia⟩
  let:=f a 0 (λi v e=>by let⟨t,h⟩:=d i v e;show⟨t,by rw[h];congr 1;lia⟩)
  rwa[<-List.range_eq_range']at this
 .rw [Array.toArray_toList];show C
theorem kF(K:SJ)(a:X.K=K):IxR X (rIxL K):=a▸zO
theorem vF(K:SJ)(a:X.K=K):IxR X (rIxT K):=a▸yW
theorem qWq(K:SJ)(a:X.K=K):SlR X (rSlT K):=a▸wm
theorem yR(K:SJ)(a:X.K=K):CallR X (.builtin "len") (λxs H Q=>∃p ys,xs=[.ref p]/\(SqL K H p ys\/SqT K H p ys)/\Q (.int ys.length) H):=a▸yn
theorem qU5(K:SJ)(a:X.K=K):CallR X (.type "list") (λxs H Q=>∃p ys,xs=[.ref p]/\(SqL K H p ys\/SqT K H p ys)/\∀l,H l=Sb->Q (.ref l) (upd H l (.lst ys))):=a▸wI
theorem Qp(K:SJ)(b:X.K=K)(d:PE X l a):PI X c l (iList K a):=b▸zd d
theorem wR(K:SJ)(c:X.K=K){es:List Sl}{a:Sx}{k:Nat}{t:TGs}{n:Nat}(d:X.calm=Sc)(h:PGs X es t)(e:(assignEach es X.env).length=n:=by rfl)(b:(assignEach es X.env).findIdx? (·.1)=Sb:=by rfl):PG X (.Tuple es k a) (gTup K n t):=c▸yI d h e b
theorem Ext.toSame(e:Ext [] H a):Same H a:=λb o h=>e b o ∅ h
noncomputable abbrev pairD(p:Int×Int):PyData:=.tuple [.int p.1,.int p.2]
noncomputable def srt:List Int->List Int
 |[x,y]=>if x<=y then [x,y]else [y,x]
 |l=>l
noncomputable def outs(m i:Int)(ns:List Int):List (Int×Int):=(srt ns).map (λx=>(i,x))++(if ns=[]then [(i,m)]else [])
noncomputable def xK(w:List Blk):Nat->List (Int×Int)
 |0=>[(-1,0)]
 |i+1=>xK w i++outs w.length i ((w[i]?.map Blk.ns).getD [])
theorem NsOk.few{m:Int}(h:NsOk m ns):ns.length<=2:=by
 rcases h with h|⟨x,h,_⟩|⟨x,y,h,_⟩<;>subst h<;>simp
theorem NsOk.range{m:Int}(h:NsOk m ns):∀x∈ns,1<=x/\x<m:=by
 rcases h with h|⟨x,h,a,b⟩|⟨x,y,h,_,a,b,d,f⟩<;>subst h<;>intro z c
 .cases c
 .rw [aH.mp c];show⟨a,b⟩
 .rcases aM.mp c with e|e
  .rw [e];show⟨a,b⟩
  .rw [aH.mp e];show⟨d,f⟩
theorem qWp:(srt ns).length=ns.length:=by
 unfold srt;split
 .split<;>rfl
 .rfl
theorem qTp{m i:Int}(h:ns.length<=2):(outs m i ns).length<=2:=by
 unfold outs;rw[aF,aA,qWp];split
 .next h=>subst h;show fN 1
 .simp;lia
theorem jS{w:List Blk}(h:∀b∈w,b.ns.length<=2):∀i,(xK w i).length<=1+2*i
 |0=>aI _
 |i+1=>by
  let:=jS h i;let a:((w[i]?.map Blk.ns).getD []).length<=2:=by
   cases z:w[i]? with
   |none=>decide
   |some b=>show h b (aK z)
  let:=qTp (m:=w.length) (i:=i) a;change(xK w i++outs _ _ _).length<=_;rw[aF];lia
theorem wS(K:SJ)(a:X.K=K):OpR X (SC .NotIn) (rIn K Sc):=a▸qKh
theorem inK(K:SJ)(a:X.K=K):OpR X (SC .In) (rIn K Sd):=a▸xH
theorem qXp{a b:Int}:eqV (.int a) (.int b)=decide (a=b):=by
 first|rfl|(unfold eqV;simp)
theorem yX(x:Int):∀ns:List Int,inV (.int x) (ns.map V.int)=decide (x∈ns)
 |[]=>rfl
 |n::r=>by
  let c:=yX x r;change(eqV (.int n) (.int x)||inV (.int x) (r.map V.int))=_;rw[c,qXp];by_cases a:n=x
  .subst a;simp
  .by_cases b:x∈r
   .simp [b]
   .simp [a,b,eI a]
theorem yY:∀ns:List Int,(ns.map V.int).all flatV=Sc
 |[]=>rfl
 |_::r=>yY r
theorem kG{n:Nat}(h:n<=100000):n<Sn:=Nat.lt_of_le_of_lt h ⋯
theorem zV{α β:Type}{f:α->β}{l:List α}{i:Nat}{y:β}(h:(l.map f)[i]? = Sa y):∃x,l[i]? = Sa x/\y=f x:=by
 rw[aR]at h;cases z:l[i]? with
 |none=>rw[z]at h;cases h
 |some x=>rw[z]at h;show⟨x,rfl,(bI h).symm⟩
theorem zY{α:Type}{l:List α}{i:Nat}{x:α}(h:l[i]? = Sa x):l.take (i+1)=l.take i++[x]:=by rw[List.take_add_one,h];rfl
theorem wT{K:SJ}(h:Den K H (blkD b) x):∃c dl a l,x=.ref c/\SqT K H c [.ref dl,l]/\SqL K H dl a/\DenL K H (b.ds.map deedD) a/\Den K H (endD b.ns) l:=by
 let⟨c,o,rfl,m,e⟩:=h.ofTuple;let⟨p,q,rfl,f,g⟩:=e.ofCons;let⟨n,r,rfl,i,j⟩:=g.ofCons;obtain rfl:=j.ofNil;let⟨dl,a,rfl,k,d⟩:=f.ofList;show⟨c,dl,a,n,rfl,m,k,d,i⟩
theorem qS4:∀ns:List Int,ns.length<=2 -> ∃w:Str,endD ns = .tuple (.str w::ns.map .int)/\(w = "out" ↔ ns = [])
 |[],_=>⟨_,rfl,∅⟩
 |[x],_=>⟨"go",rfl,by simp;decide⟩
 |[x,y],_=>⟨"fork",rfl,by simp;decide⟩
theorem jT{K:SJ}(i:ns.length<=2)(h:Den K H (endD ns) x):∃a b,x=.ref a/\SqT K H a (.str b::ns.map V.int)/\(b="out" ↔ ns=[]):=by
 let⟨b,c,j⟩:=qS4 ns i;rw[c]at h;let⟨a,k,rfl,d,e⟩:=h.ofTuple;let⟨l,m,rfl,f,g⟩:=e.ofCons;obtain rfl:=f.ofStr;obtain rfl:=g.ints;show⟨a,b,rfl,d,j⟩
noncomputable def nxt(w:List Blk)(i:Int):List Int:=if 0<=i then ((w[i.toNat]?).map Blk.ns).getD []else []
inductive Reach(nx:Int->List Int)(a:Int):Int->Prop
 |refl:Reach nx a a
 |step {b c:Int}:Reach nx a b->c∈nx b->Reach nx a c
theorem vG{i:Nat}(h:w[i]? = Sa b):nxt w (i:Int)=b.ns:=by
 unfold nxt;rw[if_pos ∎,bE,h];rfl
theorem qXh{i:Int}(h:¬(0<=i/\i<w.length)):nxt w i=[]:=by
 unfold nxt;split
 .rw [eN ∎];rfl
 .rfl
theorem xL{m a:Int}(h:WorkOk m a w)(i:Int):NsOk m (nxt w i):=by
 unfold nxt;split
 .cases z:w[i.toNat]? with
  |none=>show .inl rfl
  |some b=>show(h.blk b (aK z)).ns
 .exact .inl rfl
theorem Reach.range{m b a x:Int}(h:WorkOk m b w)(c:0<=a/\a<m)(r:Reach (nxt w) a x):0<=x/\x<m:=by
 induction r with
 |refl=>show c
 |step _ d _=>have:=(xL h _).range _ d;lia
section
variable(nx:Int->List Int)(a:Int)
noncomputable def lay:Nat->List Int×List Int
 |0=>([],[a])
 |j+1=>let f:=(lay j).2.flatMap λb=>(nx b).filter λx=>!decide (x∈(lay j).1);((lay j).1++f,f)
variable{nx a}
end
def ltP(p q:Int×Int):Prop:=p.1<q.1\/(p.1=q.1/\p.2<q.2)
theorem ltP.irr:¬ltP p p:=by rintro (h|⟨_,h⟩)<;>lia
theorem ltP.trans(a:ltP p q)(b:ltP q r):ltP p r:=by
 rcases a with a|⟨a,c⟩<;>rcases b with b|⟨b,d⟩<;>first|(left;lia)|(right;lia)
theorem Qq:∀ {l1 l2:List (Int×Int)},l1.Pairwise ltP->l2.Pairwise ltP->(∀p,p∈l1↔p∈l2)->l1=l2
 |[],[],_,_,_=>rfl
 |[],q::l2,_,_,h=>absurd ((h q).mpr (aT ..)) ∅
 |p::l1,[],_,_,h=>absurd ((h p).mp (aT ..)) ∅
 |p::l1,q::l2,b,c,h=>by
  rw[eT]at b c;let e:p=q:=by
   rcases aM.mp ((h p).mp (aT ..))with z|z
   .exact z
   .rcases aM.mp ((h q).mpr (aT ..))with y|y
    .exact y.symm
    .exact absurd ((c.1 p z).trans (b.1 q y)) ltP.irr
  subst e;show congrArg (p::·) (Qq b.2 c.2 λx=>⟨λa=>?_,λa=>?_⟩)
  .rcases aM.mp ((h x).mp (aS _ a))with z|z
   .rw [z]at a;show absurd (b.1 p a) ltP.irr
   .exact z
  .rcases aM.mp ((h x).mpr (aS _ a))with z|z
   .rw [z]at a;show absurd (c.1 p a) ltP.irr
   .exact z
theorem yv{α : Type} [DecidableEq α]:∀ {l1 l2:List α},l1.Nodup->(∀x∈l1,x∈l2)->l1.length<=l2.length
 |[],_,_,_=>bL _
 |x::r,l2,h,b=>by
  rw[cQ]at h;let c:=b x (aT ..);let e:=yv (l2:=l2.erase x) h.2 λy d=>by
   let a:y≠x:=λz=>h.1 (z▸d);show(List.mem_erase_of_ne a).mpr (b y (aS _ d))
  let f:=hV c;let g:=List.length_pos_of_mem c;rw[bK];lia
noncomputable def tOf(p:Int×Int):List Int:=[p.1,p.2]
noncomputable def pOf(t:List Int):Int×Int:=(t.getD 0 0,t.getD 1 0)
theorem jU(p:Int×Int):pOf (tOf p)=p:=rfl
theorem qU6{p q:Int×Int}(h:HT.lexLt (tOf q) (tOf p)=Sd)(e:p≠q):ltP p q:=by
 let⟨a,b⟩:=p;let⟨c,d⟩:=q;let h:HT.lexLt [c,d] [a,b]=Sd:=h;rw[HT.lexLt_cons,HT.lexLt_cons]at h;let e:¬(a=c/\b=d):=λz=>e (by rw[z.1,z.2]);change a<c\/(a=c/\b<d);by_cases f:c=a
 .rw [if_pos f]at h;by_cases g:d=b
  .exact absurd ⟨f.symm,g.symm⟩ e
  .rw [if_neg g]at h;let:=of_decide_eq_false h;lia
 .rw [if_neg f]at h;let:=of_decide_eq_false h;lia
theorem DenL.ofAll{K:SJ}{G:Hp}{α : Type}{f : α -> PyData}{g : α -> V}:∀ {l:List α},(∀x∈l,Den K G (f x) (g x))->DenL K G (l.map f) (l.map g)
 |[],_=>.nil
 |_::_,h=>.cons (h _ (aT ..)) (DenL.ofAll λx a=>h x (aS _ a))
theorem Qr{K:SJ}(e:Same G H):∀ {b:List (Int×Int)} {vs:List V},DenL K G (b.map pairD) vs->TupI K H vs (b.map tOf)
 |[],vs,h=>by let:=h.ofNil;subst this;show .nil
 |p::b,vs,h=>by
  let⟨v,r,rfl,d,f⟩:=h.ofCons;let⟨a,g,rfl,i,c⟩:=d.ofTuple;let c:DenL K G ([p.1,p.2].map PyData.int) g:=c;let:=c.ints;subst this;show .cons ⟨a,rfl,e.seqT i⟩ (Qr e f)
theorem Qs{K:SJ}:∀ {a:List (Int×Int)} {vs:List V},DenL K G (a.map pairD) vs -> ∀x∈vs.zip (a.map tOf),∃p,p∈a/\x.2=tOf p/\Den K G (pairD p) x.1
 |[],vs,h=>by let:=h.ofNil;subst this;intro x b;cases b
 |p::a,vs,h=>by
  let⟨v,r,rfl,c,d⟩:=h.ofCons;intro x b;rcases aM.mp (show x∈(v,tOf p)::r.zip (a.map tOf)from b)with z|z
  .rw [z];show⟨p,aT ..,rfl,c⟩
  .let⟨e,f,g,i⟩:=Qs d x z;show⟨e,aS _ f,g,i⟩
theorem qJq{K:SJ}{G:Hp}{c:List (Int×Int)}{vs:List V}{res:List (V×List Int)}(hd:DenL K G (c.map pairD) vs)(s:c.Nodup)(m:res.Perm (vs.zip (c.map tOf)))(n:(res.map (·.2)).Pairwise (λa b=>HT.lexLt b a=Sd)):∃f:List (Int×Int),DenL K G (f.map pairD) (res.map (·.1))/\f.Pairwise ltP/\∀p,p∈f↔p∈c:=by
 let d:∀x∈res,∃p,p∈c/\x.2=tOf p/\Den K G (pairD p) x.1:=λx i=>Qs hd x (m.mem_iff.mp i);let o:vs.length=(c.map tOf).length:=by rw[hd.len,aA,aA]
 let e:(res.map λx=>pOf x.2).Perm c:=by
  let r:=m.map λx=>pOf x.2;let g:(vs.zip (c.map tOf)).map (λx=>pOf x.2)=c:=by
   rw[show(vs.zip (c.map tOf)).map (λx=>pOf x.2)=((vs.zip (c.map tOf)).map (λx=>x.2)).map pOf by rw[dC];rfl];rw[show(vs.zip (c.map tOf)).map (λx=>x.2)=c.map tOf from List.map_snd_zip ∎];rw[dC];show List.map_id' c
  rw[g]at r;show r
 show⟨res.map λx=>pOf x.2,?_,?_,λp=>e.mem_iff⟩
 .rw [dC];show DenL.ofAll λx i=>?_;let⟨p,_,g,j⟩:=d x i;change Den K G (pairD (pOf x.2)) x.1;rw[g,jU];show j
 .let k:(res.map λx=>pOf x.2).Nodup:=e.nodup_iff.mpr s;let l:(res.map λx=>pOf x.2).Pairwise (λp q=>HT.lexLt (tOf q) (tOf p)=Sd):=by
   rw[List.pairwise_map]at n ⊢;show n.imp_of_mem λ{x y}i t h=>?_;let⟨p,_,g,_⟩:=d x i;let⟨q,_,j,_⟩:=d y t;rw[g,j,jU,jU];rw[g,j]at h;show h
  show(l.and k).imp λ{p q}h=>qU6 h.1 h.2
noncomputable def wU(w:List Blk):Nat->List (Int×Int)
 |0=>[]
 |i+1=>wU w i++outs w.length i ((w[i]?.map Blk.ns).getD [])
theorem uL(w:List Blk):∀i,xK w i=(-1,0)::wU w i
 |0=>rfl
 |i+1=>by
  change xK w i++_=_;rw[uL w i];rfl
theorem Qt(w:List Blk)(i:Nat):(w[i]?.map Blk.ns).getD []=nxt w (i:Int):=by
 unfold nxt;rw[if_pos ∎,bE]
theorem srt_mem{x:Int}:x∈srt ns↔x∈ns:=by
 unfold srt;split
 .split
  .rfl
  .simp only[aM,bA,or_false];constructor<;>(intro h;rcases h with h|h<;>simp[h])
 .rfl
theorem mem_outs{m i:Int}:p∈outs m i ns↔p.1=i/\(p.2∈ns\/(ns=[]/\p.2=m)):=by
 unfold outs;rw[aN,bG];constructor
 .rintro (⟨x,c,rfl⟩|h)
  .exact⟨rfl,.inl (srt_mem.mp c)⟩
  .split at h
   .next e=>rw[aH.mp h];show⟨rfl,.inr ⟨e,rfl⟩⟩
   .cases h
 .rintro⟨b,a|⟨a,d⟩⟩
  .exact .inl ⟨p.2,srt_mem.mpr a,by rw[<-b]⟩
  .refine .inr ?_;rw[if_pos a,aH,<-b,<-d]
theorem in_rest:∀ {n:Nat},p∈wU w n ↔ ∃i:Nat,i<n/\p∈outs w.length i (nxt w i)
 |0=>by
  constructor
  .intro h;cases h
  .rintro⟨i,h,_⟩;lia
 |n+1=>by
  change p∈wU w n++outs _ _ _↔_;rw[aN,in_rest,Qt];constructor
  .rintro (⟨i,b,a⟩|h)
   .exact⟨i,∎,a⟩
   .exact⟨n,∎,h⟩
  .rintro⟨i,b,a⟩;by_cases e:i=n
   .subst e;show .inr a
   .exact .inl ⟨i,∎,a⟩
theorem qLy{m M i:Int}(h:NsOk M ns):(outs m i ns).Pairwise ltP:=by
 rcases h with h|⟨x,h,_⟩|⟨x,y,h,a,_⟩<;>subst h
 .show List.Pairwise ltP [(i,m)];simp
 .show List.Pairwise ltP [(i,x)];simp
 .show List.Pairwise ltP ((srt [x,y]).map (λx=>(i,x))++[]);rw[cG];change List.Pairwise ltP ((if x<=y then [x,y]else [y,x]).map (λx=>(i,x)));split
  .simp only[bJ,fW,eT,aH,bA,false_implies,implies_true,List.Pairwise.nil,and_true];rintro q rfl;show .inr ⟨rfl,by change x<y;lia⟩
  .simp only[bJ,fW,eT,aH,bA,false_implies,implies_true,List.Pairwise.nil,and_true];rintro q rfl;show .inr ⟨rfl,by change y<x;lia⟩
theorem Qu{m a:Int}(h:WorkOk m a w):∀n,(wU w n).Pairwise ltP
 |0=>.nil
 |n+1=>by
  change(wU w n++outs _ _ _).Pairwise ltP;rw[Qt,List.pairwise_append];show⟨Qu h n,qLy (xL h n),λp b q c=>.inl ?_⟩;let⟨i,e,d⟩:=in_rest.mp b;let:=(mem_outs.mp d).1;let:=(mem_outs.mp c).1;lia
theorem jV{m a:Int}(h:WorkOk m a w)(c:p∈wU w w.length):0<=p.1/\p.1<m/\1<=p.2/\p.2<=m/\(p.2<m->p.2∈nxt w p.1):=by
 let f:=h.len;let⟨i,g,d⟩:=in_rest.mp c;let⟨e,b⟩:=mem_outs.mp d;rcases b with b|⟨b,j⟩
 .let:=(xL h i).range _ b;show⟨∎,∎,∎,∎,λ_=>by rw[e];show b⟩
 .exact⟨∎,∎,∎,∎,λ_=>by lia⟩
theorem cut1(x:V)(xs:List V):cutV (x::xs) (Sa 1) Sb=xs:=by
 unfold cutV HT.sIx;simp
theorem zw(K:SJ)(e:X.K=K)(f:PE X a c)(g:∀b,isTrue a X.env b=(do let v <-b;Sz a.pos;SA [v] (truthy v))):PT X a (λσ H Q=>c σ H λx d=>∃k,TruV K x d k/\Q k d):=e▸oH f g
theorem jW{K:SJ}{H:Hp}{Q:VK}{a:Sf}{b:Str}{ns:List Int}(c:ns.length<=2)(h:SqT K H a (.str b::ns.map V.int))(q:∀p,H p=Sb->Q (.ref p) (upd H p (.tup (ns.map V.int)))):rSlT K (.ref a) (Sa 1) Sb H Q:=
 ⟨a,_,rfl,h,λz=>by
  let:=z.1;revert this;rw[show(V.str b::ns.map V.int).length=ns.length+1 by simp];unfold HT.sIx;simp
  try lia,by rw[cut1];show q⟩
theorem jX(xs:Array Nat)(j:Nat)(up:xs.toList.Pairwise (· < ·)):∀(fuel lo hi:Nat),lo<=hi->hi<=xs.size->hi - lo<=fuel->(∀(i x:Nat),xs[i]? = Sa x->i<lo->x<j)->(∀(i x:Nat),xs[i]? = Sa x->hi<=i->j<=x) ->
  (SetTable.below.go xs j fuel lo hi<=xs.size)/\(∀(i x:Nat),xs[i]? = Sa x->i<SetTable.below.go xs j fuel lo hi->x<j)/\(∀(i x:Nat),xs[i]? = Sa x->SetTable.below.go xs j fuel lo hi<=i->j<=x)
 |0,lo,hi,q,d,r,f,g=>by
  let e:lo=hi:=by lia
  subst e;show⟨d,f,g⟩
 |fuel+1,lo,hi,q,d,r,f,g=>by
  unfold SetTable.below.go;by_cases o:lo<hi
  .rw [if_pos o];dsimp only;let s:(lo+hi) / 2<xs.size:=by lia
   let p:∀(i k x y:Nat),xs[i]? = Sa x->xs[k]? = Sa y->i<=k->x<=y:=by
    intro i k x y b c h;rw[<-bN]at b c;let⟨l,rfl⟩:=aC.mp b;let⟨m,rfl⟩:=aC.mp c;rcases Nat.lt_or_eq_of_le h with z|z
    .exact cV (cM.mp up i k l m z)
    .subst z;show aI _
   obtain⟨y,c⟩:∃y,xs[(lo+hi) / 2]? = Sa y:=⟨_,bR s⟩;let t:xs.getD ((lo+hi) / 2) j=y:=by rw[cB,c];rfl
   rw[t];by_cases a:y<j
   .rw [if_pos a];show jX xs j up fuel _ _ ∎ d ∎ (λi x b n=>Nat.lt_of_le_of_lt (p i _ x y b c ∎) a) g
   .rw [if_neg a];show jX xs j up fuel _ _ ∎ ∎ ∎ f (λi x b n=>cH (Nat.le_of_not_lt a) (p _ i y x c b ∎))
  .rw [if_neg o];let e:lo=hi:=by lia
   subst e;show⟨d,f,g⟩
theorem Qv(xs:Array Nat)(j:Nat)(up:xs.toList.Pairwise (· < ·)):SetTable.below xs j<=xs.size/\(∀(i x:Nat),xs[i]? = Sa x->i<SetTable.below xs j->x<j)/\(∀(i x:Nat),xs[i]? = Sa x->SetTable.below xs j<=i->j<=x):=jX xs j up xs.size 0 xs.size (bL _) (aI _) (Nat.sub_le _ _) (λ_ _ _ h=>absurd h (Nat.not_lt_zero _)) (λi x a h=>absurd (Array.getElem?_eq_some_iff.mp a).1 ∎)
theorem qQs(xs:Array Nat)(j:Nat)(up:xs.toList.Pairwise (· < ·))(p:xs[SetTable.below xs j]?≠Sa j):(SetTable.insertAt xs (SetTable.below xs j) j).toList.Pairwise (· < ·):=by
 let⟨t,q,n⟩:=Qv xs j up;rw[SetTable.toList_insertAt];generalize SetTable.below xs j=b at *;let o:∀x∈xs.toList.drop b,j<x:=by
  intro x h;let⟨i,c,e⟩:=cE h;let a:xs.toList[b+i]? = Sa x:=by rw[<-List.getElem?_drop,aE c,e]
  rw[bN]at a;let k:=n _ _ a (gU _ _);rcases Nat.lt_or_eq_of_le k with z|z
  .exact z
  .subst z;by_cases l:i=0
   .subst l;show absurd a p
   .let d:b<xs.toList.length:=by rw[fH]at c;lia
    let r:xs[b]? = Sa xs.toList[b]:=by rw[<-bN,aE d]
    let u:=n _ _ r (aI _);rw[<-bN]at a;let⟨m,v⟩:=aC.mp a;let w:=cM.mp up b (b+i) d m ∎;lia
 show List.pairwise_append.mpr ⟨up.sublist (List.take_sublist _ _),eT.mpr ⟨o,up.sublist (List.drop_sublist _ _)⟩,λx h y s=>?_⟩;let⟨i,c,e⟩:=cE h;let f:i<b:=by rw[aY]at c;lia
 let a:xs.toList[i]? = Sa x:=by rw[<-List.getElem?_take_of_lt f,aE c,e]
 rw[bN]at a;let g:=q _ _ a f;rcases aM.mp s with z|z
 .subst z;show g
 .exact Nat.lt_trans g (o y z)
theorem kH(n:Nat):(Array.range n).toList.Pairwise (· < ·):=by
 rw[Array.toList_range];show fG
def Qw(t:SetTable)(j:Nat):Prop:=t.place[SetTable.below t.place j]?≠Sa j
theorem Qx{t:SetTable}{j:Nat}(h:t.slot j=.empty\/t.slot j=.dummy):Qw t j:=by
 intro e;unfold SetTable.slot at h;dsimp only at h;rw[e]at h;simp at h
theorem jY{t:SetTable}{h:Int}{j:Nat}:∀(fuel:Nat) (p:SetTable.Probe),SetTable.probe.go t f h fuel p=Sa (.empty j b)->(∀d,p.dummy=Sa d->t.slot d = .dummy) ->
  t.slot j=.empty/\∀d,b=Sa d->t.slot d=.dummy
 |0,p,e,_=>by unfold SetTable.probe.go at e;cases e
 |fuel+1,p,e,hd=>by
  unfold SetTable.probe.go at e;let c:∀q:SetTable.Probe,(t.advance q).dummy=q.dummy:=by
   intro q;unfold SetTable.advance;split<;>rfl
  cases a:t.slot p.j with
  |empty=>rw[a]at e;dsimp only at e;cases e;show⟨a,hd⟩
  |dummy=>rw[a]at e;dsimp only at e;show jY fuel _ e (λd z=>by rw[c]at z;cases z;show a)
  |live i=>
   rw[a]at e;dsimp only at e;split at e
   .cases e
   .exact jY fuel _ e (λd z=>by rw[c]at z;show hd d z)
theorem qM3{t:SetTable}{h:Int}{slot:Nat}{c:Bool}(e:t.freeSlot h=Sa (slot,c)):Qw t slot:=by
 unfold SetTable.freeSlot at e;split at e
 .rename_i j f g;let⟨a,b⟩:=jY _ _ g (λd z=>by unfold SetTable.probeStart at z;cases z);cases e;cases f with
  |none=>show Qx (.inl a)
  |some d=>show Qx (.inr (b d rfl))
 .cases e
structure GoodT(b:Bool)(t:SetTable)(n:Nat):Prop where
 fits:t.fits n=Sc
 rise:t.place.toList.Pairwise (· < ·)
 led:t.led=b
theorem Qy{b:Bool}{t:SetTable}{h:Int}(g:GoodT b t es.size):GoodT b (layNew t es h x).2.1 (layNew t es h x).1.size:=by
 show⟨layNew_fits t es h x,?_,?_⟩
 .unfold layNew;split
  .rename_i a d c;dsimp only;unfold SetTable.orStandIn;split
   .exact qQs _ _ g.rise (qM3 c)
   .exact kH _
  .exact kH _
 .unfold layNew;split
  .dsimp only;unfold SetTable.orStandIn;split
   .exact g.led
   .exact g.led
  .exact g.led
theorem qIc{b:Bool}{t:SetTable}{m:Nat}(g:GoodT b t es.size):GoodT b (relayAll t es m).2.1 (relayAll t es m).1.size:=by
 show⟨relayAll_fits t es m,?_,?_⟩
 .unfold relayAll;split
  .rename_i i d c;dsimp only;split
   .unfold SetTable.relaid SetTable.laid at c;cases e:SetTable.layClean (SetTable.sizeAbove m-1) (es.map (·.1))with
    |none=>rw[e]at c;cases c
    |some owner=>
     rw[e]at c;cases c;change(((List.range _).filterMap λj=>(owner.getD j Sb).map (j,·)).map (·.1)).Pairwise (· < ·);let f:∀l:List Nat,((l.filterMap λj=>(owner.getD j Sb).map (j,·)).map (·.1)).Sublist l:=by
      intro l
      induction l with
      |nil=>show .slnil
      |cons a r h=>
       rw[cU];cases owner.getD a Sb with
       |none=>show h.cons _
       |some k=>show h.cons₂ a
     show List.Pairwise.sublist (f _) fG
   .exact kH _
  .exact kH _
 .unfold relayAll;split
  .rename_i i d c;dsimp only;split
   .unfold SetTable.relaid SetTable.laid at c;cases e:SetTable.layClean (SetTable.sizeAbove m-1) (es.map (·.1))with
    |none=>rw[e]at c;cases c
    |some owner=>rw[e]at c;cases c;show g.led
   .exact g.led
  .exact g.led
theorem GoodT.plainOff{b:Bool}{t:SetTable}{n:Nat}(g:GoodT b t n):GoodT b {t with plain:=Sd} n:=⟨SetTable.fits_plain_off g.fits,g.rise,g.led⟩
noncomputable def keyI:Int×Se->Int
 |(_,.int n _)=>n
 |_=>0
def EI(e:Int×Se):Prop:=∃n t,e=(hashInt n,Value.int n t)
noncomputable def yE(w:Si):Bool:=w.params.followText "set-order"
def SetI(w:Si)(h:Sk)(a:Sf)(ns:List Int):Prop:=
 ∃o es ep t,h.get? a=Sa o/\o.ExactSet/\o.data=.set es ep t/\(∀e∈es.toList,EI e)/\(es.toList.map keyI).Perm ns/\ns.Nodup/\es.size<scanBound/\GoodT (!yE w) t es.size
theorem EI.elems(h:∀e∈l,EI e):ElemsOf (intKind P w) l:=λe a=>by
 let⟨n,t,rfl⟩:=h e a;show⟨⟨n,intKind_is P w n t,rfl⟩,rfl⟩
theorem kI{P:Sh}{w:Si}{l:List (Int×Se)}(h:∀e∈l,EI e)(n:Int):n∈l.map keyI ↔ ∃e∈l,(intKind P w).is n e.2=Sc:=by
 constructor
 .intro b;let⟨e,a,q⟩:=bG.mp b;let⟨m,t,rfl⟩:=h e a;cases q;show⟨_,a,intKind_is P w m t⟩
 .rintro⟨e,a,q⟩;let⟨m,t,rfl⟩:=h e a;let:n=m:=(intKind P w).inj _ _ _ q (intKind_is P w m t);subst this;show bG.mpr ⟨_,a,rfl⟩
theorem SetI.stay(S:SetI w h a ns)(k:∀o,h.get? a=Sa o->h'.get? a=Sa o):SetI w h' a ns:=by
 let⟨o,b,c,t,e,r⟩:=S;show⟨o,b,c,t,k o e,r⟩
noncomputable def addN(ns:List Int)(n:Int):List Int:=if n∈ns then ns else ns++[n]
theorem wV{n:Int}(h:ns.Nodup):(addN ns n).Nodup:=by
 unfold addN;split
 .exact h
 .rename_i b;show cI.mpr ⟨h,∅,by intro x c y a;simp at a;subst a;intro e;subst e;show b c⟩
theorem Qz{n m:Int}:m∈addN ns n↔m∈ns\/m=n:=by
 unfold addN;split
 .rename_i a;constructor
  .exact .inl
  .rintro (h|rfl)
   .exact h
   .exact a
 .simp
theorem qNs{n:Int}:(addN ns n).length<=ns.length+1:=by
 unfold addN;split<;>simp
theorem SetI.store{h:Sk}{a:Sf}{o:Ss}{es es':Array (Int×Se)}{ep:Nat}{t t':SetTable}{ns:List Int}(f:h.get? a=Sa o)(b:o.ExactSet)(hd:o.data=.set es ep t)(c:∀e∈es'.toList,EI e)(i:(es'.toList.map keyI).Perm ns)(j:ns.Nodup)(k:es'.size<scanBound)(g:GoodT (!yE w) t' es'.size):(h.update a (Obj.putSet es' t')).get? a=Sa {o with data:=.set es' (ep+1) t'}/\SetI w (h.update a (Obj.putSet es' t')) a ns:=by
 let d:=cS (Obj.putSet es' t') f (by rw[putSet_of es' t' hd];rfl);rw[putSet_of es' t' hd]at d;show⟨d,_,es',ep+1,t',d,b,rfl,c,i,j,k,g⟩
theorem kJ{u:Bool->Sem Unit}(D:∀(b:Bool)(i:Sg)(v:Unit->Sg->Prop),v () i->Sm (So P w) A (u b) v E i){a:Sf}{o:Ss}{es:Array (Int×Se)}{ep:Nat}{t:SetTable}(x:s.heap.get? a=Sa o)(j:o.ExactSet)(hd:o.data=.set es ep t){c:Array (Int×Se)}{f:SetTable}{ns:List Int}(k:∀e∈c.toList,EI e)(y:(c.toList.map keyI).Perm ns)(z:ns.Nodup)(B:c.size<scanBound)(g:GoodT (!yE w) f c.size){F:Bool}{R:Option Bool->Sg->Prop}(h:∀h',Heap.SameBut a s.heap h'->SetI w h' a ns->R (Sa Sc) {s with heap:=h'}):Sm (So P w) A (do
    storeSet a c f
    if (!F&&f.tooFull)=Sc then do
      u (relayAll f c (SetTable.grown c.size)).2.2
      storeSet a (relayAll f c (SetTable.grown c.size)).1 (relayAll f c (SetTable.grown c.size)).2.1
      pure (Sa Sc)
     else pure (Sa Sc)) R E s:=by
 show aB (wpAny_storeSet_of x hd ?_ (gN B));let⟨l,q⟩:=SetI.store (w:=w) x j hd k y z B g;let C:=cF s.heap a (Obj.putSet c f);split
 .let d:=relayAll_perm f c (SetTable.grown c.size);let r:=qIc (m:=SetTable.grown c.size) g;generalize relayAll f c (SetTable.grown c.size)=G at d r ⊢;let⟨n,I,J⟩:=G;dsimp only at d r ⊢;let K:n.size=c.size:=by rw[<-aQ,d.length_eq,aQ]
  let p:n.size<scanBound:=by lia
  show aB (D _ _ _ (aB (wpAny_storeSet_of l rfl ?_ (gN p))));show aD (h _ (C.trans (cF _ a _)) (SetI.store (w:=w) l j rfl (λe H=>k e (d.mem_iff.mp H)) ((d.map keyI).trans y) z p r).2)
 .exact aD (h _ C q)
theorem addI{n:Int}{tk:Tok}(S:SetI w s.heap a ns)(N:ns.length+1<scanBound)(h:∀h',Heap.SameBut a s.heap h'->SetI w h' a (addN ns n)->Q (!decide (n∈ns)) {s with heap:=h',toks:=s.toks+1}):Sm (So P w) A (setAdd a (.int n tk)) Q E s:=by
 unfold setAdd;show bU (aB ((intKind P w).pyHash (k:=n) (intKind_is _ _ _ _) ?_));let⟨o,u,X,t,y,p,B,f,C,O,T,g⟩:=S;let U:u.size=ns.length:=by rw[<-C.length_eq,aA,aQ]
 let v:=EI.elems (P:=P) (w:=w) f;let D:=intKind_is P w n tk;unfold setAddHashed setAddHashedIn;show bU (aB (eM (s:={s with toks:=s.toks+1}) y B g.fits ?_));dsimp only;rw[byScan_of (knd:=intKind P w) (x:=.int n tk) rfl T v];simp only[↓reduceIte];unfold setAddByScan;show aB (aB (dJ (aB (wpAny_setScan_of (knd:=intKind P w) (k:=n) D y B g.fits v ?_))));cases V:List.findIdx? (λe=>(intKind P w).is n e.2) u.toList with
 |some j=>
  dsimp only;let⟨Y,R,_⟩:=List.findIdx?_eq_some_iff_getElem.mp V;let F:n∈ns:=C.mem_iff.mp ((kI (P:=P) (w:=w) f n).mpr ⟨_,cN Y,R⟩);show aD (aD ?_);let q:=h s.heap (fB a s.heap) ⟨o,u,X,t,y,p,B,f,by unfold addN;rw[if_pos F];show C,wV O,T,g⟩;rw[decide_eq_true F]at q;show q
 |none=>
  dsimp only;let F:n∉ns:=λz=>by
   let⟨e,v,q⟩:=(kI (P:=P) (w:=w) f n).mp (C.mem_iff.mpr z);let:=List.findIdx?_eq_none_iff.mp V e v;rw[q]at this;cases this
  let G:∀(b:Bool){c:Sg}{l:Unit->Sg->Prop},l () c->Sm (So P w) A (match b with|true=>rule "set.scan.the-table-gave-way"|false=>pure ()) l E c:=λb c l i=>by
   cases b
   .exact aD i
   .exact dJ i
  let d:=layNew_perm t u ((intKind P w).hash n) (.int n tk);let H:=Qy (h:=(intKind P w).hash n) (x:=.int n tk) g;generalize layNew t u ((intKind P w).hash n) (.int n tk)=L at d H ⊢;let⟨r,t1,wd,W⟩:=L;dsimp only at d H ⊢;rw[Array.toList_push]at d;let m:∀e∈r.toList,EI e:=λe v=>by
   rcases aN.mp (d.mem_iff.mp v)with z|z
   .exact f e z
   .rw [aH]at z;show⟨n,tk,z⟩
  let Z:r.size=u.size+1:=by rw[<-aQ,d.length_eq,aF,aQ];rfl
  let I:(r.toList.map keyI).Perm (addN ns n):=by
   unfold addN;rw[if_neg F];show(d.map keyI).trans ?_;rw[aG];show C.append_right _
  let J:∀h',Heap.SameBut a s.heap h'->SetI w h' a (addN ns n)->Q Sc {s with heap:=h',toks:=s.toks+1}:=λh' K M=>by
   let q:=h h' K M;rw[decide_eq_false F]at q;show q
  show aB (G _ ?_);let a0:∀(b:Bool)(c:Sg)(l:Unit->Sg->Prop),l () c->Sm (So P w) A (match b with|true=>rule "set.scan.the-table-gave-way"|false=>pure ()) l E c:=λb c l i=>G b i;split
  .refine aB ?_;rw[hashByValue_scannable 8 (x:=.int n tk) rfl];show aD ?_;show kJ (s:={s with toks:=s.toks+1}) (λb c l i=>?_) y p B m I (wV O) ∎ ?_ (λh' K M=>?_)
   .cases b
    .exact aD i
    .exact dJ i
   .split
    .exact H
    .exact H.plainOff
   .dsimp only;show aD (J h' K M)
  .refine aB (aD ?_);simp only[↓reduceIte];show kJ (s:={s with toks:=s.toks+1}) (λb c l i=>?_) y p B m I (wV O) ∎ H (λh' K M=>?_)
   .cases b
    .exact aD i
    .exact dJ i
   .dsimp only;show aD (J h' K M)
theorem slot_si_next:Slot "set_iterator" "__next__" "set_iterator.__next__":=.of (owner:="set_iterator") (n:="__next__") (by rw[typeLookup_type,builtinLookup_eq_fast];kernel_rfl) (by decide +kernel) (by decide +kernel) (by decide +kernel) (by first|show .inl (by decide +kernel)|show .inr (by decide +kernel)) (by rw[isSubtype_type];kernel_rfl)
theorem qFg:Slot "set_iterator" "__iter__" "set_iterator.__iter__":=.of (owner:="set_iterator") (n:="__iter__") (by rw[typeLookup_type,builtinLookup_eq_fast];kernel_rfl) (by decide +kernel) (by decide +kernel) (by decide +kernel) (by first|show .inl (by decide +kernel)|show .inr (by decide +kernel)) (by rw[isSubtype_type];kernel_rfl)
theorem qEs:entryFor table "set_iterator.__next__"=Sa Builtin.«set_iterator.__next__»:=entryFor_of_tree (by kernel_rfl)
theorem qIt:entryFor table "set_iterator.__iter__"=Sa Builtin.«dict_keyiterator.__iter__»:=entryFor_alias (id':="dict_keyiterator.__iter__") (by kernel_rfl) rfl (by decide +kernel) (by kernel_rfl)
theorem qFr(a:Se):argsOk "set_iterator.__next__" ⟨[a],[]⟩:=by unfold argsOk;kernel_rfl
theorem qLd(a:Se):argsOk "set_iterator.__iter__" ⟨[a],[]⟩:=by unfold argsOk;kernel_rfl
theorem qH7:entryFor table "set.__iter__"=Sa Builtin.«frozenset.__iter__»:=entryFor_alias (id':="frozenset.__iter__") (by kernel_rfl) rfl (by decide +kernel) (by kernel_rfl)
def SIter(h:Sk)(it:Sf)(first:Se)(i:Nat)(a:Sf)(n ep:Nat):Prop:=
 ∃o,h.get? it=Sa o/\o.cls=.type "set_iterator"/\o.data=.fields #[first,.int i 0,.ref a,.int n 0,.int ep 0]
theorem SIter.ty{s:Sg}{it:Sf}{first:Se}{i:Nat}{a:Sf}{n ep:Nat}(h:SIter s.heap it first i a n ep):s.TypeIs (.ref it) "set_iterator":=let ⟨o,e,c,_⟩:=h;⟨o,e,c⟩
theorem jZ{α : Type}:∀ {l:List α} {i:Nat} (h:i<l.length),(l[i]::l.eraseIdx i).Perm l
 |a::r,0,_=>.refl _
 |a::r,i+1,h=>by
  let h':i<r.length:=by simpa using h
  change((r[i]'h')::a::r.eraseIdx i).Perm (a::r);show(List.Perm.swap _ _ _).trans ((jZ h').cons a)
theorem qWr{i n ep:Nat}(h:SIter s.heap it first i a n ep)(q:Q (.ref it) s):Sm (So P w) A (pyIter (.ref it)) Q E s:=by
 show wpAny_pyIter_slot h.ty qFg (cK qFg h.ty qIt ?_ (qLd _));change Sm _ _ (ret (.ref it)) _ _ s;show aD ⟨_,rfl,"set_iterator",_,h.ty,slot_si_next.lookup,q⟩
theorem qP2{n:Nat}(b:n≠0)(h:∀i d,i<n->Q i {s with drawn:=d}):Sm (So P w) A (choose a n) Q E s:=λΓ p c=>by
 unfold choose;rw[Sem.wp_choose];show⟨b,h _ _ (Nat.mod_lt _ (Nat.pos_of_ne_zero b))⟩
theorem ja{α : Type}:∀(xs:List α) {s:Sg} {Q:List α -> Sg->Prop},(∀ys d,ys.Perm xs->Q ys { s with drawn:=d })->Sm (So P w) A (drawOrder xs.length xs) Q E s
 |[],s,Q,h=>by
  unfold drawOrder;show aD (h [] s.drawn (.refl _))
 |x::r,s,Q,h=>by
  change Sm _ _ (drawOrder (r.length+1) (x::r)) _ _ s;unfold drawOrder;show aB (qP2 ∅ λi d hi=>?_);rw[aE hi];dsimp only;let hl:((x::r).eraseIdx i).length=r.length:=by rw[List.length_eraseIdx_of_lt hi];rfl
  rw[<-hl];show aB (ja ((x::r).eraseIdx i) λys d' hp=>aD (h _ d' ?_));show(hp.cons _).trans (jZ hi)
 termination_by xs=>xs.length
theorem qQu{α : Type}(f:Nat->Nat):∀(fuel k:Nat) (l:List α) (out:Array α),l.length=fuel->(pickOrder.go f fuel k l out).toList.Perm (out.toList++l)
 |0,k,l,out,h=>by
  let:l=[]:=fY.mp h;subst this;unfold pickOrder.go;simp
 |fuel+1,k,l,out,h=>by
  unfold pickOrder.go;let a:f k%l.length<l.length:=Nat.mod_lt _ ∎;rw[aE a];dsimp only;show(qQu f fuel (k+1) _ _ (by rw[List.length_eraseIdx_of_lt a];lia)).trans ?_;rw[Array.toList_push,fR];show List.Perm.append_left _ (jZ a)
theorem qKd{α:Type}(f:Nat->Nat)(xs:Array α):(pickOrder f xs).toList.Perm xs.toList:=by
 unfold pickOrder;let:=qQu f xs.size 0 xs.toList #[] ∅;simpa using this
theorem kK{h:Sk}{it:Sf}{o:Ss}{vs:Array Se}(k:Nat)(v:Se)(b:h.get? it=Sa o)(hd:o.data=.fields vs):∃a,(h.update it (Obj.mapFields (·.setIfInBounds k v))).get? it=Sa a/\a.cls=o.cls/\a.data=.fields (vs.setIfInBounds k v):=
 ⟨_,cS _ b (Obj.isFreed_of_fields (Obj.data_mapFields hd _)),Obj.cls_mapFields ..,Obj.data_mapFields hd _⟩
noncomputable def slotI(t:SetTable):Nat->Nat
 |0=>0
 |i+1=>t.place.getD i 0+1
theorem qOx{t:SetTable}{n:Nat}(up:t.place.toList.Pairwise (· < ·)){i:Nat}(hi:i<=t.place.size):SetTable.below t.place (slotI t i)=i:=by
 let⟨o,g,j⟩:=Qv t.place (slotI t i) up;generalize SetTable.below t.place (slotI t i)=b at *;let lt:∀(i k x y:Nat),t.place[i]? = Sa x->t.place[k]? = Sa y->i<k->x<y:=by
  intro i k x y c h d;rw[<-bN]at c h;let⟨e,rfl⟩:=aC.mp c;let⟨f,rfl⟩:=aC.mp h;show cM.mp up i k e f d
 cases i with
 |zero=>
  by_cases l:b=0
  .exact l
  .let m:0<t.place.size:=by lia
   show absurd (g 0 _ (bR m) ∎) (Nat.not_lt_zero _)
 |succ i=>
  let c:t.place[i]? = Sa (t.place.getD i 0):=by
   let a:i<t.place.size:=by lia
   rw[cB,bR a];rfl
  rcases Nat.lt_trichotomy b (i+1)with z|z|z
  .let:=j i _ c ∎;simp only[slotI]at this;lia
  .exact z
  .let a:i+1<t.place.size:=by lia
   let q:=g (i+1) _ (bR a) z;let r:=lt i (i+1) _ _ c (bR a) ∎;simp only[slotI]at q;lia
inductive Mode(w:Si)(h:Sk)(a:Sf)(es:Array (Int×Se))(ep:Nat)(t:SetTable)(i:Nat):Se->List (Int×Se)->List Sf->Prop
 |told (sl:Nat) (b:yE w=Sc):Mode w h a es ep t i (.int sl 0) (pickOrder (w.params.setOrder a ep) es).toList []
 |place (b:yE w=Sd) (d:(!t.plain&&decide (es.size>1))=Sd):Mode w h a es ep t i (.int (slotI t i) 0) es.toList []
 |drawn (tp:Sf) (places:List Nat) (o:Ss) (n:Nat) (ord:List (Int×Se)) (e:h.get? tp=Sa o) (c:o.data=.seq (places.map λ(j:Nat)=>rawInt (j:Int)).toArray n) (q:places.map (λj=>es[j]?)=ord.map Sa):Mode w h a es ep t i (.ref tp) ord [tp]
def SW(w:Si)(it a:Sf)(es:Array (Int×Se))(ep:Nat)(t:SetTable)(ord:List (Int×Se))(ex:List Sf)(i:Nat)(h:Sk):Prop:=
 ∃first,SIter h it first i a es.size ep/\(∃o,h.get? a=Sa o/\o.data=.set es ep t)/\GoodT (!yE w) t es.size/\ord.length=es.size/\Mode w h a es ep t i first ord ex
theorem kL{t:SetTable}{n:Nat}(h:t.fits n=Sc):t.place.size=n:=by
 simp only[SetTable.fits,bT,beq_iff_eq]at h;show h.1
theorem qKj{c:Nat}(d:s.heap.get? a=Sa o)(hd:o.data=.set es ep t)(g:GoodT (!yE w) t es.size)(b:yE w=Sc)(q:Q (((pickOrder (w.params.setOrder a ep) es)[i]?).map λe=>(e.2,c)) s):Sm (So P w) A (setNext a c i ep) Q E s:=by
 unfold setNext;show aB (eM d hd g.fits ?_);dsimp only;unfold setsByText;show aB (aB (dH (aD ?_)));change Sm _ _ (if w.params.followText "set-order"=Sc then _ else _) _ _ _;rw[if_pos (show(w.params.followText "set-order")=Sc from b),if_neg ∅];unfold setWalk;show aB (aB (eM d hd g.fits ?_));dsimp only;unfold setsByText;show aB (aB (dH (aD ?_)));change Sm _ _ (if w.params.followText "set-order"=Sc then _ else _) _ _ _;rw[if_pos (show(w.params.followText "set-order")=Sc from b)];show aB (dH (aD (aD ?_)))
 show q
theorem qHp(j:s.heap.get? a=Sa o)(hd:o.data=.set es ep t)(g:GoodT (!yE w) t es.size)(b:yE w=Sd)(d:(!t.plain&&decide (es.size>1))=Sd)(hi:i<=es.size)(q:Q ((es[i]?).map λe=>(e.2,slotI t (i+1))) s):Sm (So P w) A (setNext a (slotI t i) i ep) Q E s:=by
 let l:=kL g.fits;unfold setNext;show aB (eM j hd g.fits ?_);dsimp only;unfold setsByText;show aB (aB (dH (aD ?_)));change Sm _ _ (if w.params.followText "set-order"=Sc then _ else _) _ _ _;rw[if_neg (show ¬(w.params.followText "set-order")=Sc from λz=>by rw[show(w.params.followText "set-order")=Sd from b]at z;cases z)];let c:t.led=Sc:=by rw[g.led,b];rfl
 split
 .rename_i z;show absurd (show(!t.plain&&decide (es.size>1))=Sc from z) (by rw[d];show aL)
 .refine aB ?_;change Sm _ _ (if (!t.led && !es.isEmpty)=Sc then unsupported "set:maker-not-led" else pure PUnit.unit) _ _ _;rw[if_neg (by rw[c];simp)];show aD (aD ?_);rw[qOx (n:=es.size) g.rise ∎];by_cases f:i<es.size
  .let h:es[i]? = Sa es[i]:=bR f;let k:t.place[i]? = Sa (t.place.getD i 0):=by
    let:i<t.place.size:=by lia
    rw[cB,bR this];rfl
   rw[h]at q ⊢;rw[k];show q
  .let h:es[i]? = Sb:=Array.getElem?_eq_none ∎;rw[h]at q ⊢;show q
theorem Mode.stay(m:Mode w h a es ep t i first ord ex)(k:∀b∈ex,∀o,h.get? b=Sa o->h'.get? b=Sa o):Mode w h' a es ep t i first ord ex:=by
 cases m with
 |told sl b=>show .told sl b
 |place b d=>show .place b d
 |drawn f places o n _ e c q=>show .drawn f places o n _ (k f ∅ _ e) c q
theorem qWl(B:it≠a)(G:it∉ex)(h:SW w it a es ep t ord ex i s.heap)(C:ord[i]? = Sa e)(q:∀h',SW w it a es ep t ord ex (i+1) h'->Heap.SameBut it s.heap h'->Q (Sa e.2) {s with heap:=h'}):Sm (So P w) A (pyNext (.ref it)) Q E s:=by
 obtain⟨first,r,⟨o,u,x⟩,g,H,m⟩:=h;let⟨oi,f,R,k⟩:=id r;let V:i<es.size:=by rw[<-H];show(aC.mp C).1
 unfold pyNext;refine aB (wpAny_attempt (dY (name:=Str.ofString "__next__") r.ty slot_si_next (cK slot_si_next r.ty qEs ?_ (qFr _))));unfold Builtin.«set_iterator.__next__»;refine aB (m:=slotArgs "__next__" 0 _) (aD ?_);refine aB (wpAny_fieldsOf f k ?_);dsimp only;refine aB (gW u x g.fits ?_);rw [if_neg ∅];let two:∀(y z:Nat),first = .int y 0->(∀h',Heap.SameBut it s.heap h'->Mode w h' a es ep t (i+1) (.int z 0) ord ex) ->
   Sm (So P w) A.in1 (do setField (Value.ref it) 0 (rawInt z);setField (Value.ref it) 1 (rawInt ((i:Int)+1));ret e.2) (λI J => ∃v,I=Fin.done (Flow.ret v)/\Sm (So P w) A (pure (Sa v)) Q E J)
    (λe J=>Sm (So P w) A (do if (<-isInstance e (Value.type "StopIteration"))=Sc then pure Sb else throw e) Q E J) s:=by
  intro y z W X;subst W;show aB (gB f k ∅ ?_);let⟨S,D,K,F⟩:=kK 0 (rawInt z) f k;show aB (gB D F ∅ ?_);let⟨Y,Z,c2,d2⟩:=kK 1 (rawInt ((i:Int)+1)) D F;let p:Heap.SameBut it s.heap _:=(cF s.heap it (Obj.mapFields (·.setIfInBounds 0 (rawInt z)))).trans (cF _ it (Obj.mapFields (·.setIfInBounds 1 (rawInt ((i:Int)+1)))));show aD ⟨_,rfl,aD (q _ ⟨.int z 0,⟨Y,Z,c2.trans (K.trans R),?_⟩,⟨o,(p.2 a (eI B)).trans u,x⟩,g,H,X _ p⟩ p)⟩;rw[d2];simp[rawInt]
 cases m with
 |told y b=>
  dsimp only;simp only[bE];show aB (qKj (i:=i) u x g b ?_);rw[show(pickOrder (w.params.setOrder a ep) es)[i]? = Sa e by rw[<-bN];show C];show two y y rfl λh' p=>.told y b
 |place b d=>
  dsimp only;simp only[bE];show aB (qHp (i:=i) u x g b d ∎ ?_);rw[show es[i]? = Sa e by rw[<-bN];show C];show two _ _ rfl λh' p=>.place b d
 |drawn L places op n _ T c M=>
  dsimp only;show aB (fA T c ?_);dsimp only;let a0:places.length=ord.length:=by let:=congrArg List.length M;simpa using this
  obtain⟨j,U⟩:∃j,places[i]? = Sa j:=⟨_,aE ∎⟩;let N:es[j]? = Sa e:=by
   let:=congrArg (λl=>l[i]?) M;simp only[aR,U,C,fO]at this;show bI this
  let O:(places.map λ(j:Nat)=>rawInt (j:Int)).toArray[((i:Int)).toNat]? = Sa (.int (j:Int) 0):=by
   rw[bE,eO,aR,U];rfl
  rw[O];dsimp only;unfold setNextDrawn;show aB (aB (eM u x g.fits ?_));dsimp only;rw[if_neg ∅];rw[bE,N];dsimp only;show aD ?_;show aB (gB f k ∅ ?_);let⟨S,D,K,F⟩:=kK 1 (rawInt ((i:Int)+1)) f k;let p:Heap.SameBut it s.heap _:=cF s.heap it (Obj.mapFields (·.setIfInBounds 1 (rawInt ((i:Int)+1))));show aD ⟨_,rfl,aD (q _ ⟨.ref L,⟨S,D,K.trans R,?_⟩,⟨o,(p.2 a (eI B)).trans u,x⟩,g,H,.drawn L places op n _ ((p.2 L (by simpa using eI (a:=it) (by simpa using G))).trans T) c M⟩ p)⟩;rw[F];simp[rawInt]
theorem jb{s0:Sg}{Q:Option Se->Sg->Prop}{α:Type}{d:α->Sg->Prop}(f:A.in1.handled=Sb)(c:Heap.ExtBut it s0.heap s.heap)(q:∀h',Heap.ExtBut it s0.heap h'->Q Sb {s with heap:=h'}):Sm (So P w) A.in1 (do raiseNew (<-newExc (.type "StopIteration") [])) d (λe g=>Sm (So P w) A (do if (<-isInstance e (Value.type "StopIteration"))=Sc then pure Sb else throw e) Q E g) s:=by
 show aB ?_;simp only[newExc,newTuple];show aB (bZ ?_ (by size_fits));show aB (m:=firstArgMember _ _) (wpAny_of_eq (a:=Value.none) (by first|rfl|(simp only[firstArgMember];rfl)) ?_);show bZ ?_ (by size_fits);simp only[raiseNew];show aB (wpAny_handled ?_);rw[f];show aB (aD (wpAny_throw ?_));show aB (gA (T:="StopIteration") (b:=Sc) ⟨_,aW _ rfl,rfl⟩ isSubtype_stop ?_);show aD (q _ ((c.push _).push _))
theorem qWm(v:A.handled=Sb)(h:SW w it a es ep t ord ex es.size s.heap)(q:∀h',Heap.ExtBut it s.heap h'->Q Sb {s with heap:=h'}):Sm (So P w) A (pyNext (.ref it)) Q E s:=by
 obtain⟨first,k,⟨o,p,r⟩,g,D,m⟩:=h;let⟨F,e,G,f⟩:=id k;unfold pyNext;show aB (wpAny_attempt (dY (name:=Str.ofString "__next__") k.ty slot_si_next (cK slot_si_next k.ty qEs ?_ (qFr _))));unfold Builtin.«set_iterator.__next__»;show aB (m:=slotArgs "__next__" 0 _) (aD ?_);show aB (wpAny_fieldsOf e f ?_);dsimp only;show aB (gW p r g.fits ?_);rw[if_neg ∅];let l:A.in1.handled=Sb:=v;cases m with
 |told sl b=>
  dsimp only;simp only[bE];show aB (qKj (i:=es.size) p r g b ?_);rw[show(pickOrder (w.params.setOrder a ep) es)[es.size]? = Sb by rw[<-bN];show eN ∎];dsimp only[Option.map];show aB (gB e f ∅ ?_);show jb (s0:=s) l (cF ..).extBut q
 |place b d=>
  dsimp only;simp only[bE];show aB (qHp (i:=es.size) p r g b d (aI _) ?_);rw[show es[es.size]? = Sb from Array.getElem?_eq_none (aI _)];dsimp only[Option.map];show aB (gB e f ∅ ?_);show jb (s0:=s) l (cF ..).extBut q
 |drawn H places op n _ x c y=>
  dsimp only;show aB (fA x c ?_);dsimp only;let z:places.length=ord.length:=by let:=congrArg List.length y;simpa using this
  let u:(places.map λ(j:Nat)=>rawInt (j:Int)).toArray[((es.size:Int)).toNat]? = Sb:=by
   rw[bE,eO];show eN (by rw[aA];lia)
  rw[u];dsimp only;show aB (gB e f ∅ ?_);let⟨I,B,J,C⟩:=kK 0 (rawInt 0) e f;show aB (gB B C ∅ ?_);show jb (s0:=s) l ((cF ..).trans (cF ..)).extBut q
theorem qT4(y:A.handled=Sb)(f:it≠a)(j:it∉ex):Walks P w A it (it::a::ex) [it] es.size (λi v=>(ord[i]?).map (·.2)=Sa v) (SW w it a es ep t ord ex) where
 sub:=λb c=>by simp at c;simp[c]
 frame:=λi h d st k=>by
  obtain⟨first,⟨z,l,B,n⟩,⟨o,C,D⟩,g,u,m⟩:=st;show⟨first,⟨z,k it ∅ _ l,B,n⟩,⟨o,k a ∅ _ C,D⟩,g,u,m.stay λb c o e=>k b (by simp[c]) o e⟩
 item:=λi s Q E H st q=>by
  let⟨first,_,_,_,u,_⟩:=id st;obtain⟨e,x⟩:∃e,ord[i]? = Sa e:=⟨_,aE ∎⟩;show qWl f j st x λd p F=>q e.2 d s.toks (by rw[x];rfl) p λb o c e=>?_;show(F.2 b (by simpa using c)).trans e
 done:=λs Q E st q=>qWm y st λd G=>q d s.toks λb o c e=>G b o (by simpa using c) e
 self:=λi s Q E st q=>by
  let⟨first,r,_⟩:=st;show qWr r q
theorem qRt{ep:Nat}{t:SetTable}(D:s.heap.get? a=Sa o)(J:o.ExactSet)(hd:o.data=.set es ep t)(p:es.size<scanBound)(g:GoodT (!yE w) t es.size)(q:∀(it:Sf)(ord:List (Int×Se))(ex:List Sf)(h':Sk)(d:Drawn),s.heap.objs.size<=it->it<h'.objs.size->(∀b∈ex,s.heap.objs.size<=b/\b<it)->a<s.heap.objs.size->(∀b u,s.heap.get? b=Sa u->h'.get? b=Sa u)->SW w it a es ep t ord ex 0 h'->ord.Perm es.toList->Q (.ref it) {s with heap:=h',drawn:=d}):Sm (So P w) A (pyIter (.ref a)) Q E s:=by
 let hT:s.TypeIs (.ref a) "set":=⟨o,D,J.1⟩;let U:a<s.heap.objs.size:=aO D;show wpAny_pyIter_slot hT F.slot_set_iter (cK F.slot_set_iter hT qH7 ?_ (F.args_set_iter_1 _));unfold Builtin.«frozenset.__iter__» Builtin.Frozenset.slot0;show aB (aB (m:=slotArgs "__iter__" 0 _) (aD ?_));unfold Builtin.Frozenset.addrOf;show aD ?_;unfold Builtin.Frozenset.sizeOf;show aB (aB (gW D hd g.fits (aD ?_)));unfold setDrawn;show aB (aB (eM D hd g.fits ?_));dsimp only;unfold setsByText;show aB (aB (dH (aD (aD ?_))));change Sm _ _ (if (!w.params.followText "set-order" && (!t.plain&&decide (es.size>1)))=Sc then _ else _) _ _ _
 let f:∀(B:Sg) (first:Se) (ord:List (Int×Se)) (ex:List Sf),(∃h' d,B = { s with heap:=h',drawn:=d })->s.heap.objs.size<=B.heap.objs.size->(∀b u,s.heap.get? b=Sa u->B.heap.get? b=Sa u)->(∀b∈ex,s.heap.objs.size<=b/\b<B.heap.objs.size)->ord.length=es.size->ord.Perm es.toList->(∀h',(∀b u,B.heap.get? b=Sa u->h'.get? b=Sa u)->Mode w h' a es ep t 0 first ord ex) ->
   Sm (So P w) A.in1 (do let x <-setEpoch a;let y <-newFields "set_iterator" [first,rawInt 0,Value.ref a,rawInt es.size,rawInt x];ret y) (λf N=>∃v,f=Fin.done (Flow.ret v)/\∃O r,N.TypeIs v O/\typeLookup (Value.type O) (Str.ofString "__next__")=pure (Sa r)/\Q v N) E B:=by
  rintro B first ord ex ⟨h',d,rfl⟩ K k V W c X
  show aB (wpAny_setEpoch_of (k _ _ D) hd g.fits ?_);show aB (bZ (aD ⟨_,rfl,"set_iterator",_,⟨_,aW _ rfl,rfl⟩,slot_si_next.lookup,?_⟩));show q h'.objs.size ord ex _ d K (by rw[dL];show eE _) V U (λb u e=>aJ _ (k b u e)) ⟨first,⟨_,aW _ rfl,rfl,rfl⟩,⟨o,aJ _ (k _ _ D),hd⟩,g,W,X _ λb u e=>aJ _ e⟩ c
 cases h:yE w with
 |true=>
  rw[if_neg (by rw[show w.params.followText "set-order"=Sc from h];simp)];show aB (aD ?_);let c:=qKd (w.params.setOrder a ep) es;show f s (rawInt 0) _ [] ⟨s.heap,s.drawn,rfl⟩ (aI _) (λ_ _ e=>e) (λb p=>by simp at p) (by rw[c.length_eq,aQ]) c (λh' k=>.told 0 h)
 |false=>
  cases hd2:(!t.plain&&decide (es.size>1))with
  |false=>
   rw[if_neg ∅];show aB (aD ?_);show f s (rawInt 0) _ [] ⟨s.heap,s.drawn,rfl⟩ (aI _) (λ_ _ e=>e) (λb p=>by simp at p) (aQ ..) (.refl _) (λh' k=>.place h hd2)
  |true=>
   rw[if_pos (by rw[show w.params.followText "set-order"=Sd from h];simp)];let R:(List.range es.size).length=es.size:=cL;show aB ?_;let L:∀{H:List Nat->Sg->Prop},(∀n d,n.Perm (List.range es.size)->H n {s with drawn:=d})->Sm (So P w) A.in1 (drawOrder es.size (List.range es.size)) H E s:=λ{H}z=>by
    let S:=ja (P:=P) (w:=w) (A:=A.in1) (E:=E) (List.range es.size) (s:=s) (Q:=H) z;rw[R]at S;show S
   show L λn d C=>?_;show aB ?_;let Y:n.length=es.size:=by rw[C.length_eq,R]
   simp only[newTuple];show bZ ?_ (by let:=gN p;change(List.map (λ(i:Nat)=>rawInt (i:Int)) n).toArray.size<=Sn;rw[aP,aA];lia);let G:∀l:List Nat,(∀j∈l,j<es.size)->l.map (λj=>es[j]?)=(l.filterMap λj=>es[j]?).map Sa:=by
    intro l
    induction l with
    |nil=>intro _;rfl
    |cons j r Z=>
     intro I;let h1:es[j]? = Sa (es[j]'(I j ∅)):=bR _;rw[bJ,Z λk hk=>I k (by simp[hk]),cU,h1];rfl
   let M:∀j∈n,j<es.size:=λj I=>aZ.mp (C.mem_iff.mp I);let T:=G n M;let c:(n.filterMap λj=>es[j]?).Perm es.toList:=(C.filterMap _).trans (by rw[filterMap_getElem?_range])
   show f _ (.ref s.heap.objs.size) _ [s.heap.objs.size] ⟨_,d,rfl⟩ (by change _<=(Heap.push _ _).objs.size;rw[dL];show fN _) (λb u e=>aJ _ e) (λb p=>by
    let e:b=s.heap.objs.size:=by simpa using p
    rw[e];show⟨aI _,by change _<(Heap.push _ _).objs.size;rw[dL];show eE _⟩) (by let:=congrArg List.length T;simp at this;lia) c (λh' k=>.drawn s.heap.objs.size n _ 0 _ (k _ _ (aW _ rfl)) rfl T)
theorem qKo:typeLookup (.type "set") "__len__"=pure (Sa (.builtin "set.__len__")):=F.slot_set_len.lookup
theorem qL5{ep:Nat}{t:SetTable}(hh:A.handled=Sb)(x:s.heap.get? a=Sa o)(j:o.ExactSet)(hd:o.data=.set es ep t)(m:es.size<scanBound)(g:GoodT (!yE w) t es.size)(q:∀(ord:List (Int×Se))(h':Sk)(d:Drawn)(tk:Nat),(∀b u,s.heap.get? b=Sa u->h'.get? b=Sa u)->s.heap.objs.size<=h'.objs.size->ord.Perm es.toList->Q (ord.map (·.2)) {s with heap:=h',drawn:=d,toks:=tk}):Sm (So P w) A (collect (.ref a)) Q E s:=by
 unfold collect;show aB (wpAny_runValue (dZ F.entry_proto_collect ?_));rw[cW F.plain_proto_collect _];change Sm _ A.in1 (newList [] >>=λl=>again (.builtin "list.__iadd__" ⟨[l,.ref a],[]⟩)) _ _ s;show aB (bZ ?_);show aD ⟨fX F.plain_list_iadd _,dZ F.entry_list_iadd ?_⟩;rw[cW F.plain_list_iadd _];let Z:∀b u,s.heap.get? b=Sa u->(s.heap.push {cls:=.type "list",data:=.seq ([]:List Se).toArray}).get? b=Sa u:=λb u e=>aJ _ e;let M:=Z a o x;let hT:Shared.TypeIs {s with heap:=s.heap.push {cls:=.type "list",data:=.seq ([]:List Se).toArray}} (.ref a) "set":=⟨o,M,j.1⟩
 let n:a<s.heap.objs.size:=aO x;change Sm _ A.in1 (Builtin.List.listExtendWith (.ref s.heap.objs.size) (.ref a) (.ref s.heap.objs.size)) _ _ _;unfold Builtin.List.listExtendWith;show aB (gC hT ?_);let h1:Builtin.List.listSameRef (.ref s.heap.objs.size) (.ref a)=Sd:=by simp[Builtin.List.listSameRef];show dP n
 let J:(Value.type "set" == Value.type "list")=Sd:=by decide
 let h3:(Value.type "set" == Value.type "tuple")=Sd:=by decide
 simp only[h1,J,h3,Bool.or_false,cD,if_false];show aB (qRt (s:={s with heap:=s.heap.push {cls:=.type "list",data:=.seq ([]:List Se).toArray}}) M j hd m g λit ord ex h' d f a0 hx ha k sw N=>?_);show aB (bU ?_);let p:Shared.TypeIs {s with heap:=h',drawn:=d} (.ref a) "set":=⟨o,k _ _ M,j.1⟩;unfold Builtin.List.listLengthHint;show aB (wpAny_specialOf p qKo ?_);let O:splitId "set.__len__"=Sa ("set","__len__"):=by kernel_rfl
 dsimp only;rw[O];dsimp only;show aB (gA p sub_set_self ?_);rw[if_neg ∅];rw[if_pos (by decide +kernel)];show aB (gC p (aD ?_));rw[if_pos (by decide +kernel)];show aB (dJ ?_);let y:h'.get? s.heap.objs.size=Sa {cls:=.type "list",data:=.seq ([]:List Se).toArray}:=k _ _ (aW _ rfl);show aB ?_;change Sm _ A.in1 (updateSeq s.heap.objs.size (·.push .none) >>=λ_=>updateSeq s.heap.objs.size (·.pop)) _ _ _;show aB (wpAny_updateSeq (s:={s with heap:=h',drawn:=d}) y rfl ?_);let B:=cS (Obj.mapSeq (·.push Value.none)) y rfl;show wpAny_updateSeq B rfl ?_
 let R:=cS (Obj.mapSeq (·.pop)) B rfl;let C:∀b u,b≠s.heap.objs.size->h'.get? b=Sa u->((h'.update s.heap.objs.size (Obj.mapSeq (·.push Value.none))).update s.heap.objs.size (Obj.mapSeq (·.pop))).get? b=Sa u:=
  λb u m e=>(cX _ _ (eI m)).trans ((cX _ _ (eI m)).trans e)
 rw[dL]at f ha;let S:it≠a:=dP (bS n (cH (fN _) f));let T:it∉ex:=λz=>eX _ (hx it z).2;let D:s.heap.objs.size∉it::a::ex:=λz=>by
  rcases aM.mp z with z|z
  .exact aX f z
  .rcases aM.mp z with z|z
   .exact dP n z
   .let K:=(hx _ z).1;rw[show(Heap.push s.heap {cls:=.type "list",data:=.seq ([]:List Se).toArray}).objs.size=s.heap.objs.size+1 from dL ..]at K;show Nat.not_succ_le_self _ K
 let U:ord.length=es.size:=by let⟨_,_,_,_,U,_⟩:=sw;show U
 let V:es.size<=Sn:=gN m;let W:=(qT4 (P:=P) (w:=w) (A:=A.in1) (it:=it) (a:=a) (es:=es) (ep:=ep) (t:=t) (ord:=ord) (ex:=ex) hh S T).toS
 refine aD ⟨fX F.plain_extend_loop _,codeAny_extend_loopS W V _ D _ es.size 0 _ _ _ rfl (bL _)
  (W.frame 0 ({s with heap:=h',drawn:=d}:Sg) _ s.toks sw (aI _) λb m u e=>C b u (λz=>D (z▸m)) e) R (ItemsOf.nil _) λs' c c' L G h=>?_⟩
 change Sm _ A (load s.heap.objs.size >>=_) _ _ s';show aB (wpAny_load G ?_);show aD ?_;let⟨J,g2,d2,X,Y⟩:=s';let e1:g2=s.gens:=L.gens;let e2:d2=d:=L.drawn;let e3:Y=s.os:=L.os;subst e1;subst e2;subst e3;let k2:∀b u,s.heap.get? b=Sa u->J.get? b=Sa u:=λb u e=>by
  let r:=aO e
  show L.heap b u (λz=>by
   rcases aM.mp z with z|z
   .exact aX r z
   .let K:b=it:=by simpa using z
    show aX (Nat.lt_trans r f) K) (C b u (aX r) (k b u (Z b u e)))
 let H:∀(i:Nat)(v:Se),c.toList[i]? = Sa v->(ord[i]?).map (·.2)=Sa v:=λi v e=>h.2 i v (by rw[<-bN];show e);let I:c.toList.length=ord.length:=by rw[aQ,h.1,U]
 let e:c.toList=ord.map (·.2):=by
  show List.ext_getElem? λi=>?_;rw[aR];cases z:c.toList[i]? with
  |some v=>show(H i v z).symm
  |none=>rw[eN (by rw[<-I];show gP.mp z)];rfl
 change Q c.toList _;rw[e];show q ord J d2 X k2 (cV (aO G)) N
theorem qL4(p:A.handled=Sb)(S:SetI w s.heap a ns)(q:∀(vs:List Se)(ms:List Int)(h':Sk)(d:Drawn)(tk:Nat),(∀b u,s.heap.get? b=Sa u->h'.get? b=Sa u)->s.heap.objs.size<=h'.objs.size->IntsAre vs ms->ms.Perm ns->Q vs {s with heap:=h',drawn:=d,toks:=tk}):Sm (So P w) A (collect (.ref a)) Q E s:=by
 let⟨o,D,F,t,v,i,x,j,y,G,z,g⟩:=S;show qL5 p v i x z g λf h' d tk k l c=>q _ _ h' d tk k l ?_ ((c.map keyI).trans y);let h:∀e∈f,EI e:=λe B=>j e (c.mem_iff.mp B);clear c
 induction f with
 |nil=>show .nil
 |cons e r C=>
  let⟨n,tk,rfl⟩:=h e ∅;show .cons n tk (C λe m=>h e (by simp[m]))
theorem qHc{n:Nat}(d:h.get? D=Sa (seqObj "list" vs.toArray n)):(∃c,(sortedHeap h D vs out).get? D=Sa {cls:=.type "list",data:=.seq out c})/\(∀b u,b≠D->h.get? b=Sa u->(sortedHeap h D vs out).get? b=Sa u)/\h.objs.size<=(sortedHeap h D vs out).objs.size:=by
 unfold sortedHeap;let f:=get?_update_seq d (λ_=>#[]);let g:=aJ (seqObj "tuple" vs.toArray 0) f;let i:=aJ (seqObj "list" #[] 0) g;let j:=get?_update_seq i (λ_=>out);show⟨⟨_,j⟩,λb u a e=>?_,?_⟩
 .exact (cX _ _ (eI a)).trans (aJ _ (aJ _ ((cX _ _ (eI a)).trans e)))
 .rw [Heap.size_update,dL,dL,Heap.size_update];lia
theorem qLi(p:A.handled=Sb)(S:SetI w s.heap a ns)(j:ns.length<64)
  (q:∀(D:Sf)(out:Array Se)(c:Nat)(f:List Int)(h':Sk)(d:Drawn)(tk:Nat),s.heap.objs.size<=D->h'.get? D=Sa {cls:=.type "list",data:=.seq out c}->(∀b u,s.heap.get? b=Sa u->h'.get? b=Sa u)->IntsAre out.toList f->f.Perm ns->f.Pairwise (·<=·)->Q (.ref D) {s with heap:=h',drawn:=d,toks:=tk}) :
  Sm (So P w) A (call (.builtin "sorted") [.ref a]) Q E s:=by
 show gQ kind_sorted plain_sorted entry_sorted (args_sorted1 _) ?_;unfold Builtin.«sorted»;show aB (m:=checkCount "sorted" 1 1 _) (aD ?_);show aB (qL4 (A:=A.in1) p S λi z h' d tk k l o h=>?_);let n:i.length<64:=by rw[IntsAre.length o,h.length_eq];show j
 show aB (wpAny_newList ?_ (by rw[bV];lia));let g:(h'.push (seqObj "list" i.toArray 0)).get? h'.objs.size=Sa (seqObj "list" i.toArray 0):=aW _ rfl;show aB (bU (cK slot_list_sort (s:={s with heap:=h'.push (seqObj "list" i.toArray 0),drawn:=d,toks:=tk}) ⟨_,g,rfl⟩ entry_list_sort (list_sort_tree g o n λout f r t v=>⟨_,rfl,?_⟩) (args_list_sort _)));obtain⟨⟨c,x⟩,y,_⟩:=qHc (out:=out) g;show aD ⟨_,rfl,q h'.objs.size out c f _ d tk l x (λb u e=>y b u (aX (aO (k b u e))) (aJ _ (k b u e))) r (t.trans h) v⟩
theorem Inv.drew{X:Cx}{a:List (Sf×Ss)}{σ:St}{H:Hp}{s:Sg}{d:Drawn}(I:Inv X a σ H s):Inv X a σ H {s with drawn:=d}:=⟨I.ok,I.os,I.bare,I.base,I.loc,I.cell,I.free,I.freeC,I.pin,I.hok,I.len⟩
noncomputable def setO(w:Si)(ns:List Int):HO:=.ext λa h=>SetI w h a ns
theorem qPz(S:SetI w h a ns):ObjOk P b H h a (setO w ns):=by
 show⟨S,?_,λd f c k=>c.stay k⟩;let⟨o,_,_,_,e,_⟩:=S;show⟨o,e⟩
theorem Inv.setI{b:List (Sf×Ss)}{σ:St}{H:Hp}{s:Sg}{w:Si}{a:Sf}{ns:List Int}(I:Inv X b σ H s)(e:H a=Sa (setO w ns)):SetI w s.heap a ns:=(I.hok a _ e).1
def qYt(w:Si):List V->Hp->VK->Prop:=λxs H Q=>∃(a:Sf)(ns:List Int),xs=[.ref a]/\H a=Sa (setO w ns)/\ns.length<64/\∀(l:Sf)(ns':List Int),H l=Sb->ns'.Perm ns->ns'.Pairwise (·<=·)->Q (.ref l) (upd H l (.lst (ns'.map V.int)))
theorem qHu(m:X.A.handled=Sb):CallR X (.builtin "sorted") (qYt X.w):=by
 intro i s σ H z B Q I r h;let⟨a,C,rfl,n,p,q⟩:=h;let⟨u,rfl,t⟩:=vals1 r;cases t;show qLi m (I.setI n) p λD e c b E d tk j f k v l x=>?_;let y:H D=Sb:=I.hok.fresh j;let g:Vals (b.map V.int) e.toList:=jF v;show⟨.ref D,_,(I.laid (t':=tk) (o:=.lst (b.map V.int)) k j ⟨?_,e.toList,c,g,by simpa using f⟩).drew,rfl,q _ b y l x⟩;rw[aA,l.length_eq,bV];lia
noncomputable def newS(w:Si):Ss:={cls:=.type "set",dict:=Sb,data:=.set #[] 0 (.fresh 0 0 (!yE w))}
theorem qXi(e:h.get? a=Sa (newS w)):SetI w h a []:=⟨_,#[],0,_,e,⟨rfl,rfl,rfl⟩,rfl,λe b=>by simp at b,.refl _,.nil,⋯,⟨rfl,.nil,rfl⟩⟩
theorem qRg(q:Q (.ref s.heap.objs.size) {s with heap:=s.heap.push (newS w)}):Sm (So P w) A (newSet (.type "set")) Q E s:=by
 unfold newSet setsByText;show aB (aB (dH (aD ?_)));dsimp only;simp only[newObj];show aB (wpAny_alloc (aD q))
noncomputable def yF(ms:List Int):List Int:=ms.foldl addN []
theorem qMc(ms:List Int)(n:Int):yF (ms++[n])=addN (yF ms) n:=by unfold yF;rw[List.foldl_append];rfl
theorem qH3:∀(ms ns:List Int),(ms.foldl addN ns).length<=ns.length+ms.length
 |[],ns=>aI _
 |m::r,ns=>by
  let a:=qH3 r (addN ns m);let b:=qNs (ns:=ns) (n:=m);rw[gD,bK];lia
theorem jc(ms:List Int):(yF ms).length<=ms.length:=by let h:=qH3 ms [];rw[List.length_nil,Nat.zero_add]at h;show h
theorem qGp{m:Int}:∀(ms ns:List Int),m∈ms.foldl addN ns↔m∈ns\/m∈ms
 |[],ns=>by simp
 |k::r,ns=>by rw[gD,qGp r,Qz,aM,or_assoc]
theorem xV{m:Int}(ms:List Int):m∈yF ms↔m∈ms:=by unfold yF;rw[qGp];simp
theorem qEy:∀(ms ns:List Int),ns.Nodup->(ms.foldl addN ns).Nodup
 |[],ns,h=>h
 |k::r,ns,h=>qEy r _ (wV h)
theorem jd(ms:List Int):(yF ms).Nodup:=qEy ms [] .nil
section
variable{P:Sh}{w:Si}{A:Sj}{R:Result->Sg->Prop}{I:Sf}{fp wr:List Sf}{G:Array GenState->Array GenState->Prop}{n:Nat}{T:Nat->Se->Prop}{St:Nat->Sg->Prop}
theorem qS3(W:WalksS P w A.in1 I fp wr G n T St)(S:Sf)(g:S∉fp)(ms:List Int)(z:ms.length=n)(j:∀i v,T i v -> ∃t,v = .int (ms.getD i 0) t)(f:n+1<scanBound):∀(k i:Nat) (s:Sg),n - i=k->i<=n->St i s->SetI w s.heap S (yF (ms.take i))->(∀a,Moved (S::wr) G s a->SetI w a.heap S (yF ms)->R (.ok (.ret .none)) a) ->
   codeAny (So P w) A (.builtin "set.update.loop" ⟨[.ref S,.ref I],[]⟩) R s:=by
 let l:S∉wr:=λh=>g (W.sub _ h);let c:∀b∈wr,b∈S::wr:=λb f=>aS _ f;intro k
 induction k with
 |zero=>
  intro i s K L d y B;let C:i=n:=by lia
  subst C;show dZ F.entry_set_update_loop ?_;rw[cW F.plain_set_update_loop _];change Sm _ A.in1 (pyNext (.ref I) >>=_) _ _ s;show aB (W.done s _ _ d λa m=>?_);change Sm _ A.in1 (ret Value.none) _ _ a;rw[<-z,aU]at y;show aD (B a (m.mono c) (y.stay λo e=>m.heap S _ l e))
 |succ k M=>
  intro i s K L d y B;let p:i<n:=by lia
  show dZ F.entry_set_update_loop ?_;rw[cW F.plain_set_update_loop _];change Sm _ A.in1 (pyNext (.ref I) >>=_) _ _ s;show aB (W.item i s _ _ p d λv a N q m=>?_);let⟨t,rfl⟩:=j i v N;let D:SetI w a.heap S (yF (ms.take i)):=y.stay λo e=>m.heap S _ l e;change Sm _ A.in1 (SA [Value.int (ms.getD i 0) t] (setAdd S (.int (ms.getD i 0) t)) >>=_) _ _ a;let r:=jc (ms.take i);rw[aY]at r;show aB (bU (addI D ∎ λU H J=>?_));let O:ms.take (i+1)=ms.take i++[ms.getD i 0]:=by
   let Q:ms[i]? = Sa (ms.getD i 0):=by
    let:i<ms.length:=by lia
    rw[aV,aE this];rfl
   rw[List.take_add_one,Q];rfl
  rw[<-qMc,<-O]at J;show aD ⟨fX F.plain_set_update_loop _,M (i+1) _ ∎ p (W.frame _ a _ _ q (fN _) λb f o e=>?_) J λE u x=>?_⟩
  .rw [H.2 b (λh:b=S=>g (by rw[<-h];show f))];show e
  .refine B E (Moved.trans W.gtrans ((m.mono c).then_heap (fN _) λb o f e=>?_) u) x;rw[H.2 b (λh:b=S=>f (by rw[h];show aT))];show e
end
theorem qO0(a:Se)(h:Q₁ (.ref s.heap.objs.size) {s with heap:=s.heap.push (newS w)}):codeAny (So P w) A (.call (.builtin "set.__new__") ⟨[.type "set",a],[]⟩) (wants Q₁ E) s:=by
 show codeAny_of_tree ?_;change Sm _ A.in1 (do checkBuiltinCall "set.__new__" ⟨[.type "set",a],[]⟩;again (.builtin "set.__new__" ⟨[.type "set",a],[]⟩)) _ _ s;show aB (wpAny_of_eq (F.newCall_set_1 a) (aD ⟨fX F.plain_set_new _,dZ F.entry_set_new ?_⟩));rw[cW F.plain_set_new _];unfold Builtin.«set.__new__» Builtin.Frozenset.newClass;let b:=sub_set_self;let⟨c,g,d,tk,os⟩:=s;dsimp only
 wp_walk
 show dH (aD ?_);dsimp only;simp only[newObj];show aB (wpAny_alloc (aD (aD h)))
theorem qLk(hh:A.handled=Sb)(hl:s.heap.IsList l items)(hi:IntsAre items.toList ns)(G:items.size+1<scanBound)(h:∀(h':Sk)(tk:Nat),SetI w h' s.heap.objs.size (yF ns)->(∀b o,b<s.heap.objs.size->s.heap.get? b=Sa o->h'.get? b=Sa o)->Q (.ref s.heap.objs.size) {s with heap:=h',toks:=tk}):Sm (So P w) A (call (.type "set") [.ref l]) Q E s:=by
 let⟨c,tl,U⟩:=gG.mro;let I:=gG.made;let V:=gG.sub;show wpAny_call (codeAny_of_tree ?_);change Sm _ _ (callAny (.type "set") _) _ _ _;show aD ⟨Code.quiet_builtin _ (by decide +kernel),dZ F.entry_type_call ?_⟩;rw[Around.under_plain (weight_type_call_type "set" [.ref l] []) rfl];let h1:=gG.notType;let h2:=gG.canCreate;let a1:=F.typeCall_set_1 (.ref l)
 repeat (any_goals (first|assumption|wp_step))
 show gZ (qO0 (.ref l) (E:=E) (Q₁:=λn f=>n=.ref s.heap.objs.size/\f={s with heap:=s.heap.push (newS w)}) ⟨rfl,rfl⟩) λr f J=>?_;cases r with
 |error e=>show J
 |ok fl=>
  cases fl with
  |ret n=>
   let⟨rfl,rfl⟩:=J;let W:(s.heap.push (newS w)).get? s.heap.objs.size=Sa (newS w):=aW _ rfl;let hT:Shared.TypeIs {s with heap:=s.heap.push (newS w)} (.ref s.heap.objs.size) "set":=⟨_,W,rfl⟩;let a2:=gG.init.lookup;let a3:=gG.init.bind (.ref s.heap.objs.size)
   repeat (any_goals (first|assumption|wp_step))
   show gZ (codeAny_call_builtin (R:=wants (λr g=>r=.none/\∃h' tk,g={s with heap:=h',toks:=tk}/\SetI w h' s.heap.objs.size (yF ns)/\(∀b o,b<s.heap.objs.size->s.heap.get? b=Sa o->h'.get? b=Sa o)) E) gG.init.plain F.entry_set_init (check_set_init_1 hT ?_)) λp g a=>?_
   .let⟨ol,q,t,X,u⟩:=hl;let⟨Y,j,K,d⟩:=ol;simp only at t u;subst t;subst u;let x:(s.heap.push (newS w)).get? l=Sa {cls:=.type "list",dict:=j,data:=.seq items X,slots:=d}:=aJ _ q;let Z:=F.sub_list_set;let a0:=F.sub_list_frozenset;let a4:(Value.type "list" == Value.type "dict")=Sd:=by decide
    let y:(s.heap.push (newS w)).IsList l items:=⟨_,x,rfl,X,rfl⟩;unfold Builtin.«set.__init__» noKeywords Builtin.Frozenset.updateFrom;generalize L:pyIter=PI
    wp_walk
    subst L;show gL y (aB (wpAny_runValue ?_));let B:l<s.heap.objs.size:=aO q;let M:A.in1.in1.in1.handled=Sb:=hh;let C:l≠(s.heap.push (newS w)).objs.size:=by rw[dL];show aX (dR B)
    let N:s.heap.objs.size∉[(s.heap.push (newS w)).objs.size,l]:=by
     rw[dL];simp only[aM,aH,bA,or_false,not_or];show⟨aX (eE _),dP B⟩
    let D:ns.length=items.size:=by rw[<-IntsAre.length hi,aQ]
    show qS3 ((Walks.list M _ l C items).toS) s.heap.objs.size N ns D (λi v hv=>IntsAre.int_at hi i v (by rw[bN];show hv)) G (items.size-0) 0 _ ∎ (bL _) ⟨⟨_,aW _ rfl,rfl,rfl⟩,(y.push _)⟩ (qXi (aJ _ W)) ?_;intro s' H k;let⟨h',g',d',O,S⟩:=s';let eg:g'=s.gens:=H.gens;let ed:d'=s.drawn:=H.drawn;let eo:S=s.os:=H.os;subst eg;subst ed;subst eo;change Sm _ _ _ _ _ _;show aD ?_;change Sm _ _ (ret Value.none) _ _ _;show aD ⟨rfl,h',O,rfl,k,λb o G e=>?_⟩;show H.heap b o (λz=>?_) (aJ _ (aJ _ e));rcases aM.mp z with z|z
    .exact aX G z
    .let z2:b=(s.heap.push (newS w)).objs.size:=by simpa using z
     rw[dL]at z2;show aX (dR G) z2
   .cases p with
    |error e=>show a
    |ok m=>cases m with
     |ret r=>obtain⟨rfl,h',tk,rfl,k,T⟩:=a;(repeat (any_goals (first|assumption|wp_step)));show h _ _ k T
     |_=>show a.elim
  |_=>show J.elim
def qYv(w:Si)(K:SJ):List V->Hp->VK->Prop:=λxs H Q=>∃(a:Sf)(ns:List Int),xs=[.ref a]/\SqL K H a (ns.map V.int)/\ns.length+1<4096/\∀l,H l=Sb->Q (.ref l) (upd H l (setO w (yF ns)))
theorem kM(g:X.A.handled=Sb):CallR X (.type "set") (qYv X.w X.K):=by
 intro d s σ H o p Q I r h;let⟨a,t,rfl,i,v,q⟩:=h;let⟨u,rfl,j⟩:=vals1 r;cases j;let⟨c,f,l,_⟩:=I.list i;let m:=f.length;rw[aA]at m;show qLk g l.isList (uj f) (by rw[aP];change c.length+1<4096;lia) λx tk n k=>?_;show⟨.ref s.heap.objs.size,_,I.laid (t':=tk) (λb u e=>k b u (aO e) e) (aI _) (qPz n),rfl,q _ (I.hok.fresh (aI _))⟩
def qWz:V->List V->Hp->VK->Prop:=λx vs H Q=>∃l xs i y,x=.ref l/\vs=[.int i,y]/\H l=Sa (.lst xs)/\0<=i/\i<=xs.length/\xs.length<1000/\Q .non (upd H l (.lst (xs.take i.toNat++y::xs.drop i.toNat)))
theorem qRj:MtM X "list.insert" qWz:=by
 intro c s σ H x o v p Q I f g h;let⟨l,t,i,y,rfl,rfl,d,u,w,A,q⟩:=h;cases f;let⟨B,u2,rfl,j,m⟩:=g.two;let⟨tk,rfl⟩:=j;let⟨z,a,n,r,C,e⟩:=I.lstM d;let b:¬(!Builtin.List.listFitsIndex i)=Sc:=by
  let:=fitsIndex_both (k:=i) ∎ ∎;simpa using this
 show call_meets F.slot_list_insert ⟨_,e,rfl⟩ F.entry_list_insert (F.args_list_insert_3 _ _ _) (AutoSeq1.list_insert_list_int_val_1 l a.toArray n i tk u2 b (by rw[aP,bV];lia)) ⟨e,?_⟩;show⟨.non,_,I.lset (its':=a.take i.toNat++u2::a.drop i.toNat) d e ?_ (Vals.append (r.take _) (.cons m (r.drop _))) ?_,rfl,q⟩
 .dsimp only;rw[if_neg ∎,aP,Nat.min_eq_left ∎];apply Array.ext';simp[List.extract_eq_take_drop];show cY ∅
 .rw [bV];simp;lia
section
variable{K:SJ}{a:Sf}{xs:List V}{g:TG}{tt:TT}{B:TB}{σ:St}{H:Hp}{Q:St->Hp->Prop}
theorem qNf(Pv:Nat->St->Hp->Prop)(l:Pv 0 σ H)(h:∀i σ H,i<=xs.length->Pv i σ H->SqT K H a xs)(m:∀i x σ H(R:St->Hp->Prop),xs[i]? = Sa x->Pv i σ H->(∀d j,Pv (i+1) d j->R d j)->g x σ H λc o=>tt c o λb k=>if b=Sc then B c k R else R c k)(hd:∀σ H,Pv xs.length σ H->Q σ H):LoopT (Itt K a) g tt B σ H Q:=by
 show vq (n:=xs.length) Pv l (λi σ H f p=>⟨xs,xs[i],h i σ H (cV f) p,by simp[f]⟩) (λσ H p=>⟨xs,h _ σ H (aI _) p,aI _⟩) (λi σ H R f p q x j y=>?_) hd;let⟨e,y⟩:=y;subst e;show m i x σ _ R (y xs (h i σ _ (cV f) p)) p q
end
noncomputable def wE(m i:Int)(ns:List Int):List (Int×Int):=if ns=[]then [(i,m)]else ns.map λx=>(i,x)
noncomputable def rawTo(w:List Blk):Nat->List (Int×Int)
 |0=>[(-1,0)]
 |i+1=>rawTo w i++wE w.length i ((w[i]?.map Blk.ns).getD [])
theorem qGg{M m i:Int}(h:NsOk M ns):(wE m i ns).Perm (outs m i ns):=by
 unfold wE outs;rcases h with z|⟨x,z,_⟩|⟨x,y,z,_⟩<;>subst z
 .exact .refl _
 .exact .refl _
 .rw [if_neg ∅,if_neg ∅,cG];show List.Perm.map _ ?_;unfold srt;dsimp only;split
  .exact .refl _
  .exact List.Perm.swap _ _ _
theorem kN{m a:Int}(h:WorkOk m a w):∀n,(rawTo w n).Perm (xK w n)
 |0=>.refl _
 |i+1=>by
  change(rawTo w i++wE _ _ _).Perm (xK w i++outs w.length i ((w[i]?.map Blk.ns).getD []));show(kN h i).append ?_;cases e:w[i]? with
  |none=>show qGg (M:=m) (.inl rfl)
  |some b=>show qGg (h.blk b (aK e)).ns
theorem qG6{m a:Int}{w:List Blk}(h:WorkOk m a w):(xK w w.length).Pairwise ltP:=by
 rw[uL];show eT.mpr ⟨λp b=>?_,Qu h _⟩;let:=(jV h b).1;show .inl (by change(-1:Int)<p.1;lia)
theorem qJw{l:List (Int×Int)}(h:l.Pairwise ltP):l.Nodup:=h.imp λ{a b}c e=>by subst e;show ltP.irr c
theorem qLs{m a:Int}(h:WorkOk m a w):(rawTo w w.length).Nodup:=(kN h _).nodup_iff.mpr (qJw (qG6 h))
theorem qJy{m a:Int}(h:WorkOk m a w)(i:Nat):(rawTo w i).length<=1+2*i:=by
 rw[(kN h i).length_eq];show jS (λb c=>(h.blk b c).ns.few) i
noncomputable def wr:Deed->Option Int
 |.set b _=>Sa b
 |.add b _=>Sa b
 |_=>Sb
noncomputable def yk(w:List Blk):List Int:=w.flatMap λb=>b.ds.filterMap wr
noncomputable def boxes(w:List Blk):List Int:=((List.range 8).map λ(n:Nat)=>(n:Int)).filter λb=>decide (b∈yk w)
theorem qQd:∀ {l1 l2:List Int},l1.Pairwise (· < ·)->l2.Pairwise (· < ·)->(∀p,p∈l1↔p∈l2)->l1=l2
 |[],[],_,_,_=>rfl
 |[],q::l2,_,_,h=>absurd ((h q).mpr (aT ..)) ∅
 |p::l1,[],_,_,h=>absurd ((h p).mp (aT ..)) ∅
 |p::l1,q::l2,b,c,h=>by
  rw[eT]at b c;let e:p=q:=by
   rcases aM.mp ((h p).mp (aT ..))with z|z
   .exact z
   .rcases aM.mp ((h q).mpr (aT ..))with y|y
    .exact y.symm
    .let:=c.1 p z;let:=b.1 q y;lia
  subst e;show congrArg (p::·) (qQd b.2 c.2 λx=>⟨λa=>?_,λa=>?_⟩)
  .rcases aM.mp ((h x).mp (aS _ a))with z|z
   .rw [z]at a;let:=b.1 p a;lia
   .exact z
  .rcases aM.mp ((h x).mpr (aS _ a))with z|z
   .rw [z]at a;let:=c.1 p a;lia
   .exact z
theorem qSx{a:Int}{b:Int}(h:wQ a d)(e:wr d=Sa b):0<=b/\b<8:=by
 cases d with
 |set x n=>cases e;show⟨h.1,h.2.1⟩
 |add x o=>cases e;show⟨h.1,h.2.1⟩
 |tell x=>cases e
 |call x=>cases e
 |save x=>cases e
 |back x=>cases e
theorem qHx{m a:Int}(h:WorkOk m a w){b:Int}(c:b∈yk w):0<=b/\b<8:=by
 let⟨k,f,c⟩:=cO.mp c;let⟨d,g,e⟩:=dI.mp c;show qSx ((h.blk k f).ds d g) e
mutual
noncomputable def tame:PyData->Bool
 |.int i=>decide (i.natAbs<10^13)
 |.str x=>x.cps.all (· < 0x110000)&&decide (x.cps.size<=10)
 |.list xs=>xM xs
 |.tuple xs=>xM xs
 |.none=>Sd
 |.bool _=>Sd
 |.dict _=>Sd
noncomputable def xM:List PyData->Bool
 |[]=>Sc
 |x::xs=>tame x&&xM xs
end
mutual
noncomputable def cells:PyData->Nat
 |.list xs=>uM xs
 |.tuple xs=>uM xs
 |.int _=>0
 |.str _=>0
 |.none=>0
 |.bool _=>0
 |.dict _=>0
noncomputable def uM:List PyData->Nat
 |[]=>0
 |x::xs=>cells x+1+uM xs
end
theorem qZc{n:Nat}(h:n<10^13):n.log2<44:=by
 by_cases a:n=0
 .subst a;decide
 .exact (Nat.log2_lt a).mpr (bS h ⋯)
mutual
theorem qPf:∀d:PyData,tame d=Sc->PyData.showable d=Sc
 |.int i,h=>by
  let a:i.natAbs<10^13:=by simpa only[tame,decide_eq_true_eq]using h
  let:=qZc a;simp only[PyData.showable,decide_eq_true_eq];lia
 |.str x,_=>rfl
 |.list xs,h=>je xs (by simpa only[tame]using h)
 |.tuple xs,h=>je xs (by simpa only[tame]using h)
theorem je:∀ds:List PyData,xM ds=Sc->PyData.showableAll ds=Sc
 |[],_=>rfl
 |x::xs,h=>by
  let a:(tame x&&xM xs)=Sc:=by simpa only[xM]using h
  rw[bT]at a;simp only[PyData.showableAll,qPf x a.1,je xs a.2,Bool.and_self]
end
mutual
theorem jf:∀d:PyData,tame d=Sc->PyData.canLay0 d=Sc
 |.int i,h=>rfl
 |.str x,h=>by
  let a:(x.cps.all (· < 0x110000)&&decide (x.cps.size<=10))=Sc:=by simpa only[tame]using h
  rw[bT]at a;simpa only[PyData.canLay0,PyData.strOk]using a.1
 |.list xs,h=>jg xs (by simpa only[tame]using h)
 |.tuple xs,h=>jg xs (by simpa only[tame]using h)
theorem jg:∀ds:List PyData,xM ds=Sc->PyData.canLayAll0 ds=Sc
 |[],_=>rfl
 |x::xs,h=>by
  let a:(tame x&&xM xs)=Sc:=by simpa only[xM]using h
  rw[bT]at a;simp only[PyData.canLayAll0,jf x a.1,jg xs a.2,Bool.and_self]
end
theorem qLg(h:tame d=Sc)(hd:d.depth<=64)(b:∃xs,d=.list xs):SeqAt.shaped d=Sc:=by
 let⟨xs,rfl⟩:=b;let a:=jf _ h;let a:PyData.canLayAll0 xs=Sc:=by simpa only[PyData.canLay0]using a
 change(PyData.canLayAll0 xs&&decide (PyData.depth (.list xs)<=64))=Sc;rw[a,decide_eq_true hd];rfl
theorem qLh(h:tame d=Sc):d.hasDict=Sd:=PyData.hasDict_of_canLay _ (jf d h)
theorem qGa{α : Type}{f : α -> PyData}:∀ {l:List α},(∀x∈l,tame (f x)=Sc)->xM (l.map f)=Sc
 |[],_=>rfl
 |x::r,h=>by
  simp only[bJ,xM,h x (aT ..),qGa λy a=>h y (aS _ a),Bool.and_self]
theorem qFp{α : Type}{f : α -> PyData}{n:Nat}:∀ {l:List α},(∀x∈l,cells (f x)<=n)->uM (l.map f)<=(n+1)*l.length
 |[],_=>bL _
 |x::r,h=>by
  let b:=h x (aT ..);let c:=qFp (l:=r) λy a=>h y (aS _ a);simp only[bJ,uM,bK,Nat.mul_add];lia
theorem qFo{α : Type}{f : α -> PyData}{n:Nat}:∀ {l:List α},(∀x∈l,(f x).depth<=n)->PyData.depthAll (l.map f)<=n
 |[],_=>bL _
 |x::r,h=>by
  let b:=h x (aT ..);let c:=qFo (l:=r) λy a=>h y (aS _ a);simp only[bJ,PyData.depthAll];lia
theorem qRx{ns:List Int}(h:∀n∈ns,-1<=n/\n<=100)(c:ns.length<=1000):tame (intsD ns)=Sc/\cells (intsD ns)<=5000/\(intsD ns).depth<=64:=by
 let b:=qGa (l:=ns) (f:=PyData.int) λn a=>by
  let:=h n a;simp only[tame,decide_eq_true_eq];lia
 let d:=qFp (l:=ns) (f:=PyData.int) (n:=0) λn a=>aI _;let e:=qFo (l:=ns) (f:=PyData.int) (n:=0) λn a=>aI _;show⟨?_,?_,?_⟩
 .simp only[intsD,tame,b]
 .simp only[intsD,cells];lia
 .show PyData.depthAll (ns.map .int)+1<=64;lia
section
variable{prog:Sh}{w:Si}{K:Type}[DecidableEq K]{knd:HeapKind prog w K}{A:Sj}{E:Se->Sg->Prop}{s:Sg}{d a:Sf}{k:K}{xs:List (K×Sf×Se)}
theorem qLj(q:knd.room A)(b:knd.is s.heap k a)(u:s.heap.DictOfH knd d xs)(hsz:xs.length<=Sn)(z:∀p,atKey xs k=Sa p->Q p.2 {s with toks:=s.toks+knd.draws k})(B:atKey xs k=Sb->∀m,m.DictOfH knd d (storedH xs k a v)->Heap.SameBut d s.heap m->Q v {s with heap:=m,toks:=s.toks+knd.draws k}):Sm (So prog w) A (dictSetDefault d (.ref a) v) Q E s:=by
 let⟨o,F,C,g,D,f,l,h,n⟩:=u;unfold dictSetDefault
 try with_reducible refine bU ?_
 show aB (knd.pyHash q b (aB (wpAny_dictFind_heap (s:={s with toks:=s.toks+knd.draws k}) q b g f l h n ?_ ?_)))
 .intro c;let i:k∉xs.map (·.1):=not_mem_keys_of_get c;show aB (dJ (aB (wpAny_updateDictKeys (hz:=by let e:=size_of_entries l;lia) (s:={s with toks:=s.toks+knd.draws k}) g f (aD (B (atKey_none_of_get c) _ ⟨_,_,C+1,cS _ g (Obj.isFreed_of_dict (Obj.data_mapDictKeys f _)),D.mapDictKeys _,Obj.data_mapDictKeys f _,?_,?_,?_⟩ (cF ..))))))
  .rw [storedH_new (atKey_none_of_get c)];simp[l,entryOfKey]
  .rw [storedH_new (atKey_none_of_get c)];intro x hx;rcases aN.mp hx with hx|hx
   .exact knd.keeps (h x hx) g f (cF ..)
   .simp only[aH]at hx;subst hx;show knd.keeps b g f (cF ..)
  .rw [storedH_new (atKey_none_of_get c),aG,cI];show⟨n,∅,λx hx y r=>?_⟩;simp only[bJ,fW,aH]at r;subst r;show λe=>i (e▸hx)
 .intro j p t;show aB (wpAny_dictEntries (s:={s with toks:=s.toks+knd.draws k}) g f ?_);rw[entry_at l j,t];show aB (dJ (aD (z p (atKey_of_get n t))))
end
def qUw(td ty tx:TE):TE:=λσ H Q=>td σ H λx H1 => ∃a,x = .ref a/\IsD H1 a/\ty σ H1 λy H2=>tx σ H2 λz H3 => ∃kvs k b,y = .ref b/\H3 a=Sa (.dT kvs)/\H3 b=Sa (.tup (k.map kV))/\kvs.length<Sn /\
 (∀v,valV kvs k=Sa v->Q v H3)/\(valV kvs k=Sb->Q z (upd H3 a (.dT (putK kvs k z))))
theorem qTm(U:X.A.units+1<cLine)(V:PE X o td)(W:PE X e ty)(Y:PE X f tx)(m:M2 X o "setdefault" apos e f cpos):PE X (.Call (.Attribute o "setdefault" apos) [e,f] [] cpos) (qUw td ty tx):=by
 intro i s σ H Q I h;show wpAny_Call_method m.base m.few m.line PySem.F.plainAttrs_dict eZ PySem.F.type_dict_setdefault (thn (V i s σ H _ I h) λu Z hq_=>?_);let⟨x,H1,K,rx,a,ex,d,q1⟩:=hq_;subst ex;obtain rfl:u=Value.ref a:=rx;let⟨t1,t2,_⟩:=jD K d;show⟨t1,t2,?_⟩;rw[m.trees];show fF rfl (gO (eR (thn (W i Z σ H1 _ K q1) λiv s2 hq_=>?_)));let⟨y,H2,I2,ry,q2⟩:=hq_;show eR (thn (Y i s2 σ H2 _ I2 q2) λL B hq_=>?_);let⟨z,H3,t,M,g,k,b,ey,C,N,hl,g1,g2⟩:=hq_;show Calls.spliced_nil ?_;subst ey;cases (show iv=Value.ref b from ry);let⟨zz,O,xs,j,P⟩:=oz t.hok C
 let hz:xs.length<=Sn:=by rw[<-fI j];show zz
 let⟨q0,_,_,D,E,R,_⟩:=id P;let n:B.TypeIs (.ref a) "dict":=⟨q0,D,E.1⟩;show cK eZ n PySem.F.entry_dict_setdefault ?_ (PySem.F.args_dict_setdefault_3 _ _ _);unfold Builtin.«dict.setdefault»;show aB ?_;unfold Builtin.Dict.keyAndDefault;show aB (wpAny_notOrdered_dict n ?_);change Sm _ _ (pure (a,Value.ref b,Sa L)) _ _ B;show aD ?_;change Sm _ _ (if (a == SH)=Sc then _ else (dictSetDefault a (.ref b) L >>=_)) _ _ B;rw[if_neg (by rw[O];show aL)];show aB (qLj (knd:=tupleKind (zy X.prog X.w)) (eS U) (wJ t.hok N) P hz (λp hp=>aD ⟨_,rfl,?_⟩) (λhn h' G hs=>aD ⟨_,rfl,?_⟩))
 .let r:=j.val k;rw[hp]at r;cases l:valV g k with
  |none=>rw[l]at r;show r.elim
  |some v=>rw[l]at r;show⟨v,H3,t.tok _,r,g1 v l⟩
 .let r:=j.val k;rw[hn]at r;let l:valV g k=Sb:=by
   cases l:valV g k with
   |none=>rfl
   |some v=>rw[l]at r;show r.elim
  let J:(putK g k z).length<=Sn:=by let:=xQ g k z;lia
  let⟨q,es,ep,S,h2,h3,h4,_,h5⟩:=G;show⟨z,_,wL (ob:=.dT (putK g k z)) t (by rw[C];show True.intro) hs ⟨q,S⟩ ⟨J,O,_,(j.put k N M).keeps λc ys T=>?_,q,es,ep,S,h2,h3,h4,h5⟩,M,g2 l⟩;rw[zC (xm T C (λz=>nomatch z))];show T
theorem qQe{bs:List Bool}(c:∀i b,bs[i]? = Sa b->f i=b):(List.range bs.length).any f=bs.any id:=by
 rw[cP,bX,bX];constructor
 .rintro⟨i,a,h⟩;let a:=aZ.mp a;let:=c i bs[i] (aE a);show⟨bs[i],cN a,by rw[<-this];show h⟩
 .rintro⟨b,d,h⟩;let⟨i,a,e⟩:=cE d;show⟨i,aZ.mpr a,by rw[c i b (by rw[aE a,e])];show h⟩
def rAnyB(K:SJ):List V->Hp->VK->Prop:=λxs H Q=>∃(a:Sf)(bs:List Bool),xs=[.ref a]/\SqL K H a (bs.map V.bl)/\Q (.bl (bs.any id)) H
theorem vH(w:X.A.handled=Sb):CallR X (.builtin "any") (rAnyB X.K):=by
 intro m s σ H G J Q I r h;let⟨a,bs,rfl,y,q⟩:=h;let⟨u,rfl,z⟩:=vals1 r;cases z;let⟨d,n,B,_⟩:=I.list y;let c:=n.length;rw[aA]at c;let g:=B.isList;let j:a≠s.heap.objs.size:=by let⟨o,e,_⟩:=g;show aX (aO e)
 let f:∀(i:Nat)(v:Se),d.toArray[i]? = Sa v->v=.bool (bs.getD i Sd):=λi v e=>by
  rw[eO]at e;let p:i<bs.length:=by rw[c];show(aC.mp e).1
  let⟨u,t,l⟩:=n.get (i:=i) (x:=V.bl bs[i]) (by rw[aR,aE p];rfl);rw[e]at t;cases t;let l:v=Value.bool bs[i]:=l;rw[l,aV,aE p];rfl
 show call_any_walk (gL g ⟨_,_,_,_,_,_,λi=>bs.getD i Sd,rfl,Walks.list (by show w) _ a j d.toArray,⟨⟨_,aW _ rfl,rfl,rfl⟩,g.push _⟩,λi v s Q E C D=>?_,λL tk k=>?_⟩)
 .rw [f i v C];show dN D
 .let e:(List.range d.toArray.size).any (λi=>bs.getD i Sd)=bs.any id:=by
   rw[aP,<-c];show qQe λi b F=>by rw[aV,F];rfl
  rw[e];show⟨.bl (bs.any id),H,I.kept (t':=tk) (λb o e=>k b o (by simpa using aX (aO e)) (aJ _ e)),rfl,q⟩
abbrev Pl:=Int×Int
noncomputable def plK(p:Pl):List Key:=[.inl p.1,.inl p.2]
theorem jh(h:plK p=plK q):p=q:=by
 let⟨a,b⟩:=p;let⟨c,d⟩:=q;simp only[plK,List.cons.injEq,Sum.inl.injEq,and_true]at h;rw[h.1,h.2]
def TK(H H':Hp):Prop:=∀b xs,H b=Sa (.tup xs)->H' b=Sa (.tup xs)
theorem TK.trans(a:TK H d)(b:TK d e):TK H e:=λc f h=>b c f (a c f h)
theorem Ext.tk(e:Ext [] H a):TK H a:=λb c h=>e b _ ∅ h
theorem TK.put{t:Sf}(h:∀ys,H t≠Sa (.tup ys)):TK H (upd H t o):=λb a e=>by
 let n:b≠t:=λz=>by rw[z]at e;show h a e
 rw[zC n];show e
def PlAt(H:Hp)(v:V)(p:Pl):Prop:=∃b,v=.ref b/\H b=Sa (.tup [.int p.1,.int p.2])
def PlsAt(H:Hp):List V->List Pl->Prop:=Paired (PlAt H)
theorem PlsAt.mono(k:TK H a)(h:PlsAt H vs c):PlsAt a vs c:=Paired.mapP h λ_ _ ⟨b,e,q⟩=>⟨b,e,k _ _ q⟩
theorem PlsAt.len(h:PlsAt H vs a):vs.length=a.length:=fI h
theorem PlsAt.append(h:PlsAt H vs b)(k:PlsAt H ws qs):PlsAt H (vs++ws) (b++qs):=by
 induction h with
 |nil=>show k
 |cons a _ c=>show .cons a c
theorem PlsAt.one(h:H b=Sa (.tup [.int p.1,.int p.2])):PlsAt H [.ref b] [p]:=.cons ⟨b,rfl,h⟩ .nil
theorem PlsAt.get:∀ {vs:List V} {b:List Pl} {i:Nat} {v:V},PlsAt H vs b->vs[i]? = Sa v -> ∃p,b[i]? = Sa p/\PlAt H v p
 |_,_,_,_,.nil,e=>by simp at e
 |_,_,0,_,.cons a _,e=>by simp at e;subst e;show⟨_,rfl,a⟩
 |_,_,i+1,v,.cons _ r,e=>by
  let⟨p,c,d⟩:=PlsAt.get (i:=i) (v:=v) r (by simpa using e);show⟨p,by simpa using c,d⟩
theorem PlsAt.last:∀{vs:List V}{b:List Pl}{y:Pl},PlsAt H vs (b++[y])->∃c v,vs=c++[v]/\PlsAt H c b/\PlAt H v y:=by
 intro vs b
 induction b generalizing vs with
 |nil=>
  intro y h;cases h with
  |cons a r=>cases r;show⟨[],_,rfl,.nil,a⟩
 |cons p r d=>
  intro y h;cases h with
  |cons a t=>
   let⟨c,v,rfl,e,f⟩:=d t;show⟨_::c,v,rfl,.cons a e,f⟩
inductive RT(N:Pl->List Pl)(a:Pl):Pl->Prop
 |refl:RT N a a
 |step {b c:Pl}:RT N a b->c∈N b->RT N a c
theorem RT.trans(d:RT N a b)(e:RT N b c):RT N a c:=by
 induction e with
 |refl=>show d
 |step _ f g=>show .step g f
theorem RT.back(h:∀p q,q∈N p↔p∈M q)(r:RT N a b):RT M b a:=by
 induction r with
 |refl=>show .refl
 |step _ c d=>show(RT.step .refl ((h _ _).mp c)).trans d
theorem RT.within{N:Pl->List Pl}{U:List Pl}{a b:Pl}(c:∀p∈U,∀q∈N p,q∈U)(d:a∈U)(r:RT N a b):b∈U:=by
 induction r with
 |refl=>show d
 |step _ h e=>show c _ e _ h
def NexT(H:Hp)(nd:Sf)(N:Pl->List Pl):Prop:=∃kvs:List (List Key×V),H nd=Sa (.dT kvs)/\∀p:Pl,(valV kvs (plK p)=Sb/\N p=[])\/∃c vs,valV kvs (plK p)=Sa (.ref c)/\H c=Sa (.lst vs)/\PlsAt H vs (N p)
theorem NexT.mono(h:NexT H d N)(e:Ext [] H b):NexT b d N:=by
 let⟨a,f,g⟩:=h;show⟨a,e _ _ ∅ f,λp=>?_⟩;rcases g p with z|⟨c,i,j,k,l⟩
 .exact .inl z
 .exact .inr ⟨c,i,j,e _ _ ∅ k,l.mono e.tk⟩
noncomputable def trueD(ks:List Pl):List (List Key×V):=ks.map λp=>(plK p,V.bl Sc)
theorem kO(y:Pl):∀ks:List Pl,valV (trueD ks) (plK y)=if y∈ks then Sa (V.bl Sc) else Sb
 |[]=>rfl
 |k::r=>by
  let a:=kO y r;unfold trueD at a ⊢;by_cases e:k=y
  .subst e;rw[bJ,yp rfl,if_pos (aT ..)]
  .rw [bJ,yq (λz=>e (jh z)),a];let:(y∈k::r)↔y∈r:=by simp[eI e]
   simp only[this]
def qV2(K:SJ):Sp:=λvs H Q _ => ∃(st nd:Sf) (svs:List V) (starts U:List Pl) (N:Pl->List Pl),vs = [.ref st,.ref nd]/\SqL K H st svs/\PlsAt H svs starts/\NexT H nd N/\(∀s∈starts,s∈U)/\(∀p∈U,∀q∈N p,q∈U)/\(∀p,(N p).length<=8000)/\U.length<=500/\starts.length<=8000 /\
 ∀(d:Sf)(ks:List Pl)(H':Hp),H d=Sb->Ext [] H H'->H' d=Sa (.dT (trueD ks))->ks.Nodup->(∀x,x∈ks ↔ ∃s∈starts,RT N s x)->Q (.ref d) H'
noncomputable def dword:Deed->Str
 |.set _ _=>"set"
 |.add _ _=>"add"
 |.tell _=>"tell"
 |.call _=>"call"
 |.save _=>"save"
 |.back _=>"back"
noncomputable def dargs:Deed->List Int
 |.set b n=>[b,n]
 |.add b o=>[b,o]
 |.tell b=>[b]
 |.call b=>[b]
 |.save b=>[b]
 |.back b=>[b]
noncomputable def darg:Deed->Int
 |.set b _=>b
 |.add b _=>b
 |.tell b=>b
 |.call b=>b
 |.save b=>b
 |.back b=>b
theorem qXs(d:Deed):deedD d=.tuple (.str (dword d)::(dargs d).map .int):=by cases d<;>rfl
theorem kP(d:Deed):∃r,dargs d=darg d::r:=by cases d<;>show⟨_,rfl⟩
theorem qL0(d:Deed):1<=(dargs d).length/\(dargs d).length<=2:=by cases d<;>simp[dargs]
theorem kQ(d:Deed):inV (V.str (dword d)) [V.str "set",.str "add"]=(wr d).isSome:=by cases d<;>first|rfl|(change inV (V.str _) _=_;simp only[dword,wr];decide)
theorem qXr(d:Deed)(h:(wr d).isSome=Sc):wr d=Sa (darg d):=by cases d<;>first|rfl|cases h
noncomputable def wrB(x:Int)(d:Deed):Bool:=(wr d).isSome&&decide (darg d=x)
noncomputable def wW:Deed->Bool
 |.add _ _=>Sc
 |.tell _=>Sc
 |_=>Sd
theorem qS6(d:Deed):inV (V.str (dword d)) [V.str "add",.str "tell"]=wW d:=by cases d<;>first|rfl|(change inV (V.str _) _=_;simp only[dword,wW];decide)
noncomputable def rdB(x:Int)(d:Deed):Bool:=wW d&&decide (x∈dargs d)
def KTup(K:SJ)(wa:Sf)(xs:List V):Prop:=∃(o:Ss)(its:Array Se)(n:Nat),K.lookup wa=Sa o/\o.cls=.type "tuple"/\o.data=.seq its n/\its.size<=Sn/\Vals xs its.toList
abbrev qSs(K:SJ)(wa:Sf):Prop:=KTup K wa [V.str "set",.str "add"]
abbrev qSt(K:SJ)(wa:Sf):Prop:=KTup K wa [V.str "add",.str "tell"]
def vI(φ:Int->Deed->Bool)(K:SJ):Sp:=λvs H Q _=>∃(v:V)(d:Deed)(x:Int),vs=[v,.int x]/\Den K H (deedD d) v/\∀H',Ext [] H H'->Q (.bl (φ x d)) H'
noncomputable def till(x:Int):List Deed->List Deed
 |[]=>[]
 |d::r=>if wrB x d=Sc then [d]else d::till x r
noncomputable def wrote(x:Int)(ds:List Deed):Bool:=ds.any (wrB x)
noncomputable def yw:Deed->Option Int
 |.call c=>Sa c
 |_=>Sb
noncomputable def kR(d:Deed):Bool:=(yw d).isSome
theorem qKz(d:Deed):decide (dword d="call")=kR d:=by
 cases d with
 |call c=>show decide_eq_true rfl
 |set _ _=>show decide_eq_false (show ¬("set" : Str)="call" by decide)
 |add _ _=>show decide_eq_false (show ¬("add" : Str)="call" by decide)
 |tell _=>show decide_eq_false (show ¬("tell" : Str)="call" by decide)
 |save _=>show decide_eq_false (show ¬("save" : Str)="call" by decide)
 |back _=>show decide_eq_false (show ¬("back" : Str)="call" by decide)
theorem qXv(d:Deed)(h:kR d=Sc):yw d=Sa (darg d):=by cases d<;>first|rfl|cases h
theorem kS(x:Int):∀ds:List Deed,(till x ds).length<=ds.length
 |[]=>aI _
 |d::r=>by
  unfold till;split
  .simp
  .let:=kS x r;simp;lia
theorem qMh{x:Int}:∀ {ds:List Deed},d∈till x ds->d∈ds
 |[],h=>h
 |e::r,h=>by
  unfold till at h;split at h
  .rw [aH.mp h];show aT ..
  .rcases aM.mp h with z|z
   .rw [z];show aT ..
   .exact aS _ (qMh z)
theorem qH9{x:Int}:∀ {ds:List Deed} {i:Nat} {d:Deed},(∀e∈ds.take i,wrB x e=Sd)->ds[i]? = Sa d->wrB x d=Sc->till x ds=ds.take (i+1)
 |[],i,d,_,h,_=>by simp at h
 |e::r,0,d,_,h,hw=>by
  simp at h;subst h;unfold till;rw[if_pos hw];rfl
 |e::r,i+1,d,a,h,hw=>by
  unfold till;rw[if_neg (by rw[a e ∅];show aL),List.take_succ_cons];rw[qH9 (i:=i) (d:=d) (λf b=>a f (by simp[b])) (by simpa using h) hw]
theorem qJh{x:Int}:∀ {ds:List Deed},(∀e∈ds,wrB x e=Sd)->till x ds=ds
 |[],_=>rfl
 |e::r,h=>by
  unfold till;rw[if_neg (by rw[h e ∅];show aL),qJh λf a=>h f (by simp[a])]
noncomputable abbrev xW(ws:List (List Blk)):PyData:=.list (ws.map workD)
noncomputable def blkAt(ws:List (List Blk))(p:Pl):Option Blk:=if 0<=p.1/\0<=p.2 then (ws[p.1.toNat]?).bind λw=>w[p.2.toNat]? else Sb
noncomputable def uN(x:Int)(b:Blk):List Pl:=((till x b.ds).filterMap yw).map λc=>(c,0)
noncomputable def metB(x n:Int)(b:Blk):List Pl:=uN x b++(if wrote x b.ds=Sc then []else b.ns.map λt=>(n,t))
noncomputable def metOf(ws:List (List Blk))(x:Int)(p:Pl):List Pl:=match blkAt ws p with
 |none=>[]
 |some b=>metB x p.1 b
noncomputable def readB(x:Int)(b:Blk):Bool:=(till x b.ds).any (rdB x)
noncomputable def yZ(ws:List (List Blk))(x:Int)(p:Pl):Bool:=match blkAt ws p with
 |none=>Sd
 |some b=>readB x b
def Asks(ws:List (List Blk))(x:Int)(p:Pl):Prop:=∃q,RT (metOf ws x) p q/\yZ ws x q=Sc
structure WsOk(ws:List (List Blk)):Prop where
 all:∀w∈ws,∃m:Int,1<=m/\m<=12/\WorkOk m (ws.length:Int) w
 one:1<=ws.length
 few:ws.length<=25
theorem uO(b:List (List Blk))(n a:Nat):blkAt b ((n:Int),(a:Int))=(b[n]?).bind λw=>w[a]?:=by
 unfold blkAt;rw[if_pos ⟨∎,∎⟩];rfl
theorem kT(h:blkAt c p=Sa b):∃(n a:Nat)(w:List Blk),p=((n:Int),(a:Int))/\c[n]? = Sa w/\w[a]? = Sa b:=by
 unfold blkAt at h;split at h
 .rename_i d;cases e:c[p.1.toNat]? with
  |none=>rw[e]at h;cases h
  |some w=>
   rw[e]at h;show⟨p.1.toNat,p.2.toNat,w,?_,e,h⟩;rw[dD d.1,dD d.2]
 .cases h
noncomputable def places(ws:List (List Blk)):List Pl:=(List.range ws.length).flatMap λ(n:Nat)=>(List.range ((ws[n]?).getD []).length).map λ(a:Nat)=>((n:Int),(a:Int))
theorem mem_places:p∈places e ↔ ∃b,blkAt e p=Sa b:=by
 unfold places;rw[cO];constructor
 .rintro⟨n,d,g⟩;let⟨a,c,rfl⟩:=bG.mp g;rw[uO];let d:=aZ.mp d;let c:=aZ.mp c;rw[aE d]at c ⊢;show⟨_,aE c⟩
 .rintro⟨b,h⟩;let⟨n,a,w,rfl,f,c⟩:=kT h;show⟨n,aZ.mpr (aC.mp f).1,bG.mpr ⟨a,aZ.mpr ?_,rfl⟩⟩;rw[f];show(aC.mp c).1
theorem WsOk.blk(h:WsOk c)(f:blkAt c p=Sa b):∃(m:Int)(n:Nat)(w:List Blk),p.1=(n:Int)/\c[n]? = Sa w/\(w.length:Int)=m/\1<=m/\m<=12/\BlkOk m (c.length:Int) b:=by
 let⟨n,a,w,rfl,d,g⟩:=kT f;let⟨m,i,j,e⟩:=h.all w (aK d);show⟨m,n,w,rfl,d,e.len,i,j,e.blk b (aK g)⟩
theorem qRk(h:WsOk c)(x:Int)(p:Pl):(metOf c x p).length<=22:=by
 unfold metOf;split
 .exact bL _
 .rename_i b d;let⟨m,n,w,g,i,j,e,f,a⟩:=h.blk d;unfold metB uN;let k:=dA yw (till x b.ds);let l:=kS x b.ds;let o:=a.few;let q:=a.ns.few;rw[aF,aA];split
  .simp;lia
  .rw [aA];lia
theorem qO6(h:WsOk b):(places b).length<=300:=by
 unfold places;let d:∀l:List Nat,(∀n∈l,n<b.length)->(l.flatMap λ(n:Nat)=>(List.range ((b[n]?).getD []).length).map λ(a:Nat)=>((n:Int),(a:Int))).length<=12*l.length:=by
  intro l
  induction l with
  |nil=>intro _;show aI _
  |cons n r g=>
   intro e;rw[fU,aF,aA,cL,bK];let f:=g λm i=>e m (aS _ i);let c:=e n (aT ..);rw[aE c];let⟨k,o,p,j⟩:=h.all b[n] (cN c);let q:=j.len;change b[n].length+_<=_;lia
 let f:=d (List.range b.length) λn c=>aZ.mp c;rw[cL]at f;let:=h.few;lia
def qMp(K:SJ):Sp:=λvs H Q _ => ∃(wa:Sf) (ws:List (List Blk)) (n b:Nat) (x:Int),vs = [.ref wa,.int n,.int b,.int x]/\Den K H (xW ws) (.ref wa)/\WsOk ws/\((n:Int),(b:Int))∈places ws /\
 ∀(l:Sf)(us:List V)(H':Hp),H l=Sb->Ext [] H H'->H' l=Sa (.lst us)->PlsAt H' us (metOf ws x ((n:Int),(b:Int)))->Q (.ref l) H'
structure NexK(H:Hp)(nd:Sf)(N:Pl->List Pl)(ok:Sf->Prop)(k:Nat)(kvs:List (List Key×V)):Prop where
 at_:H nd=Sa (.dT kvs)
 few:kvs.length<=k
 all:∀p:Pl,(valV kvs (plK p)=Sb/\N p=[])\/∃c vs,valV kvs (plK p)=Sa (.ref c)/\ok c/\H c=Sa (.lst vs)/\PlsAt H vs (N p)
 one:∀(p q:Pl)(c:Sf),valV kvs (plK p)=Sa (.ref c)->valV kvs (plK q)=Sa (.ref c)->p=q
def NexB(H:Hp)(nd:Sf)(N:Pl->List Pl)(ok:Sf->Prop)(k:Nat):Prop:=∃kvs,NexK H nd N ok k kvs
theorem NexK.mono{ok:Sf->Prop}{k:Nat}(h:NexK H b N ok k kvs)(e:Ext ts H a)(f:b∉ts)(g:∀t∈ts,¬ok t)(tk:TK H a):NexK a b N ok k kvs:=by
 show⟨e _ _ f h.at_,h.few,λp=>?_,h.one⟩;rcases h.all p with z|⟨c,i,j,d,l,m⟩
 .exact .inl z
 .exact .inr ⟨c,i,j,d,e _ _ (λz=>g c z d) l,m.mono tk⟩
theorem NexB.mono{ok:Sf->Prop}{k:Nat}(h:NexB H b N ok k)(e:Ext ts H a)(d:b∉ts)(f:∀t∈ts,¬ok t)(tk:TK H a):NexB a b N ok k:=let ⟨c,z⟩:=h;⟨c,z.mono e d f tk⟩
theorem NexB.toT{ok:Sf->Prop}{k:Nat}(h:NexB H b N ok k):NexT H b N:=by
 let⟨a,z⟩:=h;show⟨a,z.at_,λp=>?_⟩;rcases z.all p with y|⟨c,d,e,_,f,g⟩
 .exact .inl y
 .exact .inr ⟨c,d,e,f,g⟩
noncomputable def snocN(N:Pl->List Pl)(q p:Pl):Pl->List Pl:=λr=>if r=q then N r++[p]else N r
theorem NexK.app{d c pt:Sf}{ok:Sf->Prop}{k:Nat}(h:NexK H d N ok k kvs)(a:valV kvs (plK q)=Sa (.ref c))(l:H c=Sa (.lst vs))(m:PlsAt H vs (N q))(o:H pt=Sa (.tup [.int p.1,.int p.2])):NexK (upd H c (.lst (vs++[.ref pt]))) d (snocN N q p) ok k kvs:=by
 let tk:TK H (upd H c (.lst (vs++[.ref pt]))):=.put (by intro v z;rw[l]at z;cases z);let s:d≠c:=xm h.at_ l (by intro z;cases z);show⟨by rw[zC s];show h.at_,h.few,λr=>?_,h.one⟩;unfold snocN;by_cases e:r=q
 .subst e;rw[if_pos rfl];let f:ok c:=by
   rcases h.all r with z|⟨g,_,b,i,_⟩
   .rw [z.1]at a;cases a
   .rw [b]at a;cases a;show i
  show .inr ⟨c,vs++[.ref pt],a,f,zB,(m.mono tk).append (.one (tk _ _ o))⟩
 .rw [if_neg e];rcases h.all r with z|⟨g,j,b,i,t,u⟩
  .exact .inl z
  .let n:g≠c:=λz=>e (h.one r q c (z▸b) a);show .inr ⟨g,j,b,i,by rw[zC n];show t,u.mono tk⟩
theorem NexK.new{g a:Sf}{ok:Sf->Prop}{k:Nat}(h:NexK H g N ok k kvs)(j:valV kvs (plK q)=Sb)(l:H a=Sa (.lst []))(t:ok a)(m:∀(p:Pl)(c:Sf),valV kvs (plK p)=Sa (.ref c)->c≠a):NexK (upd H g (.dT (putK kvs (plK q) (.ref a)))) g N ok (k+1) (putK kvs (plK q) (.ref a)):=by
 let tk:TK H (upd H g (.dT (putK kvs (plK q) (.ref a)))):=.put (by intro w z;rw[h.at_]at z;cases z);let u:N q=[]:=by
  rcases h.all q with z|⟨c,n,d,_⟩
  .exact z.2
  .rw [d]at j;cases j
 let i:a≠g:=xm l h.at_ (by intro z;cases z);show⟨zB,by let:=xQ kvs (plK q) (V.ref a);let:=h.few;lia,λr=>?_,λr s c b e=>?_⟩
 .by_cases b:r=q
  .subst b;show .inr ⟨a,[],by rw[xP,if_pos rfl],t,by rw[zC i];show l,by rw[u];show .nil⟩
  .rw [xP,if_neg (λz=>b (jh z))];rcases h.all r with z|⟨c,n,d,f,o,v⟩
   .exact .inl z
   .exact .inr ⟨c,n,d,f,by rw[zC (xm o h.at_ (by intro z;cases z))];show o,v.mono tk⟩
 .rw [xP]at b e;by_cases d:plK r=plK q
  .by_cases f:plK s=plK q
   .exact jh (d.trans f.symm)
   .rw [if_pos d]at b;rw[if_neg f]at e;cases b;show absurd rfl (m s a e)
  .rw [if_neg d]at b;by_cases f:plK s=plK q
   .rw [if_pos f]at e;cases e;show absurd rfl (m r a b)
   .rw [if_neg f]at e;show h.one r s c b e
noncomputable def ye(ws:List (List Blk))(x:Int)(ps:List Pl)(q:Pl):List Pl:=ps.flatMap λp=>((metOf ws x p).filter λr=>decide (r=q)).map λ_=>p
noncomputable def yl(ws:List (List Blk))(x:Int)(ps:List Pl)(p:Pl)(ms:List Pl)(q:Pl):List Pl:=ye ws x ps q++(ms.filter λr=>decide (r=q)).map λ_=>p
theorem qJ3(a:List (List Blk))(x:Int)(b:List Pl)(p:Pl)(ms:List Pl)(r:Pl):yl a x b p (ms++[r])=snocN (yl a x b p ms) r p:=by
 funext q
 unfold yl snocN;rw[cZ,aG,<-fR];by_cases h:q=r
 .subst h;simp
 .simp [h,eI h]
theorem qLb(a:List (List Blk))(x:Int)(b:List Pl)(p:Pl):yl a x b p []=ye a x b:=by
 funext q;unfold yl;simp
theorem qJ4(a:List (List Blk))(x:Int)(b:List Pl)(p:Pl):yl a x b p (metOf a x p)=ye a x (b++[p]):=by
 funext q;unfold yl ye;rw[fZ];simp
theorem mem_behind{x:Int}:p∈ye d x e q↔p∈e/\q∈metOf d x p:=by
 unfold ye;rw[cO];constructor
 .rintro⟨g,a,h⟩;let⟨r,f,rfl⟩:=bG.mp h;let⟨b,c⟩:=cA.mp f;let:=of_decide_eq_true c;subst this;show⟨a,b⟩
 .rintro⟨b,c⟩;show⟨p,b,bG.mpr ⟨q,cA.mpr ⟨c,decide_eq_true rfl⟩,rfl⟩⟩
theorem qU4{x:Int}(h:q∈metOf a x p):p∈places a:=by
 show mem_places.mpr ?_;unfold metOf at h;split at h
 .cases h
 .rename_i b c;show⟨b,c⟩
theorem ji{a:List (List Blk)}(h:WsOk a)(x:Int)(q:Pl):∀b:List Pl,(ye a x b q).length<=22*b.length
 |[]=>aI _
 |p::r=>by
  let c:=ji h x q r;unfold ye at c ⊢;rw[fU,aF,aA,bK];let d:=cC (λr=>decide (r=q)) (metOf a x p);let e:=qRk h x p;lia
theorem qSn{a:List (List Blk)}{x:Int}{p:Pl}:(∃s∈(places a).filter (yZ a x),RT (ye a x (places a)) s p)↔Asks a x p:=by
 let d:∀p q,q∈metOf a x p↔p∈ye a x (places a) q:=λp q=>by
  rw[mem_behind];show⟨λh=>⟨qU4 h,h⟩,λh=>h.2⟩
 let e:∀p q,q∈ye a x (places a) p↔p∈metOf a x q:=λp q=>(d q p).symm;constructor
 .rintro⟨s,f,r⟩;show⟨s,r.back e,(cA.mp f).2⟩
 .rintro⟨q,r,c⟩;show⟨q,cA.mpr ⟨mem_places.mpr ?_,c⟩,r.back d⟩;unfold yZ at c;split at c
  .cases c
  .rename_i b g;show⟨b,g⟩
def qPy(K:SJ):Sp:=λvs H Q _ => ∃(wa:Sf) (ws:List (List Blk)) (x:Int),vs = [.ref wa,.int x]/\Den K H (xW ws) (.ref wa)/\WsOk ws /\
 ∀(d:Sf)(ks:List Pl)(H':Hp),H d=Sb->Ext [] H H'->H' d=Sa (.dT (trueD ks))->ks.Nodup->(∀p,p∈ks↔Asks ws x p)->Q (.ref d) H'
noncomputable def qXu(X:Cx)(own:List Str)(cap:List Nat)(scope:Su)(y:Str)(cl:List (Str×Sf))(s:Sg)(H:Hp)(ex:List Sf):Cx:=
 {zP X own cap scope ((y,s.heap.objs.size+1)::cl) s H ex with fn:=λx=>x == y}
theorem zq:(qXu X a b scope y c s H ex).K=X.K:=rfl
noncomputable def askB(ws:List (List Blk))(x:Int)(p:Pl):Bool:=@decide (Asks ws x p) (Classical.propDecidable _)
theorem askB_iff{x:Int}:askB a x p=Sc↔Asks a x p:=by unfold askB;show @decide_eq_true_iff _ (Classical.propDecidable _)
theorem qIp:typeLookup (.type "dict") "__len__"=pure (Sa (.builtin "dict.__len__")):=F.slot_dict_len.lookup
theorem qIy{ks:List Int}{kvs:List (Key×Se)}{ep:Nat}{Q:List Se->Sg->Prop}(hh:A.handled=Sb)(hs:(d == SH)=Sd)(dd:s.heap.DictAt (zy P w) d kvs ep)(hk:kvs.map (·.1)=ks.map Sum.inl)(hz:ks.length<=1000)(q:∀(vs:List Se)(h':Sk)(tk:Nat),(∀b u,s.heap.get? b=Sa u->h'.get? b=Sa u)->s.heap.objs.size<=h'.objs.size->IntsAre vs ks->Q vs {s with heap:=h',toks:=tk}):Sm (So P w) A (collect (.ref d)) Q E s:=by
 let G:kvs.length=ks.length:=by let:=congrArg List.length hk;simpa using this
 unfold collect;show aB (wpAny_runValue (dZ F.entry_proto_collect ?_));rw[cW F.plain_proto_collect _];change Sm _ A.in1 (newList [] >>=λl=>again (.builtin "list.__iadd__" ⟨[l,.ref d],[]⟩)) _ _ s;show aB (bZ ?_);show aD ⟨fX F.plain_list_iadd _,dZ F.entry_list_iadd ?_⟩;rw[cW F.plain_list_iadd _];let k1:∀b u,s.heap.get? b=Sa u->(s.heap.push {cls:=.type "list",data:=.seq ([]:List Se).toArray}).get? b=Sa u:=λb u e=>aJ _ e;let g:=dd.at' (h':=s.heap.push {cls:=.type "list",data:=.seq ([]:List Se).toArray}) λo e=>k1 d o e;let hT:Shared.TypeIs {s with heap:=s.heap.push {cls:=.type "list",data:=.seq ([]:List Se).toArray}} (.ref d) "dict":=g.dictOf.typeIs
 let j:d<s.heap.objs.size:=by let⟨o,es,ho,_⟩:=dd;show aO ho
 change Sm _ A.in1 (Builtin.List.listExtendWith (.ref s.heap.objs.size) (.ref d) (.ref s.heap.objs.size)) _ _ _;unfold Builtin.List.listExtendWith;show aB (gC hT ?_);let R:Builtin.List.listSameRef (.ref s.heap.objs.size) (.ref d)=Sd:=by simp[Builtin.List.listSameRef];show dP j
 let V:(Value.type "dict" == Value.type "list")=Sd:=by decide
 let h3:(Value.type "dict" == Value.type "tuple")=Sd:=by decide
 simp only[R,V,h3,Bool.or_false,cD,if_false];show aB (wpAny_pyIter_dict hs g ?_);rw[show({s with heap:=s.heap.push {cls:=.type "list",data:=.seq ([]:List Se).toArray}}:Sg).heap.objs.size=s.heap.objs.size+1 from dL ..];let S:∀b u,(s.heap.push {cls:=.type "list",data:=.seq ([]:List Se).toArray}).get? b=Sa u->((s.heap.push {cls:=.type "list",data:=.seq ([]:List Se).toArray}).push {cls:=.type "dict_keyiterator",data:=.fields #[.ref d,.int 0 0,.int kvs.length 0,.int ep 0]}).get? b=Sa u:=λb u e=>aJ _ e;let H:((s.heap.push {cls:=.type "list",data:=.seq ([]:List Se).toArray}).push {cls:=.type "dict_keyiterator",data:=.fields #[.ref d,.int 0 0,.int kvs.length 0,.int ep 0]}).IsKeyIter (s.heap.objs.size+1) d 0 kvs.length ep:=by
  let:=aW (h:=s.heap.push {cls:=.type "list",data:=.seq ([]:List Se).toArray}) (o:={cls:=.type "dict_keyiterator",data:=.fields #[.ref d,.int 0 0,.int kvs.length 0,.int ep 0]}) rfl;rw[dL]at this;show⟨_,this,rfl,rfl⟩
 let m:=g.at' λo e=>S d o e;let p:=S _ _ (aW (h:=s.heap) (o:={cls:=.type "list",data:=.seq ([]:List Se).toArray}) rfl);generalize (s.heap.push {cls:=.type "list",data:=.seq ([]:List Se).toArray}).push {cls:=.type "dict_keyiterator",data:=.fields #[.ref d,.int 0 0,.int kvs.length 0,.int ep 0]}=h' at S H m p ⊢;let B:Shared.TypeIs {s with heap:=h'} (.ref d) "dict":=m.dictOf.typeIs;show aB (bU ?_);unfold Builtin.List.listLengthHint;show aB (wpAny_specialOf B qIp ?_);let X:splitId "dict.__len__"=Sa ("dict","__len__"):=by kernel_rfl
 dsimp only;rw[X];dsimp only;show aB (gA (b:=Sc) B (by rw[isSubtype_type];kernel_rfl) ?_);rw[if_neg ∅];rw[if_pos (by decide +kernel)];show aB (gC B (aD ?_));rw[if_pos (by decide +kernel)];show aB (dJ ?_);show aB ?_;change Sm _ A.in1 (updateSeq s.heap.objs.size (·.push .none) >>=λ_=>updateSeq s.heap.objs.size (·.pop)) _ _ _;show aB (wpAny_updateSeq (s:={s with heap:=h'}) p rfl ?_);let I:=cS (Obj.mapSeq (·.push Value.none)) p rfl;show wpAny_updateSeq I rfl ?_;let Y:=cS (Obj.mapSeq (·.pop)) I rfl;let J:∀b u,b≠s.heap.objs.size->h'.get? b=Sa u->((h'.update s.heap.objs.size (Obj.mapSeq (·.push Value.none))).update s.heap.objs.size (Obj.mapSeq (·.pop))).get? b=Sa u:=
  λb u T e=>(cX _ _ (eI T)).trans ((cX _ _ (eI T)).trans e)
 let Z:d≠s.heap.objs.size+1:=aX (dR j);let K:s.heap.objs.size∉[s.heap.objs.size+1,d]:=λz=>by
  rcases aM.mp z with z|z
  .exact aX (eE _) z
  .let:s.heap.objs.size=d:=by simpa using z
   show dP j this
 let a0:kvs.length<=Sn:=by rw[G,bV];lia
 let W:=(Walks.dictKeys (prog:=P) (w:=w) (A:=A.in1) (knd:=zy P w) hh (s.heap.objs.size+1) d Z kvs ep).toS;show aD ⟨fX F.plain_extend_loop _,codeAny_extend_loopS W a0 _ K _ kvs.length 0 _ _ _ rfl (bL _) (W.frame 0 ({s with heap:=h'}:Sg) _ s.toks ⟨H,m⟩ (aI _) λb T u e=>J b u (λz=>K (z▸T)) e) Y (ItemsOf.nil _) λs' a c' U L c=>?_⟩;change Sm _ A (load s.heap.objs.size >>=_) _ _ s';show aB (wpAny_load L (aD ?_));let⟨V,g2,d2,a1,a2⟩:=s';let f:g2=s.gens:=U.gens;let D:d2=s.drawn:=U.drawn;let e3:a2=s.os:=U.os;subst f;subst D;subst e3;show q a.toList V a1 (λb u e=>?_) (cV (aO L)) ?_
 .let C:=aO e;show U.heap b u (λz=>?_) (J b u (aX C) (S b u (k1 b u e)));rcases aM.mp z with z|z
  .exact aX C z
  .let z2:b=s.heap.objs.size+1:=by simpa using z
   show aX (dR C) z2
 .let M:a.toList.length=ks.length:=by rw[aQ,c.1,G]
  let N:∀(i:Nat)(v:Se),a.toList[i]? = Sa v->∃n t,ks[i]? = Sa n/\v=.int n t:=λi v e=>by
   let⟨k,x,a3,a4⟩:=c.2 i v (by rw[<-bN];show e);let O:(kvs.map (·.1))[i]? = Sa k:=by rw[aR,a3];rfl
   rw[hk,aR]at O;cases hn:ks[i]? with
   |none=>rw[hn]at O;cases O
   |some n=>
    rw[hn]at O;let h6:k=Sum.inl n:=(bI O).symm;subst h6;rcases xN (show keyIs (Sum.inl n) v=Sc from a4)with ⟨i',t,f,D⟩|⟨y,t,f,D⟩
    .let f:n=i':=by first|show gV f|show gV D
     subst f;show⟨n,t,rfl,by first|show D|show f⟩
    .first|show nomatch f|show nomatch D
  let a5:∀(ks:List Int)(vs:List Se),vs.length=ks.length->(∀(i:Nat)(v:Se),vs[i]? = Sa v->∃n t,ks[i]? = Sa n/\v=.int n t)->IntsAre vs ks:=by
   intro ks
   induction ks with
   |nil=>intro vs h _;let:vs=[]:=fY.mp h;subst this;show .nil
   |cons k r ih=>
    intro vs h hg;cases vs with
    |nil=>cases h
    |cons v vr=>
     let⟨n,t,R,rfl⟩:=hg 0 v rfl;simp at R;subst R;show .cons _ t (ih vr (by simpa using h) λi v hv=>by simpa using hg (i+1) v (by simpa using hv))
  show a5 ks a.toList M N
theorem qJr{ks:List Int}{kvs:List (Key×Se)}{ep:Nat}{Q:Se->Sg->Prop}(n:A.handled=Sb)(o:(d == SH)=Sd)(p:s.heap.DictAt (zy P w) d kvs ep)(r:kvs.map (·.1)=ks.map Sum.inl)(h:ks.length<64)
  (q:∀(D:Sf)(out:Array Se)(c:Nat)(a:List Int)(h':Sk)(tk:Nat),s.heap.objs.size<=D->h'.get? D=Sa {cls:=.type "list",data:=.seq out c}->(∀b u,s.heap.get? b=Sa u->h'.get? b=Sa u)->IntsAre out.toList a->a.Perm ks->a.Pairwise (·<=·)->Q (.ref D) {s with heap:=h',toks:=tk}) :
  Sm (So P w) A (call (.builtin "sorted") [.ref d]) Q E s:=by
 show gQ kind_sorted plain_sorted entry_sorted (args_sorted1 _) ?_;unfold Builtin.«sorted»;show aB (m:=checkCount "sorted" 1 1 _) (aD ?_);show aB (qIy (A:=A.in1) n o p r ∎ λg h' tk k i l=>?_);let j:g.length<64:=by rw[IntsAre.length l];show h
 show aB (wpAny_newList ?_ (by rw[bV];lia));let f:(h'.push (seqObj "list" g.toArray 0)).get? h'.objs.size=Sa (seqObj "list" g.toArray 0):=aW _ rfl;show aB (bU (cK slot_list_sort (s:={s with heap:=h'.push (seqObj "list" g.toArray 0),toks:=tk}) ⟨_,f,rfl⟩ entry_list_sort (list_sort_tree f l j λout a t v x=>⟨_,rfl,?_⟩) (args_list_sort _)));obtain⟨⟨c,y⟩,z,_⟩:=qHc (out:=out) f;show aD ⟨_,rfl,q h'.objs.size out c a _ tk i y (λb u e=>z b u (aX (aO (k b u e))) (aJ _ (k b u e))) t v x⟩
def qYu:List V->Hp->VK->Prop:=λxs H Q=>∃(d:Sf)(ks:List Int)(kvs:List (Key×V)),xs=[.ref d]/\H d=Sa (.dK kvs)/\kvs.map (·.1)=ks.map Sum.inl/\ks.length<64/\∀(l:Sf)(ns':List Int),H l=Sb->ns'.Perm ks->ns'.Pairwise (·<=·)->Q (.ref l) (upd H l (.lst (ns'.map V.int)))
theorem qOt(n:X.A.handled=Sb):CallR X (.builtin "sorted") qYu:=by
 intro j s σ H P R Q I r h;let⟨d,S,p,rfl,t,g,v,q⟩:=h;let⟨u,rfl,x⟩:=vals1 r;cases x;let⟨z,y,B,b,o,C,E,F,G,J,K⟩:=wq I.hok t;let L:s.heap.DictAt (zy X.prog X.w) d B E:=⟨o,C,F,G,J,K⟩;show qJr n y L (by first|(rw[<-KV.keys b];show g)|(rw[KV.keys b]at g;show g)) v λD e c a T tk l f k M m N=>?_;let O:H D=Sb:=I.hok.fresh l;let i:Vals (a.map V.int) e.toList:=jF M;show⟨.ref D,_,I.laid (t':=tk) (o:=.lst (a.map V.int)) k l ⟨?_,e.toList,c,i,by simpa using f⟩,rfl,q _ a O m N⟩;rw[aA,m.length_eq,bV];lia
def NexG(H:Hp)(nd:Sf)(N:Int->List Int):Prop:=∃kvs:List (Key×V),H nd=Sa (.dK kvs)/\∀k:Int,(valV kvs (Sum.inl k)=Sb/\N k=[])\/∃c,valV kvs (Sum.inl k)=Sa (.ref c)/\H c=Sa (.lst ((N k).map V.int))
theorem NexG.mono(h:NexG H d N)(e:Same H b):NexG b d N:=by
 let⟨a,f,g⟩:=h;show⟨a,e _ _ f,λk=>(g k).imp id λ⟨c,i,j⟩=>⟨c,i,e _ _ j⟩⟩
def Nex(H:Hp)(nd:Sf)(w:List Blk):Prop:=∃kvs:List (Key×V),H nd=Sa (.dK kvs)/\∀k:Int,(valV kvs (Sum.inl k)=Sb/\¬(0<=k/\k<w.length))\/∃c,valV kvs (Sum.inl k)=Sa (.ref c)/\H c=Sa (.lst ((nxt w k).map V.int))
theorem Nex.g(h:Nex H f w)(e:Same H d):NexG d f (nxt w):=by
 let⟨c,i,j⟩:=h;show NexG.mono ⟨c,i,λk=>(j k).imp (λ⟨a,b⟩=>⟨a,qXh b⟩) id⟩ e
theorem vJ(y:Int):∀ks:List Int,valV (ks.map λk=>((Sum.inl k:Key),V.bl Sc)) (Sum.inl y)=if y∈ks then Sa (V.bl Sc) else Sb
 |[]=>rfl
 |k::r=>by
  let a:=vJ y r;by_cases e:k=y
  .subst e;rw[bJ,yp rfl,if_pos (aT ..)]
  .rw [bJ,yq (λz=>e (gV z)),a];let:(y∈k::r)↔y∈r:=by simp[eI e]
   simp only[this]
def qV3(K:SJ):Sp:=λvs H Q _ => ∃(st nd:Sf) (N:Int->List Int) (ss U:List Int),vs = [.ref st,.ref nd]/\(SqL K H st (ss.map V.int)\/SqT K H st (ss.map V.int))/\NexG H nd N/\(∀s∈ss,s∈U)/\(∀x∈U,∀y∈N x,y∈U)/\U.length<=100/\(∀x,(N x).length<=400)/\ss.length<=100 /\
 ∀(d:Sf)(ks:List Int)(H':Hp),H d=Sb->Ext [] H H'->H' d=Sa (.dK (ks.map λk=>((Sum.inl k:Key),V.bl Sc)))->ks.Nodup->(∀x,x∈ks ↔ ∃s∈ss,Reach N s x)->Q (.ref d) H'
structure LedGI(H:Hp)(d du:Sf)(N:Int->List Int)(ss U ks due:List Int)(H':Hp):Prop where
 ext:Ext [] H H'
 hd:H' d=Sa (.dK (ks.map λk=>((Sum.inl k:Key),V.bl Sc)))
 hdu:H' du=Sa (.lst (due.map V.int))
 nod:ks.Nodup
 rk:∀x∈ks,∃s∈ss,Reach N s x
 rd:∀x∈due,∃s∈ss,Reach N s x
 clo:∀k∈ks,∀c∈N k,c∈ks\/c∈due
 one:∀s∈ss,s∈ks\/s∈due
 sU:∀k∈ks,k∈U
 fewd:due.length<=100+400*ks.length
theorem LedGI.end_(h:LedGI H d f N a U ks [] e)(x:Int):x∈ks ↔ ∃s∈a,Reach N s x:=by
 let b:∀s∈a,∀y,Reach N s y->y∈ks:=by
  intro s c y r
  induction r with
  |refl=>show(h.one s c).elim id λz=>absurd z ∅
  |step _ g i=>show(h.clo _ i _ g).elim id λz=>absurd z ∅
 show⟨h.rk x,λ⟨s,c,r⟩=>b s c x r⟩
theorem qMz{N:Int->List Int}{U:List Int}(b:∀x∈U,∀y∈N x,y∈U){a x:Int}(c:a∈U)(r:Reach N a x):x∈U:=by
 induction r with
 |refl=>show c
 |step _ h d=>show b _ d _ h
def jj(K:SJ):Sp:=λvs H Q E=>qV3 K vs H Q E\/qV2 K vs H Q E
noncomputable def hasW(wk:List Blk)(x:Int)(i:Nat):Bool:=(wk[i]?).any λb=>wrote x b.ds
noncomputable def wrTo(wk:List Blk)(x:Int)(i:Nat):List Int:=((List.range i).filter (hasW wk x)).map λ(n:Nat)=>(n:Int)
theorem qJc(a:List Blk)(x:Int)(i:Nat):wrTo a x (i+1)=if hasW a x i=Sc then wrTo a x i++[(i:Int)]else wrTo a x i:=by
 unfold wrTo;rw[eC,cZ,eU,fD];split
 .rw [aG];rfl
 .rw [cG]
theorem uP(a:List Blk)(x:Int)(i:Nat):(wrTo a x i).length<=i:=by
 unfold wrTo;rw[aA];let:=cC (hasW a x) (List.range i);rw[cL]at this;show this
theorem qRz{x:Int}{i:Nat}(h:a[i]? = Sa b):hasW a x i=wrote x b.ds:=by unfold hasW;rw[h];rfl
theorem mem_wrTo{x y:Int}{i:Nat}:y∈wrTo c x i ↔ ∃n:Nat,y=(n:Int)/\n<i/\hasW c x n=Sc:=by
 unfold wrTo;rw[bG];constructor
 .rintro⟨n,d,rfl⟩;let⟨a,b⟩:=cA.mp d;show⟨n,rfl,aZ.mp a,b⟩
 .rintro⟨n,rfl,a,b⟩;show⟨n,cA.mpr ⟨aZ.mpr a,b⟩,rfl⟩
def jk(K:SJ):Sp:=λvs H Q _ => ∃(wa:Sf) (wk:List Blk) (m works x:Int),vs = [.ref wa,.int x]/\Den K H (workD wk) (.ref wa)/\WorkOk m works wk/\m<=12 /\
 ∀(l:Sf)(H':Hp),H l=Sb->Ext [] H H'->H' l=Sa (.lst ((wrTo wk x wk.length).map V.int))->Q (.ref l) H'
noncomputable def waitTo(ws:List (List Blk))(x:Int)(n i:Nat):List Int:=((List.range i).filter λ(a:Nat)=>askB ws x ((n:Int),(a:Int))).map λ(a:Nat)=>(a:Int)
theorem qG7(a:List (List Blk))(x:Int)(n i:Nat):waitTo a x n (i+1)=if askB a x ((n:Int),(i:Int))=Sc then waitTo a x n i++[(i:Int)]else waitTo a x n i:=by
 unfold waitTo;rw[eC,cZ,eU,fD];split
 .rw [aG];rfl
 .rw [cG]
theorem qNv(b:List (List Blk))(x:Int)(n i:Nat):(waitTo b x n i).length<=i:=by
 unfold waitTo;rw[aA];let:=cC (λa:Nat=>askB b x ((n:Int),(a:Int))) (List.range i);rw[cL]at this;show this
def qJp(K:SJ):Sp:=λvs H Q _ => ∃(wa:Sf) (ws:List (List Blk)) (n:Nat) (wk:List Blk) (x:Int),vs = [.ref wa,.int n,.int x]/\Den K H (xW ws) (.ref wa)/\WsOk ws/\ws[n]? = Sa wk /\
 ∀(l:Sf)(H':Hp),H l=Sb->Ext [] H H'->H' l=Sa (.lst ((waitTo ws x n wk.length).map V.int))->Q (.ref l) H'
noncomputable def vK(wk:List Blk)(x:Int):List Int:=(wrTo wk x wk.length).flatMap (nxt wk)
theorem jl{α β : Type}(f : α -> List β)(h:∀a,(f a).length<=2):∀l:List α,(l.flatMap f).length<=2*l.length
 |[]=>aI _
 |a::r=>by
  let:=jl f h r;let:=h a;rw[fU,aF,bK];lia
def qJl(K:SJ):Sp:=λvs H Q _ => ∃(wa:Sf) (ws:List (List Blk)) (n:Nat) (wk:List Blk) (x:Int),vs = [.ref wa,.int n,.int x]/\Den K H (xW ws) (.ref wa)/\WsOk ws/\ws[n]? = Sa wk /\
 ∀(l:Sf)(ns:List Int)(H':Hp),H l=Sb->Ext [] H H'->H' l=Sa (.lst (ns.map V.int))->ns.Pairwise (·<=·)->ns.Nodup->(∀y,y∈ns ↔ ∃s∈vK wk x,Reach (nxt wk) s y)->Q (.ref l) H'
theorem qMy:∀ {ns:List Int} {lo hi:Int},ns.Pairwise (· <= ·)->ns.Nodup->(∀n∈ns,lo<=n/\n<hi)->(ns.length:Int)<=max 0 (hi - lo)
 |[],_,_,_,_,_=>by simp;lia
 |n::r,lo,hi,j,k,i=>by
  let⟨d,e⟩:=eT.mp j;let⟨f,g⟩:=cQ.mp k;let l:=i n (aT ..);let:=qMy (ns:=r) (lo:=n+1) (hi:=hi) e g λm h=>by
   let a:=d m h;let b:=i m (aS _ h);let c:m≠n:=λz=>f (z▸h);lia
  rw[bK];lia
noncomputable def lcg(M i:Nat):Nat:=(i*5+1)%M
noncomputable def orb(M:Nat):Nat->Nat->Nat
 |0,i=>i
 |j+1,i=>orb M j (lcg M i)
theorem qNa(M:Nat):∀j i,orb M (j+1) i=lcg M (orb M j i)
 |0,_=>rfl
 |j+1,i=>qNa M j (lcg M i)
theorem kU(M a:Nat):∀b i,orb M (a+b) i=orb M b (orb M a i)
 |0,_=>rfl
 |b+1,i=>by
  change orb M (a+b) (lcg M i)=orb M b (lcg M (orb M a i));rw[kU M a b (lcg M i),<-qNa];rfl
noncomputable def Cyc(M:Nat):Bool:=((List.range M).all λx=>(List.range M).any λj=>orb M j 0 == x)&&(orb M M 0 == 0)
theorem Cyc.from{M:Nat}(h:Cyc M=Sc){i x:Nat}(hi:i<M)(l:x<M):∃j,j<M/\orb M j i=x:=by
 unfold Cyc at h;rw[bT,dM]at h;let⟨f,e⟩:=h;let e:=beq_iff_eq.mp e;let⟨a,g,c⟩:=bX.mp (f i (aZ.mpr hi));let⟨b,k,d⟩:=bX.mp (f x (aZ.mpr l));let g:=aZ.mp g;let k:=aZ.mp k;let c:=beq_iff_eq.mp c;let d:=beq_iff_eq.mp d;by_cases m:a<=b
 .refine⟨b-a,∎,?_⟩;rw[<-c,<-kU,show a+(b-a)=b by lia];show d
 .refine⟨M+b-a,∎,?_⟩;rw[<-c,<-kU,show a+(M+b-a)=M+b by lia,kU,e];show d
noncomputable def pows:List Nat:=[8,16,32,64,128]
theorem qUj:∀M∈pows,Cyc M=Sc:=by decide +kernel
theorem qKu{a:Nat}(e:owner.size=a+1):∀(fuel i p:Nat),p<32->i<a+1 ->
  (∃j,SetTable.layClean.free a owner fuel i p=Sa j/\j<a+1/\owner[j]? = Sa Sb)\/(∀j,j<fuel->∃v,owner[orb (a+1) j i]? = Sa (Sa v))
 |0,_,_,_,_=>.inr λj d=>absurd d (Nat.not_lt_zero _)
 |fuel+1,i,p,l,hi=>by
  unfold SetTable.layClean.free;let f:i<=SetTable.runEnd a i/\SetTable.runEnd a i<=a:=by unfold SetTable.runEnd;split<;>lia
  cases hf:(List.range (SetTable.runEnd a i+1-i)).find? λk=>(owner.getD (i+k) (Sa 0)).isNone with
  |some k=>
   let c:=List.find?_some hf;let m:=aZ.mp (List.mem_of_find?_eq_some hf);let b:i+k<owner.size:=by lia
   show .inl ⟨i+k,rfl,∎,?_⟩;rw[cB,bR b]at c;rw[bR b];let c:(owner[i+k]).isNone=Sc:=c;rw[Option.isNone_iff_eq_none.mp c]
  |none=>
   dsimp only;let g:SetTable.leap a i p=(lcg (a+1) i,0):=by
    unfold SetTable.leap lcg;rw[show p / 32=0 by lia]
   rw[g];dsimp only;rcases qKu e fuel (lcg (a+1) i) 0 ∎ (Nat.mod_lt _ ∎)with z|z
   .exact .inl z
   .refine .inr λj d=>?_;cases j with
    |zero=>
     let:=List.find?_eq_none.mp hf 0 (aZ.mpr ∎);let b:i<owner.size:=by lia
     rw[Nat.add_zero,cB,bR b]at this;change ∃v,owner[i]? = Sa (Sa v);rw[bR b];let this:¬(owner[i]).isNone=Sc:=this;cases h:owner[i]with
     |none=>rw[h]at this;show absurd rfl this
     |some v=>show⟨v,rfl⟩
    |succ j=>show z j ∎
theorem qJs{k:Nat}:∀ {l:List (Option Nat)} {j:Nat},l[j]? = Sa Sb->((l.set j (Sa k)).filterMap id).Perm (k::l.filterMap id)
 |[],j,h=>by simp at h
 |a::l,0,h=>by
  simp at h;subst h;show .refl _
 |a::l,j+1,h=>by
  let b:=qJs (k:=k) (l:=l) (j:=j) (by simpa using h);rw[List.set_cons_succ];cases a with
  |none=>show b
  |some v=>
   change(v::(l.set j (Sa k)).filterMap id).Perm (k::v::l.filterMap id);show(List.Perm.cons v b).trans (List.Perm.swap ..)
theorem qJt:∀l:List (Option Nat),(∀j,j<l.length -> ∃v,l[j]? = Sa (Sa v))->(l.filterMap id).length=l.length
 |[],_=>rfl
 |a::l,h=>by
  let⟨v,b⟩:=h 0 ∅;simp at b;subst b;change(v::l.filterMap id).length=_;rw[bK,bK,qJt l λj c=>by simpa using h (j+1) (by simpa using c)]
theorem qOw{h:Int}(a:0<=h)(b:h<32):SetTable.bits h<32:=by unfold SetTable.bits;lia
theorem qW0{a:Nat}(q:a+1∈pows):∀(hs:List Int) (owner:Array (Option Nat)) (k:Nat),(∀h∈hs,0<=h/\h<32)->owner.size=a+1->(owner.toList.filterMap id).Perm (List.range k)->k+hs.length<=a ->
  ∃f,(hs.foldl (λn h=>(do
   let (owner,k) <-n
   let j <-SetTable.layClean.free a owner (SetTable.turns a) (SetTable.bits h%(a+1)) (SetTable.bits h)
   pure (owner.setIfInBounds j (Sa k),k+1):Option (Array (Option Nat)×Nat))) (Sa (owner,k)))=Sa (f,k+hs.length)/\f.size=a+1/\(f.toList.filterMap id).Perm (List.range (k+hs.length))
 |[],owner,k,_,d,l,_=>⟨owner,rfl,d,l⟩
 |h::hs,owner,k,r,d,l,u=>by
  let⟨w,y⟩:=r h (aT ..);rw[bK]at u;let b:∃j,SetTable.layClean.free a owner (SetTable.turns a) (SetTable.bits h%(a+1)) (SetTable.bits h)=Sa j/\j<a+1/\owner[j]? = Sa Sb:=by
   rcases qKu d (SetTable.turns a) (SetTable.bits h%(a+1)) (SetTable.bits h) (qOw w y) (Nat.mod_lt _ ∎)with z|z
   .exact z
   .exfalso;let g:∀j,j<owner.toList.length->∃v,owner.toList[j]? = Sa (Sa v):=λx m=>by
     rw[aQ,d]at m;let⟨j,s,e⟩:=Cyc.from (qUj _ q) (i:=SetTable.bits h%(a+1)) (Nat.mod_lt _ ∎) m;let⟨v,t⟩:=z j (by unfold SetTable.turns;lia);rw[e]at t;show⟨v,by rw[bN];show t⟩
    let A:=qJt _ g;let B:=l.length_eq;rw[cL,A,aQ,d]at B;lia
  let⟨j,s,C,o⟩:=b
  let c:((do
   let (owner,k) <-Sa (owner,k)
   let j <-SetTable.layClean.free a owner (SetTable.turns a) (SetTable.bits h%(a+1)) (SetTable.bits h)
   pure (owner.setIfInBounds j (Sa k),k+1)):Option (Array (Option Nat)×Nat))=Sa (owner.setIfInBounds j (Sa k),k+1):=by
   change(SetTable.layClean.free a owner (SetTable.turns a) (SetTable.bits h%(a+1)) (SetTable.bits h)).bind _=_;rw[s];rfl
  let p:((owner.setIfInBounds j (Sa k)).toList.filterMap id).Perm (List.range (k+1)):=by
   rw[Array.toList_setIfInBounds];show(qJs (by rw[bN];show o)).trans ?_;rw[eC];show(List.Perm.cons k l).trans (List.perm_append_singleton k _).symm
  let⟨f,e,D,E⟩:=qW0 q hs (owner.setIfInBounds j (Sa k)) (k+1) (λx m=>r x (aS _ m)) (by rw[Array.size_setIfInBounds];show d) p ∎;show⟨f,?_,D,by rw[bK,show k+(hs.length+1)=k+1+hs.length by lia];show E⟩;rw[gD,c,e,bK,show k+(hs.length+1)=k+1+hs.length by lia]
theorem qE7{α : Type}:∀n:Nat,((List.replicate n (Sb:Option α)).filterMap id) = []
 |0=>rfl
 |n+1=>by rw[eL];show qE7 n
theorem qM2{a:Nat}(f:a+1∈pows)(g:∀h∈b.toList,0<=h/\h<32)(j:b.size<=a):∃c,SetTable.layClean a b=Sa c/\c.size=a+1/\(c.toList.filterMap id).Perm (List.range b.size):=by
 let⟨c,e,i,d⟩:=qW0 f b.toList (Array.replicate (a+1) Sb) 0 g ∅ (by rw[Array.toList_replicate,qE7];show .refl _) (by rw[aQ];lia);rw[aQ,Nat.zero_add]at d;show⟨c,?_,i,d⟩;unfold SetTable.layClean;rw[<-Array.foldl_toList,e];rfl
theorem qNg(L:List (Option Nat)):∀n,n<=L.length->(((List.range n).filterMap λj=>(L.getD j Sb).map (j,·)).map (·.2))=(L.take n).filterMap id
 |0,_=>by simp
 |n+1,h=>by
  let b:=qNg L n ∎;rw[eC,dE,aG,b,List.take_succ,dE]
  congr 1
  let a:n<L.length:=by lia
  rw[aE a];let:L.getD n Sb=L[n]:=by rw[aV,aE a];rfl
  rw[cU,this];cases L[n]<;>rfl
theorem qRl{owner:Array (Option Nat)}{n:Nat}:(((List.range n).filterMap λj=>(owner.getD j Sb).map (j,·)).map (·.1)).Pairwise (· < ·):=by
 let b:∀l:List Nat,((l.filterMap λj=>(owner.getD j Sb).map (j,·)).map (·.1)).Sublist l:=by
  intro l
  induction l with
  |nil=>show .slnil
  |cons a r c=>
   rw[cU];cases owner.getD a Sb with
   |none=>show c.cons _
   |some k=>show c.cons₂ a
 show List.Pairwise.sublist (b _) fG
theorem qRo{a finger moves:Nat}{led plain:Bool}(m:a+1∈pows)(n:∀h∈c.toList,0<=h/\h<32)(g:c.size<=a):∃t order,SetTable.laid a finger moves led plain c=Sa (t,order)/\order.toList.Perm (List.range c.size)/\GoodT led t c.size/\t.mask=a/\t.dummies=#[]:=by
 let⟨d,e,i,k⟩:=qM2 m n g;let b:=qNg d.toList (a+1) (by rw[aQ,i];show aI _);rw[cY (by rw[aQ,i];show aI _)]at b;let l:(λj=>(d.getD j Sb).map (j,·))=λj=>(d.toList.getD j Sb).map ((j:Nat),·):=by
  funext j
  rw[cB,aV,bN]
 let f:((List.range (a+1)).filterMap λj=>(d.getD j Sb).map (j,·)).length=c.size:=by
  let:=congrArg List.length b;rw[aA,<-l]at this;rw[this,k.length_eq,cL]
 show⟨_,_,by unfold SetTable.laid;rw[e];rfl,?_,⟨?_,?_,rfl⟩,rfl,rfl⟩
 .rw [l];change List.Perm (((List.range (a+1)).filterMap λj=>(d.toList.getD j Sb).map (j,·)).map (·.2)) _;rw[b];show k
 .unfold SetTable.fits SetTable.fill;simp only[aP,aA,f];simp;show g
 .exact qRl
theorem jm{es:Array (Int×Se)}{order:Array Nat}(h:order.toList.Perm (List.range es.size)):(order.filterMap (es[·]?)).toList.Perm es.toList:=by
 let a:(order.filterMap (es[·]?)).toList=order.toList.filterMap (es[·]?):=by rw[Array.toList_filterMap]
 rw[a];show(h.filterMap _).trans ?_;let b:∀n,n<=es.size->(List.range n).filterMap (es[·]?)=es.toList.take n:=by
  intro n
  induction n with
  |zero=>intro _;simp
  |succ n c=>
   intro d;rw[eC,dE,c ∎,List.take_succ]
   congr 1
   rw[cU,List.filterMap_nil,bN,bR ∎];rfl
 rw[b es.size (aI _),cY (by rw[aQ];show aI _)]
theorem qMd:∀n,n<128->SetTable.sizeAbove n∈pows/\n<SetTable.sizeAbove n:=by decide +kernel
theorem qUr{n:Int}{tk:Tok}(S:SetI w s.heap a ns)(N:ns.length+1<scanBound)(h:∀h',Heap.SameBut a s.heap h'->SetI w h' a (addN ns n)->Q (!decide (n∈ns)) {s with heap:=h'}):Sm (So P w) A (setAddHashed a (.int n tk) (hashInt n)) Q E s:=by
 change Sm (So P w) A (setAddHashed a (.int n tk) ((intKind P w).hash n)) Q E s;let⟨o,u,X,t,y,p,B,f,C,O,T,g⟩:=S;let U:u.size=ns.length:=by rw[<-C.length_eq,aA,aQ]
 let v:=EI.elems (P:=P) (w:=w) f;let D:=intKind_is P w n tk;unfold setAddHashed setAddHashedIn;show bU (aB (eM y B g.fits ?_));dsimp only;rw[byScan_of (knd:=intKind P w) (x:=.int n tk) rfl T v];simp only[↓reduceIte];unfold setAddByScan;show aB (aB (dJ (aB (wpAny_setScan_of (knd:=intKind P w) (k:=n) D y B g.fits v ?_))));cases V:List.findIdx? (λe=>(intKind P w).is n e.2) u.toList with
 |some j=>
  dsimp only;let⟨Y,R,_⟩:=List.findIdx?_eq_some_iff_getElem.mp V;let F:n∈ns:=C.mem_iff.mp ((kI (P:=P) (w:=w) f n).mpr ⟨_,cN Y,R⟩);show aD (aD ?_);let q:=h s.heap (fB a s.heap) ⟨o,u,X,t,y,p,B,f,by unfold addN;rw[if_pos F];show C,wV O,T,g⟩;rw[decide_eq_true F]at q;show q
 |none=>
  dsimp only;let F:n∉ns:=λz=>by
   let⟨e,v,q⟩:=(kI (P:=P) (w:=w) f n).mp (C.mem_iff.mpr z);let:=List.findIdx?_eq_none_iff.mp V e v;rw[q]at this;cases this
  let G:∀(b:Bool){c:Sg}{l:Unit->Sg->Prop},l () c->Sm (So P w) A (match b with|true=>rule "set.scan.the-table-gave-way"|false=>pure ()) l E c:=λb c l i=>by
   cases b
   .exact aD i
   .exact dJ i
  let d:=layNew_perm t u ((intKind P w).hash n) (.int n tk);let H:=Qy (h:=(intKind P w).hash n) (x:=.int n tk) g;generalize layNew t u ((intKind P w).hash n) (.int n tk)=L at d H ⊢;let⟨r,t1,wd,W⟩:=L;dsimp only at d H ⊢;rw[Array.toList_push]at d;let m:∀e∈r.toList,EI e:=λe v=>by
   rcases aN.mp (d.mem_iff.mp v)with z|z
   .exact f e z
   .rw [aH]at z;show⟨n,tk,z⟩
  let Z:r.size=u.size+1:=by rw[<-aQ,d.length_eq,aF,aQ];rfl
  let I:(r.toList.map keyI).Perm (addN ns n):=by
   unfold addN;rw[if_neg F];show(d.map keyI).trans ?_;rw[aG];show C.append_right _
  let J:∀h',Heap.SameBut a s.heap h'->SetI w h' a (addN ns n)->Q Sc {s with heap:=h'}:=λh' K M=>by
   let q:=h h' K M;rw[decide_eq_false F]at q;show q
  show aB (G _ ?_);let a0:∀(b:Bool)(c:Sg)(l:Unit->Sg->Prop),l () c->Sm (So P w) A (match b with|true=>rule "set.scan.the-table-gave-way"|false=>pure ()) l E c:=λb c l i=>G b i;split
  .refine aB ?_;rw[hashByValue_scannable 8 (x:=.int n tk) rfl];show aD ?_;show kJ (λb c l i=>?_) y p B m I (wV O) ∎ ?_ (λh' K M=>?_)
   .cases b
    .exact aD i
    .exact dJ i
   .split
    .exact H
    .exact H.plainOff
   .dsimp only;show aD (J h' K M)
  .refine aB (aD ?_);simp only[↓reduceIte];show kJ (λb c l i=>?_) y p B m I (wV O) ∎ H (λh' K M=>?_)
   .cases b
    .exact aD i
    .exact dJ i
   .dsimp only;show aD (J h' K M)
def SetT(w:Si)(h:Sk)(a:Sf)(ns:List Int)(es:Array (Int×Se))(ep:Nat)(t:SetTable):Prop:=
 ∃o,h.get? a=Sa o/\o.ExactSet/\o.data=.set es ep t/\(∀e∈es.toList,EI e)/\(es.toList.map keyI).Perm ns/\ns.Nodup/\es.size<scanBound/\GoodT (!yE w) t es.size
theorem SetI.table(S:SetI w h a ns):∃es ep t,SetT w h a ns es ep t:=by
 let⟨o,es,ep,t,r⟩:=S;show⟨es,ep,t,o,r⟩
theorem SetT.setI{ep:Nat}{t:SetTable}(S:SetT w h a ns es ep t):SetI w h a ns:=by
 let⟨o,r⟩:=S;show⟨o,es,ep,t,r⟩
theorem SetT.stay{ep:Nat}{t:SetTable}(S:SetT w h a ns es ep t)(k:∀o,h.get? a=Sa o->h'.get? a=Sa o):SetT w h' a ns es ep t:=by
 let⟨o,e,r⟩:=S;show⟨o,k o e,r⟩
theorem SetT.len{ep:Nat}{t:SetTable}(S:SetT w h a ns es ep t):es.size=ns.length:=by
 let⟨o,_,_,_,_,p,_⟩:=S;rw[<-p.length_eq,aA,aQ]
theorem SetT.state{ep:Nat}{t:SetTable}(S:SetT w s.heap a ns es ep t)(q:Q (es,ep,t) s):Sm (So P w) A (setState a) Q E s:=by
 let⟨o,b,_,c,_,_,_,_,g⟩:=S;show eM b c g.fits q
theorem SetT.put{ep:Nat}{t t':SetTable}(S:SetT w s.heap a ns es ep t)(b:∀e∈es'.toList,EI e)(j:(es'.toList.map keyI).Perm ms)(k:ms.Nodup)(f:es'.size<scanBound)(g:GoodT (!yE w) t' es'.size)(q:∀h',Heap.SameBut a s.heap h'->SetT w h' a ms es' (ep+1) t'->Q () {s with heap:=h'}):Sm (So P w) A (storeSet a es' t') Q E s:=by
 let⟨o,h,c,d,_⟩:=S;show wpAny_storeSet_of h d ?_ (gN f);let i:=cS (Obj.putSet es' t') h (by rw[putSet_of es' t' d];rfl);rw[putSet_of es' t' d]at i;show q _ (cF s.heap a (Obj.putSet es' t')) ⟨_,i,c,rfl,b,j,k,f,g⟩
def Small(ns:List Int):Prop:=∀n∈ns,0<=n/\n<32
theorem qOo{n:Int}(a:0<=n)(b:n<32):hashInt n=n:=by
 let:∀k:Fin 32,hashInt (k.1:Int)=(k.1:Int):=by decide +kernel
 let:=this ⟨n.toNat,∎⟩;simpa[dD a]using this
theorem qFn{es:Array (Int×Se)}{ns:List Int}(a:∀e∈es.toList,EI e)(f:(es.toList.map keyI).Perm ns)(g:Small ns):∀h∈(es.map (·.1)).toList,0<=h/\h<32:=by
 intro h c;rw[Array.toList_map]at c;let⟨e,d,rfl⟩:=bG.mp c;let⟨n,t,rfl⟩:=a e d;let b:=g n (f.mem_iff.mp (bG.mpr ⟨_,d,rfl⟩));let:hashInt n=n:=by
  show qOo b.1 b.2
 change 0<=hashInt n/\hashInt n<32;rw[this];show b
theorem reord{es:Array (Int×Se)}{t:SetTable}{order:Array Nat}{laid:Option (SetTable×Array Nat)}{Q:(Array (Int×Se)×SetTable)->Sg->Prop}(b:laid=Sa (t,order))(c:order.toList.Perm (List.range es.size))(q:Q (order.filterMap (es[·]?),t) s):Sm (So P w) A (do
   let Sa (t,order):=laid|unsupported "internal:set-table-without-room"
   let a:=order.filterMap (es[·]?)
   if a.size != es.size then unsupported "internal:set-table-lost-an-element"
   pure (a,t)) Q E s:=by
 subst b;dsimp only;let d:(order.filterMap (es[·]?)).size=es.size:=by rw[<-aQ,(jm c).length_eq,aQ]
 rw[d];simp only[bne_self_eq_false,cD,if_false];show aD q
theorem qYc{ep b:Nat}{t:SetTable}(S:SetT w s.heap a ns es ep t)(r:Small ns)(hw:b<128)(G:ns.length<=b)(q:∀h' es' t',Heap.SameBut a s.heap h'->SetT w h' a ns es' (ep+1) t'->t'.mask+1∈pows->b<=t'.mask->Q () {s with heap:=h'}):Sm (So P w) A (setRelay a b) Q E s:=by
 let⟨i,H⟩:=qMd b hw;let u:SetTable.sizeAbove b<=128:=by
  let:∀M∈pows,M<=128:=by decide
  show this _ i
 let j:=S.len;let⟨o,I,v,J,d,k,y,f,g⟩:=id S;unfold setRelay;show aB (S.state ?_);dsimp only;rw[if_neg (by rw[bV];lia)];let l:SetTable.sizeAbove b-1+1∈pows:=by rw[show SetTable.sizeAbove b-1+1=SetTable.sizeAbove b by lia];show i
 let⟨t',order,z,h,m,n,K⟩:=qRo (finger:=t.finger) (moves:=t.movedTo (SetTable.sizeAbove b-1)) (led:=t.led) (plain:=t.plain) l (qFn d k r) (by rw[Array.size_map];lia);rw[Array.size_map]at h m;show aB (reord (es:=es) (laid:=t.relaid (es.map λ(x:Int×Se)=>x.1) b) (t:=t') (order:=order) z h ?_);dsimp only;let c:=jm h;let p:(order.filterMap (es[·]?)).size=es.size:=by rw[<-aQ,c.length_eq,aQ]
 let B:GoodT (!yE w) t' (order.filterMap (es[·]?)).size:=by rw[p,<-g.led];show m
 show S.put (es':=order.filterMap (es[·]?)) (t':=t') (ms:=ns) (λe C=>d e (c.mem_iff.mp C)) ((c.map keyI).trans k) y (by rw[p];show f) B λh' D F=>q h' _ t' D F (by rw[n];show l) (by rw[n];lia)
theorem roomI{ep more:Nat}{t:SetTable}(S:SetT w s.heap a ns es ep t)(e:Small ns)(l:ns.length+more<=60)(f:t.fill=0->t.mask+1∈pows)(q:∀h' es' b t',Heap.SameBut a s.heap h'->SetT w h' a ns es' b t'->(t'.fill=0->t'.mask+1∈pows/\more<=t'.mask)->Q () {s with heap:=h'}):Sm (So P w) A (setRoomFor a more) Q E s:=by
 let c:=S.len;let m:t.place.size=es.size:=by let⟨o,_,_,_,_,_,_,_,g⟩:=S;show kL g.fits
 unfold setRoomFor;show aB (S.state ?_);dsimp only;unfold SetTable.roomFor;by_cases d:(t.fill+more)*5>=t.mask*3
 .rw [if_pos d];dsimp only;show qYc S e ∎ ∎ λh' es' t' h i j n=>q h' es' _ t' h i λ_=>⟨j,∎⟩
 .rw [if_neg d];dsimp only;show aD (q s.heap es ep t (fB a s.heap) S λk=>⟨f k,∎⟩)
theorem walkI{ep:Nat}{t:SetTable}(S:SetT w s.heap a ns es ep t)(q:∀c d,c.toList.Perm es.toList->Q c {s with drawn:=d}):Sm (So P w) A (setWalk a) Q E s:=by
 let⟨o,k,h,l,i,m,n,j,g⟩:=id S;unfold setWalk;show aB (S.state ?_);dsimp only;unfold setsByText;show aB (aB (dH (aD ?_)));change Sm _ _ (if w.params.followText "set-order"=Sc then _ else _) _ _ _;cases b:yE w with
 |true=>
  rw[if_pos (show(w.params.followText "set-order")=Sc from b)];show aB (dH (aD ?_));show q _ s.drawn (qKd _ _)
 |false=>
  rw[if_neg (show ¬(w.params.followText "set-order")=Sc from λz=>by rw[show(w.params.followText "set-order")=Sd from b]at z;cases z)];let e:t.led=Sc:=by rw[g.led,b];rfl
  split
  .refine aB ?_;rw[<-aQ];show ja es.toList λp d f=>aD (q _ d f)
  .refine aB ?_;change Sm _ _ (if (!t.led&&decide (es.size>1))=Sc then unsupported "set:maker-not-led" else pure PUnit.unit) _ _ _;rw[if_neg (by rw[e];simp)];show aD (aD (q es s.drawn (.refl _)))
theorem qYy{ep r:Nat}{t u:SetTable}(S:SetT w s.heap a ns es ep t)(O:SetT w s.heap b ms p r u)(q:Q Sc s):Sm (So P w) A (setsQuiet [a,b]) Q E s:=by
 unfold setsQuiet;show aB (wpAny_forIn_list _ (λrest c j=>j=s/\c.1=Sb/\∀x∈rest,∃ns es ep t,SetT w s.heap x ns es ep t) _ ?_ ?_ _ _ ?_)
 .rintro x rest I j ⟨rfl,f,d⟩;let⟨ns,es,ep,t,v⟩:=d x (aT ..);let⟨o,B,C,D,k,J,K,F,g⟩:=id v;show aB (gW B D g.fits ?_);show aB (MeetsSeq2.wpAny_forIn_array _ (λrest c i=>i=j/\c.1=Sb/\∀e∈rest,EI e) _ ?_ ?_ _ _ ?_)
  .rintro e l L i ⟨rfl,f,m⟩;let⟨n,tk,rfl⟩:=m e (aT ..);show aD ⟨rfl,rfl,λe h=>m e (aS _ h)⟩
  .rintro⟨c,u⟩ i ⟨rfl,f,_⟩;dsimp only at f;subst f;show aD ⟨rfl,rfl,λy G=>d y (aS _ G)⟩
  .exact⟨rfl,rfl,k⟩
 .rintro⟨c,u⟩ j ⟨rfl,f,_⟩;dsimp only at f;subst f;show aD q
 .refine⟨rfl,rfl,λx H=>?_⟩;rcases aM.mp H with z|z
  .exact z▸⟨_,_,_,_,S⟩
  .exact (aH.mp z)▸⟨_,_,_,_,O⟩
theorem GoodT.flags{b:Bool}{t u:SetTable}{n:Nat}(g:GoodT b t n)(c:u.mask=t.mask)(a:u.place=t.place)(d:u.dummies=t.dummies)(e:u.led=b):GoodT b u n:=by
 show⟨?_,by rw[a];show g.rise,e⟩;let:=g.fits;unfold SetTable.fits SetTable.fill at this ⊢;rw[c,a,d];show this
theorem qWh{ep m:Nat}{t u:SetTable}(n:a≠b)(S:SetT w s.heap a ns es ep t)(O:SetT w s.heap b ms e m u)(q:∀c h' d es' f t',c.toList.Perm e.toList->Heap.SameBut a s.heap h'->SetT w h' a ns es' f t'->Q c {s with heap:=h',drawn:=d}):Sm (So P w) A (setWalkUnseen b [a] (Sa a)) Q E s:=by
 unfold setWalkUnseen;show aB (O.state ?_);dsimp only;unfold setsByText;show aB (aB (dH (aD ?_)));let p:∀{k:Array (Int×Se)->Sg->Prop},(∀c d,c.toList.Perm e.toList->k c {s with drawn:=d})->Sm (So P w) A (setWalk b) k E s:=λz=>walkI O z;split
 .exact p λc d h=>q c s.heap d es ep t h (fB a s.heap) S
 .refine aB (qYy O S ?_);simp only[Bool.not_true,cD,if_false];show aB (dJ ?_);show aB (S.state ?_);dsimp only;let l:=S;let⟨o,C,r,D,i,h,v,j,g⟩:=S;let x:u.led=(!yE w):=by let⟨_,_,_,_,_,_,_,_,g⟩:=O;show g.led
  split
  .refine aB (l.put (t':={t with led:=t.led&&u.led,plain:=t.plain&&u.plain}) i h v j (g.flags rfl rfl rfl (by change(t.led&&u.led)=_;rw[g.led,x,Bool.and_self])) λh' y B=>aD ?_);show q e h' s.drawn _ _ _ (.refl _) y B
  .exact aB (aD (aD (q e s.heap s.drawn _ _ _ (.refl _) (fB a s.heap) l)))
theorem qVz{ep:Nat}{t:SetTable}(p:a≠b)(S:SetT w s.heap a ns es ep t)(a2:Small ns)(h0:t.fill=0->t.mask+1∈pows)(O:SetI w s.heap b ms)(a3:Small ms)(hl:ns.length+ms.length<=60)(Z:∀(M:Sg)(R:Unit->Sg->Prop),(∀o,s.heap.get? b=Sa o->M.heap.get? b=Sa o)->R () M->Sm (So P w) A D R E M)(q:∀h' d es' a4 t' us,Heap.SameBut a s.heap h'->SetT w h' a us es' a4 t'->(t'.fill=0->t'.mask+1∈pows)->(∀x,x∈us↔x∈ns\/x∈ms)->Q () {s with heap:=h',drawn:=d}):Sm (So P w) A (setMerge a b D) Q E s:=by
 let⟨v,eq,u,O⟩:=O.table;let⟨oo,b8,b3,b9,i,B,a0,F,go⟩:=id O;let a5:=O.len;unfold setMerge;rw[if_neg (by simpa using p)];show aB (O.state ?_);dsimp only;split
 .rename_i hz;let hz:v.size=0:=by simpa[Array.isEmpty]using hz
  let:ms=[]:=fY.mp ∎;subst this;show aD (q s.heap s.drawn es ep t ns (fB a s.heap) S h0 ∅)
 .rename_i a6;let b4:0<v.size:=by
   cases h:v.size with
   |zero=>show absurd (by simp[Array.isEmpty,h]) a6
   |succ k=>lia
  let f:∀{h:Sk}{us:List Int}{es:Array (Int×Se)}{ep:Nat}{t:SetTable},SetT w h a us es ep t->0<us.length->t.fill≠0:=by
   intro h us es ep t G hu j;let N:=G.len;let⟨_,_,_,_,_,_,_,_,g⟩:=G;let h2:=kL g.fits;unfold SetTable.fill at j;lia
  show aB (roomI S a2 ∎ h0 λN c0 c1 m C X a7=>?_);let O1:SetT w N b ms v eq u:=O.stay λo e=>by rw[C.2 b p.symm];show e
  let⟨o1,c2,b5,c3,b6,c4,c5,b7,g1⟩:=id X;let c6:=X.len;show aB (X.state (s:={s with heap:=N}) ?_);dsimp only;let r:m.fill=0->ns=[]:=λj=>by
   let h2:=kL g1.fits;unfold SetTable.fill at j;show fY.mp ∎
  let H:(m.led&&u.led)=!yE w:=by rw[g1.led,go.led,Bool.and_self]
  cases Y:m.road u with
  |slotForSlot=>
   dsimp only;let j:m.fill=0:=by
    unfold SetTable.road at Y;split at Y
    .cases Y
    .rename_i z;simpa using z
   let:=r j;subst this;show X.put (s:={s with heap:=N}) (t':={u with finger:=m.finger,led:=m.led&&u.led,moves:=m.moves,plain:=m.plain&&u.plain}) i B a0 F (go.flags rfl rfl rfl H) λh' I G=>?_;show q h' s.drawn _ _ _ ms (C.trans I) G (λj=>absurd j (f G ∎)) ∅
  |clean=>
   dsimp only;let j:m.fill=0:=by
    unfold SetTable.road at Y;split at Y
    .cases Y
    .rename_i z;simpa using z
   let:=r j;subst this;let⟨m1,m2⟩:=a7 j;let⟨t',order,e1,e2,e3,e4,e5⟩:=qRo (finger:=m.finger) (moves:=m.moves) (led:=m.led&&u.led) (plain:=m.plain&&u.plain) m1 (qFn i B a3) (by rw[Array.size_map];lia);rw[Array.size_map]at e2 e3;show aB (reord (s:={s with heap:=N}) (es:=v) (t:=t') (order:=order) e1 e2 ?_);dsimp only;let T:=jm e2;let hz:(order.filterMap (v[·]?)).size=v.size:=by rw[<-aQ,T.length_eq,aQ]
   let g':GoodT (!yE w) t' (order.filterMap (v[·]?)).size:=by rw[hz,<-H];show e3
   show X.put (s:={s with heap:=N}) (es':=order.filterMap (v[·]?)) (t':=t') (λe Z=>i e (T.mem_iff.mp Z)) ((T.map keyI).trans B) a0 (by rw[hz];show F) g' λh' I G=>?_;show q h' s.drawn _ _ _ ms (C.trans I) G (λj=>absurd j (f G ∎)) ∅
  |oneByOne=>
   dsimp only;show aB (qWh (s:={s with heap:=N}) p X O1 λa8 h2 d c7 c8 t2 U a9 S2=>?_);show aB (MeetsSeq2.wpAny_forIn_array _ (λrest _ M=>∃h' us,M={s with heap:=h',drawn:=d}/\Heap.SameBut a s.heap h'/\SetI w h' a us/\us.length+rest.length<=60/\(∀e∈rest,EI e)/\∀x,(x∈us\/x∈rest.map keyI)↔(x∈ns\/x∈ms)) _ ?_ ?_ _ _ ?_)
   .rintro e rest c M ⟨h',us,rfl,I,SI,J,V,l⟩;let⟨n,tk,rfl⟩:=V e (aT ..);rw[bK]at J;dsimp only;show aB (bU (qUr (s:={s with heap:=h',drawn:=d}) SI (by change us.length+1<4096;lia) λW K a1=>?_));let L:∀o,s.heap.get? b=Sa o->W.get? b=Sa o:=λo e=>by rw[K.2 b p.symm,I.2 b p.symm];show e
    show aB (Z _ _ L ?_);show aB (SetT.state (s:={s with heap:=W,drawn:=d}) (O.stay L) ?_);dsimp only;rw[if_neg ∅];show aD ⟨W,addN us n,rfl,I.trans K,a1,?_,λe h=>V e (aS _ h),λx=>?_⟩
    .let:=qNs (ns:=us) (n:=n);lia
    .rw [<-l x,Qz,bJ,aM];change(x∈us\/x=n)\/_↔x∈us\/x=n\/_;rw[or_assoc]
   .rintro c M ⟨h',us,rfl,I,SI,J,V,l⟩;let⟨b0,b1,t3,S3⟩:=SI.table;let b2:0<us.length:=by
     let⟨y,hy⟩:=gR ms (λz=>by subst z;rw[List.length_nil]at a5;lia);show List.length_pos_of_mem (((l y).mpr (.inr hy)).elim id λz=>by cases z)
    show aD (q h' d b0 b1 t3 us I S3 (λj=>absurd j (f S3 b2)) λx=>by rw[<-l x];simp)
   .refine⟨h2,ns,rfl,C.trans a9,S2.setI,?_,λe Z=>i e (U.mem_iff.mp Z),λx=>?_⟩
    .let h9:a8.toList.length=v.size:=U.length_eq.trans (aQ ..);lia
    .rw [((U.map keyI).trans B).mem_iff]
theorem jn(S:SetI w s.heap a ns)(q:Q Sc s):Sm (So P w) A (Builtin.Frozenset.isAnySet (.ref a)) Q E s:=by
 let⟨o,_,_,_,c,b,_⟩:=S;let hT:Shared.TypeIs s (.ref a) "set":=⟨o,c,b.1⟩;unfold Builtin.Frozenset.isAnySet;show aB (gA hT sub_set_self ?_);show aD q
theorem copyI(S:SetI w s.heap a ns)(k:Small ns)(l:ns.length<=60)(q:∀h' d es ep t us,(∀b o,s.heap.get? b=Sa o->h'.get? b=Sa o)->SetT w h' s.heap.objs.size us es ep t->(t.fill=0->t.mask+1∈pows)->(∀x,x∈us↔x∈ns)->Q (.ref s.heap.objs.size) {s with heap:=h',drawn:=d}):Sm (So P w) A (Builtin.Frozenset.copyOf a) Q E s:=by
 let hT:Shared.TypeIs s (.ref a) "set":=by let⟨o,_,_,_,f,g,_⟩:=S;show⟨o,f,g.1⟩
 let m:a<s.heap.objs.size:=by let⟨o,_,_,_,f,_⟩:=S;show aO f
 unfold Builtin.Frozenset.copyOf Builtin.Frozenset.baseOf;show aB (aB (gA hT sub_set_self (aD ?_)));simp only[if_true];show aB (qRg ?_);unfold Builtin.Frozenset.addrOf;show aB (aD ?_);let j:∀b o,s.heap.get? b=Sa o->(s.heap.push (newS w)).get? b=Sa o:=λb o e=>aJ _ e;let p:SetT w (s.heap.push (newS w)) s.heap.objs.size [] #[] 0 (.fresh 0 0 (!yE w)):=⟨newS w,aW _ rfl,⟨rfl,rfl,rfl⟩,rfl,∅,.refl _,.nil,⋯,⟨rfl,by simp[SetTable.fresh],rfl⟩⟩;show aB (qVz (s:={s with heap:=s.heap.push (newS w)}) (dP m) p (λn r=>by cases r) (λ_=>by change 8∈pows;decide) (S.stay λo e=>j a o e) k (by simpa using l) (λC R _ u=>aD u) λh' d h i v us y z B c=>?_)
 show aD (q h' d h i v us (λb o e=>?_) z B λx=>by rw[c x];simp);rw[y.2 b (aX (aO e))];show j b o e
theorem qKx:entryFor table "set.__or__"=Sa Builtin.«frozenset.__or__»:=entryFor_alias (id':="frozenset.__or__") (by kernel_rfl) rfl (by decide +kernel) (by kernel_rfl)
theorem qSz{id:String}(m:a≠b)(S:SetI w s.heap a ns)(O:SetI w s.heap b ms)(h:Small ns)(p:Small ms)(hl:ns.length+ms.length<=60)(q:∀h' d us,(∀b o,s.heap.get? b=Sa o->h'.get? b=Sa o)->SetI w h' s.heap.objs.size us->(∀x,x∈us↔x∈ns\/x∈ms)->Q (.ref s.heap.objs.size) {s with heap:=h',drawn:=d}):Sm (So P w) A (do
   let result <-Builtin.Frozenset.copyOf a
   if (Value.ref b) != .ref a then SA [result] (Builtin.Frozenset.updateFrom id (<-Builtin.Frozenset.addrOf result) (.ref b))
   return result) Q E s:=by
 let J:b<s.heap.objs.size:=by let⟨o,_,_,_,K,_⟩:=O;show aO K
 show aB (copyI S h ∎ λl r es ep t us D F L f=>?_);let v:((Value.ref b) != .ref a)=Sc:=by simp;show m.symm
 rw[if_pos v];unfold Builtin.Frozenset.addrOf;show aB (aD (aB (bU ?_)));unfold Builtin.Frozenset.updateFrom;let y:SetI w l b ms:=O.stay λo e=>D b o e;let M:=y;show aB (jn (s:={s with heap:=l,drawn:=r}) y ?_);simp only[if_true];unfold Builtin.Frozenset.addrOf Builtin.Frozenset.merge;show aB (aD ?_);let⟨oo,eo,eq,u,i,G,j,H,N,T,I,go⟩:=M;show aB (wpAny_setEpoch_of (s:={s with heap:=l,drawn:=r}) i j go.fits ?_);let U:us.length=ns.length:=by
  let⟨_,_,_,_,_,_,z,_⟩:=F;let⟨_,_,_,_,_,_,_,_,_,B,_⟩:=S;show((List.perm_ext_iff_of_nodup z B).mpr f).length_eq
 show qVz (s:={s with heap:=l,drawn:=r}) (dP J) F (λn z=>h n ((f n).mp z)) L y p ∎ (λs' R k V=>?_) λh' d W X t' C Y Z a0 g=>?_
 .unfold Builtin.Frozenset.unchanged;show aB (wpAny_setEpoch_of (k _ i) j go.fits ?_);rw[if_neg ∅];show aD V
 .refine aD (q h' d C (λc o e=>?_) Z.setI λx=>by rw[g x,f x]);rw[Y.2 c (aX (aO e))];show D c o e
theorem qX8(e:a≠b)(S:SetI w s.heap a ns)(O:SetI w s.heap b ms)(f:Small ns)(g:Small ms)(j:ns.length+ms.length<=60)(q:∀h' d us,(∀b o,s.heap.get? b=Sa o->h'.get? b=Sa o)->SetI w h' s.heap.objs.size us->(∀x,x∈us↔x∈ns\/x∈ms)->Q (.ref s.heap.objs.size) {s with heap:=h',drawn:=d}):Sm (So P w) A (SB .BitOr (.ref a) (.ref b)) Q E s:=by
 let hT:∀{c:Sf}{i:List Int},SetI w s.heap c i->Shared.TypeIs s (.ref c) "set":=by intro c i S;let⟨o,_,_,_,n,h,_⟩:=S;show⟨o,n,h.1⟩
 show wpAny_binaryOp_same (hT S) (hT O) F.fills_set_or F.slot_set_or (cK F.slot_set_or (hT S) qKx ?_ (F.args_set_or_2 _ _))
 change Sm _ _ (do
  let (self,other) <-Builtin.Frozenset.slot1 "__or__" ⟨[.ref a,.ref b],[]⟩
  let (l,r):=if Sd then (other,self)else (self,other)
  if !(<-Builtin.Frozenset.isAnySet l <&&> Builtin.Frozenset.isAnySet r)then rule s!"frozenset.{"__or__"}.declined";return <-ret .notImplemented
  ret (<-(λ(id:String)(l:Sf)(r:Se)=>(do
   let result <-Builtin.Frozenset.copyOf l
   if r != .ref l then SA [result] (Builtin.Frozenset.updateFrom id (<-Builtin.Frozenset.addrOf result) r)
   return result:Sem Se)) s!"frozenset.{"__or__"}" (<-Builtin.Frozenset.addrOf l) r)) _ _ _
 unfold Builtin.Frozenset.slot1;show aB (aB (m:=slotArgs "__or__" 1 _) (aD (aD ?_)));show aB (aB (jn S ?_));show jn O ?_;simp only[Bool.not_true,cD,if_false];show aB (m:=Builtin.Frozenset.addrOf (.ref a)) (aD ?_);show aB (qSz e S O f g j λh' d us k p t=>?_);show aD ⟨_,rfl,∅,q h' d us k p t⟩
def rOrS(w:Si):R2:=λx y H Q => ∃(a b:Sf) (ns ms:List Int),x = .ref a/\y = .ref b/\a≠b/\H a=Sa (setO w ns)/\H b=Sa (setO w ms)/\Small ns/\Small ms/\ns.length+ms.length<=60 /\
 ∀(l:Sf)(us:List Int),H l=Sb->us.Nodup->(∀x,x∈us↔x∈ns\/x∈ms)->Q (.ref l) (upd H l (setO w us))
theorem qZ7:OpR X (SB .BitOr) (rOrS X.w):=by
 intro i s σ H x y v u Q I m n h;let⟨a,b,z,A,rfl,rfl,c,o,p,e,f,r,q⟩:=h;cases m;cases n;show qX8 c (I.setI o) (I.setI p) e f r λB d j k l t=>?_;let g:j.Nodup:=by let⟨_,_,_,_,_,_,_,_,_,g,_⟩:=l;show g
 show⟨.ref s.heap.objs.size,_,(I.laid (t':=s.toks) k (aI _) (qPz l)).drew,rfl,q _ j (I.hok.fresh (aI _)) g t⟩
theorem zo{K:SJ}:(cxOf CX P w K mg base N a scope f b A outer s H E).nox.w=w:=rfl
theorem zp{K:SJ}:(cxOf CX P w K mg base N a scope f b A outer s H E).w=w:=rfl
def BusyP(ws:List (List Blk))(n:Nat)(wk:List Blk)(x y:Int):Prop:=y∈wrTo wk x wk.length\/(∃s∈vK wk x,Reach (nxt wk) s y)/\y∈waitTo ws x n wk.length
def jo(K:SJ):Sp:=λvs H Q _ => ∃(wa:Sf) (ws:List (List Blk)) (n:Nat) (wk:List Blk) (x:Int),vs = [.ref wa,.int n,.int x]/\Den K H (xW ws) (.ref wa)/\WsOk ws/\ws[n]? = Sa wk /\
 ∀(l:Sf)(ns:List Int)(H':Hp),H l=Sb->Ext [] H H'->H' l=Sa (.lst (ns.map V.int))->ns.Pairwise (·<=·)->ns.Nodup->(∀y,y∈ns↔BusyP ws n wk x y)->Q (.ref l) H'
theorem neDK(K:SJ){k:Nat}(a:X.K=K)(b:Room k X.A):OpR X (SC .NotEq) (rEqD K Sc):=a▸qZ9 b
theorem kW{m a x y:Int}(h:WorkOk m a c)(e:∃s∈vK c x,Reach (nxt c) s y):0<=y/\y<m:=by
 let⟨s,f,g⟩:=e;let⟨b,i,d⟩:=cO.mp f;let:=(xL h b).range _ d;show g.range h ∎
theorem qH8{m a x y:Int}(h:WorkOk m a b)(c:y∈wrTo b x b.length):0<=y/\y<m:=by
 let⟨n,rfl,d,_⟩:=mem_wrTo.mp c;let:=h.len;lia
theorem mem_waitTo{x y:Int}{n i:Nat}:y∈waitTo d x n i ↔ ∃a:Nat,y=(a:Int)/\a<i/\askB d x ((n:Int),(a:Int))=Sc:=by
 unfold waitTo;rw[bG];constructor
 .rintro⟨a,e,rfl⟩;let⟨b,c⟩:=cA.mp e;show⟨a,rfl,aZ.mp b,c⟩
 .rintro⟨a,rfl,b,c⟩;show⟨a,cA.mpr ⟨aZ.mpr b,c⟩,rfl⟩
theorem qMr{m:Int}(b:m<=12)(h:∀n∈ns,0<=n/\n<m):Small ns:=λn a=>by let:=h n a;lia
theorem yf:∀(m:Nat) {ns:List Int},ns.Nodup->(∀n∈ns,0<=n/\n<(m:Int))->ns.length<=m
 |0,ns,_,h=>by
  cases ns with
  |nil=>show aI _
  |cons a r=>have:=h a (aT ..);lia
 |m+1,ns,c,h=>by
  let d:=yf m (ns:=ns.erase (m:Int)) (c.erase _) λn b=>by
   let e:=(c.mem_erase_iff).mp b;let g:=h n e.2;let i:=e.1;lia
  by_cases f:(m:Int)∈ns
  .rw [hV f]at d;lia
  .rw [List.erase_of_not_mem f]at d;lia
theorem uQ{t u:TS}(h:∀N:St->Hp->Prop,Nx N (u ⟨d,c,a,b⟩)->t ⟨N,c,a,b⟩ σ H):tSeq t u ⟨d,c,a,b⟩ σ H:=h _ λ_ _ h=>h
theorem uR(h:∀g i:St->Hp->Prop,Nx g (A ⟨a,e,b,d⟩)->Nx i (B ⟨a,e,b,d⟩)->f σ H λc j=>if c=Sc then g σ j else i σ j):tIfS f A B ⟨a,e,b,d⟩ σ H:=h _ _ (λ_ _ h=>h) λ_ _ h=>h
section
variable{K:SJ}{σ:St}{H:Hp}{Q:VK}{ta tv te:TE}{D:Ends}{f:Str}
theorem qYn(h:ta σ H λx b=>∃a C c fs v,x=.ref a/\b a=Sa (.ins C c fs)/\Cls K C/\uh K C f/\fs.lookup f=Sa v/\Q v b):tFld K ta f σ H Q:=h
theorem qV8(h:tv σ H λy d=>ta σ d λx b=>∃a C c fs,x=.ref a/\b a=Sa (.ins C c fs)/\Cls K C/\uh K C f/\fs.length<1000/\D.nx σ (upd b a (.ins C c (putF f y fs)))):sFld K ta tv f D σ H:=h
theorem qVb(h:ta σ H λx b=>∃a c fs,x=.ref a/\b a=Sa (.ins C c fs)/\fs.lookup m=Sb/\tl σ b λvs d=>sp (x::(vs++dvs)) d Q E):tMeth C m sp dvs E ta tl σ H Q:=h
theorem qVc(h:tl σ H λvs b=>∀x a,b x=Sb->b a=Sb->a≠x->sp (.ref x::(vs++dvs)) (upd (upd b a (.own x)) x (.ins C a [])) (λv c=>v=.non/\Q (.ref x) c) E):tMake C sp dvs E tl σ H Q:=h
end
theorem qVi(h:d σ H λo g=>e σ g λi j=>a o i j λx k=>f σ k λy l=>c x y l λz m=>b o i z m λn=>D.nx σ n):tAugS d e f a c b D σ H:=h
theorem qYz{i:Nat}{x:Str}{d b:Sx}(own:List Str)(cap:List Nat)(o:X.calm=Sc)(S:CompScope X own cap scope)(p:X.N.Nodup)(e:X.N[i]? = Sa x)(q:Loc X.env.scope x)(hi:PI X tg iter wi)(r:∀a s H ex,PG (zP X own cap scope a s H ex) tg g)(t:∀a s H ex,PTs (zP X own cap scope a s H ex) ifs tts)(f:∀a s H ex,PI (zP X own cap scope a s H ex) tg2 iter2 wi2)(j:∀a s H ex,PG (zP X own cap scope a s H ex) tg2 g2)(k:∀a s H ex,PTs (zP X own cap scope a s H ex) ifs2 tts2)(u:∀a s H ex,PE (zP X own cap scope a s H ex) elt te)(m:SE (.ListComp elt [⟨tg,iter,ifs,0⟩,⟨tg2,iter2,ifs2,0⟩] scope pos) (Sa (.Name x d)) b.line X.env=pure Sc:=by rfl)(v:∀x,SD iter X.env x=pure x:=by intro _;rfl)(n:∀a s H ex x,SD iter2 (zP X own cap scope a s H ex).env x=pure x:=by intros;rfl)(w:X.fn x=Sc\/X.env.scope.names.lookup x=Sa .local:=by first|show .inl rfl|show .inr rfl|assumption):PS X (.Assign [.Name x d] (.ListComp elt [⟨tg,iter,ifs,0⟩,⟨tg2,iter2,ifs2,0⟩] scope pos) b) (tAsg (tComp own cap (.lst []) wi g tts λl=>bNext wi2 g2 tts2 (eApp te l)) (gName i)):=by
 intro c s σ H D I h;rw[exec_Assign_Name_used _ _ _ _ m];show aB (eY (aB ?_));change Sm _ X.A (do let _ <-comprehension (.ListComp elt [⟨tg,iter,ifs,0⟩,⟨tg2,iter2,ifs2,0⟩] scope pos) scope X.env _ (newList []) Sd (Sw iter X.env) (Sa (assign (.Name x d) X.env))) _ _ s
 refine aB (thn (jI (behOf:=ut (.ListComp elt [⟨tg,iter,ifs,0⟩,⟨tg2,iter2,ifs2,0⟩] scope pos) iter2 1) o S rfl hi jH (λ_ _ _ _ _=>qJ0) r t
  (λa s H ex l=>qX7 rfl o qIz (f a s H ex) (j a s H ex) (k a s H ex) (jJ (u a s H ex)) (n a s H ex)) v p e q w c s σ H D I h) λ_ z y=>?_)
 show aD (aD y)
end L2
namespace L2
abbrev Wy:=Int×Int
noncomputable def tw(s:Wy):Wy:=(s.2,s.1)
noncomputable def nby(l:List Wy)(b:Int):List Int:=(l.filter λs=>decide (s.1=b)).map (·.2)
theorem mem_nby{b x:Int}:x∈nby l b↔(b,x)∈l:=by
 unfold nby;simp only[bG,cA,decide_eq_true_eq];constructor
 .rintro⟨s,⟨a,c⟩,rfl⟩;rw[<-c];show a
 .intro h;show⟨(b,x),⟨h,rfl⟩,rfl⟩
noncomputable def sm(l:List Wy)(g:Wy->Int):Int:=(l.map g).sum
noncomputable def stp(l:List Int):List Wy:=l.zip (l.drop 1)
noncomputable def isCut(X:Int->Bool)(w:Wy):Bool:=X w.1 != X w.2
noncomputable def lawC(W:List Wy)(c:Wy->Int)(save back:Int)(shut:Wy->Bool)(X:Int->Bool):Option Int:=if W.any (λw=>isCut X w&&shut w)then Sb else Sa (sm W λw=>if isCut X w=Sc then c w*(if X w.1=Sc then back else save)else 0)
end L2
namespace L2
open PySem PySem.Spec PyProof.Rows
theorem Inv.turnMany{X:Cx}{a:List (Sf×Ss)}{σ:St}{H:Hp}{s:Sg}{h':Sk}{t':Nat}{ch:List Sf}(I:Inv X a σ H s)(k:∀b u,b∉ch->s.heap.get? b=Sa u->h'.get? b=Sa u)(h:∀b∈ch,FpOk X a H b):Inv X a σ H {s with heap:=h',toks:=t'}:=by
 let f:∀b u,H b=Sa u->b∉ch:=λb u e g=>by rw[(h b g).1]at e;cases e
 refine I.step (g':=s.gens) (d':=s.drawn) (ch:=ch) (λb g=>?_) (λb u _ _ d e _=>k b u d e) (λb u _ _ d e _=>⟨u.slots,k b u d e⟩) (λ_ _ _ _ n=>n)
  (λb u d e=>⟨u,k b u d e⟩) (λ_ _ e=>e) (λ_ _ _ e=>e) (λb A e=>⟨#[],by rw[e];simp⟩) (λm j=>?_) (λb u e=>?_) I.bare
 .let⟨_,l,_,o,p,t⟩:=h b g;show⟨o,l,p,t⟩
 .let⟨i,w,x,y,r⟩:=j;show⟨i,w,x,k _ i (λg=>(h _ g).2.1 rfl) y,r⟩
 .refine (I.hok b u e).stay (λc v d q=>k c v ?_ q) (λ_ q=>q) λ_ _ q=>q;rcases d with z|z
  .rw [z];show f b u e
  .exact f c _ z
noncomputable def Itz(K:SJ)(a b:Sf):It:=
 ⟨λi H=>∃xs ys x y,SqL K H a xs/\SqL K H b ys/\xs[i]? = Sa x/\ys[i]? = Sa y,
   λi H v H'=>∃p x y,v=.ref p/\H p=Sb/\(∀us,SqL K H a us->us[i]? = Sa x)/\(∀us,SqL K H b us->us[i]? = Sa y)/\H'=upd H p (.tup [x,y]),
   λi H=>∃xs ys,SqL K H a xs/\SqL K H b ys/\(xs.length<=i\/ys.length<=i)⟩
theorem qT0{K:SJ}{k:Nat}{z TI TO A B l1 l2:Sf}(D:ZipApart z TI TO A B l1 l2):Turn P w K (.Tuple J k S) (Itz K l1 l2) [z,TI,TO,A,B] z (λi h=>IsZip h z TI TO .none/\IsPair h TI (.ref A) (.ref B)/\(∃a b,IsPair h TO a b)/\h.IsListIter A l1 i/\h.IsListIter B l2 i) where
 mem:=by simp
 obj:=λi h st b f=>by
  obtain⟨n,g,⟨a,c,j⟩,⟨o1,e1,_,d1⟩,⟨o2,e2,_,d2⟩⟩:=st;simp only[aM,bA,or_false]at f;rcases f with x|x|x|x|x<;>subst x
  .exact⟨_,n,λv q=>by let q:Data.fields _=Data.cell v:=q;cases q⟩
  .exact⟨_,g,λv q=>by let q:Data.seq _ _=Data.cell v:=q;cases q⟩
  .exact⟨_,j,λv q=>by let q:Data.seq _ _=Data.cell v:=q;cases q⟩
  .exact⟨o1,e1,λv q=>by rw[d1]at q;cases q⟩
  .exact⟨o2,e2,λv q=>by rw[d2]at q;cases q⟩
 keep:=λi h T st L=>by
  obtain⟨n,g,⟨a,c,j⟩,F,G⟩:=st;show⟨L z ∅ _ n,L TI ∅ _ g,⟨a,c,L TO ∅ _ j⟩,F.at λo q=>L A ∅ o q,G.at λo q=>L B ∅ o q⟩
 item:=by
  intro X U V Y hc i r s σ H E I R st Z;subst U V Y;let⟨xs,ys,x,y,l,m,hx,hy⟩:=Z;obtain⟨n,g,⟨a,c,j⟩,F,G⟩:=st;let⟨a0,rv,p,_⟩:=I.list l;let⟨M,C,p2,_⟩:=I.list m;let⟨u,hu,ru⟩:=rv.get hx;let⟨u2,a7,a8⟩:=C.get hy;show wpAny_pyNext_zip_item D n g j F G p.isList p2.isList (x:=u) (y:=u2) (by simpa using hu) (by simpa using a7) λT a1 a2 a3 a4 a5 a6 N=>?_;let t:z<s.heap.objs.size:=aO n;show⟨_,rfl,wpAny_letOwnedTupleGo_zip a1 λh3 O d=>?_⟩;let d:Heap.SameBut z T h3:=d;let I1:Inv X r σ (upd H s.heap.objs.size (.tup [x,y])) {s with heap:=h3,toks:=s.toks}:=by
   show I.turnLaid (ch:=[z,TI,TO,A,B]) (λb o f q=>?_) (λb f=>?_) R (aI _) ?_
   .simp only[aM,bA,or_false,not_or]at f;show d.extBut b o f.1 (N b o f.1 f.2.2.1 f.2.2.2.1 f.2.2.2.2 q)
   .simp only[aM,bA,or_false]at f;rcases f with e|e|e|e|e<;>subst e
    .exact⟨_,O⟩
    .exact⟨_,d.extBut _ _ D.TIz (N _ _ D.TIz D.TITO D.TIi1 D.TIi2 g)⟩
    .exact⟨_,d.extBut _ _ D.TOz a2⟩
    .let⟨o,q,_⟩:=a3;show⟨o,d.extBut _ _ D.i1z q⟩
    .let⟨o,q,_⟩:=a4;show⟨o,d.extBut _ _ D.i2z q⟩
   .exact⟨by change 2<=Sn;decide,[u,u2],.cons ru (.cons a8 .nil),⟨_,d.extBut _ _ (dP t) a5,rfl,_,rfl⟩⟩
  show⟨.ref s.heap.objs.size,_,I1,rfl,⟨s.heap.objs.size,x,y,rfl,I.fresh,(λus hs=>by rw[I.list_inj hs l];show hx),(λus hs=>by rw[I.list_inj hs m];show hy),rfl⟩,⟨O,d.extBut _ _ D.TIz (N _ _ D.TIz D.TITO D.TIi1 D.TIi2 g),⟨_,_,d.extBut _ _ D.TOz a2⟩,a3.extBut d.extBut D.i1z,a4.extBut d.extBut D.i2z⟩,λb f=>?_⟩;let a9:b<s.heap.objs.size:=by
   simp only[aM,bA,or_false]at f;rcases f with e|e|e|e|e<;>subst e
   .exact t
   .exact aO g
   .exact aO j
   .let⟨o,q,_⟩:=F;show aO q
   .let⟨o,q,_⟩:=G;show aO q
  rw[zC (aX a9)];show(R b f).1
 done:=by
  intro X U V Y hc i r s σ H E I R st Z;subst U V Y;let⟨xs,ys,l,m,Q⟩:=Z;obtain⟨n,g,⟨a,c,j⟩,F,G⟩:=st;let⟨a0,rv,p,_⟩:=I.list l;let⟨M,C,p2,_⟩:=I.list m;let b0:=rv.length;let b1:=C.length
  show wpAny_pyNext_zip_end (I.ok.hd hc) D n g j F G p.isList p2.isList (by
   rcases Q with e|e
   .exact .inl (by simp;lia)
   .exact .inr (by simp;lia)) λT N=>⟨rfl,I.turnMany (t':=s.toks) (ch:=[z,TI,TO,A,B]) (λb o f q=>?_) R⟩
  simp only[aM,bA,or_false,not_or]at f;show N b o f.1 f.2.2.1 f.2.2.2.1 f.2.2.2.2 q
 self:=λ_ _ _ _ _ st h=>wpAny_pyIter_zip st.1 h
def iZip(K:SJ)(ta:TA):TI:=λσ H R=>ta σ H λvs H1=>∃a b,vs=[.ref a,.ref b]/\(∃xs,SqL K H1 a xs)/\(∃ys,SqL K H1 b ys)/\R (Itz K a b) H1
theorem qVm{a b:Sl}{x:TA}{p d:Sx}(E:Gl X "zip")(F:X.mg "zip"=Sb)(G:PA X [a,b] x)(J:Sv [a,b] X.env=(Sd,Sw a X.env)::Sv [b] X.env:=by rfl)(l:∀d,(backTo d (Sv [b] X.env)).any (·.1)=Sd:=by intro _;rfl):PI X (.Tuple elts k tpos) (.Call (.Name "zip" p) [a,b] [] d) (iZip X.K x):=by
 intro f s σ H R I h;show Call_ (xn I E F boot_zip (dB (thn (G d f s σ H _ I h) λZ g hq_=>?_) J (l _)));let⟨vs,y,i,L,M⟩:=hq_;obtain⟨N,O,e,⟨xs,m⟩,⟨ys,n⟩,q⟩:=M;subst e;let⟨u,u2,rfl,P,o⟩:=vals2 L;cases P;cases o;let⟨Q,rv,z,_⟩:=i.list m;let⟨A,S,B,_⟩:=i.list n;let T:N<g.heap.objs.size:=by let⟨_,e,_⟩:=z.isList;show aO e
 let U:O<g.heap.objs.size:=by let⟨_,e,_⟩:=B.isList;show aO e
 show call_zip_2 z.isList B.isList λV C r t v w _ W=>?_;show wpAny_pyIter_zip C ?_;let Y:Inv X f σ y {g with heap:=V}:=i.kept (t':=g.toks) W;show⟨_,_,_,_,y,rfl,Y,qT0 (zipApart_new T U),⟨C,r,⟨_,_,t⟩,v,w⟩,λc D=>?_,q⟩;let j:g.heap.objs.size<=c:=by
  simp only[aM,bA,or_false]at D;rcases D with e|e|e|e|e<;>subst e
  .exact gU _ _
  .exact gU _ _
  .exact gU _ _
  .exact aI _
  .exact gU _ _
 show i.fpOk j (i.hok.fresh j)
theorem uS{K:SJ}(h:d σ H λvs c=>∃a b,vs=[.ref a,.ref b]/\(∃xs,SqL K c a xs)/\(∃ys,SqL K c b ys)/\R (Itz K a b) c):iZip K d σ H R:=h
theorem qUe{K:SJ}{a b:Sf}{xs ys:List V}{g:TG}{s:TS}{k:St->Hp->Prop}{t:VK}{σ : St}{H:Hp}(l:xs.length=ys.length)(Pv:Nat->St->Hp->Prop)(v:Pv 0 σ H)(w:∀i σ H,i<=xs.length->Pv i σ H->SqL K H a xs/\SqL K H b ys)(z:∀i x y σ H p,xs[i]? = Sa x->ys[i]? = Sa y->Pv i σ H->H p=Sb -> ∀(N B C:St->Hp->Prop) (R:VK),Nx N (Pv (i+1))->Nx C (Pv (i+1))->NxV R t->g (.ref p) σ (upd H p (.tup [x,y])) λc n=>s ⟨N,R,B,C⟩ c n)(hd:∀ σ H,Pv xs.length σ H->k σ H):∃W:Nat->Nat->St->Hp->Prop,(∃m,W 0 m σ H) /\ ∀i m σ H,W i m σ H ->
   ((Itz K a b).stop i H/\k σ H)\/((Itz K a b).go i H/\∃N:St->Hp->Prop,(∀d f,N d f->∃u,u<m/\W (i+1) u d f)/\∀x f,(Itz K a b).yld i H x f->g x σ f λc n=>s ⟨N,t,k,N⟩ c n):=by
 show⟨λi m σ H=>m=xs.length-i/\i<=xs.length/\Pv i σ H,⟨xs.length,∅,bL _,v⟩,?_⟩;rintro i m σ H ⟨rfl,A,p⟩;let⟨o,q⟩:=w i σ H A p;by_cases j:i<xs.length
 .refine .inr ⟨⟨xs,ys,xs[i],ys[i],o,q,by simp[j],by simp[l▸j]⟩,Pv (i+1),λd f D=>⟨xs.length-(i+1),∎,rfl,j,D⟩,λx f y=>?_⟩;let⟨r,E,F,e,G,I,J,L⟩:=y;subst e L;show z i E F σ H r (I xs o) (J ys q) p G _ _ _ _ (λ_ _ h=>h) (λ_ _ h=>h) (λ_ _ h=>h)
 .let e:i=xs.length:=by lia
  subst e;show .inl ⟨⟨xs,ys,o,q,.inl (aI _)⟩,hd σ H p⟩
theorem qQf{bs:List Bool}(c:∀i b,bs[i]? = Sa b->f i=b):(List.range bs.length).all f=bs.all id:=by
 rw[cP,dM,dM];constructor
 .intro h b d;let⟨i,a,e⟩:=cE d;let:=h i (aZ.mpr a);rw[c i b (by rw[aE a,e])]at this;show this
 .intro h i a;let a:=aZ.mp a;rw[c i bs[i] (aE a)];show h _ (cN a)
def rAllB(K:SJ):List V->Hp->VK->Prop:=λxs H Q=>∃(a:Sf)(bs:List Bool),xs=[.ref a]/\SqL K H a (bs.map V.bl)/\Q (.bl (bs.all id)) H
theorem uT(w:X.A.handled=Sb):CallR X (.builtin "all") (rAllB X.K):=by
 intro m s σ H G J Q I r h;let⟨a,bs,rfl,y,q⟩:=h;let⟨u,rfl,z⟩:=vals1 r;cases z;let⟨d,n,B,_⟩:=I.list y;let c:=n.length;rw[aA]at c;let g:=B.isList;let j:a≠s.heap.objs.size:=by let⟨o,e,_⟩:=g;show aX (aO e)
 let f:∀(i:Nat)(v:Se),d.toArray[i]? = Sa v->v=.bool (bs.getD i Sd):=λi v e=>by
  rw[eO]at e;let p:i<bs.length:=by rw[c];show(aC.mp e).1
  let⟨u,t,l⟩:=n.get (i:=i) (x:=V.bl bs[i]) (by rw[aR,aE p];rfl);rw[e]at t;cases t;let l:v=Value.bool bs[i]:=l;rw[l,aV,aE p];rfl
 show call_all_walk (gL g ⟨_,_,_,_,_,_,λi=>bs.getD i Sd,rfl,Walks.list (by show w) _ a j d.toArray,⟨⟨_,aW _ rfl,rfl,rfl⟩,g.push _⟩,λi v s Q E C D=>?_,λL tk k=>?_⟩)
 .rw [f i v C];show dN D
 .let e:(List.range d.toArray.size).all (λi=>bs.getD i Sd)=bs.all id:=by
   rw[aP,<-c];show qQf λi b F=>by rw[aV,F];rfl
  rw[e];show⟨.bl (bs.all id),H,I.kept (t':=tk) (λb o e=>k b o (by simpa using aX (aO e)) (aJ _ e)),rfl,q⟩
def DEnt(P:Sh)(w:Si)(h:Sk)(d:Sf)(xs:List (List Key×Sf×Se)):Prop:=∃o es ep,h.get? d=Sa o/\o.ExactDict/\o.data=.dict es ep/\es.toList=xs.map (entryOfKey (tupleKind (zy P w)))
end L2
namespace Miss
open PySem PySem.Spec PyProof.Rows
end Miss
namespace L2
open PySem PySem.Spec PyProof.Rows
end L2
namespace L2
open PySem PySem.W PyProof.Rows
end L2
namespace L2
open PySem PySem.Spec PyProof.Rows
theorem Inv.laidN{X:Cx}{a:List (Sf×Ss)}{σ:St}{H:Hp}{s:Sg}{h':Sk}{t':Nat}{D:Sf}{o:HO}(I:Inv X a σ H s)(k:∀b u,s.heap.get? b=Sa u->h'.get? b=Sa u)(h:s.heap.get? D=Sb)(new:ObjOk X.prog X.w (upd H D o) h' D o):Inv X a σ (upd H D o) {s with heap:=h',toks:=t'}:=by
 let d:H D=Sb:=I.hok.gone h;let f:∀b u,s.heap.get? b=Sa u->b≠D:=λb u e z=>by rw[z,h]at e;cases e
 refine I.step (g':=s.gens) (d':=s.drawn) (ch :=[]) (λ_ z=>nomatch z) (λb u _ _ _ e _=>k b u e) (λb u _ _ _ e _=>⟨u.slots,k b u e⟩) (λb u _ e n=>by rw [zC (f b u e)];exact n)
  (λb u _ e=>⟨u,k b u e⟩) (λb i e=>by rw[zC (zG e d)];show e) (λb g i e=>by rw[zC (zG e d)];show e) (λb x e=>⟨#[],by rw[zC (zG e d),e];simp⟩) (λy l=>?_) (λb u e=>?_) I.bare
 .let⟨g,m,p,t,r⟩:=l;show⟨g,m,p,k _ g t,r⟩
 .by_cases j:b=D
  .subst j;rw[zB]at e;cases e;show new
  .rw [zC j]at e;show(I.hok b u e).stay (λc v _ q=>k c v q) (λc q=>by rw[zC (zG q d)];show q) λc i q=>by rw[zC (zG q d)];show q
end L2
namespace L2
open PySem PySem.W PyProof.Rows
end L2
namespace L2
open PySem PySem.Spec PyProof.Rows
theorem qVj(h:a σ H λx d=>∃c,x=.bl c/\if c=Sc then b σ d Q else Q (.bl Sd) d):tAndV a b σ H Q:=h
theorem qYi(h:a σ H λx b=>∃c,x=.bl c/\Q (.bl (!c)) b):tNotV a σ H Q:=h
theorem qN3(h:b σ H λx f=>c σ f λy g=>r x y g λz e=>∃k,z=.bl k/\(if k=Sc then d σ e λi j=>a y i j Q else Q (.bl Sd) e)):oE r a b c d σ H Q:=h
noncomputable def kD:Key->PyData
 |.inl i=>.int i
 |.inr x=>.str x
mutual
def DenX(K:SJ)(G:Hp):PyData->V->Prop
 |.none,v=>v=.non
 |.bool b,v=>v=.bl b
 |.int i,v=>v=.int i
 |.str x,v=>v=.str x
 |.list ds,v=>∃a vs,v=.ref a/\SqL K G a vs/\DenXs K G ds vs
 |.tuple ds,v=>∃a vs,v=.ref a/\SqT K G a vs/\DenXs K G ds vs
 |.dict kvs,v=>∃a ps,v=.ref a/\Rd G a (.dK ps)/\DenXk K G kvs ps
def DenXs(K:SJ)(G:Hp):List PyData->List V->Prop
 |[],vs=>vs=[]
 |d::ds,vs=>∃v r,vs=v::r/\DenX K G d v/\DenXs K G ds r
def DenXk(K:SJ)(G:Hp):List (PyData×PyData)->List (Key×V)->Prop
 |[],ps=>ps=[]
 |(k,d)::r,ps=>∃kk v q,ps=(kk,v)::q/\k=kD kk/\DenX K G d v/\DenXk K G r q
end
theorem DenXs.nil{K:SJ}:DenXs K G [] []:=by simp only[DenXs]
theorem DenXs.cons{K:SJ}{G:Hp}{d:PyData}{ds:List PyData}{v:V}{vs:List V}(h:DenX K G d v)(t:DenXs K G ds vs):DenXs K G (d::ds) (v::vs):=by simp only[DenXs];show⟨v,vs,rfl,h,t⟩
theorem DenX.list{K:SJ}(h:SqL K G a vs)(t:DenXs K G ds vs):DenX K G (.list ds) (.ref a):=by simp only[DenX];show⟨a,vs,rfl,h,t⟩
def rTupL(K:SJ):List V->Hp->VK->Prop:=λxs H Q=>∃(a:Sf)(ys:List V),xs=[.ref a]/\SqL K H a ys/\∀p,H p=Sb->Q (.ref p) (upd H p (.tup ys))
theorem qL6:CallR X (.type "tuple") (rTupL X.K):=by
 intro f s σ H p t Q I r h;let⟨a,j,rfl,l,q⟩:=h;let⟨u,rfl,m⟩:=vals1 r;cases m;let⟨c,g,n,v⟩:=I.list l;let w:=g.length;show call_tuple_list n.isList (λd k=>?_) (by rw[aP];lia);let i:s.heap.get? d.objs.size=Sb:=by
  cases e:s.heap.get? d.objs.size with
  |none=>rfl
  |some o=>show absurd (aO (k _ o e)) (eX _)
 show⟨.ref d.objs.size,_,I.laidN (t':=s.toks) (o:=.tup j) (λb o e=>aJ _ (k b o e)) i ⟨∎,c,g,IsTup.new _ _⟩,rfl,q _ (I.hok.gone i)⟩
abbrev IsT(P:Sh)(w:Si)(h:Sk)(ks:List Int)(b:Sf):Prop:=(tupleKind (intKind P w)).is h ks b
theorem qIq(h:IntsAre vs ks):ItemsAre (intKind P w) ks vs:=by
 induction h with
 |nil=>show .nil
 |cons n t _ a=>show .cons (intKind_is P w n t) a
theorem Inv.isT(I:Inv X pins σ H s)(h:SqT X.K H b (ks.map V.int)):IsT P w s.heap ks b:=by
 obtain⟨a,r,⟨o,e,c,n,d⟩,_⟩:=I.tuple h;show⟨o,a.toArray,n,e,c,d,?_⟩;show qIq (uj r)
noncomputable def pk(p:Int×Int):List Key:=[Sum.inl p.1,Sum.inl p.2]
abbrev TdL:=List ((Int×Int)×Sf×V)
noncomputable def tdX(xs:TdL)(vs:List Se):List (List Key×Sf×Se):=(xs.zip vs).map λp=>(pk p.1.1,p.1.2.1,p.2)
noncomputable def tdO(P:Sh)(w:Si)(xs:TdL):HO:=.ext λa h=>(a == SH)=Sd/\∃vs:List Se,Vals (xs.map (·.2.2)) vs/\DEnt P w h a (tdX xs vs)
def TdAt(P:Sh)(w:Si)(K:SJ)(H:Hp)(d:Sf)(W:List (Int×Int))(g:Int×Int->V):Prop:=
 ∃xs:TdL,H d=Sa (tdO P w xs)/\(∀x∈xs,SqT K H x.2.1 [.int x.1.1,.int x.1.2]/\x.2.2=g x.1)/\xs.map (·.1)=W/\W.Nodup/\W.length<=900
noncomputable def putW(W:List (Int×Int))(p:Int×Int):List (Int×Int):=if p∈W then W else W++[p]
noncomputable def putG(g:Int×Int->V)(p:Int×Int)(v:V):Int×Int->V:=λq=>if q=p then v else g q
def qVl(P:Sh)(w:Si)(K:SJ):TSet:=λx y v H R => ∃(d c:Sf) (W:List (Int×Int)) (g:Int×Int->V) (p:Int×Int),x = .ref d/\y = .ref c/\TdAt P w K H d W g/\W.length<900/\SqT K H c [.int p.1,.int p.2] /\
 ∀xs,TdAt P w K (upd H d (tdO P w xs)) d (putW W p) (putG g p v)->R (upd H d (tdO P w xs))
def tTdIn(P:Sh)(w:Si)(K:SJ)(ty td:TE):TE:=λσ H Q=>ty σ H λy H1=>td σ H1 λx H2=>∃(d c:Sf)(W:List (Int×Int))(g:Int×Int->V)(p:Int×Int),x=.ref d/\y=.ref c/\TdAt P w K H2 d W g/\SqT K H2 c [.int p.1,.int p.2]/\Q (.bl (decide (p∈W))) H2
def qZo(P:Sh)(w:Si)(K:SJ)(tk tv:TE)(l:Sf):TB:=λσ H Q=>tk σ H λx H1=>tv σ H1 λy H2=>qVl P w K (.ref l) x y H2 λH3=>Q σ H3
def tLZ(K:SJ)(ta:TA):TE:=λσ H Q=>ta σ H λvs H1 => ∃(l1 l2:Sf) (xs ys:List V),vs = [.ref l1,.ref l2]/\SqL K H1 l1 xs/\SqL K H1 l2 ys/\ys.length<=xs.length /\
 ∀(l:Sf)(ts:List Sf)(H2:Hp),H1 l=Sb->Ext [] H1 H2->H2 l=Sa (.lst (ts.map V.ref))->ts.length=ys.length->(∀(i:Nat)t x y,ts[i]? = Sa t->xs[i]? = Sa x->ys[i]? = Sa y->H1 t=Sb/\t≠l/\H2 t=Sa (.tup [x,y]))->Q (.ref l) H2
theorem denP{K:SJ}(h:SqT K G b [.int p.1,.int p.2]):Den K G (pairD p) (.ref b):=.tuple h (.cons .int (.cons .int .nil))
theorem jp{K:SJ}{G:Hp}{v:V}{p:Int×Int}(h:Den K G (pairD p) v):∃b,v=.ref b/\SqT K G b [.int p.1,.int p.2]:=by
 let⟨b,l,rfl,a,c⟩:=h.ofTuple;let⟨m,n,rfl,d,e⟩:=c.ofCons;let⟨o,q,rfl,f,g⟩:=e.ofCons;let i:=d.ofInt;let j:=f.ofInt;let k:=g.ofNil;subst i j k;show⟨b,rfl,a⟩
theorem qWk(h:tOf p=tOf q):p=q:=by
 unfold tOf at h;injection h with b a
 injection a with a _
 show Prod.ext b a
theorem wA2{X:Cx}{k m n a:Sl}{e:List Sl}{scope:Su}{u:TI}{g:TG}{o:List TT}{tk v:TE}{j:Sx}{i:Nat}{x:Str}{q f:Sx}(b:List Str)(c:List Nat)(w:X.calm=Sc)(S:CompScope X b c scope)(y:X.N.Nodup)(r:X.N[i]? = Sa x)(z:Loc X.env.scope x)(hi:PI X n a u)(B:∀d s H ex,PG (zP X b c scope d s H ex) n g)(C:∀d s H ex,PTs (zP X b c scope d s H ex) e o)(E:∀d s H ex,PE (zP X b c scope d s H ex) k tk)(F:∀d s H ex,PE (zP X b c scope d s H ex) m v)(t:SE (.DictComp k m [⟨n,a,e,0⟩] scope j) (Sa (.Name x q)) f.line X.env=pure Sc:=by rfl)(G:∀x,SD a X.env x=pure x:=by intro _;rfl)(J:X.fn x=Sc\/X.env.scope.names.lookup x=Sa .local:=by first|show .inl rfl|show .inr rfl|assumption):PS X (.Assign [.Name x q] (.DictComp k m [⟨n,a,e,0⟩] scope j) f) (tAsg (tComp b c (.dK []) u g o (ePut tk v)) (gName i)):=by
 intro p s σ H D I h;rw[exec_Assign_Name_used _ _ _ _ t];show aB (eY (aB ?_));change Sm _ X.A (do let _ <-comprehension (.DictComp k m [⟨n,a,e,0⟩] scope j) scope X.env _ newDict Sd (Sw a X.env) (Sa (assign (.Name x q) X.env))) _ _ s;show aB (thn (jI (behOf:=ux k m) w S rfl hi Qb (λ_ _ _ _ _=>Qd) B C (λd s H ex l=>Qc (E d s H ex) (F d s H ex)) G y r z J p s σ H D I h) λ_ L K=>?_);show aD (aD K)
def qUv(td ty tx:TE):TE:=λσ H Q=>td σ H λx H1 => ∃a,x = .ref a/\IsD H1 a/\ty σ H1 λy H2=>tx σ H2 λz H3 => ∃kvs k,y=kV k/\H3 a=Sa (.dK kvs)/\kvs.length<Sn /\
 (∀v,valV kvs k=Sa v->Q v H3)/\(valV kvs k=Sb->Q z (upd H3 a (.dK (putK kvs k z))))
theorem qTl(E:PE X o td)(G:PE X e ty)(J:PE X f tx)(m:M2 X o "setdefault" apos e f cpos):PE X (.Call (.Attribute o "setdefault" apos) [e,f] [] cpos) (qUv td ty tx):=by
 intro b s σ H Q I h;show wpAny_Call_method m.base m.few m.line PySem.F.plainAttrs_dict eZ PySem.F.type_dict_setdefault (thn (E b s σ H _ I h) λu K hq_=>?_);let⟨x,L,p,M,a,N,d,O⟩:=hq_;subst N;obtain rfl:u=Value.ref a:=M;let⟨P,R,_⟩:=jD p d;show⟨P,R,?_⟩;rw[m.trees];show fF rfl (gO (eR (thn (G b K σ L _ p O) λiv S hq_=>?_)));let⟨y,T,U,V,W⟩:=hq_;show eR (thn (J b S σ T _ U W) λY s3 hq_=>?_);let⟨z,Z,l,t,c,k,ey,A,hl,g1,g2⟩:=hq_;show Calls.spliced_nil ?_;subst ey;let⟨zz,B,C,g,D⟩:=wq l.hok A;let hz:C.length<=Sn:=by rw[<-g.length];show zz
 show call_meetsIn eZ D.typeIs PySem.F.entry_dict_setdefault (PySem.F.args_dict_setdefault_3 _ _ _) (kt_meets_setdefault (zy X.prog X.w) a (xR V) B Y) ⟨C,D,hz,λv hv=>?_,λhn h' j hs=>?_⟩
 .let r:=g.val k;rw[hv]at r;cases i:valV c k with
  |none=>rw[i]at r;show r.elim
  |some x=>rw[i]at r;show⟨x,Z,l.tok _,r,g1 x i⟩
 .let r:=g.val k;rw[hn]at r;let i:valV c k=Sb:=by
   cases i:valV c k with
   |none=>rfl
   |some v=>rw[i]at r;show r.elim
  let n:(putK c k z).length<=Sn:=by let:=xQ c k z;lia
  show⟨z,_,wL l (by rw[A];show True.intro) hs (let ⟨q,_,_,hq,_⟩:=j;⟨q,hq⟩) (vW n B (g.put k t) j),t,g2 i⟩
theorem qQl{c ty d:TE}(h:c σ H λx e => ∃a,x = .ref a/\IsD e a/\ty σ e λy f=>d σ f λz b => ∃kvs k,y=kV k/\b a=Sa (.dK kvs)/\kvs.length<Sn /\
 (∀v,valV kvs k=Sa v->Q v b)/\(valV kvs k=Sb->Q z (upd b a (.dK (putK kvs k z))))):qUv c ty d σ H Q:=h
theorem wA0{K:SJ}(h:c σ H λvs a => ∃(l1 l2:Sf) (xs ys:List V),vs = [.ref l1,.ref l2]/\SqL K a l1 xs/\SqL K a l2 ys/\ys.length<=xs.length /\
 ∀(l:Sf)(ts:List Sf)(b:Hp),a l=Sb->Ext [] a b->b l=Sa (.lst (ts.map V.ref))->ts.length=ys.length->(∀(i:Nat)t x y,ts[i]? = Sa t->xs[i]? = Sa x->ys[i]? = Sa y->a t=Sb/\t≠l/\b t=Sa (.tup [x,y]))->Q (.ref l) b):tLZ K c σ H Q:=h
theorem qV7{K:SJ}{ty b:TE}(h:ty σ H λy e=>b σ e λx a=>∃(d c:Sf)(W:List (Int×Int))(g:Int×Int->V)(p:Int×Int),x=.ref d/\y=.ref c/\TdAt P w K a d W g/\SqT K a c [.int p.1,.int p.2]/\Q (.bl (decide (p∈W))) a):tTdIn P w K ty b σ H Q:=h
def jq(K:SJ):Sp:=λvs H Q _ => ∃(a:Sf) (us:List V) (ps:List Wy),vs = [.ref a]/\SqL K H a us/\DenL K H (ps.map pairD) us/\ps.length<=400 /\
 ∀(l:Sf)(us':List V)(H':Hp),H l=Sb->Ext [] H H'->H' l=Sa (.lst us')->DenL K H' ((ps.map tw).map pairD) us'->Q (.ref l) H'
def qJn(K:SJ):Sp:=λvs H Q _ => ∃(a:Sf) (us:List V) (ps:List Wy),vs = [.ref a]/\SqL K H a us/\DenL K H (ps.map pairD) us/\ps.length<=400 /\
 ∀(d:Sf)(H':Hp),H d=Sb->Ext [] H H'->NexG H' d (nby ps)->Q (.ref d) H'
structure PathOk(N:Int->List Int)(ss gs:List Int)(a:Int)(r:List Int):Prop where
 hd:a∈ss
 st:∀s∈stp (a::r),s.2∈N s.1
 nd:(a::r).Nodup
 ls:(a::r).getLast (by simp)∈gs
theorem jr(z y:Int):∀i:List Int,stp ((i ++ [z]) ++ [y])=stp (i ++ [z]) ++ [(z,y)]
 |[]=>rfl
 |[a]=>rfl
 |a::b::i=>by
  let:=jr z y (b::i);change(a,b)::stp ((b::i++[z])++[y])=(a,b)::stp (b::i++[z])++[(z,y)];rw[this];rfl
structure Pth(N:Int->List Int)(ss ks:List Int)(l:List Int)(z:Int):Prop where
 ls:∃i,l=i++[z]
 hd:∃a r,l=a::r/\a∈ss
 st:∀s∈stp l,s.2∈N s.1
 nd:l.Nodup
 ks:∀x∈l,x∈ks
theorem Pth.ok{N:Int->List Int}{b ks gs:List Int}{l:List Int}{z:Int}(h:Pth N b ks l z)(hz:z∈gs):∃a r,l=a::r/\PathOk N b gs a r:=by
 let⟨a,r,rfl,d⟩:=h.hd;let⟨i,e⟩:=h.ls;show⟨a,r,rfl,d,h.st,h.nd,?_⟩;let:∀(l:List Int)(c:l≠[]),l=i++[z]->l.getLast c=z:=λl c e=>by subst e;simp
 rw[this _ _ e];show hz
theorem Pth.more{N:Int->List Int}{c ks ks':List Int}{l:List Int}{z y:Int}(h:Pth N c ks l z)(d:y∈N z)(f:y∉ks)(g:∀x∈ks,x∈ks')(b:y∈ks'):Pth N c ks' (l++[y]) y:=by
 let⟨i,e⟩:=h.ls;let⟨a,r,j,k⟩:=h.hd;show⟨⟨l,rfl⟩,⟨a,r++[y],by rw[j];rfl,k⟩,λs hs=>?_,?_,λx hx=>?_⟩
 .rw [e,jr,<-e]at hs;rcases aN.mp hs with hs|hs
  .exact h.st s hs
  .rw [aH.mp hs];show d
 .rw [cI];show⟨h.nd,∅,λx hx w m z=>?_⟩;rw[aH.mp m]at z;show f (z▸h.ks x hx)
 .rcases aN.mp hx with hx|hx
  .exact g x (h.ks x hx)
  .rw [aH.mp hx];show b
theorem Pth.mono{N:Int->List Int}{a ks ks':List Int}{l:List Int}{z:Int}(h:Pth N a ks l z)(b:∀x∈ks,x∈ks'):Pth N a ks' l z:=⟨h.ls,h.hd,h.st,h.nd,λx c=>b x (h.ks x c)⟩
structure Bfs(H:Hp)(d pa:Sf)(N:Int->List Int)(ss U ks:List Int)(ws:List Sf)(G:Hp):Prop where
 ext:Ext [] H G
 hd:G d=Sa (.dK (ks.map λk=>((Sum.inl k:Key),V.bl Sc)))
 hpa:G pa=Sa (.lst (ws.map V.ref))
 len:ws.length=ks.length
 hw:∀(i:Nat)w,ws[i]? = Sa w->∃l z,ks[i]? = Sa z/\H w=Sb/\G w=Sa (.lst (l.map V.int))/\Pth N ss ks l z
 nod:ks.Nodup
 sU:∀k∈ks,k∈U
 one:∀s∈ss,s∈ks
def Done(N:Int->List Int)(gs ks:List Int)(i:Nat):Prop:=∀(j:Nat)k,j<i->ks[j]? = Sa k->k∉gs/\∀y∈N k,y∈ks
theorem Done.all{N:Int->List Int}{gs ks c:List Int}{i:Nat}(h:Done N gs ks i)(hi:ks.length<=i)(d:∀s∈c,s∈ks):∀s∈c,∀x,Reach N s x->x∉gs:=by
 intro s f x r;let a:x∈ks:=by
  induction r with
  |refl=>show d s f
  |step _ g k=>
   let⟨j,b,e⟩:=cE k;show(h j _ ∎ (by rw[aE b,e])).2 _ g
 let⟨j,b,e⟩:=cE a;show(h j _ ∎ (by rw[aE b,e])).1
theorem kX{a b:List V}(h:HO.lst a=.lst b):a=b:=by cases h;rfl
def rMinL(K:SJ):List V->Hp->VK->Prop:=λxs H Q=>∃(a:Sf)(ns:List Int),xs=[.ref a]/\SqL K H a (ns.map V.int)/\ns≠[]/\∀M,M∈ns->(∀x∈ns,M<=x)->Q (.int M) H
theorem qSe(n:X.A.handled=Sb):CallR X (.builtin "min") (rMinL X.K):=by
 intro i s σ H c F Q I r h;let⟨a,o,rfl,p,d,q⟩:=h;let⟨u,rfl,w⟩:=vals1 r;cases w;let⟨x,y,z,_⟩:=I.list p;let k:=uj y;let⟨c,e⟩:=k.allInts.items;let b:o=c.toList.map (·.1):=by
  rw[<-k.numsOf,<-nums_intItems,<-e]
 let f:0<c.size:=by
  let l:=gX.mpr d;rw[b,aA,aQ]at l;show l
 let g:s.heap.IsList a (intItems c):=e▸z.isList;show min_intList n g f λv G tk B C=>?_;let⟨t,rfl⟩:=intItems_at B;let⟨J,D⟩:=argBest_lt (numAt c) (c.size-1);show⟨.int _,H,I.kept C,⟨t,rfl⟩,q _ ?_ λa m=>?_⟩
 .rw [b,numAt_eq];show getD_mem (by rw[aA,aQ];lia)
 .rw [b]at m;let⟨j,E,rfl⟩:=mem_getD m;rw[aA,aQ]at E;rw[<-numAt_eq];show D j ∎
abbrev SqP(K:SJ)(H:Hp)(a:Sf)(p:Wy):Prop:=SqT K H a [.int p.1,.int p.2]
def NoT(G:Hp)(x:Sf):Prop:=∀zs,¬Rd G x (.tup zs)
theorem SqT.over{K:SJ}(h:SqT K G a ys)(e:Ext ts G b)(n:∀x∈ts,NoT G x):SqT K b a ys:=by
 rcases h with(h|⟨o,h⟩)|h
 .exact .inl (.inl (e _ _ (λz=>n a z ys (.inl h)) h))
 .exact .inl (.inr ⟨o,e _ _ (λz=>n a z ys (.inr ⟨o,h⟩)) h⟩)
 .exact .inr h
theorem denPs{K:SJ}:∀(a:List Wy) (vs:List V),vs.length=a.length->(∀(i:Nat) v p,vs[i]? = Sa v->a[i]? = Sa p -> ∃t,v = .ref t/\SqP K G t p)->DenL K G (a.map pairD) vs
 |[],[],_,_=>.nil
 |[],_::_,h,_=>by simp at h
 |_::_,[],h,_=>by simp at h
 |p::a,v::vs,h,k=>by
  let⟨t,rfl,b⟩:=k 0 v p rfl rfl;show .cons (denP b) (denPs a vs (by simpa using h) λi v p c d=>k (i+1) v p (by simpa using c) (by simpa using d))
theorem DenL.pairs{K:SJ}{G:Hp}{d:List Wy}{vs:List V}(h:DenL K G (d.map pairD) vs){i:Nat}{v:V}(e:vs[i]? = Sa v):∃p t,d[i]? = Sa p/\v=.ref t/\SqP K G t p:=by
 let⟨j,a,c⟩:=h.get e;let⟨p,f,rfl⟩:=zV a;let⟨b,rfl,g⟩:=jp c;show⟨p,b,f,rfl,g⟩
theorem DenL.overP{K:SJ}{G b:Hp}{a:List Wy}{vs:List V}{ts:List Sf}(h:DenL K G (a.map pairD) vs)(e:Ext ts G b)(n:∀x∈ts,NoT G x):DenL K b (a.map pairD) vs:=by
 let c:=h.len;rw[aA]at c;show denPs a vs c λi v p f g=>?_;let⟨l,t,d,j,k⟩:=h.pairs f;rw[g]at d;cases d;show⟨t,j,k.over e n⟩
theorem qWu{P:Sh}{w:Si}{K:SJ}{tk a:TE}{l:Sf}{σ:St}{H:Hp}{Q:St->Hp->Prop}(h:tk σ H λx b=>a σ b λy c=>qVl P w K (.ref l) x y c λd=>Q σ d):qZo P w K tk a l σ H Q:=h
noncomputable def univ(n:Nat):List Int:=-1::(List.range (n+1)).map λ(i:Nat)=>(i:Int)
theorem wX{n:Nat}{x:Int}:x∈univ n ↔ -1<=x/\x<=n:=by
 unfold univ;rw[aM,bG];constructor
 .rintro (h|⟨i,a,rfl⟩)
  .lia
  .let:=aZ.mp a;lia
 .intro h;by_cases e:x = -1
  .exact .inl e
  .exact .inr ⟨x.toNat,aZ.mpr ∎,∎⟩
theorem qSy(n:Nat):(univ n).length=n+2:=by unfold univ;simp
theorem js{U:List Int}{l:List Wy}(h:∀v∈l,v.1∈U/\v.2∈U):∀x∈U,∀y∈nby l x,y∈U:=λx _ y a=>(h _ (mem_nby.mp a)).2
theorem qXj(x:Int):(nby l x).length<=l.length:=by unfold nby;rw[aA];show cC _ _
def qJm(K:SJ):Sp:=λvs H Q _=>∃(a:Sf)(us:List V),vs=[.ref a]/\SqL K H a us/\∀t,H t=Sb->Q (.ref t) (upd H t (.tup [.int (-1),.int us.length]))
def rLenS(w:Si):List V->Hp->VK->Prop:=λxs H Q=>∃(a:Sf)(ns:List Int),xs=[.ref a]/\H a=Sa (setO w ns)/\Q (.int ns.length) H
theorem qSg:CallR X (.builtin "len") (rLenS X.w):=by
 intro b s σ H p v Q I r h;let⟨a,c,rfl,f,q⟩:=h;let⟨u,rfl,g⟩:=vals1 r;cases g;let⟨S,_⟩:=id (I.hok a _ f);let⟨o,d,x,t,i,j,k,_,l,_,m,n⟩:=S;let e:d.size=c.length:=by rw[<-l.length_eq,aA,aQ]
 let y:d.size<4096:=m;show call_len_set i j k n.fits ∎ ⟨.int c.length,H,I.tok _,⟨_,by rw[e]⟩,q⟩
def SqV(tp:Bool)(K:SJ)(H:Hp)(a:Sf)(xs:List V):Prop:=match tp with|true=>SqT K H a xs|false=>SqL K H a xs
noncomputable def Itzg(K:SJ)(tp tq:Bool)(a b:Sf):It:=
 ⟨λi H=>∃xs ys x y,SqV tp K H a xs/\SqV tq K H b ys/\xs[i]? = Sa x/\ys[i]? = Sa y,
   λi H v H'=>∃p x y,v=.ref p/\H p=Sb/\(∀us,SqV tp K H a us->us[i]? = Sa x)/\(∀us,SqV tq K H b us->us[i]? = Sa y)/\H'=upd H p (.tup [x,y]),
   λi H=>∃xs ys,SqV tp K H a xs/\SqV tq K H b ys/\xs.length<=i⟩
def iZipg(K:SJ)(tp tq:Bool)(ta:TA):TI:=λσ H R=>ta σ H λvs H1=>∃a b,vs=[.ref a,.ref b]/\(∃xs,SqV tp K H1 a xs)/\(∃ys,SqV tq K H1 b ys)/\R (Itzg K tp tq a b) H1
theorem qWx{K:SJ}{c d:Bool}(h:f σ H λvs e=>∃a b,vs=[.ref a,.ref b]/\(∃xs,SqV c K e a xs)/\(∃ys,SqV d K e b ys)/\R (Itzg K c d a b) e):iZipg K c d f σ H R:=h
section
variable{K:SJ}{G G':Hp}
theorem Same.rd(h:Same G G')(e:Rd G a u):Rd G' a u:=by
 rcases e with e|⟨o,e⟩
 .exact .inl (h _ _ e)
 .exact .inr ⟨o,h _ _ e⟩
mutual
theorem DenX.mono(h:Same G G'):∀ {d:PyData} {v:V},DenX K G d v->DenX K G' d v
 |.none,_,e=>by simp only[DenX]at e ⊢;show e
 |.bool _,_,e=>by simp only[DenX]at e ⊢;show e
 |.int _,_,e=>by simp only[DenX]at e ⊢;show e
 |.str _,_,e=>by simp only[DenX]at e ⊢;show e
 |.list ds,_,e=>by
  simp only[DenX]at e ⊢;let⟨a,g,b,c,f⟩:=e;show⟨a,g,b,h.seq c,DenXs.mono h f⟩
 |.tuple ds,_,e=>by
  simp only[DenX]at e ⊢;let⟨a,g,b,c,f⟩:=e;show⟨a,g,b,h.seqT c,DenXs.mono h f⟩
 |.dict i,_,e=>by
  simp only[DenX]at e ⊢;let⟨a,j,b,c,f⟩:=e;show⟨a,j,b,h.rd c,DenXk.mono h f⟩
theorem DenXs.mono(h:Same G G'):∀ {ds:List PyData} {vs:List V},DenXs K G ds vs->DenXs K G' ds vs
 |[],_,e=>by simp only[DenXs]at e ⊢;show e
 |d::ds,_,e=>by
  simp only[DenXs]at e ⊢;let⟨v,r,a,b,c⟩:=e;show⟨v,r,a,DenX.mono h b,DenXs.mono h c⟩
theorem DenXk.mono(h:Same G G'):∀ {kvs:List (PyData×PyData)} {a:List (Key×V)},DenXk K G kvs a->DenXk K G' kvs a
 |[],_,e=>by simp only[DenXk]at e ⊢;show e
 |(k,d)::r,_,e=>by
  simp only[DenXk]at e ⊢;let⟨b,v,q,c,f,g,i⟩:=e;show⟨b,v,q,c,f,DenX.mono h g,DenXk.mono h i⟩
end
theorem DenXs.len:∀ {ds:List PyData} {vs:List V},DenXs K G ds vs->vs.length=ds.length
 |[],_,e=>by simp only[DenXs]at e;rw[e];rfl
 |d::ds,_,e=>by
  simp only[DenXs]at e;let⟨v,r,rfl,_,a⟩:=e;simp[DenXs.len a]
theorem DenXs.get:∀ {ds:List PyData} {vs:List V} {i:Nat} {v:V},DenXs K G ds vs->vs[i]? = Sa v -> ∃d,ds[i]? = Sa d/\DenX K G d v
 |[],_,_,_,e,h=>by simp only[DenXs]at e;subst e;simp at h
 |d::ds,_,0,_,e,h=>by
  simp only[DenXs]at e;let⟨v,r,rfl,a,b⟩:=e;cases h;show⟨d,rfl,a⟩
 |d::ds,_,i+1,_,e,h=>by
  simp only[DenXs]at e;let⟨v,r,rfl,a,b⟩:=e;let⟨c,f,g⟩:=DenXs.get (i:=i) b (by simpa using h);show⟨c,by simpa using f,g⟩
theorem DenX.tuple(h:SqT K G a vs)(t:DenXs K G ds vs):DenX K G (.tuple ds) (.ref a):=by simp only[DenX];show⟨a,vs,rfl,h,t⟩
theorem DenX.ofList(h:DenX K G (.list ds) v):∃a vs,v=.ref a/\SqL K G a vs/\DenXs K G ds vs:=by simpa only[DenX]using h
theorem DenX.ofTuple(h:DenX K G (.tuple ds) v):∃a vs,v=.ref a/\SqT K G a vs/\DenXs K G ds vs:=by simpa only[DenX]using h
theorem DenX.ofDict(h:DenX K G (.dict kvs) v):∃a b,v=.ref a/\Rd G a (.dK b)/\DenXk K G kvs b:=by simpa only[DenX]using h
theorem DenX.ofInt{i:Int}(h:DenX K G (.int i) v):v=.int i:=by simpa only[DenX]using h
theorem DenX.ofStr(h:DenX K G (.str i) v):v=.str i:=by simpa only[DenX]using h
theorem DenX.ofBool{i:Bool}(h:DenX K G (.bool i) v):v=.bl i:=by simpa only[DenX]using h
theorem DenX.ofNone(h:DenX K G .none v):v=.non:=by simpa only[DenX]using h
theorem DenXs.ofCons(h:DenXs K G (d::ds) vs):∃v r,vs=v::r/\DenX K G d v/\DenXs K G ds r:=by simpa only[DenXs]using h
theorem DenXs.ofNil(h:DenXs K G [] vs):vs=[]:=by simpa only[DenXs]using h
end
noncomputable def kindN:PyData->String
 |.none=>"NoneType"|.bool _=>"bool"|.int _=>"int"|.str _=>"str"|.list _=>"list"|.tuple _=>"tuple"|.dict _=>"dict"
noncomputable def xj(d:PyData)(n:String):Bool:=kindN d == n||(kindN d == "bool" && n == "int")
noncomputable def jt:List String:=["int","bool","str","list","tuple","dict"]
theorem qU8(K:SJ)(d:PyData):∀n∈jt,PySem.W.kitOne K (.type (kindN d)) (.type n)=Sa (xj d n):=by
 intro n a;simp only[jt,aM,bA,or_false]at a;cases d<;>rcases a with rfl|rfl|rfl|rfl|rfl|rfl<;>rfl
theorem wA7(I:Inv X pins σ H s)(h:DenX X.K H d x)(c:RelV x u):∃p:Sk->Prop,PySem.W.KitX X.K u (.type (kindN d)) p/\p s.heap/\u≠.builtin "__main__.__loader__#opaque":=by
 cases d with
 |none=>cases h.ofNone;cases c;show⟨_,PySem.W.kitx_none,True.intro,λz=>nomatch z⟩
 |bool b=>cases h.ofBool;cases c;show⟨_,PySem.W.kitx_bool,True.intro,λz=>nomatch z⟩
 |int i=>cases h.ofInt;let⟨t,rfl⟩:=c;show⟨_,PySem.W.kitx_int,True.intro,λz=>nomatch z⟩
 |str i=>cases h.ofStr;let⟨t,rfl⟩:=c;show⟨_,PySem.W.kitx_str,True.intro,λz=>nomatch z⟩
 |list ds=>
  let⟨a,l,rfl,e,_⟩:=h.ofList;cases c;let⟨j,m,k,_⟩:=I.list e;let⟨o,f,g,_⟩:=k.isList;show⟨_,PySem.W.kitx_list,⟨o,f,g⟩,λz=>nomatch z⟩
 |tuple ds=>
  let⟨a,l,rfl,e,_⟩:=h.ofTuple;cases c;let⟨j,m,k,_⟩:=I.tuple e;let⟨o,f,g,_⟩:=id k;show⟨_,PySem.W.kitx_tuple,⟨o,f,g⟩,λz=>nomatch z⟩
 |dict n=>
  let⟨a,q,rfl,e,_⟩:=h.ofDict;cases c;let⟨_,r,l,_,o,v,w,f,g,_⟩:=xY I.hok e;show⟨_,PySem.W.kitx_dict,⟨o,f,g.1⟩,λz=>nomatch z⟩
def rIsA(K:SJ):List V->Hp->VK->Prop:=λxs H Q=>∃(x:V)(d:PyData)(n:String),xs=[x,.ty n]/\DenX K H d x/\n∈jt/\Q (.bl (xj d n)) H
theorem wY:CallR X (.builtin "isinstance") (rIsA X.K):=by
 intro b s σ H l m Q I r h;let⟨x,d,n,rfl,c,e,q⟩:=h;let⟨u,f,rfl,g,a⟩:=vals2 r;cases (show f=Value.type n from a);let⟨p,i,j,k⟩:=wA7 I c g;show PySem.W.kia_one i I.kIn j (qU8 X.K d n e) k λtk=>⟨.bl _,H,I.tok _,rfl,q⟩
def Lp(m:Int)(nx:List (List Int)):Prop:=∀j:Nat,1<=j->j<=nx.length->(j:Int)<m->∃i ns,i<j/\nx[i]? = Sa ns/\(j:Int)∈ns
theorem qZy(h:a σ H λx d=>∃c,x=.bl c/\if c=Sc then Q (.bl Sc) d else b σ d Q):tOrV a b σ H Q:=h
noncomputable def yx:PyData->Bool
 |.int _=>Sc
 |_=>Sd
noncomputable def fromD(lo hi:Int):PyData->Bool
 |.int n=>decide (lo<=n)&&decide (n<hi)
 |_=>Sd
def kY(K:SJ):Sp:=λvs H Q _=>∃(x:V)(d:PyData),vs=[x]/\DenX K H d x/\Q (.bl (yx d)) H
def qJo(K:SJ):Sp:=λvs H Q _=>∃(x:V)(d:PyData)(lo hi:Int),vs=[x,.int lo,.int hi]/\DenX K H d x/\Q (.bl (fromD lo hi d)) H
theorem qHq(d:PyData):yx d=(xj d "int" && !xj d "bool"):=by cases d<;>rfl
theorem qRu(h:yx d=Sc):∃n,d=.int n:=by cases d<;>first|show⟨_,rfl⟩|cases h
theorem qUc{lo hi:Int}(h:yx d=Sd):fromD lo hi d=Sd:=by cases d<;>first|rfl|cases h
theorem qKs(h:xj d "list"=Sc):∃ds,d=.list ds:=by cases d<;>first|show⟨_,rfl⟩|(revert h;decide)|cases h
def WAt(K:SJ)(H:Hp):List Sf->List (Int×Int)->Prop:=Paired λa w=>SqT K H a [.int w.1,.int w.2]
theorem WAt.len{K:SJ}(h:WAt K H as a):as.length=a.length:=fI h
theorem qJd{K:SJ}:∀ {a:List (Int×Int)} {us:List V},DenL K H (a.map pairD) us -> ∃as:List Sf,us=as.map V.ref/\WAt K H as a
 |[],_,h=>by
  let:=h.ofNil;subst this;show⟨[],rfl,.nil⟩
 |w::a,_,h=>by
  let⟨v,r,rfl,i,j⟩:=h.ofCons;let⟨as,rfl,k⟩:=qJd j;let⟨p,o,rfl,b,c⟩:=i.ofTuple;let⟨q,s,rfl,d,e⟩:=c.ofCons;let⟨t,u,rfl,f,g⟩:=e.ofCons;let l:=d.ofInt;let m:=f.ofInt;let n:=g.ofNil;subst l m n;show⟨p::as,rfl,.cons b k⟩
noncomputable def cntW(ws:List (Int×Int))(ns:List Int)(w:Int×Int):Int:=ns.getD (ws.idxOf w) 0
noncomputable abbrev Wk(wk:List Blk):List Wy:=xK wk wk.length
structure FIn(K:SJ)(H:Hp)(wa:Sf)(n:Nat)(sl:Sf)(ws:List (List Blk))(wk:List Blk)(S:List Wy):Prop where
 hW:Den K H (xW ws) (.ref wa)
 ok:WsOk ws
 at_:ws[n]? = Sa wk
 sl:∃ts,H sl=Sa (.lst ts)/\DenL K H (S.map pairD) ts
 sW:∀v∈S,v∈Wk wk
 sn:S.length<=100
def Tg(wk:List Blk)(t:Int):Prop:=t = -1\/t=wk.length
def NoWay(N:Int->List Int)(S T:Int->Prop):Prop:=∀s,S s->∀y,Reach N s y->¬T y
noncomputable def ties(S:List Wy):List Wy:=S++S.map tw
theorem ju{m a:Int}(h:WorkOk m a b)(d:1<=m):∀v∈Wk b,v.1∈univ b.length/\v.2∈univ b.length:=λv c=>by
 let e:=h.len;unfold Wk at c;rw[uL]at c;rw[wX,wX];rcases aM.mp c with z|z
 .rw [z];show⟨⟨Int.le_refl _,by change(-1:Int)<=_;lia⟩,by change(-1:Int)<=0;decide,by change(0:Int)<=_;lia⟩
 .let:=jV h z;lia
theorem qY2{m a:Int}(h:WorkOk m a c)(e:m<=12):(Wk c).length<=25:=by
 let:=jS (λb d=>(h.blk b d).ns.few) c.length;let f:=h.len;change(xK c c.length).length<=25;lia
theorem vL{c:List (List Blk)}{n:Nat}{b:List Blk}{m a x y:Int}(h:WorkOk m a b)(d:BusyP c n b x y):0<=y/\y<b.length:=by
 let e:=h.len;rcases d with z|⟨z,_⟩
 .let⟨k,rfl,f,_⟩:=mem_wrTo.mp z;lia
 .let:=kW h z;lia
theorem qQz{N:Int->List Int}{U:List Int}(e:∀x∈U,∀y∈N x,y∈U):∀ {a:Int} {r:List Int},a∈U->(∀s∈stp (a::r),s.2∈N s.1) -> ∀x∈a::r,x∈U
 |a,[],c,_,x,d=>by rw[aH.mp d];show c
 |a,b::r,c,h,x,d=>by
  let f:b∈N a:=h (a,b) (by change(a,b)∈(a,b)::stp (b::r);simp);rcases aM.mp d with z|z
  .rw [z];show c
  .exact qQz e (e a c b f) (λs g=>h s (by change s∈(a,b)::stp (b::r);simp[g])) x z
theorem tg_iff{y:Int}:y∈[-1,(a.length:Int)]↔Tg a y:=by unfold Tg;simp
def jv(K:SJ):Sp:=λvs H Q _ => ∃(wa:Sf) (wk:List Blk) (m works:Int),vs = [.ref wa]/\Den K H (workD wk) (.ref wa)/\WorkOk m works wk/\m<=12 /\
 ∀(l:Sf)(ns:List Int)(H':Hp),H l=Sb->Ext [] H H'->H' l=Sa (.lst (ns.map V.int))->(∀y,y∈ns↔y∈yk wk)->ns.length<=8->Q (.ref l) H'
def kZ(K:SJ):Sp:=λvs H Q _ => ∃(wa:Sf) (wk:List Blk) (m works:Int),vs = [.ref wa]/\Den K H (workD wk) (.ref wa)/\WorkOk m works wk/\m<=12 /\
 ∀(l:Sf)(us:List V)(H':Hp),H l=Sb->Ext [] H H'->H' l=Sa (.lst us)->DenL K H' ((Wk wk).map pairD) us->Q (.ref l) H'
theorem qHk{K:SJ}{p:Sf}{i:Int}{ts:List Int}{H:Hp}{σ:St}{Q:Sf->Hp->Prop}(o:σ = [Sb,Sa (.int i)])(s:SqT K H p (ts.map V.int))(few:ts.length<=2)(k:∀(a:Sf)(b:List V)(G:Hp),H a=Sb->Ext [] H G->G a=Sa (.lst b)->DenL K G (ts.map λx=>pairD (i,x)) b->Q a G):∀a,H a=Sb->LoopT (Itt K p) (gName 0) (tAll []) (eApp (tTup (tCons (tVar 1) (tCons (tVar 0) tNil))) a) σ (upd H a (.lst [])) λ_ G=>Q a G:=by
 intro a e;subst o;show qNf (xs:=ts.map V.int) (λj f G=>∃(m:Option V)(b:List V),f=[m,Sa (.int i)]/\Ext [a] H G/\G a=Sa (.lst b)/\DenL K (wo [a] G) ((ts.take j).map λx=>pairD (i,x)) b) ?_ ?_ ?_ ?_
 .exact⟨Sb,[],rfl,.laid e,zB,.nil⟩
 .rintro j f G t ⟨m,b,rfl,h,d,c⟩;show(h.drop e).toSame.seqT s
 .rintro j x f G R u ⟨m,b,rfl,h,d,c⟩ v;let⟨y,q,rfl⟩:=zV u;let t:j<ts.length:=(aC.mp q).1;show vg (wz (iteT (wC (wA (xJ (zm rfl (xJ (zm rfl (xf ⟨len2 (by change 2<=1000;decide),λn l=>?_⟩)))))))));let g:n≠a:=(zG d l).symm;let w:b.length=j:=by rw[c.len,aA,aY];lia
  let r:Ext [a] G (upd (upd G n (.tup [.int i,.int y])) a (.lst (b++[.ref n]))):=(Ext.laid l).trans .pt;show⟨b,by rw[zC g.symm];show d,zU ∎,v _ _ ⟨_,b++[.ref n],rfl,h.trans r,zB,?_⟩⟩;rw[zY q,aG];show DenL.append (c.mono r.same) (.cons (.tuple (SqT.of ?_) (.cons .int (.cons .int .nil))) .nil);rw[yC (by simpa using g),zC g,zB]
 .rintro f G ⟨m,b,rfl,h,d,c⟩;rw[aA,aU]at c;show k a b G e (h.drop e) d (c.mono (xw _ _))
noncomputable def uU(as:List (List Int)):PyData:=.list (as.map intsD)
noncomputable def uV(as:List (List Int))(x:Int):Deed->Bool
 |.call c=>decide (x∈as.getD c.toNat [])
 |_=>Sd
noncomputable def fstR(as:List (List Int))(x:Int)(d:Deed):Bool:=rdB x d||uV as x d
noncomputable def yG(as:List (List Int))(x:Int):List Deed->Str
 |[]=>""
 |d::ds=>if fstR as x d=Sc then "read" else if wrB x d=Sc then "write" else yG as x ds
def qPs(K:SJ):Sp:=λvs H Q _ => ∃(v:V) (ak:Sf) (ds:List Deed) (as:List (List Int)) (x:Int),vs = [v,.int x,.ref ak]/\Den K H (.list (ds.map deedD)) v/\Den K H (uU as) (.ref ak)/\(∀d∈ds,wQ as.length d) /\
 ∀H',Ext [] H H'->Q (.str (yG as x ds)) H'
noncomputable def qZh:Deed->Bool
 |.tell _=>Sc
 |_=>Sd
noncomputable def isAdd:Deed->Bool
 |.add _ _=>Sc
 |_=>Sd
theorem qY3(d:Deed):decide (dword d="tell")=qZh d:=by
 cases d<;>first|show decide_eq_true rfl|show decide_eq_false (by change ¬(_:Str)=_;simp only[dword];decide)
theorem jw(d:Deed):decide (dword d="add")=isAdd d:=by
 cases d<;>first|show decide_eq_true rfl|show decide_eq_false (by change ¬(_:Str)=_;simp only[dword];decide)
section
variable{K:SJ}{σ:St}{H:Hp}{R:Bool->Hp->Prop}{p:Sf}{d:Deed}{x:Int}{n m:Nat}
theorem uW(a:σ[n]? = Sa (Sa (.ref p)))(b:SqT K H p (V.str (dword d)::(dargs d).map V.int))(q:R (decide (dword d=s)) H):tTest (tOp rEq (tOp (rIxT K) (tVar n) (tC (.int 0))) (tC (.str s))) σ H R:=xI (yV (yV (zm a (r_c (yH b (show atI _ ((0:Nat):Int)=Sa (V.str (dword d))from zS rfl) (r_c (kB ⟨_,rfl,q⟩)))))))
theorem qY7(b:σ[n]? = Sa (Sa (.ref p)))(c:σ[m]? = Sa (Sa (.int x)))(a:SqT K H p (V.str (dword d)::(dargs d).map V.int))(q:R (decide (darg d=x)) H):tTest (tOp rEq (tOp (rIxT K) (tVar n) (tC (.int 1))) (tVar m)) σ H R:=by
 let⟨r,e⟩:=kP d;rw[e]at a;show xI (yV (yV (zm b (r_c (yH a (show atI _ ((1:Nat):Int)=Sa (V.int (darg d))from zS rfl) (zm c (xC ⟨_,rfl,q⟩)))))))
theorem qT3(a:σ[n]? = Sa (Sa (.ref p)))(e:σ[m]? = Sa (Sa (.int x)))(f:SqT K H p (V.str (dword d)::(dargs d).map V.int))(q:∀c,Ext [] H c->R (decide (x∈dargs d)) c):tTest (tOp (rIn K Sd) (tVar m) (tSl (rSlT K) (tVar n) (tPart (tC (.int 1))) ui)) σ H R:=by
 show xI (yV (zm e (vB (zm a (vD (r_c ⟨1,rfl,vC ⟨p,_,rfl,f,?_,λg b=>?_⟩⟩))))))
 .intro h;let:=h.1;revert this;let a:(V.str (dword d)::(dargs d).map V.int).length=(dargs d).length+1:=by simp
  let:=(qL0 d).1;rw[a];unfold HT.sIx;simp
  try lia
 rw[cut1];show⟨g,(dargs d).map V.int,rfl,.inr (SqT.of zB),rfl,yY _,?_⟩;rw[if_neg aL,yX];show⟨_,rfl,q _ (.laid b)⟩
theorem qY5(a : σ[n]? = Sa (Sa (.ref p)))(h : σ[m]? = Sa (Sa (.int x)))(c:SqT K H p (V.str (dword d)::(dargs d).map V.int))(k:∀g,Ext [] H g->R (rdB x d) g):tOr (tAnd (tTest (tOp rEq (tOp (rIxT K) (tVar n) (tC (.int 0))) (tC (.str "tell")))) (tTest (tOp rEq (tOp (rIxT K) (tVar n) (tC (.int 1))) (tVar m))))
   (tAnd (tTest (tOp rEq (tOp (rIxT K) (tVar n) (tC (.int 0))) (tC (.str "add")))) (tTest (tOp (rIn K Sd) (tVar m) (tSl (rSlT K) (tVar n) (tPart (tC (.int 1))) ui)))) σ H R:=by
 show wB (yt (uW a c ?_));rw[qY3];let f:=k H (.refl _ _);cases d with
 |tell b=>
  show iteT (qY7 a h c ?_);by_cases e:darg (.tell b)=x
  .rw [decide_eq_true e];show iteT ?_;rw[show rdB x (.tell b)=Sc by simp[rdB,wW,dargs];show e.symm]at f;show f
  .rw [decide_eq_false e];show iteF (yt (uW a c ?_));rw[jw];show iteF ?_;rw[show rdB x (.tell b)=Sd by simp[rdB,wW,dargs];show λz=>e z.symm]at f;show f
 |add b o=>
  show iteF (iteF (yt (uW a c ?_)));rw[jw]
  show iteT (qT3 a h c λg e=>by
   let:=k g e;rw[show rdB x (.add b o)=decide (x∈dargs (.add b o))by simp[rdB,wW]]at this
   show this)
 |_=>
  show iteF (iteF (yt (uW a c ?_)));rw[jw];show iteF f
theorem qWi(c:σ[n]? = Sa (Sa (.ref p)))(h:σ[m]? = Sa (Sa (.int x)))(e:SqT K H p (V.str (dword d)::(dargs d).map V.int))(k:∀f,Ext [] H f->R (wrB x d) f):tAnd (tTest (tOp (rIn K Sd) (tOp (rIxT K) (tVar n) (tC (.int 0))) (tTup (tCons (tC (.str "set")) (tCons (tC (.str "add")) tNil))))) (tTest (tOp rEq (tOp (rIxT K) (tVar n) (tC (.int 1))) (tVar m))) σ H R:=by
 show yt (xI (yV (yV (zm c (r_c (yH e (show atI _ ((0:Nat):Int)=Sa (V.str (dword d))from zS rfl) (wA (xJ (r_c (xJ (r_c (xf ⟨len2 (by change 2<=1000;decide),λpt b=>?_⟩))))))))))));let g:Ext [] H (upd H pt (.tup [.str "set",.str "add"])):=.laid b;show⟨pt,[V.str "set",.str "add"],rfl,.inr (SqT.of zB),rfl,rfl,?_⟩;rw[if_neg aL,kQ];show⟨_,rfl,?_⟩;let a:=k _ g;unfold wrB at a;cases hw:(wr d).isSome with
 |true=>
  rw[hw]at a;show iteT (qY7 c h (g.toSame.seqT e) a)
 |false=>
  rw[hw]at a;show iteF a
theorem qWj{k:Nat}(g:σ[n]? = Sa (Sa (.ref p)))(r:σ[m]? = Sa (Sa (.int x)))(s:σ[k]? = Sa (Sa (.ref f)))(h:SqT K H p (V.str (dword d)::(dargs d).map V.int))(t:Den K H (uU as) (.ref f))(hd:wQ as.length d)(q:R (uV as x d) H):tAnd (tTest (tOp rEq (tOp (rIxT K) (tVar n) (tC (.int 0))) (tC (.str "call")))) (tTest (tOp (rIn K Sd) (tVar m) (tOp (rIxL K) (tVar k) (tOp (rIxT K) (tVar n) (tC (.int 1)))))) σ H R:=by
 show yt (uW g h ?_);rw[qKz];cases d with
 |call c=>
  show iteT ?_;let⟨_,B,e,u,v⟩:=t.ofList;cases e;let⟨w,C⟩:=hd;let⟨j,rfl⟩:=Int.eq_ofNat_of_zero_le w;let o:j<as.length:=by lia
  let⟨y,z,a⟩:=v.get' (i:=j) (d:=intsD as[j]) (by rw[aR,aE o];rfl);let⟨l,D,rfl,A,b⟩:=a.ofList;let b:=b.ints;subst b;show xI (yV (zm r (yV (zm s (yV (zm g (r_c (yH h (show atI _ ((1:Nat):Int)=Sa (V.int (j:Int))from zS rfl) (zL u (zS z) ⟨l,as[j].map V.int,rfl,.inl A,rfl,yY _,?_⟩)))))))));rw[if_neg aL,yX];show⟨_,rfl,?_⟩;let e:uV as x (.call (j:Int))=decide (x∈as[j]):=by
   change decide (x∈as.getD ((j:Int)).toNat [])=_;rw[bE,aV,aE o];rfl
  rw[e]at q;show q
 |_=>show iteF q
end
def rEqE(K:SJ):R2:=λx y H Q=>∃a b xs,x=.ref a/\y=.ref b/\((SqL K H a xs/\SqL K H b [])\/(SqT K H a xs/\SqT K H b []))/\Q (.bl xs.isEmpty) H
theorem qVv(k:X.A.units<cLine):OpR X (SC .Eq) (rEqE X.K):=by
 intro o s σ H x y v u Q I t w h;let⟨a,b,l,rfl,rfl,B,q⟩:=h;cases t;cases w;rcases B with ⟨d,f⟩|⟨d,f⟩
 .let⟨c,r,p,_⟩:=I.list d;let⟨g,m,i,_⟩:=I.list f;cases m;let n:=r.length;cases l with
  |nil=>
   cases r;show SeqAt.eq_listAt p.isList i.isList rfl k (e:=λ_=>Sc) (λj d=>absurd d ∅) ⟨.bl Sc,H,I,rfl,q⟩
  |cons z zs=>
   show SeqAt.eq_list_lengthsAt p.isList i.isList (by rw[aP,<-n];rfl) k ⟨.bl Sd,H,I,rfl,q⟩
 .let⟨c,r,p,_⟩:=I.tuple d;let⟨g,m,i,_⟩:=I.tuple f;cases m;let n:=r.length;show SeqAt.eq_tupleAt (e:=λ_=>Sc) p i k (λj _ f=>absurd f ∅) ?_;let e:((List.range (min c.toArray.size ([]:List Se).toArray.size)).all (λ_=>Sc)&&c.toArray.size == ([]:List Se).toArray.size)=l.isEmpty:=by
   rw[aP,<-n];cases l<;>rfl
  rw[e];show⟨.bl _,H,I,rfl,q⟩
def rNeE(K:SJ):R2:=λx y H Q=>∃a b xs,x=.ref a/\y=.ref b/\SqL K H a xs/\SqL K H b []/\Q (.bl (!xs.isEmpty)) H
theorem qZ8(d:X.A.units<cLine):OpR X (SC .NotEq) (rNeE X.K):=by
 intro f s σ H x y v u Q I k l h;let⟨a,b,m,rfl,rfl,c,n,q⟩:=h;cases k;cases l;let⟨o,r,p,_⟩:=I.list c;let⟨g,t,i,_⟩:=I.list n;cases t;let w:=r.length;cases m with
 |nil=>
  cases r;show SeqAt.RcNeAt.lists (e:=λ_=>Sc) p.isList i.isList rfl d (λj c=>absurd c ∅) _ _ _ _ ⟨.bl Sd,H,I,rfl,q⟩
 |cons z zs=>
  show SeqAt.RcNeAt.lists_lengths p.isList i.isList (by rw[aP,<-w];rfl) d _ _ _ _ ⟨.bl Sc,H,I,rfl,q⟩
end L2
namespace L2
open PySem PySem.Spec PyProof.Rows PyProof
theorem DenX.bool{K:SJ}{b:Bool}:DenX K H (.bool b) (.bl b):=by simp only[DenX]
theorem jx{a b:Bool}(q:Q (.bl (!decide (a=b))) H):rNe (.bl a) (.bl b) H Q:=⟨rfl,by
 rw[show decide (V.bl a=V.bl b)=decide (a=b)from decide_eq_decide.mpr ⟨λz=>V.bl.inj z,λz=>by rw[z]⟩];show q⟩
theorem qKe{α:Type}(xs:List α)(f:Nat->Nat)(a:∀k,k<xs.length->f k=xs.length-1-k):(List.range xs.length).filterMap (λk=>xs[f k]?)=xs.reverse:=by
 let e:(List.range xs.length).map (λk=>xs[f k]?)=xs.reverse.map Sa:=by
  show List.ext_getElem ∅ λi b g=>?_;let c:i<xs.length:=by simpa using b
  rw[List.getElem_map,List.getElem_map,List.getElem_range,List.getElem_reverse,a i c];show aE _
 let d:(List.range xs.length).filterMap (λk=>xs[f k]?)=((List.range xs.length).map (λk=>xs[f k]?)).filterMap id:=by rw[List.filterMap_map];rfl
 rw[d,e,List.filterMap_map];show List.filterMap_some
theorem qT9(its:List Se):slicePick its.toArray Sb Sb (Sa (-1))=its.reverse.toArray:=by
 let a:¬((-1:Int)>0):=by lia
 unfold slicePick sliceBounds;simp only[Option.getD_some,a,if_false,aP];unfold sliceRange;simp only[a,if_false];let b:(if ((its.length:Int)-1 > -1)then ((its.length:Int)-1 - -1 - -1-1) / (- -1)else 0).toNat=its.length:=by
  split
  .rw [show(- -1:Int)=1 from rfl,Int.ediv_one];lia
  .lia
 rw[b,List.filterMap_map]
 congr 1
 let e:((λx=>its.toArray[x]?)∘λk:Nat=>((its.length:Int)-1 + -1*(k:Int)).toNat)=λk:Nat=>its[((its.length:Int)-1 + -1*(k:Int)).toNat]?:=by
  funext k
  simp only[Function.comp,eO]
 rw[e];show qKe its (λk=>((its.length:Int)-1 + -1*(k:Int)).toNat) λk c=>by change((its.length:Int)-1 + -1*(k:Int)).toNat=_;lia
def rRev(K:SJ)(x:V)(H:Hp)(Q:VK):Prop:=∃a xs,x=.ref a/\((SqL K H a xs/\∀p,H p=Sb->Q (.ref p) (upd H p (.lst xs.reverse)))\/(SqT K H a xs/\∀p,H p=Sb->Q (.ref p) (upd H p (.tup xs.reverse))))
def tRev(K:SJ)(te tt:TE):TE:=λσ H Q=>te σ H λx H1=>tt σ H1 λy H2=>y=.int (-1)/\rRev K x H2 Q
theorem qMb{n:Nat}(d:s.heap.IsSliceOf c .none .none vs)(f:IsPart vs (Sa (-1)))(h:Q ((n:Int)-1,-1,n) s):Sm (So P w) A (Builtin.Slice.sliceApplied (.ref c) (pure (n:Int))) Q E s:=by
 let⟨os,a,g,b⟩:=id d;unfold Builtin.Slice.sliceApplied Builtin.Slice.sliceFields;show aB (aB (dX a b (x:=.none) rfl (aB (dX a b (x:=.none) rfl (aB (dX a b (x:=vs) rfl (aD ?_)))))));show aB (HT.slicePart_ f ?_);change Sm _ _ (if ((-1:Int) == 0)=Sc then _ else _) _ _ s;rw[if_neg ⋯];show aB (HT.slicePart_ .none (aB (HT.slicePart_ .none (aB (aD ?_)))));change Sm _ _ (match Builtin.Slice.sliceAdjust Sb Sb (-1) (n:Int)with|(lo,hi)=>pure (lo,(-1:Int),Builtin.Slice.slicePlaces lo hi (-1))) _ _ s;rw[show Builtin.Slice.sliceAdjust Sb Sb (-1) (n:Int)=((n:Int)-1,-1)from rfl]
 change Sm _ _ (pure ((n:Int)-1,(-1:Int),Builtin.Slice.slicePlaces ((n:Int)-1) (-1) (-1))) _ _ s;let e:Builtin.Slice.slicePlaces ((n:Int)-1) (-1) (-1)=n:=by
  unfold Builtin.Slice.slicePlaces;let i:¬((-1:Int)>0):=by lia
  simp only[i,if_false];split
  .rw [show(- -1:Int)=1 from rfl,Int.ediv_one];lia
  .lia
 rw[e];show aD h
theorem qPc{P:Sh}{w:Si}{A:Sj}{E:Se->Sg->Prop}{s:Sg}{t c:Sf}{its:List Se}{vs:Se}{Q:Se->Sg->Prop}(b:IsTup s.heap t its.toArray)(l:s.heap.IsSliceOf c .none .none vs)(n:IsPart vs (Sa (-1)))
  (h:Q (.ref s.heap.objs.size) {s with heap:=s.heap.push {cls:=.type "tuple",data:=.seq its.reverse.toArray}})
  (d:its.length<=Sn):Sm (So P w) A (getItem (.ref t) (.ref c)) Q E s:=by
 let a:sizeOk (.seq its.reverse.toArray):=by
  change its.reverse.toArray.size<=Sn;rw[aP,gY];show d
 let⟨os,f,g,o⟩:=id l;let i:s.TypeIs (.ref c) "slice":=⟨os,f,g⟩;unfold getItem
 try with_reducible refine bU ?_
 first|show aB (aD ?_)|skip
 show aB (wpAny_sequenceKey b.typeIs ⋯ ?_)
 refine aB (dY (name:=Str.ofString "__getitem__") b.typeIs cR
  (cK cR b.typeIs PyProof.Rows.entry_tuple_getitem ?_ (PyProof.Rows.args_tuple_getitem _ _)))
 change Sm _ _ (Builtin.Tuple.tupleItemsOf (.ref t) >>=_) _ _ s;show aB (PyProof.Rows.tupleItemsOf_ b ?_);show aB (gC i ?_);rw[if_pos ⋯];show aB (qMb l n ?_);change Sm _ _ (if (((its.toArray.size:Int)-1) == 0&&(-1:Int) == 1&&its.toArray.size == its.toArray.size)=Sc then _ else _) _ _ s;let j:¬((((its.toArray.size:Int)-1) == 0&&(-1:Int) == 1&&its.toArray.size == its.toArray.size)=Sc):=by
  intro q;rw[bT,bT]at q;show absurd q.1.2 ⋯
 rw[if_neg j];let e:((List.range its.toArray.size).filterMap λ(m:Nat)=>its.toArray[((its.toArray.size:Int)-1+(m:Int)*(-1)).toNat]?).toArray=its.reverse.toArray:=by
  congr 1
  simp only[aP,eO];show qKe its (λk=>((its.length:Int)-1+(k:Int)*(-1)).toNat) λk p=>by change((its.length:Int)-1+(k:Int)*(-1)).toNat=_;lia
 rw[e]
 first
  |show aB (m:=Builtin.Tuple.tupleExact _) (bZ (aD ⟨_,rfl,aD h⟩) a)
  |show aB (m:=Builtin.Tuple.tupleExact _) (bZ (aB (aD (aD ⟨_,rfl,aD h⟩))) a)
  |show aB (aB (m:=Builtin.Tuple.tupleExact _) (bZ (aD (aD ⟨_,rfl,aD h⟩)) a))
  |show aB (aB (m:=Builtin.Tuple.tupleExact _) (bZ (aD ⟨_,rfl,aD h⟩) a))
theorem qZ3{e st:Sl}{t u:TE}{z k:Sx}(D:PE X e t)(E:PE X st u):PE X (.Subscript e (.Slice Sb Sb (Sa st) z) k) (tRev X.K t u):=by
 intro c s σ H Q I h;show Subscript_ (thn (D c s σ H _ I h) λv F hq_=>?_);let⟨x,G,J,L,M⟩:=hq_;show wpAny_Slice ?_;change Sm _ _ (pure Value.none) _ _ _;show aD ?_;change Sm _ _ (pure Value.none) _ _ _;show aD ?_;rw[evalPart_some];show thn (E c F σ G _ J M) λT d hq_=>?_;let⟨y,N,O,P,l⟩:=hq_;let⟨rfl,a,B,rfl,l⟩:=l;let⟨tk,rfl⟩:=P;cases L;let f:Inv X c σ N {d with heap:=d.heap.push {cls:=.type "slice",data:=.fields #[.none,.none,.int (-1) tk]}}:=O.kept (t':=d.toks) λb C q=>aJ _ q;let R:(d.heap.push {cls:=.type "slice",data:=.fields #[.none,.none,.int (-1) tk]}).IsSliceOf d.heap.objs.size .none .none (.int (-1) tk):=Heap.IsSliceOf.new ..
 change Sm (So X.prog X.w) X.A (subscriptTail e (.Slice Sb Sb (Sa st) z) (.ref a) (.ref d.heap.objs.size)) (EP X c σ Q) X.xe {d with heap:=d.heap.push {cls:=.type "slice",data:=.fields #[.none,.none,.int (-1) tk]}};generalize S:({d with heap:=d.heap.push {cls:=.type "slice",data:=.fields #[.none,.none,.int (-1) tk]}}:Sg)=s4 at f ⊢;let g:s4.heap.IsSliceOf d.heap.objs.size .none .none (.int (-1) tk):=by rw[<-S];show R
 rcases l with ⟨m,q⟩|⟨m,q⟩
 .let⟨n,r,i,p⟩:=f.list m;let j:=r.length;show tail_any (ops:=[.ref a,.ref d.heap.objs.size]) i.isList.typeIs slot_list_getitem.lookup ?_ (by with_unfolding_all rfl);show wpAny_getItem_list_slice i.isList g .none .none (.int _ _) ∅ ?_ (by rw[aP]<;>lia);rw[qT9];show⟨.ref s4.heap.objs.size,_,f.laid (t':=s4.toks) (o:=.lst B.reverse) (λb C q=>aJ _ q) (aI _) ?_,rfl,q _ (f.hok.fresh (aI _))⟩;show⟨by rw[gY];show p,_,0,r.reverse,aW _ rfl⟩
 .let⟨n,r,i,p⟩:=f.tuple m;let j:=r.length;show tail_any (ops:=[.ref a,.ref d.heap.objs.size]) i.typeIs cR.lookup ?_ (by with_unfolding_all rfl);show qPc i g (.int _ _) ?_ ∎;show⟨.ref s4.heap.objs.size,_,f.laid (t':=s4.toks) (o:=.tup B.reverse) (λb C q=>aJ _ q) (aI _) ?_,rfl,q _ (f.hok.fresh (aI _))⟩;show⟨by rw[gY];show p,_,r.reverse,IsTup.new _ _⟩
theorem DenXs.app{K:SJ}:∀ {a b:List PyData} {us vs:List V},DenXs K H a us->DenXs K H b vs->DenXs K H (a++b) (us++vs)
 |[],b,us,vs,h,t=>by rw[h.ofNil];show t
 |d::a,b,us,vs,h,t=>by
  let⟨v,r,rfl,c,e⟩:=h.ofCons;show .cons c (DenXs.app e t)
theorem DenXs.at{K:SJ}{k:Nat}(h:DenXs K H a us)(e:a[k]? = Sa d):∃v,us[k]? = Sa v/\DenX K H d v:=by
 let g:=(aC.mp e).1;let i:=h.len;let b:us[k]? = Sa us[k]:=aE ∎;let⟨j,c,f⟩:=h.get b;rw[e]at c;cases c;show⟨_,b,f⟩
theorem qW1{n j:Nat}(h:j<n):ixN n (j:Int)=Sa j:=by
 unfold ixN;rw[if_pos ∎,if_pos ∎];simp
end L2
namespace L2
open PySem PySem.Spec PyProof.Rows
inductive Aw(as:List (List Int))(wk:List Blk)(x:Int):Int->Prop
 |read {b:Nat} {k:Blk}:wk[b]? = Sa k->yG as x k.ds="read"->Aw as wk x b
 |step {b:Nat} {k:Blk} {t:Int}:wk[b]? = Sa k->yG as x k.ds=""->t∈k.ns->Aw as wk x t->Aw as wk x b
def jy(K:SJ):Sp:=λvs H Q _ => ∃(wa ak:Sf) (wk:List Blk) (m:Int) (as:List (List Int)) (x:Int),vs = [.ref wa,.int x,.ref ak]/\Den K H (workD wk) (.ref wa)/\WorkOk m as.length wk/\m<=12/\Den K H (uU as) (.ref ak) /\
 ∀(l:Sf)(bs:List Bool)(H':Hp),H l=Sb->Ext [] H H'->H' l=Sa (.lst (bs.map V.bl))->bs.length=wk.length->(∀b:Nat,bs[b]? = Sa Sc↔Aw as wk x b)->Q (.ref l) H'
theorem uX{m a:Int}(h:WorkOk m a c){b:Nat}{t:Int}:((b:Int),t)∈Wk c/\t<c.length ↔ ∃k,c[b]? = Sa k/\t∈k.ns:=by
 let q:=h.len;unfold Wk;rw[uL];constructor
 .rintro⟨l,f⟩;rcases aM.mp l with z|z
  .let:=congrArg Prod.fst z;simp at this
  .let⟨i,n,o⟩:=in_rest.mp z;let⟨g,e⟩:=mem_outs.mp o;let g:(b:Int)=(i:Int):=g;let:b=i:=by lia
   subst this;let d:c[b]? = Sa c[b]:=aE n;rw[vG d]at e;rcases e with e|⟨_,j⟩
   .exact⟨_,d,e⟩
   .let j:t=(c.length:Int):=j;lia
 .rintro⟨k,d,f⟩;let p:=(aC.mp d).1;let r:=(h.blk k (aK d)).ns.range t f;show⟨aS _ (in_rest.mpr ⟨b,p,mem_outs.mpr ⟨rfl,.inl (by rw[vG d];show f)⟩⟩),∎⟩
theorem qSk{m:Int}{x:Int}{bs:List Bool}(h:WorkOk m as.length a)(o:bs.length=a.length)(f:∀(b:Nat) (k:Blk),a[b]? = Sa k->yG as x k.ds = "read" -> bs[b]? = Sa Sc)
  (g:∀v∈Wk a,0<=v.1->v.2<(a.length:Int)->bs[v.2.toNat]? = Sa Sc->(∀k,a[v.1.toNat]? = Sa k->yG as x k.ds="")->bs[v.1.toNat]? = Sa Sc) {b:Int} (e:Aw as a x b):bs[b.toNat]? = Sa Sc:=by
 induction e with
 |read d hf=>rw[bE];show f _ _ d hf
 |@step b k t d hf i e j=>
  let⟨l,n⟩:=(uX h).mpr ⟨k,d,i⟩
  let:=g _ l (by change(0:Int)<=(b:Int);lia) n j (λp c=>by
   rw[show((b:Int),t).1.toNat=b from bE b,d]at c;cases c
   show hf)
  show this
noncomputable def cntF(bs:List Bool):Nat:=(bs.filter λb=>!b).length
theorem qSc:∀ {bs:List Bool} {i:Nat},bs[i]? = Sa Sd->cntF (bs.set i Sc)+1=cntF bs
 |[],_,h=>by simp at h
 |b::bs,0,h=>by
  let e:b=Sd:=by simpa using h
  subst e;simp[cntF]
 |b::bs,i+1,h=>by
  let a:=qSc (bs:=bs) (i:=i) (by simpa using h);unfold cntF at a ⊢;cases b<;>simp at a ⊢<;>lia
def kb(as:List (List Int))(wk:List Blk)(x:Int)(bs:List Bool)(v:Int×Int):Prop:=0<=v.1->v.2<(wk.length:Int)->bs[v.2.toNat]? = Sa Sc->(∀k,wk[v.1.toNat]? = Sa k->yG as x k.ds="")->bs[v.1.toNat]? = Sa Sc
structure AwI(as:List (List Int))(wk:List Blk)(x:Int)(bs:List Bool):Prop where
 len:bs.length=wk.length
 aw:∀b:Nat,bs[b]? = Sa Sc->Aw as wk x b
 rd:∀(b:Nat)(k:Blk),wk[b]? = Sa k->yG as x k.ds="read"->bs[b]? = Sa Sc
theorem AwI.set{m:Int}{x:Int}{bs:List Bool}(I:AwI as d x bs)(h:WorkOk m as.length d){a b:Nat}{k:Blk}(g:d[a]? = Sa k)(j:(b:Int)∈k.ns)(l:bs[b]? = Sa Sc)(n:yG as x k.ds=""):AwI as d x (bs.set a Sc):=by
 let o:=(aC.mp g).1;show⟨by rw[List.length_set];show I.len,λc i=>?_,λc p f q=>?_⟩
 .by_cases e:c=a
  .subst e;show .step g n j (I.aw b l)
  .rw [eV (λz=>e z.symm)]at i;show I.aw c i
 .by_cases e:c=a
  .subst e;rw[fE (by rw[I.len];show o)]
  .rw [eV (λz=>e z.symm)];show I.rd c p f q
theorem qZb(h:H l=Sa (.lst xs)):NoT H l:=λa z=>by
 unfold Rd at z;rcases z with z|⟨o,z⟩<;>rw[h]at z<;>cases z
theorem st1:¬(("write" : Str)="read"):=by decide
theorem st2:¬(("" : Str)="read"):=by decide
theorem st3:¬(("read" : Str)=""):=by decide
theorem st4:¬(("write" : Str)=""):=by decide
theorem first_read{x:Int}:∀ {ds:List Deed},yG as x ds = "read" ↔ (till x ds).any (fstR as x)=Sc
 |[]=>by
  constructor
  .exact λh=>absurd h st2
  .intro h;cases h
 |d::ds=>by
  let b:=first_read (as:=as) (x:=x) (ds:=ds);unfold yG till;cases a:fstR as x d with
  |true=>
   rw[if_pos rfl];constructor
   .intro _;split<;>simp[a]
   .exact λ_=>rfl
  |false=>
   rw[if_neg aL];cases c:wrB x d with
   |true=>
    rw[if_pos rfl,if_pos rfl];constructor
    .exact λh=>absurd h st1
    .intro h;simp[a]at h
   |false=>
    rw[if_neg aL,if_neg aL,b,gM,a,Bool.false_or]
theorem first_none{x:Int}:∀ {ds:List Deed},yG as x ds = "" ↔ (till x ds).any (fstR as x)=Sd/\wrote x ds=Sd
 |[]=>by
  constructor
  .exact λ_=>⟨rfl,rfl⟩
  .exact λ_=>rfl
 |d::ds=>by
  let c:=first_none (as:=as) (x:=x) (ds:=ds);unfold yG till;cases a:fstR as x d with
  |true=>
   rw[if_pos rfl];constructor
   .exact λh=>absurd h st3
   .rintro⟨h,_⟩;split at h<;>simp[a]at h
  |false=>
   rw[if_neg aL];cases b:wrB x d with
   |true=>
    rw[if_pos rfl,if_pos rfl];constructor
    .exact λh=>absurd h st4
    .rintro⟨_,h⟩;simp[wrote,b]at h
   |false=>
    rw[if_neg aL,if_neg aL,c,gM,a,Bool.false_or];simp[wrote,b]
theorem qSj{n b:Nat}{k:Blk}(d:a[n]? = Sa c)(e:c[b]? = Sa k):blkAt a ((n:Int),(b:Int))=Sa k:=by rw[uO,d];show e
theorem mem_calls{x c:Int}{k:Blk}:(c,(0:Int))∈uN x k↔Deed.call c∈till x k.ds:=by
 unfold uN;rw[bG];constructor
 .rintro⟨f,h,e⟩;let⟨d,b,a⟩:=dI.mp h;cases d<;>simp[yw]at a
  subst a;let:=congrArg Prod.fst e;simp at this;rw[<-this];show b
 .intro h;show⟨c,dI.mpr ⟨_,h,rfl⟩,rfl⟩
theorem RT.head(h:b∈N a)(r:RT N b c):RT N a c:=(RT.step .refl h).trans r
theorem qNr{x:Int}(h:q∈metOf b x p)(a:Asks b x q):Asks b x p:=let ⟨r,c,d⟩:=a;⟨r,c.head h,d⟩
theorem qNq(p:∀(n:Nat)(x:Int),x∈as.getD n []->Asks a x ((n:Int),0))(g:WsOk a){n:Nat}(l:a[n]? = Sa i){x b:Int}(h:Aw as i x b):Asks a x ((n:Int),b):=by
 let⟨m,_,_,q⟩:=g.all i (aK l)
 induction h with
 |@read b k e hf=>
  let⟨d,o,hr⟩:=bX.mp (first_read.mp hf);let f:=qSj l e;unfold fstR at hr;rw[eA]at hr;rcases hr with hr|hr
  .exact⟨_,.refl,by unfold yZ;rw[f];show bX.mpr ⟨d,o,hr⟩⟩
  .cases d with
   |call c=>
    let hr:x∈as.getD c.toNat []:=of_decide_eq_true hr;let r:=(q.blk k (aK e)).ds _ (qMh o);obtain⟨j,rfl⟩:∃j:Nat,c=j:=⟨c.toNat,(dD r.1).symm⟩;rw[bE]at hr;show qNr ?_ (p j x hr);unfold metOf;rw[f];show bC _ (mem_calls.mpr o)
   |_=>cases hr
 |@step b k t e hf s v u=>
  let f:=qSj l e;show qNr ?_ u;unfold metOf;rw[f];show bM _ ?_;rw[if_neg (by rw[(first_none.mp hf).2];show aL)];show bG.mpr ⟨t,s,rfl⟩
def AwP(ws:List (List Blk))(as:List (List Int))(x:Int)(p:Pl):Prop:=∃(n:Nat)(wk:List Blk),p.1=n/\ws[n]? = Sa wk/\Aw as wk x p.2
theorem qUq{x:Int}(w:∀(m:Nat)(i:List Blk),b[m]? = Sa i->Aw as i x 0->x∈as.getD m [])(d:q∈metOf b x p)(h:AwP b as x q):AwP b as x p:=by
 unfold metOf at d;cases j:blkAt b p with
 |none=>rw[j]at d;cases d
 |some k=>
  rw[j]at d;let⟨n,a,i,rfl,r,s⟩:=kT j;show⟨n,i,rfl,r,?_⟩;by_cases u:yG as x k.ds="read"
  .exact .read s u
  .let f:(till x k.ds).any (fstR as x)=Sd:=by
    cases z:(till x k.ds).any (fstR as x)with
    |false=>rfl
    |true=>show absurd (first_read.mpr z) u
   let⟨m,y,g,l,v⟩:=h;rcases aN.mp d with z|z
   .exfalso;let A:=z;unfold uN at z;let⟨c,_,e⟩:=bG.mp z;subst e;let g:c=(m:Int):=g;subst g;let:=w m y l v;let B:=List.any_eq_false.mp f _ (mem_calls.mp A);apply B;unfold fstR;rw[show uV as x (.call (m:Int))=Sc from decide_eq_true (by rw[bE];show this),Bool.or_true]
   .by_cases o:wrote x k.ds=Sc
    .rw [if_pos o]at z;cases z
    .rw [if_neg o]at z;let⟨t,C,rfl⟩:=bG.mp z;let g:(n:Int)=(m:Int):=g;let:n=m:=by lia
     subst this;rw[r]at l;cases l;show .step s (first_none.mpr ⟨f,by simpa using o⟩) C v
theorem qM9{x:Int}(j:∀(m:Nat)(e:List Blk),c[m]? = Sa e->Aw as e x 0->x∈as.getD m [])(h:Asks c x p):AwP c as x p:=by
 let⟨q,r,b⟩:=h;let i:AwP c as x q:=by
  unfold yZ at b;cases f:blkAt c q with
  |none=>rw[f]at b;cases b
  |some k=>
   rw[f]at b;let⟨n,a,e,rfl,l,o⟩:=kT f;show⟨n,e,rfl,l,.read o (first_read.mpr ?_)⟩;let⟨d,g,s⟩:=bX.mp b;show bX.mpr ⟨d,g,by unfold fstR;rw[s];rfl⟩
 clear b
 induction r with
 |refl=>show i
 |step _ g t=>show t (qUq j g i)
structure AskI(ws:List (List Blk))(as:List (List Int)):Prop where
 len:as.length=ws.length
 nd:∀a∈as,a.Nodup/\∀x∈a,0<=x/\x<8
 so:∀(n:Nat)(x:Int),x∈as.getD n []->Asks ws x ((n:Int),0)
def wF(ws:List (List Blk))(as:List (List Int))(n:Nat)(x:Int):Prop:=∀wk,ws[n]? = Sa wk->Aw as wk x 0->x∈as.getD n []
def qMq(K:SJ):Sp:=λvs H Q _ => ∃(wa:Sf) (ws:List (List Blk)),vs = [.ref wa]/\Den K H (xW ws) (.ref wa)/\WsOk ws /\
 ∀(l:Sf)(as:List (List Int))(H':Hp),H l=Sb->Ext [] H H'->Den K H' (uU as) (.ref l)->as.length=ws.length->(∀(n:Nat)(wk:List Blk)(b x:Int),ws[n]? = Sa wk->0<=x->x<8->(Aw as wk x b↔Asks ws x ((n:Int),b)))->Q (.ref l) H'
noncomputable def tot(as:List (List Int)):Nat:=(as.map List.length).sum
theorem jz:∀ {as:List (List Int)},(∀a∈as,a.Nodup /\ ∀x∈a,0<=x/\x<8)->tot as<=8*as.length
 |[],_=>aI _
 |a::as,h=>by
  let d:=jz (as:=as) λb c=>h b (aS _ c);let e:=yf 8 (h a (aT ..)).1 (h a (aT ..)).2;change a.length+tot as<=8*(as.length+1);lia
theorem qPd:∀ {as:List (List Int)} {n:Nat} {a:List Int} (x:Int),as[n]? = Sa a->tot (as.set n (a ++ [x]))=tot as+1
 |[],_,_,_,h=>by simp at h
 |b::as,0,a,x,h=>by
  let e:b=a:=by simpa using h
  subst e;simp[tot];lia
 |b::as,n+1,a,x,h=>by
  let c:=qPd (as:=as) (n:=n) (a:=a) x (by simpa using h);unfold tot at c ⊢;simp at c ⊢;lia
theorem AskI.set(I:AskI d as)(f:WsOk d){n:Nat}{x:Int}(l:d[n]? = Sa i)(g:as[n]? = Sa a)(m:x∉a)(o:0<=x)(r:x<8)(s:Aw as i x 0):AskI d (as.set n (a++[x])):=by
 let h:=(aC.mp g).1;show⟨by rw[List.length_set];show I.len,λb t=>?_,λk y c=>?_⟩
 .rcases List.mem_or_eq_of_mem_set t with z|z
  .exact I.nd b z
  .subst z;let⟨u,v⟩:=I.nd a (aK g);show⟨cI.mpr ⟨u,∅,by intro p w q j;simp at j;subst j;show λe=>m (e▸w)⟩,λy c=>?_⟩;rcases aN.mp c with z|z
   .exact v y z
   .rw [aH.mp z];show⟨o,r⟩
 .by_cases e:k=n
  .subst e;rw[aV,fE h]at c;rcases aN.mp (show y∈a++[x]from c)with z|z
   .exact I.so k y (by rw[aV,g];show z)
   .rw [aH.mp z];show qNq I.so f l s
  .rw [aV,eV (λz=>e z.symm),<-aV]at c;show I.so k y c
theorem qMa(I:AskI a as)(d:WsOk a)(j:∀(n:Nat)(x:Int),0<=x->x<8->wF a as n x){n:Nat}{g:List Blk}{b x:Int}(i:a[n]? = Sa g)(k:0<=x)(l:x<8):Aw as g x b↔Asks a x ((n:Int),b):=by
 show⟨qNq I.so d i,λh=>?_⟩;let⟨m,w,e,c,f⟩:=qM9 (λm w c f=>j m x k l w c f) h;let e:(n:Int)=(m:Int):=e;let:n=m:=by lia
 subst this;rw[i]at c;cases c;show f
theorem DenL.setAt{K:SJ}(hd:Den K G d v):∀ {ds:List PyData} {vs:List V} (i:Nat),DenL K G ds vs->DenL K G (ds.set i d) (vs.set i v)
 |[],vs,i,h=>by let:=h.ofNil;subst this;show h
 |e::ds,vs,i,h=>by
  let⟨w,r,rfl,b,a⟩:=h.ofCons;cases i with
  |zero=>show .cons hd a
  |succ i=>show .cons b (DenL.setAt hd i a)
def qPv(K:SJ):Sp:=λvs H Q _ => ∃(wa:Sf) (ws:List (List Blk)) (n:Nat) (wk:List Blk) (x:Int),vs = [.ref wa,.int n,.int x]/\Den K H (xW ws) (.ref wa)/\WsOk ws/\ws[n]? = Sa wk/\0<=x/\x<8 /\
 ∀(l:Sf)(ns:List Int)(H':Hp),H l=Sb->Ext [] H H'->H' l=Sa (.lst (ns.map V.int))->ns.Pairwise (·<=·)->ns.Nodup->(∀y,y∈ns↔BusyP ws n wk x y)->Q (.ref l) H'
def StR(wk:List Blk)(x y:Int):Prop:=∃s∈vK wk x,Reach (nxt wk) s y
theorem qWo{m b:Int}{c:List Blk}{x:Int}(d:WorkOk m b c){v:Int×Int}(j:v∈Wk c)(l:v.2<c.length)(h:v.1∈wrTo c x c.length\/StR c x v.1):StR c x v.2:=by
 let⟨f,n⟩:=v;rcases h with h|h
 .let⟨a,g,_,_⟩:=mem_wrTo.mp h;let g:f=(a:Int):=g;subst g;let⟨k,i,e⟩:=(uX d).mp ⟨j,l⟩;show⟨n,cO.mpr ⟨_,h,by rw[vG i];show e⟩,.refl⟩
 .let o:=kW d h;obtain⟨a,rfl⟩:∃a:Nat,f=a:=⟨f.toNat,(dD o.1).symm⟩;let⟨k,i,e⟩:=(uX d).mp ⟨j,l⟩;let⟨s,p,r⟩:=h;show⟨s,p,.step r (by rw[vG i];show e)⟩
theorem qNy{m e:Int}{c:List Blk}{x:Int}{f:List Int}(g:WorkOk m e c)(i:∀v∈Wk c,v.2<(c.length:Int)->(v.1∈wrTo c x c.length\/v.1∈f)->v.2∈f){y:Int}(h:StR c x y):y∈f:=by
 let z:=g.len;let go:∀(b t:Int),t∈nxt c b->(b∈wrTo c x c.length\/b∈f)->t∈f:=λb t d j=>by
  let o:0<=b:=by
   unfold nxt at d;split at d
   .assumption
   .cases d
  obtain⟨a,rfl⟩:∃a:Nat,b=a:=⟨b.toNat,(dD o).symm⟩;cases l:c[a]? with
  |none=>unfold nxt at d;rw[if_pos o,bE,l]at d;cases d
  |some k=>
   rw[vG l]at d;let⟨p,q⟩:=(uX g).mpr ⟨k,l,d⟩;show i _ p q j
 let⟨s,u,r⟩:=h
 induction r with
 |refl=>
  let⟨b,j,n⟩:=cO.mp u;show go b _ n (.inl j)
 |step _ i w=>show go _ _ i (.inr w)
structure BhI(wk:List Blk)(x:Int)(bh:List Int):Prop where
 nd:bh.Nodup
 rg:∀y∈bh,0<=y/\y<(wk.length:Int)
 st:∀y∈bh,StR wk x y
theorem BhI.few{x:Int}(I:BhI a x b):b.length<=a.length:=yf a.length I.nd I.rg
theorem BhI.snoc{m a:Int}{b:List Blk}{x:Int}{d:List Int}(I:BhI b x d)(c:WorkOk m a b){v:Int×Int}(j:v∈Wk b)(k:v.2<(b.length:Int))(h:v.1∈wrTo b x b.length\/v.1∈d)(l:v.2∉d):BhI b x (d++[v.2]):=by
 let g:=qWo c j k (h.imp id (I.st _));let o:=kW c g;let r:=c.len;show⟨cI.mpr ⟨I.nd,∅,by intro p n q i;simp at i;subst i;show λe=>l (e▸n)⟩,λy f=>?_,λy f=>?_⟩
 .rcases aN.mp f with z|z
  .exact I.rg y z
  .rw [aH.mp z];lia
 .rcases aN.mp f with z|z
  .exact I.st y z
  .rw [aH.mp z];show g
noncomputable def bsyB(wr bh:List Int)(bs:List Bool)(j:Nat):Bool:=decide ((j:Int)∈wr)||(decide ((j:Int)∈bh)&&bs.getD j Sd)
noncomputable def bsyTo(wr bh:List Int)(bs:List Bool)(i:Nat):List Int:=((List.range i).filter (bsyB wr bh bs)).map λ(k:Nat)=>(k:Int)
theorem qOv(wr a:List Int)(bs:List Bool)(i:Nat):bsyTo wr a bs (i+1)=if bsyB wr a bs i=Sc then bsyTo wr a bs i++[(i:Int)]else bsyTo wr a bs i:=by
 unfold bsyTo;rw[eC,cZ,eU,fD];split<;>simp
theorem qSi(wr a:List Int)(bs:List Bool)(i:Nat):(bsyTo wr a bs i).length<=i:=by
 unfold bsyTo;rw[aA];show cH (cC ..) (by rw[cL];show aI _)
theorem qHv(wr a:List Int)(bs:List Bool)(i:Nat):(bsyTo wr a bs i).Pairwise (· < ·):=by
 unfold bsyTo;rw[List.pairwise_map];show(fG.filter _).imp λh=>by lia
theorem qZs{k:List (List Blk)}{n:Nat}{m c:Int}{x:Int}{g:List Int}{bs:List Bool}(i:WorkOk m c a)(I:BhI a x g)(p:∀v∈Wk a,v.2<(a.length:Int)->(v.1∈wrTo a x a.length\/v.1∈g)->v.2∈g)(s:bs.length=a.length)(l:∀b:Nat,bs[b]? = Sa Sc↔Asks k x ((n:Int),(b:Int)))(y:Int):y∈bsyTo (wrTo a x a.length) g bs a.length↔BusyP k n a x y:=by
 let q:y∈bsyTo (wrTo a x a.length) g bs a.length ↔ ∃j:Nat,y=(j:Int)/\j<a.length/\bsyB (wrTo a x a.length) g bs j=Sc:=by
  unfold bsyTo;rw[bG];constructor
  .rintro⟨j,d,rfl⟩;let⟨e,f⟩:=cA.mp d;show⟨j,rfl,aZ.mp e,f⟩
  .rintro⟨j,rfl,e,f⟩;show⟨j,cA.mpr ⟨aZ.mpr e,f⟩,rfl⟩
 rw[q];unfold BusyP bsyB;let o:∀j:Nat,bs.getD j Sd=Sc↔bs[j]? = Sa Sc:=λj=>by
  rw[aV];cases bs[j]? with
  |none=>simp
  |some b=>simp
 constructor
 .rintro⟨j,rfl,d,h⟩;rw[eA,bT,decide_eq_true_eq,decide_eq_true_eq,o,l]at h;rcases h with h|⟨e,f⟩
  .exact .inl h
  .exact .inr ⟨I.st _ e,mem_waitTo.mpr ⟨j,rfl,d,askB_iff.mpr f⟩⟩
 .rintro (h|⟨e,f⟩)
  .let⟨j,rfl,d,_⟩:=mem_wrTo.mp h;show⟨j,rfl,d,by rw[decide_eq_true h];rfl⟩
  .let⟨j,rfl,d,r⟩:=mem_waitTo.mp f;show⟨j,rfl,d,by rw[eA,bT,decide_eq_true_eq,decide_eq_true_eq,o,l];show .inr ⟨qNy i p e,askB_iff.mp r⟩⟩
theorem qWg{K:SJ}{σ:St}{H:Hp}{Q:VK}{p:Sf}{d:Deed}{x:Int}{n m:Nat}(e:σ[n]? = Sa (Sa (.ref p)))(h:σ[m]? = Sa (Sa (.int x)))(a:SqT K H p (V.str (dword d)::(dargs d).map V.int))(k:∀f,Ext [] H f->Q (.bl (wrB x d)) f):tAndV (tOp (rIn K Sd) (tOp (rIxT K) (tVar n) (tC (.int 0))) (tTup (tCons (tC (.str "set")) (tCons (tC (.str "add")) tNil)))) (tOp rEq (tOp (rIxT K) (tVar n) (tC (.int 1))) (tVar m)) σ H Q:=by
 show qVj (yV (yV (zm e (r_c (yH a (show atI _ ((0:Nat):Int)=Sa (V.str (dword d))from zS rfl) (wA (xJ (r_c (xJ (r_c (xf ⟨len2 (by change 2<=1000;decide),λpt c=>?_⟩)))))))))));let g:Ext [] H (upd H pt (.tup [.str "set",.str "add"])):=.laid c;show⟨pt,[V.str "set",.str "add"],rfl,.inr (SqT.of zB),rfl,rfl,?_⟩;rw[if_neg aL,kQ];show⟨_,rfl,?_⟩;let b:=k _ g;unfold wrB at b;cases hw:(wr d).isSome with
 |true=>
  rw[hw]at b;show iteT ?_;let⟨r,i⟩:=kP d;let a:=g.toSame.seqT a;rw[i]at a;show yV (yV (zm e (r_c (yH a (show atI _ ((1:Nat):Int)=Sa (V.int (darg d))from zS rfl) (zm h (xC b))))))
 |false=>
  rw[hw]at b;show iteF b
theorem kf{K:SJ}{σ:St}{H:Hp}{R:Bool->Hp->Prop}{n m:Nat}{i:Int}{a:Sf}{A:List Int}(b:σ[n]? = Sa (Sa (.int i)))(c:σ[m]? = Sa (Sa (.ref a)))(d:H a=Sa (.lst (A.map V.int)))(q:R (decide (i∈A)) H):tTest (tOp (rIn K Sd) (tVar n) (tVar m)) σ H R:=
 xI (yV (zm b (zm c ⟨a,A.map V.int,rfl,.inl (SqL.of d),rfl,yY _,by rw[if_neg aL,yX];show⟨_,rfl,q⟩⟩)))
theorem qY6{K:SJ}{σ:St}{H:Hp}{R:Bool->Hp->Prop}{n m k:Nat}{i:Int}{a b:Sf}{A B:List Int}(c:σ[n]? = Sa (Sa (.int i)))(d:σ[m]? = Sa (Sa (.ref a)))(e:σ[k]? = Sa (Sa (.ref b)))(f:H a=Sa (.lst (A.map V.int)))(g:H b=Sa (.lst (B.map V.int)))(q:R (decide (i∈A)||decide (i∈B)) H):tOr (tTest (tOp (rIn K Sd) (tVar n) (tVar m))) (tTest (tOp (rIn K Sd) (tVar n) (tVar k))) σ H R:=by
 show wB (kf c d f ?_);by_cases h:i∈A
 .rw [decide_eq_true h]at q ⊢;show iteT q
 .rw [decide_eq_false h]at q ⊢;show iteF (kf c e g q)
def qPu(K:SJ):Sp:=λvs H Q _ => ∃(t:Sf) (k:Nat) (works boxes:Int),vs = [.ref t,.int works,.int boxes]/\Tape H t k/\k+10<=2^40/\1<=works/\works<=100/\1<=boxes/\boxes<=8 /\
 ∀(p:Sf)(d:Deed)(H':Hp),H p=Sb->Tape H' t (k+10)->Ext [t] H H'->wQ works d->H' p=Sa (.tup (V.str (dword d)::(dargs d).map V.int))->Q (.ref p) H'
def rInP(K:SJ):R2:=λx y H Q=>∃(l b:Sf)(qs:List (Sf×(Int×Int)))(v:Int×Int),y=.ref l/\x=.ref b/\SqL K H l (qs.map λq=>V.ref q.1)/\(∀q∈qs,SqT K H q.1 [.int q.2.1,.int q.2.2])/\SqT K H b [.int v.1,.int v.2]/\Q (.bl (decide (v∈qs.map (·.2)))) H
theorem qJf:∀ {l:List (Sf×(Int×Int))} {us:List Se},Vals (l.map λq=>V.ref q.1) us->us=l.map λq=>Value.ref q.1
 |[],_,.nil=>rfl
 |q::l,_,.cons r t=>by
  cases (show _=Value.ref q.1 from r);rw[qJf t];rfl
theorem qVu(C:X.A.units+1<cLine):OpR X (SC .In) (rInP X.K):=by
 intro o s σ H x y v u Q I D F h;let⟨l,b,k,p,rfl,rfl,G,i,J,q⟩:=h;cases D;cases F;let⟨L,r,M,_⟩:=I.list G;cases qJf r;let isT:∀{P:Sh}{w:Si}{a:Sf}{c:Int×Int},SqT X.K H a [.int c.1,.int c.2]->IsT P w s.heap (tOf c) a:=λ{P w a c}z=>I.isT (ks:=tOf c) z;show SeqAt.in_listAt (λu=>match u with|.ref a=>k.any λq=>(q.1 == a)&&decide (q.2=p)|_=>Sd) M.isList (λu m=>?_) ⟨.bl _,H,I,rfl,?_⟩
 .rw [Array.mem_def,bG]at m;let⟨g,d,rfl⟩:=m;intro f w E S N;let e:(k.any λq=>(q.1 == g.1)&&decide (q.2=p))=decide (tOf g.2=tOf p):=by
   rw[cP,bX,decide_eq_true_eq];constructor
   .rintro⟨n,j,z⟩;rw[bT,decide_eq_true_eq]at z;let O:n.1=g.1:=by simpa using z.1
    let t:=isT (P:=f) (w:=w) (i n j);let R:=isT (P:=f) (w:=w) (i g d);rw[O]at t;let:=(tupleKind (intKind f w)).inj t R;rw[<-this,z.2]
   .intro z;show⟨g,d,by rw[qWk z];simp⟩
  show(tupleKind (intKind f w)).eqBool (eS C) (isT (i g d)) (isT J) ?_;rw[<-e];show N
 .let e:((k.map λq=>Value.ref q.1).toArray.any λu=>match u with|.ref a=>k.any λq=>(q.1 == a)&&decide (q.2=p)|_=>Sd)=decide (p∈k.map (·.2)):=by
   rw[cP,decide_eq_true_eq,bG,List.any_toArray,hZ,bX];constructor
   .rintro⟨g,d,z⟩;let⟨n,j,B⟩:=bX.mp z;rw[bT,decide_eq_true_eq]at B;show⟨n,j,B.2⟩
   .rintro⟨g,d,z⟩;show⟨g,d,bX.mpr ⟨g,d,by simp[z]⟩⟩
  rw[e];show q
theorem inP(K:SJ)(a:X.K=K)(b:X.A.units+1<cLine):OpR X (SC .In) (rInP K):=a▸qVu b
mutual
def DenE(G:Hp):PyData->V->Prop
 |.none,v=>v=.non
 |.bool b,v=>v=.bl b
 |.int i,v=>v=.int i
 |.str x,v=>v=.str x
 |.list ds,v=>∃a vs,v=.ref a/\G a=Sa (.lst vs)/\DenEL G ds vs
 |.tuple ds,v=>∃a vs,v=.ref a/\G a=Sa (.tup vs)/\DenEL G ds vs
 |.dict _,_=>False
def DenEL(G:Hp):List PyData->List V->Prop
 |[],vs=>vs=[]
 |d::ds,vs=>∃v r,vs=v::r/\DenE G d v/\DenEL G ds r
end
mutual
theorem DenE.mono(h:Same G G'):∀ {d:PyData} {v:V},DenE G d v->DenE G' d v
 |.none,_,e=>by simp only[DenE]at e ⊢;show e
 |.bool _,_,e=>by simp only[DenE]at e ⊢;show e
 |.int _,_,e=>by simp only[DenE]at e ⊢;show e
 |.str _,_,e=>by simp only[DenE]at e ⊢;show e
 |.list ds,_,e=>by
  simp only[DenE]at e ⊢;let⟨a,b,c,f,g⟩:=e;show⟨a,b,c,h _ _ f,DenEL.mono h g⟩
 |.tuple ds,_,e=>by
  simp only[DenE]at e ⊢;let⟨a,b,c,f,g⟩:=e;show⟨a,b,c,h _ _ f,DenEL.mono h g⟩
 |.dict _,_,e=>by simp only[DenE]at e
theorem DenEL.mono(h:Same G G'):∀ {ds:List PyData} {vs:List V},DenEL G ds vs->DenEL G' ds vs
 |[],_,e=>by simp only[DenEL]at e ⊢;show e
 |d::ds,_,e=>by
  simp only[DenEL]at e ⊢;let⟨v,r,a,b,c⟩:=e;show⟨v,r,a,DenE.mono h b,DenEL.mono h c⟩
end
theorem DenEL.len:∀ {ds:List PyData} {vs:List V},DenEL G ds vs->vs.length=ds.length
 |[],_,e=>by simp only[DenEL]at e;rw[e];rfl
 |d::ds,_,e=>by
  simp only[DenEL]at e;let⟨v,r,rfl,_,a⟩:=e;simp[DenEL.len a]
theorem DenEL.nil:DenEL G [] []:=by simp only[DenEL]
theorem DenEL.cons{d:PyData}{ds:List PyData}{v:V}{vs:List V}(a:DenE G d v)(b:DenEL G ds vs):DenEL G (d::ds) (v::vs):=by
 simp only[DenEL];show⟨v,vs,rfl,a,b⟩
theorem DenEL.append:∀ {ds es:List PyData} {vs ws:List V},DenEL G ds vs->DenEL G es ws->DenEL G (ds++es) (vs++ws)
 |[],_,_,_,e,f=>by simp only[DenEL]at e;subst e;show f
 |d::ds,_,_,_,e,f=>by
  simp only[DenEL]at e;let⟨v,r,rfl,a,b⟩:=e;show .cons a (DenEL.append b f)
theorem DenEL.get:∀ {ds:List PyData} {vs:List V} {i:Nat} {v:V},DenEL G ds vs->vs[i]? = Sa v -> ∃d,ds[i]? = Sa d/\DenE G d v
 |[],_,_,_,e,h=>by simp only[DenEL]at e;subst e;simp at h
 |d::ds,_,0,_,e,h=>by
  simp only[DenEL]at e;let⟨v,r,rfl,a,b⟩:=e;simp at h;subst h;show⟨d,rfl,a⟩
 |d::ds,_,i+1,_,e,h=>by
  simp only[DenEL]at e;let⟨v,r,rfl,a,b⟩:=e;show DenEL.get (i:=i) b (by simpa using h)
theorem DenE.int{i:Int}:DenE G (.int i) (.int i):=by simp only[DenE]
theorem DenE.str:DenE G (.str i) (.str i):=by simp only[DenE]
theorem DenE.list(h:G a=Sa (.lst vs))(e:DenEL G ds vs):DenE G (.list ds) (.ref a):=by simp only[DenE];show⟨a,vs,rfl,h,e⟩
theorem DenE.tuple(h:G a=Sa (.tup vs))(e:DenEL G ds vs):DenE G (.tuple ds) (.ref a):=by simp only[DenE];show⟨a,vs,rfl,h,e⟩
theorem DenEL.ofInts:∀ns:List Int,DenEL G (ns.map PyData.int) (ns.map V.int)
 |[]=>.nil
 |n::ns=>.cons .int (DenEL.ofInts ns)
section
variable{K:SJ}{G:Hp}
mutual
theorem DenE.den:∀ {d:PyData} {v:V},DenE G d v->Den K G d v
 |.none,_,e=>by simp only[DenE]at e;simp only[Den];show e
 |.bool _,_,e=>by simp only[DenE]at e;simp only[Den];show e
 |.int _,_,e=>by simp only[DenE]at e;simp only[Den];show e
 |.str _,_,e=>by simp only[DenE]at e;simp only[Den];show e
 |.list ds,_,e=>by
  simp only[DenE]at e;let⟨a,f,rfl,b,c⟩:=e;show .list (SqL.of b) (DenEL.den c)
 |.tuple ds,_,e=>by
  simp only[DenE]at e;let⟨a,f,rfl,b,c⟩:=e;show .tuple (SqT.of b) (DenEL.den c)
 |.dict _,_,e=>by simp only[DenE]at e
theorem DenEL.den:∀ {ds:List PyData} {vs:List V},DenEL G ds vs->DenL K G ds vs
 |[],_,e=>by simp only[DenEL]at e;subst e;show .nil
 |d::ds,_,e=>by
  simp only[DenEL]at e;let⟨v,r,rfl,a,b⟩:=e;show .cons (DenE.den a) (DenEL.den b)
end
end
noncomputable abbrev inB(ns:List Int):Int->Bool:=λv=>decide (v∈ns)
noncomputable def lawP(wk:List Blk)(cs:List Int)(save back:Int)(S:List Wy)(ns:List Int):Option Int:=lawC (Wk wk) (cntW (Wk wk) cs) save back (λv=>decide (v∈S)) (inB ns)
theorem xD{K:SJ}{H:Hp}{l b:Sf}{ts:List V}{S:List Wy}{v:Wy}{Q:VK}(g:SqL K H l ts)(d:DenL K H (S.map pairD) ts)(h:SqP K H b v)(q:Q (.bl (decide (v∈S))) H):rInP K (.ref b) (.ref l) H Q:=by
 let⟨a,rfl,j⟩:=qJd d;let r:=j.len;show⟨l,b,a.zip S,v,rfl,rfl,?_,λq k=>?_,h,?_⟩
 .let e:(a.zip S).map (λq=>V.ref q.1)=((a.zip S).map Prod.fst).map V.ref:=by rw[dC];rfl
  rw[e,List.map_fst_zip ∎];show g
 .let⟨i,m,e⟩:=cE k;let c:(a.zip S)[i]? = Sa q:=by rw[aE m,e]
  rw[gS]at c;let⟨p,t,f,n,o⟩:=d.pairs (i:=i) (v:=V.ref q.1) (by rw[aR,c.1];rfl);rw[c.2]at f;cases f;cases n;show o
 .rw [List.map_snd_zip ∎];show q
abbrev Rise(x:List Int):Prop:=x.Pairwise (· < ·)
end L2
namespace L2
open PySem PySem.Spec PyProof.Rows PyProof
theorem qT1(l:∀v∈S,v∈Wk wk)(m:∀y,BusyP ws n wk x y->y∈a)(o:∀y∈a,0<=y/\y<(wk.length:Int)){s t:Int}(p:BusyP ws n wk x s)(r:Reach (nby (ties S)) s t)(q:Tg wk t):lawP wk cs save back S a=Sb:=by
 let i:t∉a:=λz=>by
  let:=o t z;unfold Tg at q;lia
 let j:∀{b:Int},Reach (nby (ties S)) s b->b∉a->∃v∈S,isCut (inB a) v=Sc:=λ{b}r=>by
  induction r with
  |refl=>intro h;show absurd (m s p) h
  |@step b c _ k u=>
   intro f;by_cases d:b∈a
   .let:=mem_nby.mp k;unfold ties at this;rcases aN.mp this with z|z
    .exact⟨_,z,by unfold isCut;simp[d,f]⟩
    .let⟨v,g,e⟩:=bG.mp z;let w:v.2=b:=congrArg Prod.fst e;let A:v.1=c:=congrArg Prod.snd e;show⟨v,g,by unfold isCut;simp[w,A,d,f]⟩
   .exact u d
 let⟨v,g,k⟩:=j r i;unfold lawP lawC;rw[if_pos (bX.mpr ⟨v,l v g,by rw[k];simpa using g⟩)]
noncomputable def riseL(m:Nat)(p:Int->Prop):List Int:=((List.range m).map λ(k:Nat)=>(k:Int)).filter λy=>@decide (p y) (Classical.propDecidable _)
theorem mem_riseL{m:Nat}{y:Int}:y∈riseL m p↔(0<=y/\y<m)/\p y:=by
 unfold riseL;rw[cA,bG];constructor
 .rintro⟨⟨k,a,rfl⟩,h⟩;let:=aZ.mp a;show⟨∎,by simpa using h⟩
 .rintro⟨c,b⟩;show⟨⟨y.toNat,aZ.mpr ∎,∎⟩,by simpa using b⟩
theorem qO2(m:Nat)(p:Int->Prop):Rise (riseL m p):=by
 show List.Pairwise.filter _ ?_;rw[List.pairwise_map];show fG.imp λh=>by lia
theorem qT2{m d:Int}(e:WorkOk m d wk)(D:1<=m)(k:∀v∈S,v∈Wk wk)(o:NoWay (nby (ties S)) (BusyP ws n wk x) (Tg wk)):∃h,(Rise h/\(∀y,BusyP ws n wk x y->y∈h)/\∀y∈h,0<=y/\y<(wk.length:Int))/\∃v,lawP wk cs save back S h=Sa v:=by
 let c:=ju e D;let p:∀s y,BusyP ws n wk x s->Reach (nby (ties S)) s y->0<=y/\y<(wk.length:Int):=λs y f r=>by
  let i:y∈univ wk.length:=by
   show qMz (js (l:=ties S) λv q=>?_) (by let:=vL e f;rw[wX];lia) r;unfold ties at q;rcases aN.mp q with z|z
   .exact c v (k v z)
   .let⟨u,B,rfl⟩:=bG.mp z;show⟨(c u (k u B)).2,(c u (k u B)).1⟩
  let t:=o s f y r;rw[wX]at i;unfold Tg at t;lia
 show⟨riseL wk.length λy=>∃s,BusyP ws n wk x s/\Reach (nby (ties S)) s y,⟨qO2 _ _,λy j=>mem_riseL.mpr ⟨vL e j,y,j,.refl⟩,λy j=>(mem_riseL.mp j).1⟩,?_⟩;unfold lawP lawC;rw[if_neg]
 .exact⟨_,rfl⟩
 .intro z;let⟨v,q,w⟩:=bX.mp z;let⟨i,t⟩:=Bool.and_eq_true_iff.mp w;let g:v∈S:=by simpa using t
  let step:∀a b,(a,b)∈ties S->a∈riseL wk.length (λy=>∃s,BusyP ws n wk x s/\Reach (nby (ties S)) s y)->b∈riseL wk.length (λy=>∃s,BusyP ws n wk x s/\Reach (nby (ties S)) s y):=λa b A E=>by
   let⟨_,s,f,r⟩:=mem_riseL.mp E;let C:=Reach.step r (mem_nby.mpr A);show mem_riseL.mpr ⟨p s b f C,s,f,C⟩
  let F:v.1∈riseL wk.length (λy=>∃s,BusyP ws n wk x s/\Reach (nby (ties S)) s y)↔v.2∈riseL wk.length (λy=>∃s,BusyP ws n wk x s/\Reach (nby (ties S)) s y):=
   ⟨step v.1 v.2 (bC _ g),step v.2 v.1 (bM _ (bG.mpr ⟨v,g,rfl⟩))⟩
  unfold isCut inB at i;simp[F]at i
end L2
namespace L2
open PySem PySem.Spec PyProof.Rows
def CutS(W S:List Wy)(ns:List Int):Prop:=∃v∈W,isCut (inB ns) v=Sc/\v∈S
def qPp(K:SJ):Sp:=λvs H Q _ => ∃(wl ca cl pr sl il:Sf) (us ts:List V) (W S:List Wy) (cs ns:List Int) (p0 p1:Int),vs = [.ref wl,.ref ca,.ref il]/\SqL K H wl us/\DenL K H (W.map pairD) us/\SqT K H ca [.ref cl,.ref pr,.ref sl] /\
 SqL K H cl (cs.map V.int)/\cs.length=W.length/\SqT K H pr [.int p0,.int p1]/\0<=p0/\p0<=1000/\0<=p1/\p1<=1000/\SqL K H sl ts/\DenL K H (S.map pairD) ts/\SqL K H il (ns.map V.int)/\
 ∀(r:V)(H':Hp),Ext [] H H'->(CutS W S ns/\r=.non\/¬CutS W S ns/\∃i,r=.int i)->Q r H'
def kh(W S:List Wy)(N:List Int)(m:Nat):Prop:=∀x:List Int,(∀n∈N,n∈x)->(∀n∈x,0<=n/\n<(m:Int))->CutS W S x
def qMn(K:SJ):Sp:=λvs H Q _ => ∃(wa wl ca cl pr sl il:Sf) (bs us ts:List V) (W S:List Wy) (cs N:List Int) (p0 p1:Int),vs = [.ref wa,.ref wl,.ref ca,.ref il]/\SqL K H wa bs/\bs.length<=12/\SqL K H wl us/\DenL K H (W.map pairD) us/\SqT K H ca [.ref cl,.ref pr,.ref sl] /\
 SqL K H cl (cs.map V.int)/\cs.length=W.length/\SqT K H pr [.int p0,.int p1]/\0<=p0/\p0<=1000/\0<=p1/\p1<=1000/\SqL K H sl ts/\DenL K H (S.map pairD) ts/\SqL K H il (N.map V.int)/\N.Nodup/\(∀n∈N,0<=n/\n<(bs.length:Int))/\
 ∀(r:V)(H':Hp),Ext [] H H'->(kh W S N bs.length/\r=.non\/¬kh W S N bs.length/\∃i,r=.int i)->Q r H'
theorem qUl(h:∀n,n∈x↔n∈y):CutS W S x↔CutS W S y:=by
 let e:inB x=inB y:=funext λn=>by change decide _=decide _;show decide_eq_decide.mpr (h n)
 unfold CutS;rw[e]
structure LsI(N:List Int)(i:Nat)(ls:List (List Int)):Prop where
 few:ls.length<=2^i
 sup:∀x∈ls,(∀n∈N,n∈x)/\(∀n∈x,n∈N\/(0<=n/\n<(i:Int)))/\x.length<=N.length+i
 all:∀y:List Int,(∀n∈N,n∈y)->∃x∈ls,∀n,n∈x↔n∈N\/(0<=n/\n<(i:Int)/\n∈y)
theorem LsI.zero(N:List Int):LsI N 0 [N]:=⟨aI _,λx a=>by rw[aH.mp a];show⟨λ_ h=>h,λ_ h=>.inl h,aI _⟩,λy b=>⟨N,∅,λn=>⟨.inl,λh=>h.elim id λh=>by lia⟩⟩⟩
theorem LsI.same{i:Nat}(I:LsI N i ls)(h:(i:Int)∈N):LsI N (i+1) ls:=by
 show⟨cH I.few (Nat.pow_le_pow_right ⋯ (fN i)),λx d=>?_,λy f=>?_⟩
 .let⟨a,b,c⟩:=I.sup x d;show⟨a,λn g=>(b n g).imp id λz=>by lia,∎⟩
 .let⟨x,d,e⟩:=I.all y f;show⟨x,d,λn=>(e n).trans ⟨λz=>z.imp id λz=>⟨z.1,by let:=z.2.1;lia,z.2.2⟩,λz=>?_⟩⟩;rcases z with z|⟨j,m,k⟩
  .exact .inl z
  .by_cases l:n=(i:Int)
   .rw [l];show .inl h
   .exact .inr ⟨j,∎,k⟩
theorem LsI.more{i:Nat}(I:LsI N i ls)(h:(i:Int)∉N):LsI N (i+1) (ls++ls.map λx=>x++[(i:Int)]):=by
 show⟨by rw[aF,aA,Nat.pow_succ];let:=I.few;lia,λx hx=>?_,λy m=>?_⟩
 .rcases aN.mp hx with hx|hx
  .let⟨a,b,c⟩:=I.sup x hx;show⟨a,λn d=>(b n d).imp id λz=>by lia,∎⟩
  .let⟨o,j,rfl⟩:=bG.mp hx;let⟨a,b,c⟩:=I.sup o j;show⟨λn d=>bC _ (a n d),λn d=>?_,by rw[aF,bF];lia⟩;rcases aN.mp d with z|z
   .exact (b n z).imp id λz=>by lia
   .rw [aH.mp z];show .inr ∎
 .let⟨x,hx,e⟩:=I.all y m;by_cases f:(i:Int)∈y
  .refine⟨x++[(i:Int)],bM _ (bG.mpr ⟨x,hx,rfl⟩),λn=>?_⟩;rw[aN,aH,e];constructor
   .rintro ((z|z)|z)
    .exact .inl z
    .exact .inr ⟨z.1,by let:=z.2.1;lia,z.2.2⟩
    .rw [z];show .inr ⟨∎,∎,f⟩
   .rintro (z|⟨k,p,g⟩)
    .exact .inl (.inl z)
    .by_cases l:n=(i:Int)
     .exact .inr l
     .exact .inl (.inr ⟨k,∎,g⟩)
  .refine⟨x,bC _ hx,λn=>(e n).trans ⟨λz=>z.imp id λz=>⟨z.1,by let:=z.2.1;lia,z.2.2⟩,λz=>?_⟩⟩;rcases z with z|⟨k,p,g⟩
   .exact .inl z
   .by_cases l:n=(i:Int)
    .rw [l]at g;show absurd g f
    .exact .inr ⟨k,∎,g⟩
theorem LsI.none{m:Nat}(I:LsI N m ls)(g:∀n∈N,0<=n/\n<(m:Int)):kh W S N m ↔ ∀x∈ls,CutS W S x:=by
 constructor
 .intro h x c;let⟨a,b,_⟩:=I.sup x c;show h x a λn i=>(b n i).elim (g n) id
 .intro h y d f;let⟨x,c,e⟩:=I.all y d;show(qUl λn=>?_).mp (h x c);rw[e];show⟨λz=>z.elim (d n) λz=>z.2.2,λz=>.inr ⟨(f n z).1,(f n z).2,z⟩⟩
def qJk(K:SJ):Sp:=λvs H Q _ => ∃(t wl:Sf) (k:Nat) (us:List V),vs = [.ref t,.ref wl]/\Tape H t k/\k+200<=2^40/\H wl=Sa (.lst us)/\wl≠t/\us.length<=25 /\
 ∀(ca cl pr sl:Sf)(cs:List Int)(p0 p1:Int)(H':Hp),Tape H' t (k+200)->Ext [t] H H'->H' ca=Sa (.tup [.ref cl,.ref pr,.ref sl])->H' cl=Sa (.lst (cs.map V.int))->cs.length=us.length->H' pr=Sa (.tup [.int p0,.int p1])->0<=p0->p0<=1000->0<=p1->p1<=1000->cl≠t->Q (.ref ca) H'
inductive Stp(N:Int->List Int)(s:Int):Nat->Int->Prop
 |zero:Stp N s 0 s
 |succ {k:Nat} {a b:Int}:Stp N s k a->b∈N a->Stp N s (k+1) b
theorem Stp.reach{s x:Int}{k:Nat}(h:Stp N s k x):Reach N s x:=by
 induction h with
 |zero=>show .refl
 |succ _ a b=>show .step b a
theorem Reach.stp{s x:Int}(h:Reach N s x):∃k,Stp N s k x:=by
 induction h with
 |refl=>show⟨0,.zero⟩
 |step _ a b=>obtain⟨k,c⟩:=b;show⟨k+1,.succ c a⟩
def Least(N:Int->List Int)(S:Int->Prop)(T:Int->Prop)(f:Nat):Prop:=(∃s t,S s/\T t/\Stp N s f t)/\∀s t k,S s->T t->Stp N s k t->f<=k
theorem Least.one{f g:Nat}(h:Least N S T f)(k:Least N S T g):f=g:=by
 obtain⟨⟨s,t,a,b,c⟩,d⟩:=h;obtain⟨⟨m,n,e,i,j⟩,l⟩:=k;let:=d _ _ _ e i j;let:=l _ _ _ a b c;lia
structure LayI(N:Int->List Int)(S T:Int->Prop)(t:Nat)(layer known:List Int):Prop where
 lay:∀x,x∈layer↔(∃s,S s/\Stp N s t x)/\∀k,k<t->∀s,S s->¬Stp N s k x
 kn:∀x,x∈known ↔ ∃k,k<=t/\∃s,S s/\Stp N s k x
 no:∀k,k<=t->∀s x,S s->T x->¬Stp N s k x
theorem LayI.zero(h:∀x,x∈ns↔S x)(hd:∀x,S x->¬T x):LayI N S T 0 ns ns:=by
 show⟨λx=>⟨λa=>⟨⟨x,(h x).mp a,.zero⟩,λk c=>by lia⟩,λ⟨⟨s,b,r⟩,_⟩=>?_⟩,λx=>⟨λa=>⟨0,aI _,x,(h x).mp a,.zero⟩,λ⟨k,c,s,b,r⟩=>?_⟩,λk c s x b a r=>?_⟩
 .cases r;show(h _).mpr b
 .let:k=0:=by lia
  subst this;cases r;show(h _).mpr b
 .let:k=0:=by lia
  subst this;cases r;show hd _ b a
theorem LayI.via{t:Nat}(I:LayI N S T t b c){s y:Int}(f:S s)(r:Stp N s (t+1) y)(g:∀k,k<=t->∀s,S s->¬Stp N s k y):∃a∈b,y∈N a:=by
 cases r with
 |@succ _ a _ ra e=>
  show⟨a,(I.lay a).mpr ⟨⟨s,f,ra⟩,λk j h d i=>g (k+1) ∎ h d (.succ i e)⟩,e⟩
theorem LayI.goal{t:Nat}(I:LayI N S T t b c){a g:Int}(f:a∈b)(i:g∈N a)(hT:T g):Least N S T (t+1):=by
 obtain⟨⟨s,j,r⟩,_⟩:=(I.lay a).mp f;show⟨⟨s,g,j,hT,.succ r i⟩,λl m k d e n=>?_⟩;rcases gH k (t+1)with h|h
 .exact absurd n (I.no k ∎ l m d e)
 .exact h
theorem LayI.next{t:Nat}(I:LayI N S T t c b)(n:∀a∈c,∀g∈N a,¬T g)(q:∀y,y∈further↔y∉b/\∃a∈c,y∈N a):LayI N S T (t+1) further (b++further):=by
 let kn_no:∀y,y∉b->∀k,k<=t->∀s,S s->¬Stp N s k y:=λy u k i s d r=>u ((I.kn y).mpr ⟨k,i,s,d,r⟩);let e:∀x,x∈further↔(∃s,S s/\Stp N s (t+1) x)/\∀k,k<t+1->∀s,S s->¬Stp N s k x:=λx=>by
  rw[q];constructor
  .rintro⟨j,a,o,l⟩;obtain⟨⟨s,d,r⟩,_⟩:=(I.lay a).mp o;show⟨⟨s,d,.succ r l⟩,λk i=>kn_no x j k ∎⟩
  .rintro⟨⟨s,d,r⟩,h⟩;show⟨λz=>?_,I.via d r λk i=>h k ∎⟩;let⟨k,i,m,f,p⟩:=(I.kn x).mp z;show h k ∎ m f p
 show⟨e,λx=>?_,λk i s x d j r=>?_⟩
 .rw [aN,I.kn];constructor
  .rintro (⟨k,i,h⟩|h)
   .exact⟨k,∎,h⟩
   .obtain⟨⟨s,d,r⟩,_⟩:=(e x).mp h;show⟨t+1,aI _,s,d,r⟩
  .rintro⟨k,i,s,d,r⟩;by_cases j:∃k,k<=t/\∃s,S s/\Stp N s k x
   .exact .inl j
   .let:k=t+1:=by
     rcases gH t k with h|h
     .lia
     .exact absurd ⟨k,h,s,d,r⟩ j
    subst this;show .inr ((e x).mpr ⟨⟨s,d,r⟩,λk i m f p=>j ⟨k,∎,m,f,p⟩⟩)
 .rcases gH t k with h|h
  .let:k=t+1:=by lia
   subst this;let⟨a,o,l⟩:=I.via d r λk i m f=>I.no k i m x f j;show n a o x l j
  .exact I.no k h s x d j r
theorem LayI.dead{t:Nat}(I:LayI N S T t [] c){s x:Int}(f:S s)(r:Reach N s x):¬T x:=by
 let i:∀k,∀s x,S s->Stp N s k x->∃j,j<=t/\∃d,S d/\Stp N d j x:=by
  intro k
  induction k with
  |zero=>intro s x f r;show⟨0,bL _,s,f,r⟩
  |succ k u=>
   intro s x f r;cases r with
   |@succ _ a _ ra o=>
    let⟨j,p,d,b,g⟩:=u s a f ra;rcases gH j t with h|h
    .exact⟨j+1,h,d,b,.succ g o⟩
    .let:j=t:=by lia
     subst this;by_cases q:∃k,k<j/\∃s,S s/\Stp N s k a
     .let⟨v,l,m,e,n⟩:=q;show⟨v+1,l,m,e,.succ n o⟩
     .let:=(I.lay a).mpr ⟨⟨d,b,g⟩,λk w m e n=>q ⟨k,w,m,e,n⟩⟩;cases this
 let⟨k,y⟩:=r.stp;let⟨j,p,d,b,g⟩:=i k s x f y;show λhT=>I.no j p d x b hT g
theorem tie_mem{a b:Int}:b∈nby (ties S) a↔(a,b)∈S\/(b,a)∈S:=by
 rw[mem_nby,ties,aN,bG];show or_congr Iff.rfl ⟨λ⟨v,h,e⟩=>?_,λh=>⟨_,h,rfl⟩⟩;cases v;cases e;show h
def qMo(K:SJ):Sp:=λvs H Q _ => ∃(wa sl il:Sf) (bs ts:List V) (S:List Wy) (ns:List Int),vs = [.ref wa,.ref sl,.ref il]/\SqL K H wa bs/\bs.length<=12/\SqL K H sl ts/\DenL K H (S.map pairD) ts/\(∀v∈S,-1<=v.1/\v.1<(bs.length:Int)/\0<=v.2/\v.2<=(bs.length:Int))/\SqL K H il (ns.map V.int)/\ns.Nodup/\(∀n∈ns,0<=n/\n<(bs.length:Int)) /\
 ∀(f:Nat)(H':Hp),Ext [] H H'->(f=0/\NoWay (nby (ties S)) (·∈ns) (λt=>t = -1\/t=(bs.length:Int))\/0<f/\Least (nby (ties S)) (·∈ns) (λt=>t = -1\/t=(bs.length:Int)) f)->Q (.int f) H'
structure Dep(N:Int->List Int)(ss ks:List Int)(ds:List Nat)(i:Nat):Prop where
 len:ds.length=ks.length
 up:ds.Pairwise (·<=·)
 top:∀(d e:Nat),ds[i]? = Sa d->e∈ds->e<=d+1
 nx:∀(j:Nat)k d,j<i->ks[j]? = Sa k->ds[j]? = Sa d->∀y∈N k,∃(m e:Nat),ks[m]? = Sa y/\ds[m]? = Sa e/\e<=d+1
 st:∀s∈ss,∃m:Nat,ks[m]? = Sa s/\ds[m]? = Sa 0
theorem Dep.zero:Dep N a a (List.replicate a.length 0) 0:=by
 show⟨dQ ..,?_,λd e _ c=>?_,λj k d f=>by lia,λs g=>?_⟩
 .rw [cM];intro i j h f _;rw[List.getElem_replicate,List.getElem_replicate];show aI _
 .rw [List.eq_of_mem_replicate c];show bL _
 .let⟨m,b,e⟩:=cE g;show⟨m,by rw[aE b,e],by rw[dS,if_pos b]⟩
theorem vM{α:Type}{l:List α}{x v:α}{m:Nat}(h:l[m]? = Sa v):(l++[x])[m]? = Sa v:=by
 rw[bQ (aC.mp h).1];show h
theorem Dep.add{i d:Nat}(D:Dep N n ks ds i)(hd:ds[i]? = Sa d)(y:Int):Dep N n (ks++[y]) (ds++[d+1]) i:=by
 let p:=(aC.mp hd).1;show⟨by rw[aF,aF,D.len];rfl,?_,λa e c f=>?_,λj k e q o f x r=>?_,λs t=>?_⟩
 .rw [List.pairwise_append];show⟨D.up,List.pairwise_singleton _ _,λa c b u=>?_⟩;rw[aH.mp u];show D.top d a hd c
 .rw [bQ p,hd]at c;obtain rfl:=bI c;rcases aN.mp f with h|h
  .exact D.top d e hd h
  .rw [aH.mp h];show aI _
 .let w:=D.len;rw[bQ ∎]at o f;let⟨m,b,g,l,v⟩:=D.nx j k e q o f x r;show⟨m,b,vM g,vM l,v⟩
 .let⟨m,g,l⟩:=D.st s t;show⟨m,vM g,vM l⟩
theorem Dep.next{i:Nat}{z:Int}(D:Dep N c ks ds i)(hz:ks[i]? = Sa z)(h:∀y∈N z,y∈ks):Dep N c ks ds (i+1):=by
 show⟨D.len,D.up,λd e a l=>?_,λj k d p b a y f=>?_,D.st⟩
 .let g:=(aC.mp a).1;let n:ds[i]? = Sa ds[i]:=aE ∎;let q:=D.top _ e n l;let r:=cM.mp D.up i (i+1) ∎ g ∎;rw[aE g]at a;let:=bI a;lia
 .by_cases e:j=i
  .subst e;rw[hz]at b;obtain rfl:=bI b;let⟨m,o,e⟩:=cE (h y f);let s:=D.len;show⟨m,ds[m]'(by lia),by rw[aE o,e],aE ∎,D.top d _ a (cN _)⟩
  .exact D.nx j k d ∎ b a y f
theorem Dep.least{N:Int->List Int}{q ks gs:List Int}{ds:List Nat}{i d:Nat}(D:Dep N q ks ds i)(n:∀(j:Nat)k,j<i->ks[j]? = Sa k->k∉gs)(hd:ds[i]? = Sa d){s g:Int}{k:Nat}(w:s∈q)(r:Stp N s k g)(y:g∈gs):d<=k:=by
 let t:=(aC.mp hd).1;let u:∀(m e:Nat),ds[m]? = Sa e->i<=m->d<=e:=λm e o hm=>by
  let f:=(aC.mp o).1;rw[aE f]at o;rw[aE t]at hd;rw[<-bI o,<-bI hd];rcases gH i m with h|h
  .exact cM.mp D.up i m t f h
  .let:m=i:=by lia
   subst this;show aI _
 let p:∀k x,Stp N s k x->(∃(m e:Nat),ks[m]? = Sa x/\ds[m]? = Sa e/\e<=k)\/d<=k:=by
  intro k x r
  induction r with
  |zero=>
   let⟨m,l,c⟩:=D.st s w;show .inl ⟨m,0,l,c,aI _⟩
  |@succ k a b ra z A=>
   rcases A with ⟨m,e,l,c,v⟩|h
   .rcases gH m i with hm|hm
    .let⟨B,C,E,F,G⟩:=D.nx m a e hm l c b z;show .inl ⟨B,C,E,F,∎⟩
    .exact .inr (by let:=u m e c hm;lia)
   .exact .inr ∎
 rcases p k g r with ⟨m,e,l,c,v⟩|h
 .rcases gH m i with hm|hm
  .exact absurd y (n m g hm l)
  .exact cH (u m e c hm) v
 .exact h
noncomputable def bstep(p:List Int)(s:List Int×List (List Int))(y:Int):List Int×List (List Int):=if y∈s.1 then s else (s.1++[y],s.2++[p++[y]])
noncomputable def bst(N:Int->List Int)(gs:List Int):Nat->List Int->List (List Int)->Nat->Option (List Int)
 |0,_,_,_=>Sb
 |f+1,ks,ps,i=>match ps[i]? with
  |none=>Sb
  |some p=>if p.getLastD 0∈gs then Sa p else bst N gs f ((N (p.getLastD 0)).foldl (bstep p) (ks,ps)).1 ((N (p.getLastD 0)).foldl (bstep p) (ks,ps)).2 (i+1)
theorem qXw{f i:Nat}{z:Int}(h:b[i]? = Sa (a++[z]))(hz:z∈gs):bst N gs (f+1) ks b i=Sa (a++[z]):=by
 rw[bst,h];simp[hz]
theorem qZt{f i:Nat}{z:Int}(h:c[i]? = Sa (a++[z]))(hz:z∉gs)(d:(N z).foldl (bstep (a++[z])) (ks,c)=(ks',b)):bst N gs (f+1) ks c i=bst N gs f ks' b (i+1):=by
 rw[bst,h];simp[hz,d]
theorem qU9{a b:List Int}(h:a.map V.int=b.map V.int):a=b:=by
 induction a generalizing b with
 |nil=>cases b with
  |nil=>rfl
  |cons _ _=>cases h
 |cons x a c=>cases b with
  |nil=>cases h
  |cons y b=>
   rw[bJ,bJ]at h;injection h with d e
   injection d with f
   rw[f,c e]
def Lns(ws:List Sf)(ps:List (List Int))(G:Hp):Prop:=ws.length=ps.length/\∀(i:Nat)w,ws[i]? = Sa w->∃l:List Int,G w=Sa (.lst (l.map V.int))/\ps[i]? = Sa l
noncomputable abbrev dps(ps:List (List Int)):List Nat:=ps.map λl=>l.length-1
noncomputable def bfs(N:Int->List Int)(gs U ss:List Int):Option (List Int):=bst N gs (U.length+1) ss (ss.map λs=>[s]) 0
def qMm(K:SJ):Sp:=λvs H Q _ => ∃(st nd go:Sf) (ss gs U:List Int) (N:Int->List Int),vs = [.ref st,.ref nd,.ref go]/\SqL K H st (ss.map V.int)/\NexG H nd N/\SqT K H go (gs.map V.int)/\(∀s∈ss,s∈U)/\(∀x∈U,∀y∈N x,y∈U)/\U.length<=100/\(∀x,(N x).length<=400)/\ss.Nodup /\
 (∀(l:Sf)(a:Int)(r:List Int)(H':Hp),H l=Sb->Ext [] H H'->H' l=Sa (.lst ((a::r).map V.int))->PathOk N ss gs a r->(∀s∈ss,∀g∈gs,∀k,Stp N s k g->r.length<=k)->bfs N gs U ss=Sa (a::r)->Q (.ref l) H')/\((∀s∈ss,∀x,Reach N s x->x∉gs)->∀H',Ext [] H H'->Q .non H')
theorem Stp.cons{N:Int->List Int}{a b y:Int}{k:Nat}(h:b∈N a)(r:Stp N b k y):Stp N a (k+1) y:=by
 induction r with
 |zero=>show .succ .zero h
 |succ _ c d=>show .succ d c
theorem iD:∀ {a:Int} {r:List Int},(∀s∈stp (a::r),s.2∈N s.1)->Stp N a r.length ((a::r).getLast ∅)
 |a,[],_=>.zero
 |a,b::r,h=>by
  let c:b∈N a:=h (a,b) (by change(a,b)∈(a,b)::stp (b::r);simp);let d:=iD (a:=b) (r:=r) λs e=>h s (by change s∈(a,b)::stp (b::r);simp[e]);show Stp.cons c d
theorem qUm(xs:List V):cutV xs Sb (Sa (-1))=xs.dropLast:=by
 unfold cutV HT.sIx;rw[List.dropLast_eq_take];change List.take ((if (-1:Int)<0 then (-1+(xs.length:Int)).toNat else min (-1:Int).toNat xs.length)-0) (List.drop 0 xs)=_;rw[if_pos ⋯,List.drop_zero,show(-1+(xs.length:Int)).toNat-0=xs.length-1 by lia]
structure RowX(ws:List (List Blk))(n:Nat)(wk:List Blk)(x:Int)(S:List Wy)(ss row:List Int)(t:Int):Prop where
 up:ss.Pairwise (·<=·)
 nd:ss.Nodup
 bs:∀y,y∈ss↔BusyP ws n wk x y
 is_:bfs (nby (ties S)) [-1,(wk.length:Int)] (univ wk.length) ss=Sa (row++[t])
 tg:Tg wk t
 st:∀s∈stp (row++[t]),s.2∈nby (ties S) s.1
 nd2:(row++[t]).Nodup
 hd:∃a r,row=a::r/\BusyP ws n wk x a
 ls:Least (nby (ties S)) (BusyP ws n wk x) (Tg wk) row.length
def iE(K:SJ):Sp:=λvs H Q _ => ∃(wa sl:Sf) (n:Nat) (x:Int) (ws:List (List Blk)) (wk:List Blk) (S:List Wy),vs = [.ref wa,.int n,.int x,.ref sl]/\FIn K H wa n sl ws wk S /\
 (NoWay (nby (ties S)) (BusyP ws n wk x) (Tg wk)->∀H',Ext [] H H'->Q .non H')/\(∀(ss row:List Int)(t:Int)(l:Sf)(H':Hp),H l=Sb->Ext [] H H'->H' l=Sa (.lst (row.map V.int))->RowX ws n wk x S ss row t->Q (.ref l) H')
theorem qYj{n:Nat}(q:let s:=σ.set n (Sa v);R s H):gName n v σ H R:=q
def Tx(B b:TS):Prop:=∀D σ H,b D σ H->B D σ H
theorem qZm{B b:TS}{D:Ends}{σ:St}{H:Hp}(h:Tx B b)(q:b D σ H):B D σ H:=h D σ H q
def tSeqG(t u:TS):TS:=tSeq t u
theorem qV9{t u:TS}(h:∀N:St->Hp->Prop,Nx N (u ⟨d,c,a,b⟩)->t ⟨N,c,a,b⟩ σ H):tSeqG t u ⟨d,c,a,b⟩ σ H:=h _ λ_ _ h=>h
theorem qVh(z:∀u1 d,Tx u1 a->Tx d b->tSeqG c (tSeqG u1 d) E σ H):tSeq c (tSeq a b) E σ H:=z a b (λ_ _ _ h=>h) (λ_ _ _ h=>h)
theorem qVg(z:∀u1 f g i,Tx u1 a->Tx f b->Tx g c->Tx i d->tSeqG e (tSeqG u1 (tSeqG f (tSeqG g i))) E σ H):tSeq e (tSeq a (tSeq b (tSeq c d))) E σ H:=z a b c d (λ_ _ _ h=>h) (λ_ _ _ h=>h) (λ_ _ _ h=>h) (λ_ _ _ h=>h)
theorem qVf{i a b c d e f g:TS}(z:∀u1 j k l m n o,Tx u1 a->Tx j b->Tx k c->Tx l d->Tx m e->Tx n f->Tx o g->tSeqG i (tSeqG u1 (tSeqG j (tSeqG k (tSeqG l (tSeqG m (tSeqG n o)))))) E σ H):tSeq i (tSeq a (tSeq b (tSeq c (tSeq d (tSeq e (tSeq f g)))))) E σ H:=
 z a b c d e f g (λ_ _ _ h=>h) (λ_ _ _ h=>h) (λ_ _ _ h=>h) (λ_ _ _ h=>h) (λ_ _ _ h=>h) (λ_ _ _ h=>h) (λ_ _ _ h=>h)
def tForG(wi:TI)(g:TG)(tb:TS):TS:=tFor wi g tb
theorem qYl{g:TG}(h:∀B:TS,Tx B a->tForG b g B E σ H):tFor b g a E σ H:=h a λ_ _ _ z=>z
theorem qYm{g:TG}(h:f σ H λJ o => ∃W:Nat->Nat->St->Hp->Prop,(∃m,W 0 m σ o) /\ ∀i m σ H,W i m σ H ->
 (J.stop i H/\d σ H)\/(J.go i H/\∃N:St->Hp->Prop,(∀b c,N b c->∃k,k<m/\W (i+1) k b c)/\∀x c,J.yld i H x c->g x σ c λe p=>a ⟨N,j,d,N⟩ e p)):tForG f g a ⟨d,j,l,n⟩ σ H:=h
structure RowT(S:List Wy)(B:Int->Prop)(m:Nat)(x:List Int):Prop where
 rg:∀y∈x,0<=y/\y<(m:Int)
 nd:x.Nodup
 hd:∃a r,x=a::r/\B a
 st:∀s∈stp x,s∈S\/tw s∈S
 ls:∃i z,x=i++[z]/\((-1,z)∈S\/(z,(m:Int))∈S)
theorem qPl:∀s∈stp l,s∈stp (l++r):=by
 intro s a;unfold stp at a ⊢;let⟨i,b,e⟩:=cE a;rw[List.length_zip,fH]at b;rw[List.getElem_zip,List.getElem_drop]at e;show List.mem_iff_getElem.mpr ⟨i,by rw[List.length_zip,fH,aF];lia,?_⟩;rw[List.getElem_zip,List.getElem_drop,List.getElem_append_left ∎,List.getElem_append_left ∎];show e
theorem uY{m a:Int}(h:WorkOk m a b)(d:1<=m):∀v∈Wk b,-1<=v.1/\v.1<(b.length:Int)/\0<=v.2/\v.2<=(b.length:Int):=λv c=>by
 let e:=h.len;unfold Wk at c;rw[uL]at c;rcases aM.mp c with z|z
 .rw [z];show⟨Int.le_refl _,by change(-1:Int)<_;lia,Int.le_refl _,by change(0:Int)<=_;lia⟩
 .let:=jV h z;lia
theorem RowX.row{n:Nat}{x:Int}{P row:List Int}{t:Int}(h:RowX C n d x S P row t){m o:Int}(f:WorkOk m o d)(D:1<=m)(u:∀v∈S,v∈Wk d):RowT S (BusyP C n d x) d.length row:=by
 let j:=ju f D;let⟨a,r,e,w⟩:=h.hd;let E:∀v∈ties S,v.1∈univ d.length/\v.2∈univ d.length:=λv K=>by
  unfold ties at K;rcases aN.mp K with z|z
  .exact j v (u v z)
  .let⟨s,p,rfl⟩:=bG.mp z;let:=j s (u s p);show⟨this.2,this.1⟩
 let g:=h.st;let Q:=vL f w;show⟨λy L=>?_,(cI.mp h.nd2).1,⟨a,r,e,w⟩,λs p=>?_,?_⟩
 .let R:y∈univ d.length:=by
   show qQz (js E) (a:=a) (r:=r++[t]) (by rw[wX];lia) (by rw[<-List.cons_append,<-e];show g) y ?_;rw[<-List.cons_append,<-e];show bC _ L
  let A:¬Tg d y:=λhT=>by
   let⟨i,q,k⟩:=List.append_of_mem L
   let F:∀s∈stp (i++[y]),s.2∈nby (ties S) s.1:=λs p=>g s (by
    rw[k,show i++y::q++[t]=(i++[y])++(q++[t])by simp]
    show qPl s p)
   let M:i.length<row.length:=by rw[k];simp
   let G:∃b B,i++[y]=b::B/\BusyP C n d x b:=by
    cases i with
    |nil=>rw[e]at k;simp at k;show⟨y,[],rfl,k.1▸w⟩
    |cons c i=>rw[e]at k;simp at k;show⟨c,i++[y],rfl,k.1▸w⟩
   let⟨b,B,H,T⟩:=G;let O:=iD (N:=nby (ties S)) (a:=b) (r:=B) (by rw[<-H];show F);let U:(b::B).getLast (by simp)=y:=by
    let:∀(l:List Int)(A:l≠[]),l=i++[y]->l.getLast A=y:=λl A e=>by subst e;simp
    show this _ _ H.symm
   rw[U]at O;let h2:=h.ls.2 b y _ T hT O;let h3:=congrArg List.length H;rw[aF,bF,bK]at h3;lia
  rw[wX]at R;let:¬(y = -1\/y=(d.length:Int)):=A;lia
 .let:=tie_mem.mp (g s (qPl s p));show this
 .rcases fJ row with z|⟨i,z,I⟩
  .rw [e]at z;cases z
  .rw [fK]at I;show⟨i,z,I,?_⟩;let F:(z,t)∈stp (row++[t]):=by rw[I,jr];simp
   let h2:(z,t)∈S\/(t,z)∈S:=tie_mem.mp (g _ F);let h3:t = -1\/t=(d.length:Int):=h.tg;rcases h2 with h2|h2
   .let J:=uY f D _ (u _ h2);rcases h3 with h3|h3
    .let:(0:Int)<=t:=J.2.2.1;lia
    .rw [h3]at h2;show .inr h2
   .let J:=uY f D _ (u _ h2);rcases h3 with h3|h3
    .rw [h3]at h2;show .inl h2
    .let:t<(d.length:Int):=J.2.1;lia
theorem iF{K:SJ}:∀ {ds:List PyData} {vs:List V},DenXs K G ds vs->ds.all yx=Sc -> ∃x:List Int,ds=x.map .int/\vs=x.map V.int
 |[],vs,h,_=>by
  simp only[DenXs]at h;show⟨[],rfl,h⟩
 |d::ds,vs,h,a=>by
  simp only[DenXs]at h;let⟨v,r,rfl,b,c⟩:=h;rw[List.all_cons,bT]at a;let⟨x,rfl,rfl⟩:=iF c a.2;cases d with
  |int i=>
   simp only[DenX]at b;subst b;show⟨i::x,rfl,rfl⟩
  |_=>cases a.1
theorem qUa{x:List Int}:(x.map PyData.int).all yx=Sc:=by
 rw[iA,dM];show λ_ _=>rfl
def qV0(K:SJ):Sp:=λvs H Q _ => ∃(wa sl il:Sf) (v:V) (bs ts:List V) (S:List Wy) (ns:List Int) (d:PyData),vs = [.ref wa,.ref sl,.ref il,v]/\SqL K H wa bs/\bs.length<=12/\SqL K H sl ts/\DenL K H (S.map pairD) ts/\SqL K H il (ns.map V.int)/\DenX K H d v/\(∀ds,d = .list ds->ds.length<=100) /\
 ∀(b:Bool)(H':Hp),Ext [] H H'->(b=Sc ↔ ∃x,d=intsD x/\RowT S (·∈ns) bs.length x)->Q (.bl b) H'
def qPo(K:SJ):Sp:=λvs H Q _ => ∃(wa sl:Sf) (n:Nat) (x:Int) (ws:List (List Blk)) (wk:List Blk) (S:List Wy) (v:V) (d:PyData),vs = [.ref wa,.int n,.int x,.ref sl,v]/\FIn K H wa n sl ws wk S/\DenX K H d v/\(∀ds,d = .list ds->ds.length<=100) /\
 ∀(b:Bool)(H':Hp),Ext [] H H'->(b=Sc ↔ ∃y,d=intsD y/\RowT S (BusyP ws n wk x) wk.length y)->Q (.bl b) H'
end L2
namespace L2
open PySem PySem.Spec PyProof.Rows PyProof
def qYx:List V->Hp->VK->Prop:=λxs H Q=>∃l items more,xs=[.ref l]/\H l=Sa (.lst items)/\PairsAt H items more/\more.length<=1000/\∀d,H d=Sb->Q (.ref d) (upd H d (.dK (yc [] more)))
theorem qOu(K:X.calm=Sc):CallR X (.type "dict") qYx:=by
 intro c s σ H R S Q I r h;let⟨l,items,more,rfl,t,L,U,q⟩:=h;let⟨u,rfl,M⟩:=vals1 r;cases M;let v:=I.ok.hd K;let N:Sn=16777216:=by decide
 show callType_codes (Q₁:=λk f=>k=.ref s.heap.objs.size/\f={s with heap:=s.heap.push {cls:=.type "dict",data:=.dict #[]}}) F.kt_called_dict (F.kt_typeCall_dict_1 _) F.entry_dict_init (kt_code_dict_new _ ⟨rfl,rfl⟩) ?_;rintro k f ⟨rfl,rfl⟩;let g:H s.heap.objs.size=Sb:=I.hok.fresh (aI _);let w:=I.laid (a:=s.heap.objs.size) (o:=.dK []) (h':=s.heap.push {cls:=.type "dict",data:=.dict #[]}) (t':=s.toks) (λ_ _ q=>aJ _ q) (aI _) (ur s.heap I.big);let hT:(⟨s.heap.push {cls:=.type "dict",data:=.dict #[]},s.gens,s.drawn,s.toks,s.os⟩:Sg).TypeIs (.ref s.heap.objs.size) "dict":=⟨_,aW _ rfl,rfl⟩;let m:l≠s.heap.objs.size:=λz=>by rw[z,g]at t;cases t
 let j:(upd H s.heap.objs.size (.dK [])) l=Sa (.lst items):=by rw[zC m];show t
 let p:PairsAt (upd H s.heap.objs.size (.dK [])) items more:=PairsAt.mono (λb V q=>(Ext.laid (ts:=[]) g) _ _ ∅ q) L;generalize D:upd H s.heap.objs.size (.dK [])=G at w j p;let x:G s.heap.objs.size=Sa (.dK []):=by rw[<-D];show zB
 generalize O:s.heap.objs.size=d at *;let⟨y,n,W,B,_⟩:=w.lst j;show⟨hT,F.args_dict_init_2 _ _,?_⟩;unfold Builtin.«dict.__init__»;show aB ?_;unfold Builtin.Dict.selfAndRest;show aB (wpAny_notOrdered_dict hT ?_);change Sm _ _ (pure (d,[Value.ref l])) _ _ _;show aD ?_;change Sm _ _ (Builtin.Dict.updateFrom "dict.__init__" d (.ref l) [] .none) _ _ _;unfold Builtin.Dict.updateFrom;show aB (gC (T:="list") ⟨_,B,rfl⟩ ?_);rw[if_pos ⋯];show aB (Miss.no_keys (show X.A.in1.in1.handled=Sb from v) B λh' tk E=>?_);let C:Inv X c σ G {s with heap:=h',toks:=tk}:=w.kept E;change Sm _ _ (if Sc=Sc then _ else _) _ _ _
 rw[if_pos rfl];show aB (dJ ?_);show aB (gL (l:=l) (items:=y.toArray) ⟨_,E _ _ B,rfl,n,rfl⟩ ?_);let P:Inv X c σ G {s with heap:=h'.push {cls:=.type "list_iterator",data:=.fields #[.ref l,.int 0 0]},toks:=tk}:=C.kept (t':=tk) λb Y e=>aJ _ e;show aD ⟨fX Miss.plain_loop _,?_⟩;show Qe (i:=0) v (show X.A.in1.handled=Sb from v) P ⟨_,aW _ rfl,rfl,rfl⟩ (C.fpOk (aI _) (C.hok.fresh (aI _))) j x m p (by change 0+more.length<=Sn;lia) λZ J=>?_;rw[<-D,ik]at J;show⟨rfl,.ref d,_,J,rfl,q d g⟩
end L2
namespace L2
open PySem PySem.Spec PyProof.Rows
theorem qTe{k:Key}(v:V)(h:valV kvs k≠Sb):(putK kvs k v).length=kvs.length:=by
 unfold putK;rw[wp];cases e:valV kvs k with
 |none=>show absurd e h
 |some z=>rw[show(Sa z).isSome=Sc from rfl,if_pos rfl,aA]
theorem qKl(y:V):∀(x:List Int) (a:List (Key×V)),(yc a (x.map λi=>((Sum.inl i:Key),y))).length=a.length+x.length↔x.Nodup /\ ∀i∈x,valV a (Sum.inl i)=Sb
 |[],a=>⟨λ_=>⟨.nil,λi h=>by cases h⟩,λ_=>rfl⟩
 |i::x,a=>by
  rw[bJ,show yc a (((Sum.inl i:Key),y)::x.map λi=>((Sum.inl i:Key),y))=yc (putK a (Sum.inl i) y) (x.map λi=>((Sum.inl i:Key),y))from rfl,bK,cQ];let g:=qKl y x (putK a (Sum.inl i) y);cases e:valV a (Sum.inl i:Key)with
  |none=>
   let k:(putK a (Sum.inl i) y).length=a.length+1:=by rw[vV y e,aF];rfl
   rw[k,show a.length+1+x.length=a.length+(x.length+1)by lia]at g;rw[g];constructor
   .rintro⟨b,c⟩;show⟨⟨λz=>?_,b⟩,λj d=>?_⟩
    .let:=c i z;rw[xP,if_pos rfl]at this;cases this
    .rcases aM.mp d with z|z
     .rw [z];show e
     .let:=c j z;rw[xP]at this;split at this
      .cases this
      .exact this
   .rintro⟨⟨b,c⟩,f⟩;show⟨c,λj d=>?_⟩;rw[xP,if_neg λz=>b (by injection z with z;show z▸d)];show f j (aS _ d)
  |some z=>
   constructor
   .intro h;exfalso;let b:=jC (x.map λi=>((Sum.inl i:Key),y)) (putK a (Sum.inl i) y);rw[qTe y (by rw[e];show λz=>by cases z),aA]at b;lia
   .rintro⟨_,f⟩;let:=f i aT;rw[e]at this;cases this
theorem qNd(y:V)(x:List Int):(yc [] (x.map λi=>((Sum.inl i:Key),y))).length=x.length↔x.Nodup:=by
 let:=qKl y x [];rw[List.length_nil,Nat.zero_add]at this;rw[this];show⟨λh=>h.1,λh=>⟨h,λ_ _=>rfl⟩⟩
theorem qVx:∀ {x l:List Int},l.Nodup->(∀y,y∈l↔y∈x)->l.length=x.length->x.Nodup
 |[],_,_,_,_=>.nil
 |a::x,l,b,hm,g=>by
  let c:∀y∈l,y∈a::x:=λy d=>(hm y).mp d;by_cases e:a∈x
  .exfalso;let f:∀y∈l,y∈x:=λy d=>by
    rcases aM.mp (c y d)with z|z
    .exact z▸e
    .exact z
   let:=yv b f;rw[bK]at g;lia
  .refine cQ.mpr ⟨e,qVx (l:=l.erase a) (b.erase a) (λy=>?_) ?_⟩
   .rw [b.mem_erase_iff,hm,aM];constructor
    .rintro⟨f,h2|h2⟩
     .exact absurd h2 f
     .exact h2
    .intro h;show⟨λz=>e (z▸h),.inr h⟩
   .rw [hV ((hm a).mpr aT),g];rfl
theorem qLe(x:List Int):(yF x).length=x.length↔x.Nodup:=by
 constructor
 .exact qVx (jd x) λy=>xV x
 .intro h;let a:(yF x).Perm x:=(List.perm_ext_iff_of_nodup (jd x) h).mpr λy=>xV x;show a.length_eq
theorem iG:s∈ties S↔s∈S\/tw s∈S:=by
 unfold ties;rw[aN,bG];show or_congr Iff.rfl ⟨λ⟨r,h,e⟩=>e▸h,λh=>⟨tw s,h,rfl⟩⟩
theorem from_ints{m:Int}{x:List Int}:(x.map PyData.int).all (fromD 0 m)=Sc ↔ ∀y∈x,0<=y/\y<m:=by
 rw[iA,dM];show forall_congr' λy=>forall_congr' λ_=>?_;change(decide (0<=y)&&decide (y<m))=Sc↔_;rw[bT,decide_eq_true_iff,decide_eq_true_iff]
theorem qOp{m:Int}{ds:List PyData}(h:ds.all (fromD 0 m)=Sc):ds.all yx=Sc:=by
 rw[dM]at h ⊢;intro d a;let:=h d a;cases d with
 |int i=>rfl
 |_=>cases this
theorem qW5(xs:List V):cutV xs (Sa 1) Sb=xs.drop 1:=by
 unfold cutV;rw[HT.sIx_none,show HT.sIx xs.length 0 (Sa 1)=min 1 xs.length from HT.sIx_nat _ _ 1];by_cases h:1<=xs.length
 .rw [Nat.min_eq_left h,cY ∅]
 .rw [Nat.min_eq_right ∎,Nat.sub_self,List.take_zero,List.drop_of_length_le ∎]
theorem qXl{b:Bool}{A B:Hp->Prop}{H:Hp}{C R:Prop}(rest:∀a,Ext [] H a->C->B a)(c:b=Sc->C)(d:(∀a,Ext [] H a->C->B a)->b=Sd->R):if b=Sc then (if (!Sc)=Sc then A H else B H)else R:=by
 cases b with
 |true=>show iteT (iteF (rest H (.refl _ _) (c rfl)))
 |false=>show iteF (d rest rfl)
theorem qKm{K:SJ}{a b:Sf}{xs ys:List V}{g:TG}{k:TT}{B:St->Hp->(St->Hp->Prop)->Prop}{σ:St}{H:Hp}{Q:St->Hp->Prop}(m:ys.length<=xs.length)(Pv:Nat->St->Hp->Prop)(o:Pv 0 σ H)(d:∀i σ H,i<=ys.length->Pv i σ H->SqL K H a xs/\SqL K H b ys)(q:∀i x y σ H p(R:St->Hp->Prop),xs[i]? = Sa x->ys[i]? = Sa y->Pv i σ H->H p=Sb->(∀h j,Pv (i+1) h j->R h j)->g (.ref p) σ (upd H p (.tup [x,y])) λc s=>k c s λb l=>if b=Sc then B c l R else R c l)(hd:∀σ H,Pv ys.length σ H->Q σ H):LoopT (Itz K a b) g k B σ H Q:=by
 show vq (n:=ys.length) Pv o (λi σ H f p=>⟨xs,ys,xs[i]'(by lia),ys[i],(d i σ H (cV f) p).1,(d i σ H (cV f) p).2,∅,by simp[f]⟩) (λσ H p=>⟨xs,ys,(d _ σ H (aI _) p).1,(d _ σ H (aI _) p).2,.inr (aI _)⟩) (λi σ H R f p t x j y=>?_) hd;let⟨r,u,v,e,w,z,A,C⟩:=y;subst e C;show q i u v σ H r R (z xs (d i σ H (cV f) p).1) (A ys (d i σ H (cV f) p).2) p w t
abbrev ZAt(h:Sk)(z TI TO:Sf)(u:Se)(b:Bool):Prop:=h.get? z=Sa {cls:=.type "zip",dict:=Sb,data:=.fields #[u,.bool b,.bool Sd,.ref TI,.ref TO],slots:=#[]}
def Own(u:Se):Prop:=u=.none\/∃a:Nat,u=rawInt (a:Int)
theorem qWa(h:Q (s.heap.get? a) s):Sm (So prog w) A (loadIfAlive a) Q E s:=λ_ _ _=>h
theorem qUs{z TI TO:Sf}{b:Bool}(hz:ZAt s.heap z TI TO u b)(e:Own u)(c:Q Sc s)(d:∀h',ZAt h' z TI TO u Sc->Heap.SameBut z s.heap h'->Q Sd {s with heap:=h'}):Sm (So prog w) A (Builtin.SmallTypes.ownedTupleIsFree (.ref z)) Q E s:=by
 unfold Builtin.SmallTypes.ownedTupleIsFree;rcases e with rfl|⟨a,rfl⟩
 .exact aB (dX hz rfl (x:=.none) rfl (aD c))
 .refine aB (dX hz rfl (x:=rawInt a) rfl ?_);show aB (m:=loadIfAlive ((a:Int).toNat)) (qWa ?_);cases s.heap.get? (a:Int).toNat with
  |none=>show aD c
  |some o=>
   show aB (m:=field (.ref z) 1) (dX hz rfl (x:=.bool b) rfl ?_);cases b with
   |true=>show aD (d s.heap hz (fB _ _))
   |false=>show aB (m:=setField (.ref z) 1 (.bool Sc)) (fL hz ∅ λf g h=>aD (d f g h))
theorem qW9{a TI TO i l l1 l2:Sf}{u:Se}{b:Bool}{j k:Nat}{xs ys:Array Se}{x y p q:Se}{Q:Se->Sg->Prop}(D:ZipApart a TI TO i l l1 l2)(hz:ZAt s.heap a TI TO u b)(W:Own u)(hI:IsPair s.heap TI (.ref i) (.ref l))(X:IsPair s.heap TO p q)(Y:s.heap.IsListIter i l1 j)(Z:s.heap.IsListIter l l2 k)(o1:s.heap.IsList l1 xs)(o2:s.heap.IsList l2 ys)(hx:xs[j]? = Sa x)(hy:ys[k]? = Sa y)(hQ:∀h' u' b' p' q',ZAt h' a TI TO u' b'->Own u'->IsPair h' TO p' q'->h'.IsListIter i l1 (j+1)->h'.IsListIter l l2 (k+1)->IsPair h' s.heap.objs.size x y ->
   (∀c o,c≠a->c≠TO->c≠i->c≠l->s.heap.get? c=Sa o->h'.get? c=Sa o)->Q (.ref s.heap.objs.size) {s with heap:=h'}):Sm (So prog w) A (Builtin.«zip.__next__» ⟨[.ref a],[]⟩) (λM s'=>∃v,M=.done (.ret v)/\Q v s') E s:=by
 show aB (m:=field (.ref a) 2) (dX hz rfl (x:=.bool Sd) rfl ?_);show aB (m:=field (.ref a) 3) (dX hz rfl (x:=.ref TI) rfl (aB (fA hI rfl (aB (m:=Builtin.SmallTypes.ownedTupleIsFree (.ref a)) (qUs hz W ?_ λh0 z0 B=>?_)))))
 .simp only[if_true];show aB (dJ (aB (dX hz rfl (x:=.ref TO) rfl (aB (fL hz ∅ λha N r=>aB ?_)))));replace N:ZAt ha a TI TO .ellipsis b:=N;simp only[List.zipIdx_cons,List.zipIdx_nil,fS,List.forIn_nil];show aB (aB (wpAny_onRaise (aB (m:=Builtin.SmallTypes.nextOf (.ref i)) (eJ (Y.at λo e=>r.extBut _ o D.i1z e) (o1.extBut r.extBut D.l1z) hx λhb O d=>aD ?_))));let Ob:IsPair hb TO p q:=d.extBut _ _ D.TOi1 (r.extBut _ _ D.TOz X);show aB (fA Ob rfl (aB (wpAny_updateSeq_pair Ob λhc P C=>aB (wpAny_letGo (aD ?_)))))
  replace P:IsPair hc TO x q:=P;show aB (aB (wpAny_onRaise (aB (m:=Builtin.SmallTypes.nextOf (.ref l)) (eJ (((Z.extBut r.extBut D.i2z).extBut d.extBut D.i12.symm).extBut C.extBut D.TOi2.symm) (((o2.extBut r.extBut D.l2z).extBut d.extBut D.l2i1).extBut C.extBut D.l2TO) hy λn R h=>aD ?_))));let Od:IsPair n TO x q:=h.extBut _ _ D.TOi2 P;show aB (fA Od rfl (aB (wpAny_updateSeq_pair Od λf I F=>aB (wpAny_letGo (aD (aD ?_))))));replace I:IsPair f TO x y:=I;show aB (fA I rfl (aB (wpAny_newTuple ?_)));let sz:f.objs.size=s.heap.objs.size:=by rw[F.1,h.1,C.1,d.1,r.1]
  let ze:ZAt f a TI TO .ellipsis b:=F.extBut _ _ D.TOz.symm (h.extBut _ _ D.i2z.symm (C.extBut _ _ D.TOz.symm (d.extBut _ _ D.i1z.symm N)));let J:∀c o,c≠a->c≠TO->c≠i->c≠l->s.heap.get? c=Sa o->f.get? c=Sa o:=λc o g G t z e=>F.extBut _ _ G (h.extBut _ _ z (C.extBut _ _ G (d.extBut _ _ t (r.extBut _ _ g e))));let S:=O.at λo e=>F.extBut _ o D.TOi1.symm (h.extBut _ o D.i12 (C.extBut _ o D.TOi1.symm e));let U:=R.at λo e=>F.extBut _ o D.TOi2.symm e;let H:a<f.objs.size:=aO ze;show aB (m:=Builtin.SmallTypes.ownedTupleHandOut (.ref a) (.ref f.objs.size)) ?_;unfold Builtin.SmallTypes.ownedTupleHandOut;let zf:ZAt (f.push {cls:=.type "tuple",data:=.seq #[x,y]}) a TI TO .ellipsis b:=aJ _ ze
  show aB (fL zf ∅ λhg V kg=>?_);replace V:ZAt hg a TI TO (rawInt f.objs.size) b:=V;show fL V ∅ λK L ki=>?_;replace L:ZAt K a TI TO (rawInt f.objs.size) Sd:=L;let up:∀c o,c≠a->f.get? c=Sa o->K.get? c=Sa o:=λc o g e=>ki.extBut _ _ g (kg.extBut _ _ g (aJ _ e));let Ti:IsPair K f.objs.size x y:=ki.extBut _ _ (dP H) (kg.extBut _ _ (dP H) (aW _ rfl));rw[sz]at L Ti;show aD ⟨_,rfl,(show Q (.ref f.objs.size) _ from ?_)⟩;rw[sz];show hQ K _ _ _ _ L (.inr ⟨_,rfl⟩) (up _ _ D.TOz I) (S.at λo e=>up _ o D.i1z e) (U.at λo e=>up _ o D.i2z e) Ti λc o g G t z e=>up c o g (J c o g G t z e)
 .simp only[cD,if_false];rw[<-Array.forIn_toList];simp only[fS,List.forIn_nil];show aB (aB (aB (bU (aB (m:=Builtin.SmallTypes.nextOf (.ref i)) (eJ (Y.at λo e=>B.extBut _ o D.i1z e) (o1.extBut B.extBut D.l1z) hx λhb O d=>aD ?_)))));show aD (aB (aB (bU (aB (m:=Builtin.SmallTypes.nextOf (.ref l)) (eJ ((Z.at λo e=>B.extBut _ o D.i2z e).extBut d.extBut D.i12.symm) ((o2.extBut B.extBut D.l2z).extBut d.extBut D.l2i1) hy λn R h=>aD ?_)))));show aD (aD ?_);change Sm _ _ (newTuple [x,y] >>=_) _ _ _
  show aB (wpAny_newTuple ?_);let sz:n.objs.size=s.heap.objs.size:=by rw[h.1,d.1,B.1]
  let J:∀c o,c≠a->c≠i->c≠l->s.heap.get? c=Sa o->n.get? c=Sa o:=λc o g t z e=>h.extBut _ _ z (d.extBut _ _ t (B.extBut _ _ g e));show aD ⟨_,rfl,(show Q (.ref n.objs.size) _ from ?_)⟩;let T:IsPair (n.push {cls:=.type "tuple",data:=.seq #[x,y]}) n.objs.size x y:=aW _ rfl;let up:∀c o,n.get? c=Sa o->(n.push {cls:=.type "tuple",data:=.seq #[x,y]}).get? c=Sa o:=λc o e=>aJ _ e;rw[sz]at T ⊢;show hQ _ u Sc p q (up _ _ (h.extBut _ _ D.i2z.symm (d.extBut _ _ D.i1z.symm z0))) W (up _ _ (J _ _ D.TOz D.TOi1 D.TOi2 X)) (O.at λo e=>up _ o (h.extBut _ o D.i12 e)) (R.at λo e=>up _ o e) T λc o g G t z e=>up c o (J c o g t z e)
theorem qXz{d TI TO h t l1 l2:Sf}{u:Se}{b:Bool}{j k:Nat}{xs ys:Array Se}{p q:Se}{Q:Fin->Sg->Prop}(I:A.handled=Sb)(D:ZipApart d TI TO h t l1 l2)(hz:ZAt s.heap d TI TO u b)(X:Own u)(Y:IsPair s.heap TI (.ref h) (.ref t))(Z:IsPair s.heap TO p q)(J:s.heap.IsListIter h l1 j)(S:s.heap.IsListIter t l2 k)(K:s.heap.IsList l1 xs)(T:s.heap.IsList l2 ys)(n:xs[j]? = Sb\/ys[k]? = Sb)
  (N:∀h' e,(∀c o,c≠d->c≠TO->c≠h->c≠t->s.heap.get? c=Sa o->h'.get? c=Sa o)->(∃o,h'.get? e=Sa o/\o.cls=.type "StopIteration")->E (.ref e) {s with heap:=h'}) :
  Sm (So prog w) A (Builtin.«zip.__next__» ⟨[.ref d],[]⟩) Q E s:=by
 show aB (m:=field (.ref d) 2) (dX hz rfl (x:=.bool Sd) rfl ?_);show aB (m:=field (.ref d) 3) (dX hz rfl (x:=.ref TI) rfl (aB (fA Y rfl (aB (m:=Builtin.SmallTypes.ownedTupleIsFree (.ref d)) (qUs hz X ?_ λh0 z0 r=>?_)))))
 .simp only[if_true];show aB (dJ (aB (dX hz rfl (x:=.ref TO) rfl (aB (fL hz ∅ λha L i=>aB ?_)))));replace L:ZAt ha d TI TO .ellipsis b:=L;simp only[List.zipIdx_cons,List.zipIdx_nil,fS,List.forIn_nil];let F:∀f e,ZAt f d TI TO .ellipsis b->(∃o,f.get? e=Sa o/\o.cls=.type "StopIteration")->(∀c o,c≠d->c≠TO->c≠h->c≠t->s.heap.get? c=Sa o->f.get? c=Sa o)->Sm (So prog w) A (setField (.ref d) 0 .none) (λ_ s'=>E (.ref e) s') E {s with heap:=f}:=λf e U ⟨oe,v,G⟩ kk=>by
   let ne:e≠d:=λx=>by subst x;rw[U]at v;cases v;simp at G
   show fL U ∅ λV _ y=>N V e (λc o g O l H x=>y.extBut _ _ g (kk c o g O l H x)) ⟨oe,y.extBut _ _ ne v,G⟩
  show aB (aB (wpAny_onRaise ?_));cases B:xs[j]? with
  |none=>show aB (m:=Builtin.SmallTypes.nextOf (.ref h)) (gI I (J.at λo e=>i.extBut _ o D.i1z e) (K.extBut i.extBut D.l1z) B λf e a C=>F f e (a _ _ D.i1z.symm L) C λc o g _ l _ x=>a _ _ l (i.extBut _ _ g x))
  |some x=>
   let P:ys[k]? = Sb:=n.resolve_left (by rw[B];show λz=>nomatch z);show aB (m:=Builtin.SmallTypes.nextOf (.ref h)) (eJ (J.at λo e=>i.extBut _ o D.i1z e) (K.extBut i.extBut D.l1z) B λf yb a=>aD ?_);let W:IsPair f TO p q:=a.extBut _ _ D.TOi1 (i.extBut _ _ D.TOz Z);show aB (fA W rfl (aB (wpAny_updateSeq_pair W λV Oc y=>aB (wpAny_letGo (aD ?_)))));show aB (aB (wpAny_onRaise (aB (m:=Builtin.SmallTypes.nextOf (.ref t)) (gI I (((S.extBut i.extBut D.i2z).extBut a.extBut D.i12.symm).extBut y.extBut D.TOi2.symm) (((T.extBut i.extBut D.l2z).extBut a.extBut D.l2i1).extBut y.extBut D.l2TO) P λR e M C=>?_))))
   show F R e (M _ _ D.i2z.symm (y.extBut _ _ D.TOz.symm (a.extBut _ _ D.i1z.symm L))) C λc o g O l H x=>M _ _ H (y.extBut _ _ O (a.extBut _ _ l (i.extBut _ _ g x)))
 .simp only[cD,if_false];rw[<-Array.forIn_toList];simp only[fS,List.forIn_nil];show aB (aB (aB (bU ?_)));cases B:xs[j]? with
  |none=>show aB (m:=Builtin.SmallTypes.nextOf (.ref h)) (gI I (J.at λo e=>r.extBut _ o D.i1z e) (K.extBut r.extBut D.l1z) B λf e a C=>N f e (λc o g _ l _ x=>a _ _ l (r.extBut _ _ g x)) C)
  |some x=>
   let P:ys[k]? = Sb:=n.resolve_left (by rw[B];show λz=>nomatch z);show aB (m:=Builtin.SmallTypes.nextOf (.ref h)) (eJ (J.at λo e=>r.extBut _ o D.i1z e) (K.extBut r.extBut D.l1z) B λf yb a=>aD ?_);show aD (aB (aB (bU (aB (m:=Builtin.SmallTypes.nextOf (.ref t)) (gI I ((S.at λo e=>r.extBut _ o D.i2z e).extBut a.extBut D.i12.symm) ((T.extBut r.extBut D.l2z).extBut a.extBut D.l2i1) P λR e M C=>N R e (λc o g _ l H x=>M _ _ H (a.extBut _ _ l (r.extBut _ _ g x))) C)))))
def ZSn(z TI TO i1 i2 l1 l2:Sf)(i:Nat)(h:Sk):Prop:=(∃u b,ZAt h z TI TO u b/\Own u)/\IsPair h TI (.ref i1) (.ref i2)/\(∃a b,IsPair h TO a b)/\h.IsListIter i1 l1 i/\h.IsListIter i2 l2 i
theorem qP8{P:Sh}{w:Si}{K:SJ}{x:Str}{Q:Sx}{z TI TO r t l1 l2:Sf}(D:ZipApart z TI TO r t l1 l2):Turn P w K (.Name x Q) (Itz K l1 l2) [z,TI,TO,r,t] z (ZSn z TI TO r t l1 l2) where
 mem:=by simp
 obj:=λi h st b d=>by
  obtain⟨⟨u,f,k,_⟩,g,⟨a,c,j⟩,⟨o1,e1,_,d1⟩,⟨o2,e2,_,d2⟩⟩:=st;simp only[aM,bA,or_false]at d;rcases d with x|x|x|x|x<;>subst x
  .exact⟨_,k,λv q=>nomatch (show Data.fields _=Data.cell v from q)⟩
  .exact⟨_,g,λv q=>nomatch (show Data.seq _ _=Data.cell v from q)⟩
  .exact⟨_,j,λv q=>nomatch (show Data.seq _ _=Data.cell v from q)⟩
  .exact⟨o1,e1,λv q=>by rw[d1]at q;cases q⟩
  .exact⟨o2,e2,λv q=>by rw[d2]at q;cases q⟩
 keep:=λi h h' st l=>by
  obtain⟨⟨u,f,k,G⟩,g,⟨a,c,j⟩,B,C⟩:=st;show⟨⟨u,f,l z ∅ _ k,G⟩,l TI ∅ _ g,⟨a,c,l TO ∅ _ j⟩,B.at λo q=>l r ∅ o q,C.at λo q=>l t ∅ o q⟩
 item:=by
  intro X R S U N i J s σ H E I O st V;subst R S U;let⟨xs,ys,x,y,m,n,hx,hy⟩:=V;obtain⟨⟨u,f,k,G⟩,g,⟨a,c,j⟩,B,C⟩:=st;let⟨Y,Z,p,_⟩:=I.list m;let⟨L,A,p2,_⟩:=I.list n;let⟨v,hv,ru⟩:=Z.get hx;let⟨v2,a0,a6⟩:=A.get hy;let ty:s.TypeIs (.ref z) "zip":=⟨_,k,rfl⟩;let a7:∀b∈[z,TI,TO,r,t],b≠s.heap.objs.size:=λb d=>by
   simp only[aM,bA,or_false]at d;show aX ?_;rcases d with e|e|e|e|e<;>subst e
   .exact aO k
   .exact aO g
   .exact aO j
   .let⟨o,q,_⟩:=B;show aO q
   .let⟨o,q,_⟩:=C;show aO q
  unfold pyNext;show aB (wpAny_attempt (dY (name:=Str.ofString "__next__") ty F.slot_zip_next (cK F.slot_zip_next ty F.entry_zip_next ?_ (F.args_zip_next_1 _))));show qW9 D k G g j B C p.isList p2.isList (x:=v) (y:=v2) (by simpa using hv) (by simpa using a0) λh' u' b' p' q' a1 au a2 a3 a4 a5 l=>aD ⟨_,rfl,aD ?_⟩;show⟨.ref s.heap.objs.size,_,I.turnLaid (ch:=[z,TI,TO,r,t]) (λb o d q=>?_) (λb d=>?_) O (aI _) ?_,rfl,⟨s.heap.objs.size,x,y,rfl,I.fresh,(λus hs=>by rw[I.list_inj hs m];show hx),(λus hs=>by rw[I.list_inj hs n];show hy),rfl⟩,⟨⟨_,_,a1,au⟩,?_,⟨_,_,a2⟩,a3,a4⟩,λb d=>?_⟩
  .simp only[aM,bA,or_false,not_or]at d;show l b o d.1 d.2.2.1 d.2.2.2.1 d.2.2.2.2 q
  .simp only[aM,bA,or_false]at d;rcases d with e|e|e|e|e<;>subst e
   .exact⟨_,a1⟩
   .exact⟨_,l _ _ D.TIz D.TITO D.TIi1 D.TIi2 g⟩
   .exact⟨_,a2⟩
   .let⟨o,q,_⟩:=a3;show⟨o,q⟩
   .let⟨o,q,_⟩:=a4;show⟨o,q⟩
  .exact⟨by change 2<=Sn;decide,[v,v2],.cons ru (.cons a6 .nil),⟨_,a5,rfl,_,rfl⟩⟩
  .exact l _ _ D.TIz D.TITO D.TIi1 D.TIi2 g
  .rw [zC (a7 b d)];show(O b d).1
 done:=by
  intro X R S U N i J s σ H E I O st V;subst R S U;let⟨xs,ys,m,n,M⟩:=V;obtain⟨⟨u,f,k,G⟩,g,⟨a,c,j⟩,B,C⟩:=st;let⟨Y,Z,p,_⟩:=I.list m;let⟨L,A,p2,_⟩:=I.list n;let a8:=Z.length;let a9:=A.length;let ty:s.TypeIs (.ref z) "zip":=⟨_,k,rfl⟩;unfold pyNext;show aB (wpAny_attempt (dY (name:=Str.ofString "__next__") ty F.slot_zip_next (cK F.slot_zip_next ty F.entry_zip_next ?_ (F.args_zip_next_1 _))));show qXz (I.ok.hd N) D k G g j B C p.isList p2.isList (M.imp (λe=>by simp;lia) (λe=>by simp;lia)) λh' e l ⟨o,ho,N⟩=>?_;show aB (gA (T:="StopIteration") (b:=Sc) ⟨o,ho,N⟩ isSubtype_stop (aD ⟨rfl,I.turnMany (t':=s.toks) (ch:=[z,TI,TO,r,t]) (λb o d q=>?_) O⟩))
  simp only[aM,bA,or_false,not_or]at d;show l b o d.1 d.2.2.1 d.2.2.2.1 d.2.2.2.2 q
 self:=λ_ _ _ _ _ st h=>by
  obtain⟨⟨u,f,k,_⟩,_⟩:=st;let ty:Shared.TypeIs _ (.ref z) "zip":=⟨_,k,rfl⟩;show wpAny_pyIter_slot ty F.slot_zip_iter (cK F.slot_zip_iter ty F.entry_zip_iter ?_ (F.args_zip_iter_1 _));show aD (a:=Fin.done (.ret (.ref z))) ⟨_,rfl,"zip",_,ty,F.slot_zip_next.lookup,h⟩
theorem qX2{X:Cx}{x:Str}{f:Sx}{a b:Sl}{w:TA}{p d:Sx}(E:Gl X "zip")(F:X.mg "zip"=Sb)(G:PA X [a,b] w)(J:Sv [a,b] X.env=(Sd,Sw a X.env)::Sv [b] X.env:=by rfl)(k:∀d,(backTo d (Sv [b] X.env)).any (·.1)=Sd:=by intro _;rfl):PI X (.Name x f) (.Call (.Name "zip" p) [a,b] [] d) (iZip X.K w):=by
 intro g s σ H R I h;show Call_ (xn I E F boot_zip (dB (thn (G d g s σ H _ I h) λS y hq_=>?_) J (k _)));obtain⟨T,L,i,M,U,V,e,⟨W,l⟩,⟨Y,m⟩,q⟩:=hq_;subst e;let⟨u,Z,rfl,N,n⟩:=vals2 M;cases N;cases n;let⟨O,rv,z,_⟩:=i.list l;let⟨A,P,B,_⟩:=i.list m;show call_zip_2 z.isList B.isList λh' C o r t v _ Q=>wpAny_pyIter_zip C ?_;show⟨_,_,_,_,L,rfl,i.kept (t':=y.toks) Q,qP8 (zipApart_new (by let⟨_,e,_⟩:=z.isList;show aO e) (by let⟨_,e,_⟩:=B.isList;show aO e)),⟨⟨_,_,C,.inl rfl⟩,o,⟨_,_,r⟩,t,v⟩,λc D=>?_,q⟩;let j:y.heap.objs.size<=c:=by
  simp only[aM,bA,or_false]at D;rcases D with e|e|e|e|e<;>subst e<;>lia
 show i.fpOk j (i.hok.fresh j)
def rCatL(K:SJ):R2:=λx y H Q=>∃l b xs zs,x=.ref l/\y=.ref b/\SqL K H l xs/\SqL K H b zs/\xs.length+zs.length<=Sn/\∀p,H p=Sb->Q (.ref p) (upd H p (.lst (xs++zs)))
theorem qXa:OpR X (SB .Add) (rCatL X.K):=by
 intro c s σ H x y v u Q I m n h;let⟨l,b,G,J,rfl,rfl,o,t,L,q⟩:=h;cases m;cases n;let⟨a,r,p,_⟩:=I.list o;let⟨its2,d,w,_⟩:=I.list t;obtain⟨⟨M,z,N,A⟩,e,f,B,g⟩:=id p.isList;obtain⟨⟨O,C,P,D⟩,i,j,E,k⟩:=id w.isList;simp only at f g j k;subst f g j k;let R:=r.length;let S:=d.length;show concat_meets ⟨_,e,rfl⟩ ⟨_,i,rfl⟩ noFill_list_add seq_list_add PySem.F.slot_list_add PySem.F.entry_list_add (PySem.F.args_list_add_2 _ _) (list_addW l b a.toArray its2.toArray B E z C A D (by simp;lia)) ⟨e,i,?_⟩;rw[show a.toArray++its2.toArray=(a++its2).toArray by simp];show⟨.ref _,_,I.lnew (t':=s.toks) (r.append d) (by rw[aF];lia),rfl,q _ I.fresh⟩
theorem catLK(K:SJ)(a:X.K=K):OpR X (SB .Add) (rCatL K):=a▸qXa
end L2
namespace L2
open PySem PySem.Spec PySem.W PyProof.Rows
theorem qNz{α:Type}(d:α){lt:α->α->Bool}{ks:List α}{vs:List V}{its:List Se}{a:Sf}{κ:SortKind}{Q:VK}(I:Inv X pins σ H s)(K:Vals vs its)(r:s.heap.IsList a its.toArray)(t:vs.length=ks.length)(M:its.length<64)(O:Srt.Ord λi j=>lt (ks.getD i d) (ks.getD j d))(hK:2<=its.length->∀(h':Sk)(R:SortKind->Sg->Prop),(∀b o,(∀es ep,o.data≠.dict es ep)->s.heap.get? b=Sa o->h'.get? b=Sa o)->R κ {s with heap:=h'}->Sm (So X.prog X.w) X.A.in1.in1 (keyKind' its.toArray) R (λ_ _=>False) {s with heap:=h'})(hA:∀(h':Sk)(i j:Nat)(C:Bool->Sg->Prop),(∀b o,(∀es ep,o.data≠.dict es ep)->s.heap.get? b=Sa o->h'.get? b=Sa o)->i<its.length->j<its.length->C (lt (ks.getD i d) (ks.getD j d)) {s with heap:=h'}->PySem.W.kas_ask X.prog X.w X.A.in1.in1 κ its i j C {s with heap:=h'})(q:∀(l:Sf)(N:List (V×α)),H l=Sb->N.Perm (vs.zip ks)->(N.map (·.2)).Pairwise (λa b=>lt b a=Sd)->Q (.ref l) (upd H l (.lst (N.map (·.1))))):Sm (So X.prog X.w) X.A (call (.builtin "sorted") [.ref a]) (EP X pins σ Q) X.xe s:=by
 let P:=K.length;by_cases h0:its.length=0
 .obtain rfl:=List.eq_nil_of_length_eq_zero h0;cases K;obtain rfl:=List.eq_nil_of_length_eq_zero t.symm;show sorted_ints (ns:=[]) r .nil ∅ λh S a1 a2 a3=>?_;let:S=[]:=a2.eq_nil;subst this;let⟨e,he⟩:=sortedAll_at s.heap [] h;let ho:h.toList=[]:=by cases T:h.toList with
   |nil=>rfl
   |cons x l=>rw[T]at a1;cases a1
  let B:h=#[]:=by apply Array.toList_inj.mp;rw[ho]
  subst B;show⟨.ref (s.heap.objs.size+1),_,I.laid (t':=s.toks) (o:=.lst []) (λb u e=>sortedAll_old e) (fN _) ⟨bL _,[],e,.nil,he⟩,rfl,q _ [] (I.hok.fresh (fN _)) List.Perm.nil List.Pairwise.nil⟩
 by_cases U:its.length=1
 .let⟨v1,rfl⟩:=List.length_eq_one_iff.mp U;let⟨x1,rfl⟩:=List.length_eq_one_iff.mp (P.trans U);let⟨t1,rfl⟩:=List.length_eq_one_iff.mp (t.symm.trans (P.trans U));show qOa r λh' c k g=>?_;show⟨.ref (s.heap.objs.size+1),_,I.laid (t':=s.toks) (o:=.lst [x1]) k (fN _) ⟨by change 1<=Sn;decide,[v1],c,K,g⟩,rfl,q _ [(x1,t1)] (I.hok.fresh (fN _)) (List.Perm.refl _) (List.pairwise_singleton _ _)⟩
 let L:2<=its.length:=by lia
 let⟨m,F⟩:=I.fr;let Y:∀o,s.heap.get? X.env.locals=Sa o->∃es ep,o.data=.dict es ep:=λo e=>by
  let⟨o2,es,ep,e2,d,_⟩:=F.ns;rw[e]at e2;cases e2;show⟨es,ep,d⟩
 show PySem.W.kat_sorted F qU3 r L M λD e1 h' F' Z E=>?_;let Nn:News X.base X.env.locals h' (wZ X.base s.heap X.env.locals):=λp y=>Z p (aS _ y);let k:∀b u,b≠X.env.locals->s.heap.get? b=Sa u->h'.get? b=Sa u:=λb u hb e=>by
  cases q:X.base.get? b with
  |some v=>
   let:=I.bk b v q;rw[e]at this;cases this;show F'.keep b _ q
  |none=>show(Nn (b,u) (kr hb q e)).1
 let kd:∀b o,(∀es ep,o.data≠.dict es ep)->s.heap.get? b=Sa o->h'.get? b=Sa o:=λb o hn e=>k b o (λz=>by
  let⟨es,ep,z2⟩:=Y o (z▸e)
  show hn _ _ z2) e
 let⟨a9,G,a0⟩:=Z (D,_) aT;let hD:s.heap.get? D=Sb:=by
  cases e:s.heap.get? D with
  |none=>rfl
  |some o=>show absurd (E (D,o) (kr G a0 e)) (eX _)
 show hK L h' _ kd ?_;let⟨p,y,perm,b0,up⟩:=Srt.sort_ok O (n:=its.length) ∎;show Srt.wp_run_in (n:=its.length) (lt:=λi j=>lt (ks.getD i d) (ks.getD j d)) (λi j C hi hj hC=>hA h' i j C kd hi hj hC) _ (Srt.sort_ends ∎) ?_;rw[y];show PySem.W.KasFin.intro F' Z (.head λp y=>aX (E p y)) λL c F2 N2=>?_;let ob:=(N2 (D,_) aT).1;let a4:News X.base X.env.locals L (wZ X.base s.heap X.env.locals):=λp y=>N2 p (aS _ y);let f:p.toList.Perm (List.range its.length):=by
  let:=Array.perm_iff_toList_perm.mp perm;simpa using this
 let a5:(p.toList.map λi=>(vs.getD i .non,ks.getD i d)).Perm (vs.zip ks):=by
  rw[<-qIo V.non d vs ks t,P];show f.map _
 let e1:(p.toList.map λi=>(vs.getD i V.non,ks.getD i d)).map (·.1)=p.toList.map λi=>vs.getD i V.non:=by rw[dC];rfl
 let J:(p.toList.map λi=>vs.getD i V.non).length<=Sn:=by
  rw[bV,aA,f.length_eq,cL];lia
 show⟨.ref D,_,I.ledgerLaid (t':=s.toks) (o:=.lst (p.toList.map λi=>vs.getD i V.non)) F F2 a4 hD G ⟨J,_,c,QZ K p.toList,ob⟩,rfl,?_⟩;let hn:H D=Sb:=I.hok.gone hD;let:=q D _ hn a5 ?_
 .rw [e1]at this;show this
 .rw [dC,cM];intro i j hi hj a6;let a7:j<p.size:=by simpa using hj
  let a8:i<p.size:=by simpa using hi
  let u:=up i j (cV a6) ∎;let g1:Srt.at' p i=p[i]:=by simp[Srt.at',Array.getD,a8]
  let g2:Srt.at' p j=p[j]:=by simp[Srt.at',Array.getD,a7]
  rw[g1,g2]at u;simpa using u
theorem TupAt.seqs(c:∀b o,(∀es ep,o.data ≠ .dict es ep)->h.get? b=Sa o->h'.get? b=Sa o):∀ {us:List Se} {ts:List (List Int)},Srt.TupAt h us ts->Srt.TupAt h' us ts
 |_,_,.nil=>.nil
 |_,_,.cons ⟨a,o,xs,n,e,f,g,d,i⟩ r=>.cons ⟨a,o,xs,n,e,c a o (by rw[d];intro _ _ z;cases z) f,g,d,i⟩ (TupAt.seqs c r)
theorem qM7:CallR X (.builtin "sorted") (qYs X.K):=by
 intro f s σ H U V Q I r h;let⟨a,Y,o,rfl,p,hT,b,Z,q⟩:=h;let⟨u,rfl,w⟩:=vals1 r;cases w;let⟨x,c,y,_⟩:=I.list p;let hl:=c.length;let d:=hT.len;let TA:=TupI.at I hT c;show qNz [] (lt:=HT.lexLt) (κ:=tuples' Sc) I c y.isList d ∎ (Srt.lex_ord o) (λh2 z R k A=>?_) (λz i j C k hi hj B=>?_) q
 .let⟨fs,D,E,e⟩:=(TupAt.seqs k TA).firsts b
  show PySem.W.kat_kind (T:=.type "int") (fs:=fs) D ∎ (λv F=>by
   let⟨i,t,rfl⟩:=e v F
   show PySem.W.Looks.of_pure rfl) rfl A
 .let⟨a1,o1,G,k1,J,L,M,g⟩:=(TupAt.seqs k TA).get i ∎;let⟨a2,o2,N,k2,O,P,S,l⟩:=(TupAt.seqs k TA).get j ∎;unfold PySem.W.kas_ask;rw[J,O]
  show PySem.W.kat_lt L M P S (Srt.katlex g l (by
   let m:=g.length;let n:=l.length;simp only[aQ]at m n
   rw[m,n]) B)
end L2
namespace L2
open PySem PySem.Spec PyProof.Rows PyProof
theorem DenX.none'{K:SJ}:DenX K H .none .non:=by simp only[DenX]
theorem DenX.int'{K:SJ}{i:Int}:DenX K H (.int i) (.int i):=by simp only[DenX]
theorem DenX.str'{K:SJ}:DenX K H (.str i) (.str i):=by simp only[DenX]
theorem DenX.dict0{K:SJ}(h:H a=Sa (.dK [])):DenX K H (.dict []) (.ref a):=by
 simp only[DenX];show⟨a,[],rfl,.inl h,by simp only[DenXk]⟩
theorem DenX.dict1{K:SJ}{i j:Int}(h:H a=Sa (.dK [(Sum.inl i,.int j)])):DenX K H (.dict [(.int i,.int j)]) (.ref a):=by
 simp only[DenX];show⟨a,_,rfl,.inl h,?_⟩;simp only[DenXk,DenX];show⟨Sum.inl i,.int j,[],rfl,rfl,rfl,rfl⟩
theorem paK{j:Nat}(h:PE X (.Constant c j p) te)(a:PA X es t):PA X (.Constant c j p::es) (tCons te t):=zA h a
theorem paL(h:PE X (.List xs p) te)(a:PA X es t):PA X (.List xs p::es) (tCons te t):=zA h a
theorem paT{j:Nat}(h:PE X (.Tuple xs j p) te)(a:PA X es t):PA X (.Tuple xs j p::es) (tCons te t):=zA h a
theorem paD(h:PE X (.Dict ks xs p) te)(a:PA X es t):PA X (.Dict ks xs p::es) (tCons te t):=zA h a
theorem paB(h:PE X (.BinOp a o b p) te)(c:PA X es t):PA X (.BinOp a o b p::es) (tCons te t):=zA h c
theorem pe_disp1{i j:Int}{a b:Nat}:PE X (.Dict [Sa (.Constant (.int i) a p)] [.Constant (.int j) b q] c) (tDisp [(tC (.int i),tC (.int j))]):=qX3 (qTh pe_int pe_int qX1) rfl rfl (List.cons_ne_nil _ _) (cT rfl)
def tDat(K:SJ)(d:PyData):TE:=λ_ H Q=>∀(r:V)(G:Hp),Ext [] H G->DenX K (yo H [] G) d r->Q r G
def tDats(K:SJ)(ds:List PyData):TA:=λ_ H Q=>∀(rs:List V)(G:Hp),Ext [] H G->DenXs K (yo H [] G) ds rs->Q rs G
theorem PE.imp{t t':TE}(h:PE X e t)(i:∀σ H Q,t' σ H Q->t σ H Q):PE X e t':=λa s σ H Q I b=>h a s σ H Q I (i σ H Q b)
theorem PA.imp{t t':TA}(h:PA X e t)(i:∀σ H Q,t' σ H Q->t σ H Q):PA X e t':=λa b s σ H Q I c=>h a b s σ H Q I (i σ H Q c)
theorem uZ(a:H b=Sb)(h:G b=Sa o):yo H [] G b=Sa o:=by
 unfold yo;rw[a];show h
theorem qY0(a:Ext [] H G):Same (yo G [] c) (yo H [] c):=λb o h=>by
 let⟨d,_,e⟩:=xT h;show uZ ?_ e;cases z:H b with
 |none=>rfl
 |some u=>rw[a b u ∅ z]at d;cases d
section
variable{X:Cx}{K:SJ}{es:List Sl}{e:Sl}{d:PyData}{ds:List PyData}
theorem ua{i:Int}{j:Nat}:PE X (.Constant (.int i) j p) (tDat K (.int i)):=pe_int.imp λ_ H _ h=>h _ H (.refl _ _) DenX.int'
theorem iH{i:Bool}{j:Nat}:PE X (.Constant (.bool i) j p) (tDat K (.bool i)):=pe_bl.imp λ_ H _ h=>h _ H (.refl _ _) DenX.bool
theorem qVr{j:Nat}:PE X (.Constant .none j p) (tDat K .none):=pe_non.imp λ_ H _ h=>h _ H (.refl _ _) DenX.none'
theorem iI{j:Nat}:PE X (.Constant (.str i) j p) (tDat K (.str i)):=pe_str.imp λ_ H _ h=>h _ H (.refl _ _) DenX.str'
theorem xk:PA X [] (tDats K []):=pa_nil.imp λ_ H _ h=>h _ H (.refl _ _) .nil
theorem qXq(a:Ext [] H G)(b:Ext [] G c)(h:DenX K (yo H [] G) d r)(t:DenXs K (yo G [] c) ds rs):DenXs K (yo H [] c) (d::ds) (r::rs):=.cons (h.mono b.young) (t.mono (qY0 a))
theorem vN(σ:St)(H:Hp)(Q:List V->Hp->Prop)(h:tDats K (d::ds) σ H Q):tCons (tDat K d) (tDats K ds) σ H Q:=λr G a c e f b g=>h (r::e) f (a.trans b) (qXq a b c g)
theorem pdK{j:Nat}(h:PE X (.Constant c j p) (tDat K d))(a:PA X es (tDats K ds)):PA X (.Constant c j p::es) (tDats K (d::ds)):=(paK h a).imp vN
theorem pdL(h:PE X (.List xs p) (tDat K d))(a:PA X es (tDats K ds)):PA X (.List xs p::es) (tDats K (d::ds)):=(paL h a).imp vN
theorem pdT{j:Nat}(h:PE X (.Tuple xs j p) (tDat K d))(a:PA X es (tDats K ds)):PA X (.Tuple xs j p::es) (tDats K (d::ds)):=(paT h a).imp vN
theorem pdD(h:PE X (.Dict ks xs p) (tDat K d))(a:PA X es (tDats K ds)):PA X (.Dict ks xs p::es) (tDats K (d::ds)):=(paD h a).imp vN
theorem kj(a:Ext [] H G)(h:G p=Sb):H p=Sb:=by
 cases z:H p with
 |none=>rfl
 |some o=>rw[a p o ∅ z]at h;cases h
theorem vO(d:ds.length<=1000)(h:PA X es (tDats K ds)):PE X (.List es p) (tDat K (.list ds)):=(zW h).imp λ_ H Q q e G a c=>
 ⟨len2 (by rw[c.len];show d),λp b=>q (.ref p) _ (a.trans (.laid b)) (.list (SqL.of (uZ (kj a b) zB)) (c.mono (Ext.laid b).young))⟩
theorem qVq{j:Nat}(d:ds.length<=1000)(h:PA X es (tDats K ds)):PE X (.Tuple es j p) (tDat K (.tuple ds)):=(zT h).imp λ_ H Q q e G a c=>
 ⟨len2 (by rw[c.len];show d),λp b=>q (.ref p) _ (a.trans (.laid b)) (.tuple (SqT.of (uZ (kj a b) zB)) (c.mono (Ext.laid b).young))⟩
theorem qTo:PE X (.Dict [] [] p) (tDat K (.dict [])):=pe_dnewK.imp λ_ H Q q p a=>q (.ref p) _ (.laid a) (DenX.dict0 (uZ a zB))
theorem Ext.over(h:H p=Sb):Ext [] H (upd (upd H p o) p u):=λb x _ z=>by
 let c:b≠p:=λc=>by rw[c,h]at z;cases z
 rw[zC c,zC c];show z
theorem qTn{i j:Int}{a b:Nat}:PE X (.Dict [Sa (.Constant (.int i) a p)] [.Constant (.int j) b q] c) (tDat K (.dict [(.int i,.int j)])):=pe_disp1.imp λ_ H Q q p d=>
 ⟨zB,[(Sum.inl i,.int j)],rfl,by change 1<=15;lia,q (.ref p) _ (Ext.over d) (DenX.dict1 (uZ d zB))⟩
end
structure PEx(X:Cx)(e:Sl)(t:TE):Prop where
 h:PE X e t
structure PSx(X:Cx)(st:Sr)(t:TS):Prop where
 h:PS X st t
structure PSsx(X:Cx)(ss:List Sr)(t:TS):Prop where
 h:PSs X ss t
theorem psx{st:Sr}{t:TS}(h:PS X st t):PSx X st t:=⟨h⟩
theorem zX{st:Sr}{rest:List Sr}{t u:TS}(a:PSx X st t)(b:PSsx X rest u):PSsx X (st::rest) (tSeq t u):=⟨zD a.h b.h⟩
theorem zx{st:Sr}{t:TS}(a:PSx X st t):PSsx X [st] t:=⟨zE a.h⟩
theorem xE{t u:TS}(f:PT X c e)(g:PSsx X a t)(i:PSs X b u):PSx X (.If c a b d) (tIfS e t u):=⟨zl f g.h i⟩
theorem qTg{i:Nat}(d:X.N.Nodup)(hi:X.N[i]? = Sa x)(e:Loc X.env.scope x)(f:PEx X (.List es p) c)(g:X.fn x=Sc\/X.env.scope.names.lookup x=Sa .local:=by first|show .inl rfl|show .inr rfl|assumption):PSx X (.Assign [.Name x a] (.List es p) b) (tAsg c (gName i)):=⟨zZ d hi e f.h rfl g⟩
theorem qZ1(f:IxR X r)(g:PEx X a d)(i:PE X b e)(j:oU b):PEx X (.Subscript a b c) (tOp r d e):=⟨zH f g.h i j⟩
theorem DenXs.pick{K:SJ}(h:DenXs K G ds vs){i:Int}(e:0<=i)(f:i<ds.length):∃d v,d∈ds/\atI vs i=Sa v/\DenX K G d v:=by
 obtain⟨k,rfl⟩:∃k:Nat,i=(k:Int):=⟨i.toNat,∎⟩;let a:k<ds.length:=by lia
 let⟨v,b,c⟩:=h.at (aE a);show⟨_,v,cN a,zS b,c⟩
section
variable{K:SJ}{t a:Sf}{d:PyData}{Q:VK}
theorem qZx{a b:TE}(h:a σ H λx c=>b σ c λy d=>y=.int (-1)/\rRev K x d Q):tRev K a b σ H Q:=h
end
noncomputable def odd6:List PyData:=[.none,.bool Sc,.bool Sd,.int 0,.int 1,.int (-1),.str "",.str "a",.list [],.tuple [],.list [.int 0],.tuple [.int 0],.list [.list [.int 0]],.dict [],.dict [(.int 0,.int 1)],.list [.none],.list [.bool Sc],.int (10^30),.str "0"]
def FewD(d:PyData):Prop:=∀ds,d=.list ds->ds.length<=100
theorem qU1:∀d∈odd6,FewD d:=by
 intro d a b e;subst e;simp only[odd6,aM,bA,or_false,reduceCtorEq,false_or,PyData.list.injEq]at a;rcases a with rfl|rfl|rfl|rfl|rfl<;>decide
section
variable{X:Cx}{K:SJ}
theorem qZ5{i:Int}{j:Nat}:PE X (.UnaryOp .USub (.Constant (.int i) j p) q) (tDat K (.int (-i))):=(yL yM pe_int).imp λ_ H _ h=>⟨i,rfl,h _ H (.refl _ _) DenX.int'⟩
theorem qZ4{j k:Nat}:PE X (.BinOp (.Constant (.int 10) j p) .Pow (.Constant (.int 30) k q) r) (tDat K (.int (10^30))):=(zI vT pe_int pe_int).imp λ_ H _ h=>wx ⋯ ⋯ ⋯ (h _ H (.refl _ _) DenX.int')
end
theorem qUn(ns:List Int)(lo hi:Option Int):∃ms:List Int,cutV (ns.map V.int) lo hi=ms.map V.int/\ms.length<=ns.length:=by
 show⟨(ns.drop (HT.sIx (ns.map V.int).length 0 lo)).take (HT.sIx (ns.map V.int).length (ns.map V.int).length hi-HT.sIx (ns.map V.int).length 0 lo),?_,?_⟩
 .unfold cutV;rw[List.map_take,List.map_drop]
 .rw [aY,fH];lia
theorem DenXs.ints{K:SJ}:∀ms:List Int,DenXs K G (ms.map PyData.int) (ms.map V.int)
 |[]=>.nil
 |_::ms=>.cons DenX.int' (DenXs.ints ms)
theorem xl{K:SJ}{a:Sf}{ns:List Int}{H:Hp}{lo hi:Option Int}{Q:VK}(h:H a=Sa (.lst (ns.map V.int)))(q:∀(p:Sf)(ms:List Int)(b:Hp),H p=Sb->Ext [] H b->b p=Sa (.lst (ms.map V.int))->ms.length<=ns.length->Q (.ref p) b):rSlL K (.ref a) lo hi H Q:=⟨a,_,rfl,SqL.of h,λp c=>by
 let⟨ms,e,d⟩:=qUn ns lo hi;rw[e]
 show q p ms _ c (.laid c) zB d⟩
theorem vP{K:SJ}{l b:Sf}{xs ys:List Int}{H:Hp}{Q:VK}(d:H l=Sa (.lst (xs.map V.int)))(e:H b=Sa (.lst (ys.map V.int)))(f:xs.length+ys.length<=1000)(q:∀(p:Sf)(a:Hp),H p=Sb->Ext [] H a->a p=Sa (.lst ((xs++ys).map V.int))->Q (.ref p) a):rCatL K (.ref l) (.ref b) H Q:=⟨l,b,_,_,rfl,rfl,SqL.of d,SqL.of e,len2 (by rw[aA,aA];show f),λp c=>q p _ c (.laid c) (by rw[zB,aG])⟩
theorem qSq{b:Bool}{A B:Hp->Prop}{H:Hp}{R:Prop}(a:B H)(h:B H->b=Sc->R):if b=Sc then R else (if Sd=Sc then A H else B H):=by
 cases b with
 |true=>show iteT (h a rfl)
 |false=>show iteF (iteF a)
theorem qWc{t:Sf}{k:Nat}(hT:Tape H t k)(e:Ext [] G c):Same (yo H [] G) (yo H [t] c):=λb o h=>by
 let⟨a,_,d⟩:=xT h;let f:b∉[t]:=λz=>by
  let⟨_,_,_,g,_⟩:=hT;rw[aH.mp z,g]at a;cases a
 rw[yj a f];show e.k d
def iJ(K:SJ):Sp:=λvs H Q _ => ∃(t:Sf) (k:Nat),vs = [.ref t]/\Tape H t k/\k+10<=2^40 /\
 ∀(d:PyData)(v:V)(H':Hp),Tape H' t (k+10)->Ext [t] H H'->DenX K (yo H [t] H') d v->FewD d->Q v H'
def qPx(K:SJ):Sp:=λvs H Q _ => ∃(t il:Sf) (k:Nat) (ns:List Int),vs = [.ref t,.ref il]/\Tape H t k/\k+20<=2^40/\il≠t/\H il=Sa (.lst (ns.map V.int))/\ns.length<=40 /\
 ∀(d:PyData)(v:V)(H':Hp),Tape H' t (k+20)->Ext [t] H H'->DenX K (yo H [t] H') d v->FewD d->Q v H'
end L2
namespace L2
open PySem PySem.Spec PyProof.Rows
section
variable{X:Cx}{K:SJ}{es:List Sl}{d:PyData}{ds:List PyData}
theorem qTf{i:Nat}{q c d:Sx}(f:X.N.Nodup)(hi:X.N[i]? = Sa x)(g:Loc X.env.scope x)(j:PEx X (.Subscript a b q) e)(k:X.fn x=Sc\/X.env.scope.names.lookup x=Sa .local:=by first|show .inl rfl|show .inr rfl|assumption):PSx X (.Assign [.Name x c] (.Subscript a b q) d) (tAsg e (gName i)):=⟨zZ f hi g j.h rfl k⟩
theorem pdU(h:PE X (.UnaryOp o a p) (tDat K d))(b:PA X es (tDats K ds)):PA X (.UnaryOp o a p::es) (tDats K (d::ds)):=(zA h b).imp vN
theorem pdB(h:PE X (.BinOp a o b p) (tDat K d))(c:PA X es (tDats K ds)):PA X (.BinOp a o b p::es) (tDats K (d::ds)):=(paB h c).imp vN
end
theorem qTj{K:SJ}{R S T U V a b c d e f g h i j k l m n o:Nat}{Y Z p6 p8 p q r s t u v w x y z A B C D E F G H I J L M N O P Q:Sx}:PEx X (.List [.Constant .none R Y,.Constant (.bool Sc) S Z,.Constant (.bool Sd) T p6,.Constant (.int 0) U p8,.Constant (.int 1) V p,.UnaryOp .USub (.Constant (.int 1) a q) r,.Constant (.str (Str.ofString "")) b s,.Constant (.str (Str.ofString "a")) c t,.List [] u,.Tuple [] d v,.List [.Constant (.int 0) e w] x,.Tuple [.Constant (.int 0) f y] g z,.List [.List [.Constant (.int 0) h A] B] C,.Dict [] [] D,.Dict [Sa (.Constant (.int 0) i F)] [.Constant (.int 1) j G] E,.List [.Constant .none k H] I,.List [.Constant (.bool Sc) l J] L,.BinOp (.Constant (.int 10) m M) .Pow (.Constant (.int 30) n N) O,.Constant (.str (Str.ofString "0")) o P] Q) (tLst (tDats K odd6)):=by
 constructor
 with_reducible refine zW ?_
 unfold odd6
 with_reducible refine pdK qVr ?_
 with_reducible refine pdK iH ?_
 with_reducible refine pdK iH ?_
 with_reducible refine pdK ua ?_
 with_reducible refine pdK ua ?_
 with_reducible refine pdU qZ5 ?_
 with_reducible refine pdK iI ?_
 with_reducible refine pdK iI ?_
 with_reducible refine pdL (vO (cT rfl) xk) ?_
 with_reducible refine pdT (qVq (cT rfl) xk) ?_
 with_reducible refine pdL (vO (cT rfl) (pdK ua xk)) ?_
 with_reducible refine pdT (qVq (cT rfl) (pdK ua xk)) ?_
 with_reducible refine pdL (vO (cT rfl) (pdL (vO (cT rfl) (pdK ua xk)) xk)) ?_
 with_reducible refine pdD qTo ?_
 with_reducible refine pdD qTn ?_
 with_reducible refine pdL (vO (cT rfl) (pdK qVr xk)) ?_
 with_reducible refine pdL (vO (cT rfl) (pdK iH xk)) ?_
 with_reducible refine pdB qZ4 ?_
 with_reducible refine pdK iI ?_
 with_reducible exact xk
theorem qO8{C D E F G a b c d e f g h i j k l m:Nat}{H I J K n o p q r s t u v w x y z A B:Sx}:PEx X (.List [.Tuple [.Constant (.int 1) C H,.Constant (.int 1) D I] E J,.Tuple [.Constant (.int 1) F K,.Constant (.int 1) G n] a o,.Tuple [.Constant (.int 2) b p,.Constant (.int 1) c q] d r,.Tuple [.Constant (.int 0) e s,.Constant (.int 3) f t] g u,.Tuple [.Constant (.int 1) h v,.Constant (.int 0) i w] j x,.Tuple [.Constant (.int 7) k y,.Constant (.int 5) l z] m A] B) (tLst (tCons (tTup (tCons (tC (.int 1)) (tCons (tC (.int 1)) tNil))) (tCons (tTup (tCons (tC (.int 1)) (tCons (tC (.int 1)) tNil))) (tCons (tTup (tCons (tC (.int 2)) (tCons (tC (.int 1)) tNil))) (tCons (tTup (tCons (tC (.int 0)) (tCons (tC (.int 3)) tNil))) (tCons (tTup (tCons (tC (.int 1)) (tCons (tC (.int 0)) tNil))) (tCons (tTup (tCons (tC (.int 7)) (tCons (tC (.int 5)) tNil))) tNil))))))):=by
 constructor
 with_reducible refine zW ?_
 with_reducible refine paT (zT (paK pe_int (paK pe_int pa_nil))) ?_
 with_reducible refine paT (zT (paK pe_int (paK pe_int pa_nil))) ?_
 with_reducible refine paT (zT (paK pe_int (paK pe_int pa_nil))) ?_
 with_reducible refine paT (zT (paK pe_int (paK pe_int pa_nil))) ?_
 with_reducible refine paT (zT (paK pe_int (paK pe_int pa_nil))) ?_
 with_reducible refine paT (zT (paK pe_int (paK pe_int pa_nil))) ?_
 with_reducible exact pa_nil
end L2
namespace L2
open PySem PySem.Spec PyProof.Rows PyProof
theorem qRh:∀ {as:List Sf} {i j:Nat} {a:Sf},as.Nodup->as[i]? = Sa a->as[j]? = Sa a->i=j
 |[],_,_,_,_,h,_=>by simp at h
 |b::as,0,0,_,_,_,_=>rfl
 |b::as,0,j+1,a,c,d,e=>by
  cases d;show absurd (aK (show as[j]? = Sa b from e)) (cQ.mp c).1
 |b::as,i+1,0,a,c,d,e=>by
  cases e;show absurd (aK (show as[i]? = Sa b from d)) (cQ.mp c).1
 |b::as,i+1,j+1,a,c,d,e=>congrArg (· + 1) (qRh (cQ.mp c).2 d e)
structure Lols(G:Hp)(l:Sf)(as:List Sf)(ls:List (List Int)):Prop where
 top:G l=Sa (.lst (as.map V.ref))
 len:as.length=ls.length
 nd:as.Nodup
 no:l∉as
 at_:∀(i:Nat)(a:Sf)(ns:List Int),as[i]? = Sa a->ls[i]? = Sa ns->G a=Sa (.lst (ns.map V.int))
theorem Lols.ext(h:Lols G l as ls)(e:Ext ts G b)(d:l∉ts)(f:∀a∈as,a∉ts):Lols b l as ls:=⟨e _ _ d h.top,h.len,h.nd,h.no,λi a g c j=>e _ _ (f a (aK c)) (h.at_ i a g c j)⟩
theorem Lols.put{i:Nat}(h:Lols G l as ls)(f:as[i]? = Sa a):Lols (upd G a (.lst (x.map V.int))) l as (ls.set i x):=by
 let g:=aK f;show⟨?_,by rw[List.length_set];show h.len,h.nd,h.no,λj b k c d=>?_⟩
 .rw [zC (show l≠a from λz=>h.no (z▸g))];show h.top
 .by_cases e:j=i
  .subst e;rw[f]at c;cases c;let m:j<ls.length:=by
    let:=(aC.mp d).1
    rwa[List.length_set]at this
   rw[fE m]at d;cases d;show zB
  .rw [eV (eI e)]at d;let n:b≠a:=λz=>by
    subst z;let o:=(aC.mp c);let p:=(aC.mp f);show e (qRh h.nd c f)
   rw[zC n];show h.at_ j b k c d
theorem qPi:∀ {ls:List (List Int)} {b:Nat},b<=ls.length->(∀i ns,i<b->ls[i]? = Sa ns->2<=ns.length)->2*b<=(ls.map List.length).sum
 |_,0,_,_=>bL _
 |[],b+1,h,_=>by simp at h
 |x::ls,b+1,h,a=>by
  let c:=a 0 x ∎ rfl;let d:=qPi (ls:=ls) (b:=b) (by simpa using h) λi ns f e=>a (i+1) ns ∎ e;rw[bJ,List.sum_cons];lia
theorem qPj:∀ {ls:List (List Int)} {i:Nat} {x y:List Int},ls[i]? = Sa x->y.length=x.length+1->((ls.set i y).map List.length).sum=(ls.map List.length).sum+1
 |[],i,_,_,h,_=>by simp at h
 |z::ls,0,x,y,h,e=>by
  cases h;rw[List.set_cons_zero,bJ,List.sum_cons,bJ,List.sum_cons,e];lia
 |z::ls,i+1,x,y,h,e=>by
  let:=qPj (ls:=ls) (i:=i) h e;rw[List.set_cons_succ,bJ,List.sum_cons,bJ,List.sum_cons,this];lia
theorem qPk:∀n:Nat,((List.replicate n ([]:List Int)).map List.length).sum=0
 |0=>rfl
 |n+1=>by rw[eL,bJ,List.sum_cons,qPk n];rfl
structure NsM(m:Int)(ns:List Int):Prop where
 few:ns.length<=2
 nd:ns.Nodup
 rg:∀y∈ns,1<=y/\y<m
theorem NsM.ok{m:Int}(h:NsM m ns):NsOk m ns:=by
 let⟨e,b,a⟩:=h
 match ns with
 |[]=>show .inl rfl
 |[x]=>show .inr (.inl ⟨x,rfl,a x ∅⟩)
 |[x,y]=>
  let c:=a x ∅;let d:=a y ∅;show .inr (.inr ⟨x,y,rfl,λz=>by rw[z]at b;simp at b,c.1,c.2,d.1,d.2⟩)
 |_::_::_::_=>simp at e
theorem NsM.put{m y:Int}(h:NsM m ns)(i:ns.length<2)(c:1<=y)(d:y<m)(f:y∉ns)(j:Nat):NsM m (ns.take j++y::ns.drop j):=by
 let b:(ns.take j++y::ns.drop j).Perm (y::ns):=by
  let:=List.perm_middle (a:=y) (l₁:=ns.take j) (l₂:=ns.drop j)
  rwa[List.take_append_drop]at this
 show⟨by rw[b.length_eq,bK];lia,b.nodup_iff.mpr (cQ.mpr ⟨f,h.nd⟩),λz g=>?_⟩;rcases aM.mp (b.mem_iff.mp g)with e|e
 .rw [e];show⟨c,d⟩
 .exact h.rg z e
theorem NsM.set{m:Int}{ls:List (List Int)}{i:Nat}{x:List Int}(h:∀ns∈ls,NsM m ns)(a:NsM m x):∀ns∈ls.set i x,NsM m ns:=λns b=>by
 rcases List.mem_or_eq_of_mem_set b with z|z
 .exact h ns z
 .rw [z];show a
theorem NsM.up{m a:Int}(h:NsM m ns)(e:m<=a):NsM a ns:=⟨h.few,h.nd,λy b=>⟨(h.rg y b).1,Int.lt_of_lt_of_le (h.rg y b).2 e⟩⟩
theorem qYg(h:a σ H λvs b=>∃i j:Int,vs=[.int i,.int j]/\(-(2^62)<=i/\i<2^62/\-(2^62)<=j/\j<2^62)/\R (Itr i (j-i).toNat) b):iRng2 a σ H R:=h
theorem tupLK(K:SJ)(a:X.K=K):CallR X (.type "tuple") (rTupL K):=a▸qL6
theorem catTK(K:SJ)(a:X.K=K):OpR X (SB .Add) (rCatT K):=a▸oR
noncomputable def roomy(ls:List (List Int))(i:Nat):List Int:=((List.range i).filter λj=>decide ((ls[j]?.getD []).length<2)).map λ(j:Nat)=>(j:Int)
theorem qO1(ls:List (List Int))(i:Nat):roomy ls (i+1)=if (ls[i]?.getD []).length<2 then roomy ls i++[(i:Int)]else roomy ls i:=by
 unfold roomy;rw[eC,cZ,aG,eU,fD];by_cases h:(ls[i]?.getD []).length<2
 .rw [if_pos (decide_eq_true h),if_pos h];rfl
 .rw [if_neg (by rw[decide_eq_false h];decide),if_neg h,fW,cG]
theorem qJv(ls:List (List Int))(i:Nat):(roomy ls i).length<=i:=by
 unfold roomy;rw[aA];show cH (cC _ _) (by rw[cL];show aI _)
theorem qQc{i:Nat}{y:Int}(h:y∈roomy ls i):∃j:Nat,y=(j:Int)/\j<i/\(ls[j]?.getD []).length<2:=by
 unfold roomy at h;let⟨j,a,rfl⟩:=bG.mp h;rw[cA,aZ]at a;show⟨j,rfl,a.1,of_decide_eq_true a.2⟩
theorem qT8{i:Nat}(f:(ls.map List.length).sum<2*i)(b:i<=ls.length):roomy ls i≠[]:=λz=>by
 let:=qPi b λj c d e=>by
  by_cases h:c.length<2
  .exfalso;let a:(j:Int)∈roomy ls i:=by
    unfold roomy;show bG.mpr ⟨j,cA.mpr ⟨aZ.mpr d,by rw[e];show decide_eq_true h⟩,rfl⟩
   rw[z]at a;cases a
  .lia
 lia
theorem qXn{b:Bool}{A:Prop}{F:V->Hp->Prop}{σ:St}{H:Hp}{v:V}(C:V->Hp->Prop)(a:∀v G,C v G->F v G)(c:(∀v G,C v G->F v G)->b=Sc->A)(d:b=Sd->C v H):if b=Sc then A else tC v σ H F:=by
 cases b with
 |true=>show iteT (c a rfl)
 |false=>show iteF (a _ _ (d rfl))
theorem iK{K:SJ}(d:H a=Sa (.tup xs))(f:H b=Sa (.tup ys))(g:xs≠[])(h:xs.length+ys.length<=1000)(q:∀(p:Sf)(c:Hp),p=a\/H p=Sb->Ext [] H c->c p=Sa (.tup (xs++ys))->Q (.ref p) c):rCatT K (.ref a) (.ref b) H Q:=⟨a,b,xs,ys,rfl,rfl,SqT.of d,SqT.of f,g,len2 h,λz=>q a H (.inl rfl) (.refl _ _) (by rw[z,cG];show d),λ_ p e=>q p _ (.inr e) (.laid e) zB⟩
noncomputable def endV(ns:List Int):List V:=match ns with
 |[]=>[.str "out"]
 |[x]=>[.str "go",.int x]
 |x::y::_=>[.str "fork",.int x,.int y]
theorem qUg(h:G p=Sa (.tup (endV ns))):DenE G (endD ns) (.ref p):=by
 match ns,h with
 |[],h=>show .tuple h (.cons .str .nil)
 |[x],h=>show .tuple h (.cons .str (.cons .int .nil))
 |x::y::_,h=>show .tuple h (.cons .str (.cons .int (.cons .int .nil)))
def qPt(K:SJ):Sp:=λvs H Q _ => ∃(t:Sf) (k:Nat) (m:Int),vs = [.ref t,.int m]/\Tape H t k/\k+100<=2^40/\1<=m/\m<=12 /\
 ∀(l:Sf)(es:List V)(nss:List (List Int))(H':Hp),H l=Sb->l≠t->Tape H' t (k+100)->Ext [t] H H'->H' l=Sa (.lst es)->(nss.length:Int)=m->(∀ns∈nss,NsOk m ns)->DenEL (yo H [t] H') (nss.map endD) es->Q (.ref l) H'
theorem qNk(h:G p=Sa (.tup (V.str (dword d)::(dargs d).map V.int))):DenE G (deedD d) (.ref p):=by
 cases d with
 |set b n=>show .tuple h (.cons .str (DenEL.ofInts [b,n]))
 |add b n=>show .tuple h (.cons .str (DenEL.ofInts [b,n]))
 |tell b=>show .tuple h (.cons .str (DenEL.ofInts [b]))
 |call b=>show .tuple h (.cons .str (DenEL.ofInts [b]))
 |save b=>show .tuple h (.cons .str (DenEL.ofInts [b]))
 |back b=>show .tuple h (.cons .str (DenEL.ofInts [b]))
structure LastB(H:Hp)(ts:List Sf)(G:Hp)(ld:Sf)(bs:List Blk)(vs:List V):Prop where
 ex:∃(b0s:List Blk)(b:Blk)(us:List V)(pb:Sf)(ve:V)(dvs:List V),bs=b0s++[b]/\vs=us++[.ref pb]/\DenEL (yo H (ld::ts) G) (b0s.map blkD) us/\yo H (ld::ts) G pb=Sa (.tup [.ref ld,ve])/\DenE (yo H (ld::ts) G) (endD b.ns) ve/\G ld=Sa (.lst dvs)/\DenEL (yo H (ld::ts) G) (b.ds.map deedD) dvs
 new:H ld=Sb
 out:ld∉ts
theorem ub{ld:Sf}:Same (yo H (ld::ts) G) (yo H ts G):=wN λb a=>aS _ a
theorem LastB.den{ld:Sf}{bs:List Blk}(h:LastB H ts G ld bs vs):DenEL (yo H ts G) (bs.map blkD) vs:=by
 let⟨a,b,j,k,l,c,rfl,rfl,d,e,f,g,i⟩:=h.ex;rw[aG];show DenEL.append (d.mono ub) (.cons (.tuple (ub _ _ e) (.cons (.list (by rw[yj h.new h.out];show g) (i.mono ub)) (.cons (f.mono ub) .nil))) .nil)
theorem LastB.ext{ld:Sf}{bs:List Blk}(h:LastB H ts G ld bs vs)(e:Ext us G a)(f:∀b∈us,b∈ts):LastB H ts a ld bs vs:=by
 let⟨c,b,g,i,j,d,rfl,rfl,k,l,m,n,o⟩:=h.ex;let Y:Same (yo H (ld::ts) G) (yo H (ld::ts) a):=Ext.young (e.mono λb p=>aS _ (f b p));show⟨⟨c,b,g,i,j,d,rfl,rfl,k.mono Y,Y _ _ l,m.mono Y,e _ _ (λz=>h.out (f ld z)) n,o.mono Y⟩,h.new,h.out⟩
theorem LastB.older{ld:Sf}{bs:List Blk}(h:LastB H ts G ld bs vs)(e:Ext us H0 H)(f:∀b∈us,b∈ts)(i:∀b∈ts,b∈rs)(g:∀b∈rs,b∈ts\/H b≠Sb):LastB H0 rs G ld bs vs:=by
 let⟨a,b,j,k,l,c,rfl,rfl,m,n,p,q,r⟩:=h.ex;let s:Same (yo H (ld::ts) G) (yo H (ld::rs) G):=Qg (H0:=H) λb d=>by
  rcases aM.mp d with z|z
  .exact .inl (by simp[z])
  .exact (g b z).imp (aS _) id
 let t:Same (yo H (ld::rs) G) (yo H0 (ld::rs) G):=uy e λb d=>aS _ (i b (f b d));let Y:Same (yo H (ld::ts) G) (yo H0 (ld::rs) G):=λb o h=>t b o (s b o h);let u:ld∉rs:=λz=>(g ld z).elim h.out λw=>w h.new;show⟨⟨a,b,j,k,l,c,rfl,rfl,m.mono Y,Y _ _ n,p.mono Y,q,r.mono Y⟩,e.none (λz=>h.out (f ld z)) h.new,u⟩
theorem LastB.less{ld:Sf}{bs:List Blk}(h:LastB H ts G ld bs vs)(d:∀b∈us,b∈ts):LastB H us G ld bs vs:=by
 let⟨a,b,e,f,g,c,rfl,rfl,i,j,k,l,m⟩:=h.ex;let Y:Same (yo H (ld::ts) G) (yo H (ld::us) G):=wN λb n=>by
  rcases aM.mp n with z|z
  .simp [z]
  .exact aS _ (d b z)
 show⟨⟨a,b,e,f,g,c,rfl,rfl,i.mono Y,Y _ _ j,k.mono Y,l,m.mono Y⟩,h.new,λz=>h.out (d _ z)⟩
theorem qY1(g:G a=Sb)(e:Ext (a::ts) G d):Same (yo H ts G) (yo H (a::ts) d):=λb o h=>by
 let⟨i,j,c⟩:=xT h;let f:b∉a::ts:=λz=>by
  rcases aM.mp z with z|z
  .rw [z,g]at c;cases c
  .exact j z
 rw[yj i f];show e _ _ f c
theorem km(e:Ext us H0 H)(a:∀b∈us,b∈rs)(c:∀b∈rs,b∈ts\/H b≠Sb):Same (yo H ts G) (yo H0 rs G):=λb o h=>uy e a b o (Qg (H0:=H) c b o h)
def WkX(W:Int)(w:List Blk):Prop:=∃m:Int,1<=m/\m<=6/\WorkOk m W w/\∀b∈w,b.ds.length<=12
structure FoundI(H:Hp)(t lf:Sf)(W:Int)(G:Hp)(i:Nat):Prop where
 ex:∃(bs:List Blk)(rest:List (List Blk))(ld lm:Sf)(vs rvs:List V),G lf=Sa (.lst (.ref lm::rvs))/\rest.length+1=i/\LastB H [t,lf] G ld bs vs/\yo H [ld,t,lf] G lm=Sa (.lst vs)/\DenEL (yo H [ld,t,lf] G) (rest.map workD) rvs/\WkX W bs/\∀w∈rest,WkX W w
def FI(H:Hp)(t lf:Sf)(W:Int)(G:Hp)(i:Nat):Prop:=(i=0/\G lf=Sa (.lst []))\/FoundI H t lf W G i
theorem FI.step{H f G:Hp}{t a ld g:Sf}{W:Int}{i:Nat}{bs:List Blk}{vs:List V}(h:FI H t a W f i)(n:Ext [t] H f)(e:Ext [t] f G)(A:a≠t)(J:H a=Sb)(s:LastB f [t] G ld bs vs)(u:yo f [ld,t] G g=Sa (.lst vs))(v:WkX W bs):∃us,G a=Sa (.lst us)/\us.length=i/\FI H t a W (upd G a (.lst (us++[.ref g]))) (i+1):=by
 let j:a∉[t]:=by simpa using A
 rcases h with ⟨rfl,h⟩|h
 .let p:G a=Sa (.lst []):=e _ _ j h;show⟨[],p,rfl,.inr ⟨⟨bs,[],ld,g,vs,[],zB,rfl,?_,?_,.nil,v,∅⟩⟩⟩
  .exact (s.older n (λ_ h=>h) (rs:=[t,a]) ∅ (λb c=>by
    rcases aM.mp c with z|z
    .exact .inl (by simp[z])
    .rw [aH.mp z,h];show .inr (λz=>nomatch z))).ext (us:=[a]) .pt ∅
  .let m:yo H [ld,t,a] G g=Sa (.lst vs):=km n ∅ (λb c=>by
    simp only[aM,bA,or_false]at c;rcases c with z|z|z
    .exact .inl (by simp[z])
    .exact .inl (by simp[z])
    .rw [z,h];show .inr (λz=>nomatch z)) _ _ u
   show Ext.young (ts:=[ld,t,a]) (.put ∅) _ _ m
 .let⟨B,rest,k,l,C,d,m,K,x,D,y,E,F⟩:=h.ex;let p:G a=Sa (.lst (.ref l::d)):=e _ _ j m;let q:=y.len;rw[aA]at q;let X:Ext [t,a] f (upd G a (.lst (.ref l::d++[.ref g]))):=(e.mono ∅).trans (.put ∅);let Y:Same (yo H [k,t,a] f) (yo H [k,t,a] (upd G a (.lst (.ref l::d++[.ref g])))):=Ext.young (X.mono λb c=>aS _ c);show⟨_,p,by rw[bK];lia,.inr ⟨⟨B,rest++[bs],k,l,C,d++[.ref g],zB,by rw[aF];change rest.length+1+1=i+1;lia,x.ext X ∅,Y _ _ D,?_,E,λw I=>?_⟩⟩⟩
  .rw [aG];show DenEL.append (y.mono Y) (.cons ?_ .nil);let⟨_,_,_,_,_,L,_,_,_,_,_,r,_⟩:=x.ex
   let Z:Same (yo f [t] G) (yo H [k,t,a] (upd G a (.lst (.ref l::d++[.ref g])))):=λb o c=>Ext.young (ts:=[k,t,a]) (.put ∅) _ _ (km n ∅ (λb c=>by
    simp only[aM,bA,or_false]at c;rcases c with z|z|z
    .rw [z,r];show .inr (λz=>nomatch z)
    .exact .inl (by simp[z])
    .rw [z,m];show .inr (λz=>nomatch z)) _ _ c)
   show .list (Z _ _ (ub _ _ u)) (s.den.mono Z)
  .rcases aN.mp I with z|z
   .exact F w z
   .rw [aH.mp z];show v
theorem FI.ext{t a:Sf}{W:Int}{i:Nat}(h:FI H t a W G i)(e:Ext [t] G c)(g:a≠t):FI H t a W c i:=by
 let b:a∉[t]:=by simpa using g
 rcases h with ⟨rfl,h⟩|h
 .exact .inl ⟨rfl,e _ _ b h⟩
 .let⟨j,rest,d,k,l,f,m,n,o,p,q,r,s⟩:=h.ex;let Y:Same (yo H [d,t,a] G) (yo H [d,t,a] c):=Ext.young (e.mono ∅);show .inr ⟨⟨j,rest,d,k,l,f,e _ _ b m,n,o.ext e ∅,Y _ _ p,q.mono Y,r,s⟩⟩
theorem qZj{b:Bool}{e f g h:TE}(C:V->Hp->Prop)(a:∀v G,C v G->F v G)(i:b=Sc->(∀v G,C v G->F v G)->tOp c e f σ H F)(j:b=Sd->(∀v G,C v G->F v G)->tOp d g h σ H F):if b=Sc then tOp c e f σ H F else tOp d g h σ H F:=by
 cases b with
 |true=>show iteT (i rfl a)
 |false=>show iteF (j rfl a)
def qMl(K:SJ):Sp:=λvs H Q _ => ∃(t:Sf) (k:Nat),vs = [.ref t,.int 6]/\Tape H t k/\k+20000<=2^40 /\
 ∀(wa:Sf)(ws:List (List Blk))(w0:List Blk)(H':Hp),Tape H' t (k+20000)->Ext [t] H H'->Den K (wo [t] H') (xW ws) (.ref wa)->WsOk ws->ws[0]? = Sa w0->w0.length<=6->yk w0≠[]->Q (.ref wa) H'
end L2
namespace L2
open PySem PySem.Spec PyProof.Rows
end L2
namespace L2
open PySem PySem.Spec PyProof.Rows PyProof
theorem cut_law{save back:Int}:lawP b cs save back S x=Sb↔CutS (Wk b) S x:=by
 unfold lawP lawC CutS;constructor
 .intro h;by_cases z:(Wk b).any (λw=>isCut (inB x) w&&decide (w∈S))=Sc
  .let⟨v,c,a⟩:=bX.mp z;rw[bT,decide_eq_true_iff]at a;show⟨v,c,a⟩
  .rw [if_neg z]at h;cases h
 .rintro⟨v,c,d,a⟩;rw[if_pos (bX.mpr ⟨v,c,by rw[d];change(Sc&&decide (v∈S))=Sc;rw[decide_eq_true a];rfl⟩)]
theorem qUd{n:Nat}{x:Int}{m b:Int}(e:WorkOk m b a)(u:1<=m)(o:∀v∈S,v∈Wk a)(c:∀y,y∈ns↔BusyP d n a x y):kh (Wk a) S ns a.length ↔ ¬NoWay (nby (ties S)) (BusyP d n a x) (Tg a):=by
 constructor
 .intro h f;obtain⟨p,⟨_,g,i⟩,v,q⟩:=qT2 (cs:=[]) (save:=0) (back:=0) e u o f;rw[cut_law.mpr (h p (λy j=>g y ((c y).mp j)) i)]at q;cases q
 .intro h p g i;unfold NoWay at h;let ⟨s,k,t,r,l⟩:∃s,BusyP d n a x s/\∃t,Reach (nby (ties S)) s t/\Tg a t:=Classical.byContradiction λz=>h λs k y r l=>z ⟨s,k,y,r,l⟩;show cut_law.mp (qT1 (cs:=[]) (save:=0) (back:=0) o (λy j=>g y ((c y).mpr j)) i k r l)
theorem Least.way{f:Nat}(h:Least N S T f):¬NoWay N S T:=λz=>by
 obtain⟨⟨s,t,a,b,r⟩,_⟩:=h;show z s a t r.reach b
theorem RowX.again{n:Nat}{g:List Blk}{x:Int}{i row d c:List Int}{t t':Int}(h:RowX f n g x S i row t)(h':RowX f n g x S d c t'):row=c:=by
 let e:i=d:=by
  show qQd ((h.up.and h.nd).imp λ{a b}z=>by let⟨k,l⟩:=z;lia) ((h'.up.and h'.nd).imp λ{a b}z=>by let⟨k,l⟩:=z;lia) λy=>(h.bs y).trans (h'.bs y).symm
 let j:=h.is_;rw[e,h'.is_]at j;let m:c++[t']=row++[t]:=by injection j
 show(List.append_inj_left' m rfl).symm
theorem qP5{K:SJ}{n:Nat}{x:Int}(j:FIn K H d n f c b S)(q:∀(v:V)(a:Hp),Ext [] H a->(v=.non/\NoWay (nby (ties S)) (BusyP c n b x) (Tg b)\/∃g row t l,v=.ref l/\H l=Sb/\a l=Sa (.lst (row.map V.int))/\RowX c n b x S g row t)->Q v a):iE K [.ref d,.int n,.int x,.ref f] H Q E:=⟨d,f,n,x,c,b,S,rfl,j,λh a e=>q _ a e (.inl ⟨rfl,h⟩),λg row t l a k e i m=>q _ a e (.inr ⟨g,row,t,l,rfl,k,i,m⟩)⟩
theorem qSr{b:Bool}{A B:Hp->Prop}{H:Hp}{R:Prop}(c:∀a,Ext [] H a->B a)(h:(∀a,Ext [] H a->B a)->b=Sc->R):if b=Sc then R else (if Sd=Sc then A H else B H):=by
 cases b with
 |true=>show iteT (h c rfl)
 |false=>show iteF (iteF (c H (.refl _ _)))
theorem qMj{t p:Sf}{k:Nat}(h:Tape H t k)(a:H p=Sa (HO.tup xs)):p≠t:=λz=>by
 let⟨_,_,_,e,_⟩:=h;rw[z,e]at a;cases a
theorem qXm{b:Bool}{i j:Nat}(h:(if b=Sc then x else y)=v)(a:σ[i]? = Sa (Sa x))(c:σ[j]? = Sa (Sa y))(q:F v H):if b=Sc then tVar i σ H F else tVar j σ H F:=by
 cases b with
 |true=>show iteT (zm a ((show x=v from h)▸q))
 |false=>show iteF (zm c ((show y=v from h)▸q))
theorem uc(h:ms.length<=100):FewD (intsD ms):=λa z=>by cases z;rwa[aA]
def ko(K:SJ):Sp:=λvs H Q _=>∃(a:Sf)(ns:List Int),vs=[.ref a]/\SqL K H a (ns.map V.int)/\ns.length<=63/\∀H',Q (.bl Sc) H'
end L2
end
set_option maxHeartbeats 4000000
local macro_rules | `(tactic| walk_at "qa") => `(tactic| first | refine L2.yV ?_ | refine L2.Qi ?_ | refine L2.vg ?_ | refine L2.Qj ?_ | refine L2.Qk ?_ | refine L2.uz ?_)
local macro_rules | `(tactic| walk_at "qz") => `(tactic| first | refine L2.xI ?_ | refine L2.vh ?_ | refine L2.yr ?_ | refine L2.vi ?_ | refine L2.xf ?_ | refine L2.xJ ?_ | refine L2.wA ?_ | refine L2.vj ?_ | refine L2.vk ?_ | refine L2.vm ?_ | refine L2.vn ?_ | refine L2.vf ?_ | refine L2.r_u ?_ | refine L2.yt ?_ | refine L2.wB ?_ | refine L2.vo ?_ | refine L2.vp ?_ | refine L2.r_c ?_ | refine L2.xx ?_ | refine L2.vx ?_ | refine L2.vy ?_ | refine L2.vz ?_ | refine L2.uA ?_ | refine L2.uB ?_ | refine L2.uC ?_ | refine L2.uD ?_ | refine L2.uE ?_ | refine L2.uF ?_ | refine L2.uG ?_ | refine L2.uH ?_ | refine L2.uI ?_ | refine L2.wC ?_ | refine L2.uJ ?_ | refine L2.wz ?_ | refine L2.vA ?_ | refine L2.xg ?_ | refine L2.wD ?_ | refine L2.vB ?_ | refine L2.vC ?_ | refine L2.vD ?_ | refine L2.zm (by with_unfolding_all rfl) ?_ | refine L2.zL (by assumption) (by with_unfolding_all rfl) ?_ | refine L2.yH (by assumption) (by with_unfolding_all rfl) ?_)
local macro_rules | `(tactic| walk_at "qb") => `(tactic| first | refine L2.kC ?_ | refine L2.kE ?_ | walk_at "qz")
local macro_rules | `(tactic| walk_at "rd") => `(tactic| repeat (with_reducible first | refine L2.qZw ?_ | walk_at "qa" | refine L2.yu (by assumption) ?_ | refine L2.uK (by assumption) ?_ | refine L2.r_if ?_ | walk_at "qb"))
namespace Fs
open PySem L2
local macro_rules|`(tactic|k_in)=>`(tactic|(show iteT ?_;k_go))
noncomputable def top(i:Nat):Sr:=PySem.Challenge.pw_fewsaves_k46_rows_that_show_none.main.body.getD i (.Pass ⟨0,0,0,0⟩)
noncomputable abbrev sDraw:Sr:=top 28
theorem qXe(F:Fun K "_law_draw" "_law_draw" sDraw f l):FnOk P w K mg base CX0 1 f l ["_law_tape","_law_many"] xc:=by
 show F.go (N:=["_law_tape","_law_many","_law_found","_law_once","_law_twice"]) fsc ?_;rintro u A i s H L Q E M ⟨t,k,n,rfl,⟨a,b,c,j,m,d,e,v,x⟩,O,h,y,q⟩
 refine⟨_,zD (zl (zM wh (zH zO (pv 0) pe_int (λ_ _=>rfl)) pe_int (zR _))
   (zD (yQ 2 (zI wH (zH zO (pv 0) pe_int (λ_ _=>rfl)) (pv 1)))
   (zD (xX (zI ix (zH zO (pv 0) pe_int (λ_ _=>rfl)) (pv 1)) (uf (pv 0) pe_int um))
   (zE (zK (pv 2))))) zc)
  (zD (xX (zI yA (zH zO (pv 0) pe_int (λ_ _=>rfl)) pe_int) (uf (pv 0) pe_int um))
  (zD (yQ 3 (zI wH (zI vT (zI yA (zH zO (pv 0) pe_int (λ_ _=>rfl)) (zI wg pe_int (zH zO (pv 0) pe_int (λ_ _=>rfl)))) pe_int) pe_int))
  (zD (yQ 4 (zI wH (zI wg (zI yA (pv 3) (zH zO (pv 0) pe_int (λ_ _=>rfl))) (zI yA (zI yA (zI wH (pv 3) pe_int) pe_int) (zH zO (pv 0) pe_int (λ_ _=>rfl)))) pe_int))
  (zE (zK (zI wH (zI ix (zI wH (zI yA (zI wg (pv 4) pe_int) (pv 3)) pe_int) pe_int) (pv 1))))))),?_⟩
 dsimp only[zb];let R:SqL K H t [.int a,.int b,.int c]:=SqL.of j;k_go;show ite2 (λg=>?_) (λg=>?_)
 .k_go;show xz h ?_;k_go;show Qh h ∎ ?_;k_go;show kA (n:=0) j rfl ?_;k_go;show q _ _ (gJ _ ∎) (fM _ h) ⟨a / n,b,c,zB,Int.ediv_nonneg m ∎,d,e,v,∎⟩ .pt (λb d=>zC d)
 .k_go;show kA (n:=2) j rfl ?_;let z:SqL K (upd H t (.lst ([V.int a,V.int b,V.int c].set 2 (.int (c+1))))) t [.int a,.int b,.int (c+1)]:=SqL.of zB;k_go;show xy (.inl ⟨⋯,⋯⟩) ?_;k_go;show wx ⋯ ⋯ ∎ ?_;k_go;show xz ⋯ ?_;generalize p:(b+39373*(c+1))^(5:Int).toNat%2147483647=o;let B:0<=o:=by rw[<-p];show gJ _ ⋯
  let C:o<2147483647:=by rw[<-p];show fM _ ⋯
  k_go;show xz ⋯ ?_;let D:0<=o%40009:=gJ _ ⋯;let G:o%40009<40009:=fM _ ⋯;k_go;show xy (.inl ⟨∎,∎⟩) ?_;k_go;show xz ⋯ ?_;generalize r:(o+(c+1))*(o%40009+7+(c+1))%2147483629=p2;let I:0<=p2:=by rw[<-r];show gJ _ ⋯
  let J:p2<2147483629:=by rw[<-r];show fM _ ⋯
  k_go;show xy (.inl ⟨∎,∎⟩) ?_;k_go;show xz ⋯ ?_;k_go;show Qh ⋯ ⋯ ?_;k_go;show xz h ?_;show q _ _ (gJ _ ∎) (fM _ h) ⟨a,b,c+1,zB,m,d,e,∎,∎⟩ .pt (λb d=>zC d)
noncomputable abbrev sLed:Sr:=top 3
theorem scLed:FnScope ["starts","nexts","seen","due","place"] ["starts","nexts"] (za sLed):=fsc
structure LedT(H:Hp)(d du:Sf)(N:Pl->List Pl)(starts U ks due:List Pl)(H':Hp):Prop where
 ext:Ext [] H H'
 hd:H' d=Sa (.dT (trueD ks))
 hdu:∃vs,H' du=Sa (.lst vs)/\PlsAt H' vs due
 nod:ks.Nodup
 rk:∀x∈ks,∃s∈starts,RT N s x
 rd:∀x∈due,∃s∈starts,RT N s x
 clo:∀k∈ks,∀c∈N k,c∈ks\/c∈due
 one:∀s∈starts,s∈ks\/s∈due
 fewd:due.length<=8000+8000*ks.length
def LedWT(H:Hp)(st nd d du:Sf)(N:Pl->List Pl)(starts U:List Pl)(μ:Nat)(σ':St)(H':Hp):Prop:=∃(ks due:List Pl)(o4:Option V),μ = (U.length-ks.length)*8001+due.length/\σ'=[Sa (.ref st),Sa (.ref nd),Sa (.ref d),Sa (.ref du),o4]/\LedT H d du N starts U ks due H'
theorem LedT.end_(h:LedT H d f N a U ks [] e)(x:Pl):x∈ks ↔ ∃s∈a,RT N s x:=by
 let b:∀s∈a,∀y,RT N s y->y∈ks:=by
  intro s c y r
  induction r with
  |refl=>show(h.one s c).elim id λz=>absurd z ∅
  |step _ g i=>show(h.clo _ i _ g).elim id λz=>absurd z ∅
 show⟨h.rk x,λ⟨s,c,r⟩=>b s c x r⟩
theorem qR7(F:Fun K "led_to" "led_to" sLed f fd)(T:mg "list"=Sb):FnOk P w K mg base CX0 1 f fd ["starts","nexts"] (qV2 K):=by
 show F.go scLed ?_;rintro d5 A b5 s H vs Q E hr ⟨st,nd,W,a,U,N,rfl,b6,b7,b8,a5,a6,hN,hU,d6,q⟩;let hu:=zk hr
 refine⟨_,zD (yQ 2 QC)
  (zD (yQ 3 (yB wI (by rfl) T cJ (zA (pv 0) pa_nil)))
  (zD (we bD (oH (pv 3) (λ_=>rfl))
   (zD (yQ 4 (oX bB PySem.F.slot_list_pop PySem.F.type_list_pop on (pv 3)))
   (zE (zl (ud (kz hu (pv 4) (pv 2)))
    (zD (jA hu (pv 2) (pv 4) pe_bl rfl)
    (zE (yT (yU bB iB iC ky (pv 3) (zA (jE hu (pv 1) (pv 4) (zW pa_nil) ⟨rfl,rfl,rfl,rfl⟩) pa_nil)))))
    zc))))
  (zE (zK (pv 2))))),?_⟩
 dsimp only[zb,zg];k_go;show(show ∀p,H p=Sb->_ from λd hd=>?_);k_go;let E0:Ext [] H (upd H d (.dT [])):=.laid hd;show⟨st,_,rfl,.inl (E0.toSame.seq b6),λb X=>?_⟩;let B:d≠b:=zG zB X;let D:H b=Sb:=E0.no X;k_go;let b9:LedT H d b N a U [] a (upd (upd H d (.dT [])) b (.lst W)):=by
  let e:Ext [] H (upd (upd H d (.dT [])) b (.lst W)):=E0.trans (.laid X);show⟨e,?_,⟨W,zB,b7.mono e.tk⟩,List.nodup_nil,(λ_ h=>absurd h ∅),λx m=>⟨x,m,.refl⟩,(λ_ h=>absurd h ∅),λs hs=>.inr hs,by simp;lia⟩;rw[zC B,zB];rfl
 show⟨LedWT H st nd d b N a U,⟨_,[],a,Sb,rfl,rfl,b9⟩,?_⟩;rintro μ Y u ⟨g,due,o4,rfl,rfl,I⟩;let⟨c0,i,Z⟩:=I.hdu;show zm (v:=.ref b) rfl ⟨!c0.isEmpty,.inl ⟨_,SqL.of i,rfl⟩,?_⟩;rcases fJ due with h|⟨j,y,h⟩
 .subst h;cases Z;show iteF ?_;k_go;show q d g u hd I.ext I.hd I.nod I.end_
 .let h:due=j++[y]:=by rw[h,fK]
  rw[h]at Z;let⟨n,v,rfl,a7,vb,rfl,c4⟩:=Z.last;let he:(!(n++[V.ref vb]).isEmpty)=Sc:=by simp
  rw[he];show iteT (L2.vE (n2:=λ_ _=>True) λNw_ hNw_=>?_);let⟨s0,a0,a1⟩:=I.rd y (by rw[h];simp);let c5:=a1.within a6 (a5 s0 a0);let G:∀x∈g,x∈U:=λx m=>by
   let⟨s1,c6,r1⟩:=I.rk x m;show r1.within a6 (a5 s1 c6)
  let d7:=yv I.nod G;let c7:due.length=j.length+1:=by rw[h];simp
  let d8:=I.fewd;let d9:=a7.len;k_go;show yD i ?_;show⟨b,n++[V.ref vb],.ref vb,rfl,rfl,i,∅,?_⟩;rw[List.dropLast_concat];let d1:upd u b (.lst n) d=Sa (.dT (trueD g)):=by rw[zC B];show I.hd
  let e1:Ext [] H (upd u b (.lst n)):=((I.ext.mo (us:=[b])).trans .pt).drop D;let u1:upd u b (.lst n) b=Sa (.lst n):=zB;let a2:TK u (upd u b (.lst n)):=.put (by intro ys z;rw[i]at z;cases z);let o:=a7.mono a2;let l:=a2 _ _ c4;generalize upd u b (.lst n)=H1 at d1 e1 u1 a2 o l ⊢;k_go;show⟨d,_,rfl,DGet.t (k:=plK y) d1 l,?_⟩;rw[kO];by_cases hy:y∈g
  .rw [if_pos hy];show yr (iteF ?_);k_go;show⟨_,by rw[c7];show eE _,g,j,_,rfl,rfl,e1,d1,⟨n,u1,o⟩,I.nod,I.rk,λx m=>I.rd x (by rw[h];show bC _ m),λk hk c r=>?_,λs hs=>?_,∎⟩
   .rcases I.clo k hk c r with z|z
    .exact .inl z
    .rw [h]at z;rcases aN.mp z with z|z
     .exact .inr z
     .rw [aH.mp z];show .inl hy
   .rcases I.one s hs with z|z
    .exact .inl z
    .rw [h]at z;rcases aN.mp z with z|z
     .exact .inr z
     .rw [aH.mp z];show .inl hy
  .rw [if_neg hy];show yr (iteT ?_);k_go;show⟨d,_,rfl,DPut.t (k:=plK y) d1 l (kG (by unfold trueD;rw[aA];lia)),?_⟩;let a8:putK (trueD g) (plK y) (V.bl Sc)=trueD (g++[y]):=by
    rw[vV _ (by rw[kO,if_neg hy])];unfold trueD;rw[aG];rfl
   rw[a8];let d2:upd H1 d (.dT (trueD (g++[y]))) d=Sa (.dT (trueD (g++[y]))):=zB;let e2:Ext [] H (upd H1 d (.dT (trueD (g++[y])))):=((e1.mo (us:=[d])).trans .pt).drop hd;let u2:upd H1 d (.dT (trueD (g++[y]))) b=Sa (.lst n):=by rw[zC B.symm];show u1
   let a3:TK H1 (upd H1 d (.dT (trueD (g++[y])))):=.put (by intro ys z;rw[d1]at z;cases z);let J:=o.mono a3;let L:=a3 _ _ l;generalize upd H1 d (.dT (trueD (g++[y])))=H2 at d2 e2 u2 a3 J L ⊢;let a9:=b8.mono e2;let⟨c8,a4,c9⟩:=a9;let M:(g++[y]).Nodup:=by
    rw[cI];show⟨I.nod,∅,λx m z hz=>?_⟩;rw[aH.mp hz];rintro rfl;show hy m
   let b0:=yv (l2:=U) M λx m=>by
    rcases aN.mp m with z|z
    .exact G x z
    .rw [aH.mp z];show c5
   rw[aF,bF]at b0;let e4:=hN y;k_go;show yD u2 ?_;k_go;show⟨nd,rfl,.inr ⟨c8,.inl a4⟩,?_⟩;k_go;show⟨len2 (bL _),λO d0=>?_⟩;let C:Ext [] H2 (upd H2 O (.lst [])):=.laid d0;let u3:=C.k u2;let d3:=C.k d2;let b1:=J.mono C.tk;let EE:Ext [] H (upd H2 O (.lst [])):=e2.trans C;let b2:upd H2 O (.lst []) O=Sa (.lst []):=zB;let b3:∀(c:Sf)(cvs:List V)(H3:Hp),H3=upd H2 O (.lst [])->H3 c=Sa (.lst cvs)->PlsAt H3 cvs (N y)->∀R:St->Hp->Prop,(∀Y u,(∃m',m'<(U.length-g.length)*8001+due.length/\LedWT H st nd d b N a U m' Y u)->R Y u)->∀o4:Option V,
     om (.ref b) [.ref c] H3 (λ_ H4=>R [Sa (.ref st),Sa (.ref nd),Sa (.ref d),Sa (.ref b),o4] H4):=by
    rintro c cvs H3 rfl hc b4 R hR o4;let e5:=b4.len;show⟨b,c,n,cvs,rfl,rfl,u3,hc,by rw[bV];lia,hR _ _ ?_⟩;let d4:TK (upd H2 O (.lst [])) (upd (upd H2 O (.lst [])) b (.lst (n++cvs))):=.put (by intro ys z;rw[u3]at z;cases z);show⟨_,?_,g++[y],j++N y,_,rfl,rfl,?_,?_,⟨n++cvs,zB,(b1.append b4).mono d4⟩,M,?_,?_,?_,?_,?_⟩
    .rw [aF,aF,bF];lia
    .exact ((EE.mo (us:=[b])).trans .pt).drop D
    .rw [zC B];show d3
    .intro x m;rcases aN.mp m with z|z
     .exact I.rk x z
     .rw [aH.mp z];show⟨s0,a0,a1⟩
    .intro x m;rcases aN.mp m with z|z
     .exact I.rd x (by rw[h];show bC _ z)
     .exact⟨s0,a0,.step a1 z⟩
    .intro k hk c' r;rcases aN.mp hk with z|z
     .rcases I.clo k z c' r with t|t
      .exact .inl (bC _ t)
      .rw [h]at t;rcases aN.mp t with t|t
       .exact .inr (bC _ t)
       .exact .inl (bM _ t)
     .rw [aH.mp z]at r;show .inr (bM _ r)
    .intro s hs;rcases I.one s hs with t|t
     .exact .inl (bC _ t)
     .rw [h]at t;rcases aN.mp t with t|t
      .exact .inr (bC _ t)
      .exact .inl (bM _ t)
    .rw [aF,aF,bF];lia
   let S:=C.tk _ _ L;rcases c9 y with ⟨z1,z2⟩|⟨c,cvs,c1,c2,c3⟩
   .refine⟨Sb,?_,?_⟩
    .let:=DGet.t (k:=plK y) (C.k a4) S;rw[z1]at this;show this
    k_go;show b3 O [] _ rfl b2 (by rw[z2];show .nil) _ hNw_ _
   .refine⟨Sa (.ref c),?_,?_⟩
    .let:=DGet.t (k:=plK y) (C.k a4) S;rw[c1]at this;show this
    k_go;show b3 c cvs _ rfl (C.k c2) (c3.mono C.tk) _ hNw_ _
noncomputable abbrev qQ2:Sr:=top 12
noncomputable abbrev qV4:Sr:=top 13
theorem qVk(h:a σ H λx d=>∃c,x=.bl c/\if c=Sc then b σ d Q else Q (.bl Sd) d):tAndV a b σ H Q:=h
theorem kq(h:a σ H λx d=>∃c,x=.bl c/\if c=Sc then Q (.bl Sc) d else b σ d Q):tOrV a b σ H Q:=h
theorem vQ{K:SJ}(h:Den K H (deedD d) v):∃p,v=.ref p/\SqT K H p (V.str (dword d)::(dargs d).map V.int):=by
 rw[qXs]at h;let⟨p,i,rfl,e,a⟩:=h.ofTuple;let⟨j,k,rfl,b,c⟩:=a.ofCons;let f:=b.ofStr;let g:=c.ints;subst f g;show⟨p,rfl,e⟩
theorem qW8(d:Deed):atI (V.str (dword d)::(dargs d).map V.int) ((1:Nat):Int)=Sa (V.int (darg d)):=by
 let⟨r,a⟩:=kP d;rw[a];show zS rfl
theorem qR3(F:Fun K "writes_box" "writes_box" qQ2 f h)(c:mg "WRITING"=Sa (.ref b))(e:qSs K b):FnOk P w K mg base CX0 1 f h ["deed","box"] (vI wrB K):=by
 show F.go (N:=["deed","box"]) fsc ?_;rintro j A g s H l Q E m ⟨v,d,x,rfl,k,q⟩;show⟨_,zE (zK (wc (zu xH (zH yW (pv 0) pe_int (λ_ _=>rfl)) (iq (v:=.ref b) rfl c rfl) rfl) (xO (zu yJ (zH yW (pv 0) pe_int (λ_ _=>rfl)) (pv 1) (zR _))))),?_⟩;dsimp only[zb];let⟨p,rfl,i⟩:=vQ k;k_go;show qVk ?_;k_go;show yH i (show atI _ ((0:Nat):Int)=Sa (V.str (dword d))from zS rfl) ?_;k_go;show⟨b,[V.str "set",.str "add"],rfl,.inr (.inr e),rfl,rfl,?_⟩;rw[if_neg aL,kQ];show⟨_,rfl,?_⟩;let a:=q H (.refl _ _);unfold wrB at a;cases hw:(wr d).isSome with
 |true=>
  rw[hw]at a;k_in;show yH i (qW8 d) ?_;k_go;show xC a
 |false=>
  rw[hw]at a;show iteF a
theorem qTs(F:Fun K "reads_box" "reads_box" qV4 f j)(c:mg "READING"=Sa (.ref b))(e:qSt K b):FnOk P w K mg base CX0 1 f j ["deed","box"] (vI rdB K):=by
 show F.go (N:=["deed","box"]) fsc ?_;rintro l A g s H t Q E u ⟨v,d,x,rfl,m,q⟩;show⟨_,zE (zK (wc (zu xH (zH yW (pv 0) pe_int (λ_ _=>rfl)) (iq (v:=.ref b) rfl c rfl) rfl) (xO (zu xH (pv 1) (yP wm (pv 0) (yO pe_int) yN) rfl)))),?_⟩;dsimp only[zb];let⟨p,rfl,k⟩:=vQ m;k_go;show qVk ?_;k_go;show yH k (show atI _ ((0:Nat):Int)=Sa (V.str (dword d))from zS rfl) ?_;k_go;show⟨b,[V.str "add",.str "tell"],rfl,.inr (.inr e),rfl,rfl,?_⟩;rw[if_neg aL,qS6];show⟨_,rfl,?_⟩;cases hw:wW d with
 |true=>
  k_in;show⟨1,rfl,?_⟩;k_go;show⟨p,_,rfl,k,?_,λn i=>?_⟩
  .intro h;let:=h.1;revert this;let r:(V.str (dword d)::(dargs d).map V.int).length=(dargs d).length+1:=by simp
   let:=(qL0 d).1;rw[r];unfold HT.sIx;simp
   try lia
  rw[cut1];show⟨n,(dargs d).map V.int,rfl,.inr (SqT.of zB),rfl,yY _,?_⟩;rw[if_neg aL,yX];let a:=q _ (Ext.laid (o:=.tup ((dargs d).map V.int)) i);unfold rdB at a;rw[hw]at a;show a
 |false=>
  let a:=q H (.refl _ _);unfold rdB at a;rw[hw]at a;show iteF a
theorem qUk(xs:List V)(n:Nat):cutV xs Sb (Sa (n:Int))=xs.take n:=by
 unfold cutV;rw[HT.sIx_none,HT.sIx_nat,List.drop_zero,Nat.sub_zero];by_cases h:n<=xs.length
 .rw [Nat.min_eq_left h]
 .rw [Nat.min_eq_right ∎,cY (aI _),cY ∎]
theorem DenL.taken{K:SJ}:∀ {ds:List PyData} {vs:List V} (n:Nat),DenL K G ds vs->DenL K G (ds.take n) (vs.take n)
 |[],vs,n,h=>by let:=h.ofNil;subst this;simpa using DenL.nil
 |d::ds,vs,0,h=>by simpa using DenL.nil
 |d::ds,vs,n+1,h=>by
  let⟨v,r,rfl,a,b⟩:=h.ofCons;show .cons a (DenL.taken n b)
def iL(K:SJ):Sp:=λvs H Q _ => ∃(v:V) (ds:List Deed) (x:Int),vs = [v,.int x]/\Den K H (.list (ds.map deedD)) v/\ds.length<=100 /\
 ∀(l:Sf)(us:List V)(H':Hp),H l=Sb->Ext [] H H'->H' l=Sa (.lst us)->DenL K H' ((till x ds).map deedD) us->Q (.ref l) H'
noncomputable abbrev sTill:Sr:=top 14
theorem qXb(F:Fun K "till_write" "till_write" sTill f T)(o:mg "enumerate"=Sb)(p:mg "list"=Sb)(D:Has P w K mg base "writes_box" 1 ["deed","box"] (vI wrB K)):FnOk P w K mg base CX0 2 f T ["deeds","box"] (iL K):=by
 show F.go (N:=["deeds","box","at","deed"]) fsc ?_;rintro X A G s H vs Q E Y ⟨v,I,x,rfl,t,k,q⟩
 refine⟨_,zD (zt bD rfl (xt rfl o (zA (pv 0) pa_nil)) (yI (n:=2) rfl (zQ (zj 2) (zQ (zj 3) zr)))
   (zE (zl (zw K rfl (zF D Y ⋯ (zA (pv 3) (zA (pv 1) pa_nil))) (λ_=>rfl)) (zE (zK (yP ym (pv 0) yN (yO (zI yA (pv 2) pe_int))))) zc)))
  (zE (zK (yB wI (by rfl) p cJ (zA (pv 0) pa_nil)))),?_⟩
 dsimp only[zb,zg];let⟨a,c,rfl,g,h⟩:=t.ofList;let J:c.length=I.length:=by rw[h.len,aA]
 k_go;show⟨a,rfl,⟨c,g⟩,vt (xs:=c) (λi j r=>∃(B C:Option V),j=[Sa (.ref a),Sa (.int x),B,C]/\Ext [] H r/\∀e∈I.take i,wrB x e=Sd) ?_ ?_ ?_ ?_⟩
 .exact⟨_,_,rfl,.refl _ _,∅⟩
 .rintro i j r Z ⟨B,C,rfl,m,b⟩;show m.toSame.seq g
 .rintro i y j r pt hy ⟨B,C,rfl,m,b⟩ L;let⟨dd,M,O⟩:=h.get hy;let⟨d,t,rfl⟩:=zV M;let Z:i<I.length:=(aC.mp t).1;let U:Ext [] r (upd r pt (.tup [.int i,y])):=.laid L;show zv (SqT.of zB) rfl ?_;let u:=m.trans U;generalize upd r pt (.tup [.int i,y])=H2 at U u ⊢;k_go;show⟨y,d,x,rfl,O.mono u.toSame,λH3 R=>?_⟩;show⟨wrB x d,rfl,?_⟩;cases hw:wrB x d with
  |true=>
   k_in;show⟨(i:Int)+1,rfl,?_⟩;show⟨a,c,rfl,(u.trans R).toSame.seq g,λl k=>?_⟩;rw[show(i:Int)+1=((i+1:Nat):Int)by lia,qUk];let S:=u.trans R;show q l _ _ (S.no k) (S.trans (.laid k)) zB ?_;rw[qH9 b t hw,List.map_take];show DenL.taken _ (h.mono (S.trans (.laid k)).toSame)
  |false=>
   show iteF ?_;k_go;show⟨_,_,rfl,u.trans R,λe W=>?_⟩;rw[zY t]at W;rcases aN.mp W with z|z
   .exact b e z
   .rw [aH.mp z];show hw
 .rintro j r ⟨B,C,rfl,m,b⟩;rw[J,aU]at b;k_go;show⟨a,c,rfl,.inl (m.toSame.seq g),λl k=>?_⟩;show q l _ _ (m.no k) (m.trans (.laid k)) zB ?_;rw[qJh b];show h.mono (m.trans (.laid k)).toSame
noncomputable abbrev qQb:Sr:=top 16
theorem qTq{w:Sf}{n a:Nat}(x:Den K H (xW m) (.ref w))(e:blkAt m ((n:Int),(a:Int))=Sa b):∃(vs bs:List V)(j k:Sf)(dl:Sf)(c:List V)(l:V),SqL K H w vs/\atI vs (n:Int)=Sa (.ref j)/\SqL K H j bs/\atI bs (a:Int)=Sa (.ref k)/\SqT K H k [.ref dl,l]/\SqL K H dl c/\DenL K H (b.ds.map deedD) c/\Den K H (endD b.ns) l:=by
 rw[uO]at e;cases hw:m[n]? with
 |none=>rw[hw]at e;cases e
 |some w1=>
  rw[hw]at e;let e:w1[a]? = Sa b:=e;let⟨y,vs,z,o,f⟩:=x.ofList;cases z;let⟨B,p,q⟩:=f.get' (i:=n) (d:=workD w1) (by rw[aR,hw];rfl);let⟨j,bs,rfl,r,g⟩:=q.ofList;let⟨C,s,t⟩:=g.get' (i:=a) (d:=blkD b) (by rw[aR,e];rfl);let⟨k,dl,c,l,rfl,A,u,h,v⟩:=wT t;show⟨vs,bs,j,k,dl,c,l,o,zS p,r,zS s,A,u,h,v⟩
theorem qRc(F:Fun K "begins_met" "begins_met" qQb f fd)(a9:mg "any"=Sb)(b8:Has P w K mg base "till_write" 2 ["deeds","box"] (iL K))(b9:Has P w K mg base "writes_box" 1 ["deed","box"] (vI wrB K)):FnOk P w K mg base CX0 3 f fd ["works","number","at","box"] (qMp K):=by
 show F.go (N:=["works","number","at","box","deeds","end","met"]) fsc ?_;rintro c8 A c0 s H vs Q E hr ⟨wa,ws,n,a,x,rfl,hW,c1,c2,q⟩
 refine⟨_,zD (xX (zH zO (zH zO (pv 0) (pv 1) (λ_ _=>rfl)) (pv 2) (λ_ _=>rfl)) (yI (n:=2) rfl (zQ (zj 4) (zQ (zj 5) zr))))
  (zD (jR 6 ["deed"] [] (zd (zF b8 hr ⋯ (zA (pv 4) (zA (pv 3) pa_nil)))) (λ_ _ _ _=>zj 0) (λ_ _ _ _=>.cons (zM yJ (zH (vF K rfl) (pv 0) pe_int (λ_ _=>rfl)) pe_str (zR _)) .nil) (λ_ _ _ _=>zT (zA (zH (vF K rfl) (pv 0) pe_int (λ_ _=>rfl)) (zA pe_int pa_nil))))
  (zD (zl (xA (zw K rfl (zN (vH hr.hd) (by rfl) a9 eP (zA (wP ["deed"] [3] (zd (pv 4)) (λ_ _ _ _=>zj 0) (λ_ _ _ _ =>.nil) (λ_ _ _ _=>zF b9 hr ⋯ (zA (pv 0) (zA (pv 1) pa_nil)))) pa_nil)) (λ_=>rfl)))
   (zE (yT (yU bB iB iC ky (pv 6) (zA (wP ["to"] [1] (iu (yP wm (pv 5) (yO pe_int) yN)) (λ_ _ _ _=>zj 0) (λ_ _ _ _=>.nil) (λ_ _ _ _=>zT (zA (pv 1) (zA (pv 0) pa_nil)))) pa_nil)))) zc)
  (zE (zK (pv 6))))),?_⟩
 dsimp only[zb,zg];let⟨b,hb⟩:=mem_places.mp c2;let⟨m,n',w1,c9,d0,hm,d1,d2,D⟩:=c1.blk hb;let⟨vs,bs,wb,pb,dl,b0,ve,s1,s2,s3,s4,s5,s6,s7,s8⟩:=qTq hW hb;k_go;show zL s1 s2 ?_;k_go;show zL s3 s4 ?_;show zv s5 rfl ?_;k_go;let d3:=D.few;show⟨.ref dl,b.ds,x,rfl,.list s6 s7,∎,λlt b1 H1 d4 e1 I J=>?_⟩;let L:b1.length=(till x b.ds).length:=by rw[J.len,aA]
 let c7:=kS x b.ds;show⟨lt,rfl,⟨_,SqL.of I⟩,λl hl=>?_⟩;let b2:lt≠l:=zG I hl;show zn (xs:=b1) (λj g G=>∃(C:Option V)(us:List V),g=[C]/\Ext [l] H1 G/\G l=Sa (.lst us)/\PlsAt G us ((((till x b.ds).take j).filterMap yw).map λc=>(c,0))) ?_ ?_ ?_ ?_
 .exact⟨Sb,[],rfl,.laid hl,zB,.nil⟩
 .rintro j g G hj ⟨C,us,rfl,eG,i,o⟩;show SqL.of (eG _ _ (by simpa using b2) I)
 .rintro j y g G R hy ⟨C,us,rfl,eG,i,o⟩ hR;let⟨dd,a2,a3⟩:=J.get hy;let⟨d,hd,rfl⟩:=zV a2;let⟨p,rfl,hp⟩:=vQ a3;let b3:=(eG.drop hl).toSame.seqT hp;let c3:j<(till x b.ds).length:=(aC.mp hd).1;let a4:=o.len;let b4:=dA yw ((till x b.ds).take j);rw[aY]at b4;rw[aA]at a4;let M:((till x b.ds).take (j+1)).filterMap yw=((till x b.ds).take j).filterMap yw++[d].filterMap yw:=by rw[zY hd,dE]
  k_go;show yH b3 (show atI _ ((0:Nat):Int)=Sa (V.str (dword d))from zS rfl) ?_;k_go;show kB ?_;rw[qKz];k_go;cases hw:kR d with
  |true=>
   show iteT (iteT ?_);k_go;show yH b3 (qW8 d) ?_;k_go;show⟨len2 (by change 2<=1000;decide),λW u=>?_⟩;let v:W≠l:=(zG i u).symm;let tk:TK G (upd (upd G W (.tup [.int (darg d),.int 0])) l (.lst (us++[.ref W]))):=(Ext.laid u).tk.trans (.put (by intro ys z;rw[zC v.symm,i]at z;cases z));show⟨us,by rw[zC v.symm];show i,zU ∎,hR _ _ ⟨_,us++[.ref W],rfl,eG.trans ((Ext.laid u).trans .pt),zB,?_⟩⟩;rw[M,cU,qXv d hw,aG];show(o.mono tk).append (.one (by rw[zC v,zB]))
  |false=>
   show iteF (iteF (hR _ _ ⟨_,us,rfl,eG,i,?_⟩));let hn:yw d=Sb:=by
    unfold kR at hw;cases z:yw d with
    |none=>rfl
    |some y=>rw[z]at hw;cases hw
   rw[M,cU,hn,List.filterMap_nil,cG];show o
 .rintro g G ⟨C,us,rfl,eG,i,o⟩;rw[L,aU]at o;let EG:Ext [] H G:=e1.trans (eG.drop hl);let a5:H l=Sb:=e1.no hl;let a4:=o.len;let b4:=dA yw (till x b.ds);rw[aA]at a4;k_go;let b5:=EG.toSame.seq s6;show⟨dl,rfl,⟨_,b5⟩,λlc O=>?_⟩;let d5:l≠lc:=zG i O;show zn (xs:=b0) (λj g S=>∃(C:Option V),g=[C,Sa (.int x)]/\Ext [lc] G S/\S lc=Sa (.lst (((b.ds.take j).map (wrB x)).map V.bl))) ?_ ?_ ?_ ?_
  .exact⟨Sb,rfl,.laid O,zB⟩
  .rintro j g S hj ⟨C,rfl,e2,r⟩;show(e2.drop O).toSame.seq b5
  .rintro j y g S R hy ⟨C,rfl,e2,r⟩ hR;let⟨dd,a2,a3⟩:=s7.get hy;let⟨d,hd,rfl⟩:=zV a2;let c3:j<b.ds.length:=(aC.mp hd).1;k_go;k_in;show⟨y,d,x,rfl,a3.mono (EG.trans (e2.drop O)).toSame,λH3 e3=>?_⟩;show⟨_,e3.k r,zU (by rw[aA,aA,aY];lia),hR _ _ ⟨_,rfl,e2.trans ((e3.mo).trans .pt),?_⟩⟩;rw[zB,zY hd,aG,aG];rfl
  .rintro g S ⟨C,rfl,e2,r⟩;let b6:b0.length=b.ds.length:=by rw[s7.len,aA]
   rw[b6,aU]at r;k_go;show⟨lc,b.ds.map (wrB x),rfl,SqL.of r,?_⟩;show⟨wrote x b.ds,?_,?_⟩
   .let e:(b.ds.map (wrB x)).any id=wrote x b.ds:=by unfold wrote;rw[hZ];rfl
    rw[e];rfl
   let T:Ext [] G S:=e2.drop O;let a6:=T.k i;let Z:=o.mono T.tk;let a0:metOf ws x ((n:Int),(a:Int))=metB x n b:=by unfold metOf;rw[hb]
   cases hw:wrote x b.ds with
   |true=>
    show iteF ?_;k_go;show q l us S a5 (EG.trans T) a6 ?_;rw[a0];unfold metB;rw[hw,if_pos rfl,cG];show Z
   |false=>
    k_in;show yD a6 ?_;k_go;let⟨en,wd,rfl,c4,_⟩:=jT D.ns.few s8;let c5:=D.ns.few;show⟨1,rfl,?_⟩;k_go;show jW c5 ((EG.trans T).toSame.seqT c4) λp hp=>?_;let e3:Ext [] S (upd S p (.tup (b.ns.map V.int))):=.laid hp;let a7:=e3.k a6;let a1:=Z.mono e3.tk;let X:upd S p (.tup (b.ns.map V.int)) p=Sa (.tup (b.ns.map V.int)):=zB;generalize upd S p (.tup (b.ns.map V.int))=G3 at e3 a7 a1 X ⊢;show⟨p,rfl,⟨_,SqT.of X⟩,λle Y=>?_⟩;let c6:p≠le:=zG X Y;let d6:l≠le:=zG a7 Y;show qNf (xs:=b.ns.map V.int) (λj g U=>∃(C:Option V)(ts:List V),g=[C,Sa (.int n)]/\Ext [le] G3 U/\U le=Sa (.lst ts)/\PlsAt U ts ((b.ns.take j).map λt=>((n:Int),t))) ?_ ?_ ?_ ?_
    .exact⟨Sb,[],rfl,.laid Y,zB,.nil⟩
    .rintro j g U hj ⟨C,ts,rfl,e4,h,B⟩;show SqT.of (e4 _ _ (by simpa using c6) X)
    .rintro j y g U R hy ⟨C,ts,rfl,e4,h,B⟩ hR;let⟨t,ht,rfl⟩:=zV hy;let hj:j<b.ns.length:=(aC.mp ht).1;let L:=B.len;rw[aA,aY]at L;k_go;k_in;show⟨len2 (by change 2<=1000;decide),λW u=>?_⟩;let v:W≠le:=(zG h u).symm;let tk:TK U (upd (upd U W (.tup [.int n,.int t])) le (.lst (ts++[.ref W]))):=(Ext.laid u).tk.trans (.put (by intro ys z;rw[zC v.symm,h]at z;cases z));show⟨ts,by rw[zC v.symm];show h,zU ∎,hR _ _ ⟨_,ts++[.ref W],rfl,e4.trans ((Ext.laid u).trans .pt),zB,?_⟩⟩;rw[zY ht,aG];show(B.mono tk).append (.one (by rw[zC v,zB]))
    .rintro g U ⟨C,ts,rfl,e4,h,B⟩;rw[aA,aU]at B;let L:=B.len;rw[aA]at L;let a8:=e4.drop Y;let b7:=a8.k a7;k_go;show⟨l,le,us,ts,rfl,rfl,b7,h,len2 ∎,?_⟩;k_go;let tk:TK U (upd U l (.lst (us++ts))):=.put (by intro ys z;rw[b7]at z;cases z);show q l (us++ts) _ a5 ?_ zB ?_
     .exact ((((EG.trans T).trans (e3.trans a8)).mo (us:=[l])).trans .pt).drop a5
     .rw [a0];unfold metB;rw[hw,if_neg aL];show((a1.mono a8.tk).append B).mono tk
noncomputable def ya(ws:List (List Blk))(n:Nat):List Pl:=(List.range n).flatMap λ(n:Nat)=>(List.range ((ws[n]?).getD []).length).map λ(a:Nat)=>((n:Int),(a:Int))
theorem qIi{n:Nat}{w:List Blk}(h:b[n]? = Sa w):ya b (n+1)=ya b n++(List.range w.length).map λ(a:Nat)=>((n:Int),(a:Int)):=by
 unfold ya;rw[eC,fZ];simp[h]
theorem qT7(n a:Nat):((List.range (a+1)).map λ(a:Nat)=>((n:Int),(a:Int)))=((List.range a).map λ(a:Nat)=>((n:Int),(a:Int)))++[((n:Int),(a:Int))]:=by
 rw[eC,aG];rfl
theorem wA1{d ty e:TE}(h:d σ H λx f => ∃a,x = .ref a/\IsD f a/\ty σ f λy g=>e σ g λz c => ∃kvs k b,y = .ref b/\c a=Sa (.dT kvs)/\c b=Sa (.tup (k.map kV))/\kvs.length<Sn /\
 (∀v,valV kvs k=Sa v->Q v c)/\(valV kvs k=Sb->Q z (upd c a (.dT (putK kvs k z))))):qUw d ty e σ H Q:=h
theorem qUi(f:List (List Blk))(n a:Nat)(r:n<f.length):(ya f n++(List.range a).map λ(a:Nat)=>((n:Int),(a:Int))).Nodup:=by
 let row:∀(k l:Nat),((List.range l).map λ(a:Nat)=>((k:Int),(a:Int))).Nodup:=λk l=>List.Pairwise.map _ (λx y h z=>h (by let:=(Prod.mk.inj z).2;lia)) List.nodup_range;let d:∀(k:Nat)(p:Pl),p∈ya f k->p.1<(k:Int):=λk p o=>by
  let⟨j,q,h⟩:=cO.mp o;let⟨b,_,rfl⟩:=bG.mp h;let:=aZ.mp q;change(j:Int)<k;lia
 let all:∀k:Nat,(ya f k).Nodup:=by
  intro k
  induction k with
  |zero=>show List.nodup_nil
  |succ k m=>
   unfold ya at m ⊢;rw[eC,fZ,cI];show⟨m,by simpa using row k _,λx i y g e=>?_⟩;let c:=d k x i;simp only[fU,List.flatMap_nil,cG]at g;let⟨b,_,rfl⟩:=bG.mp g;rw[e]at c;let c:(k:Int)<k:=c;lia
 rw[cI];show⟨all n,row n a,λx i y g e=>?_⟩;let c:=d n x i;let⟨b,_,rfl⟩:=bG.mp g;rw[e]at c;let c:(n:Int)<n:=c;lia
noncomputable abbrev qV6:Sr:=top 17
theorem qU0(F:Fun K "awaiting" "awaiting" qV6 f fd)(a7:mg "enumerate" = Sb)(f4:mg "any" = Sb)(j0:Has P w K mg base "till_write" 2 ["deeds","box"] (iL K))(j1:Has P w K mg base "reads_box" 1 ["deed","box"] (vI rdB K))
  (j2:Has P w K mg base "begins_met" 3 ["works","number","at","box"] (qMp K)) (j3:Has P w K mg base "led_to" 1 ["starts","nexts"] (jj K)):FnOk P w K mg base CX0 4 f fd ["works","box"] (qPy K):=by
 show F.go (N:=["works","box","readers","behind","number","work","at","deeds","end","place"]) fsc ?_;rintro m9 A j4 s H vs Q E hr ⟨wa,i,x,rfl,hW,a5,q⟩;let hu:=zk hr
 refine⟨_,zD (yQ 2 (zW pa_nil))
  (zD (yQ 3 QC)
  (zD (zt bD rfl (xt rfl a7 (zA (pv 0) pa_nil)) (yI (n:=2) rfl (zQ (zj 4) (zQ (zj 5) zr)))
   (zE (zt bD rfl (xt rfl a7 (zA (pv 5) pa_nil)) (yI (n:=2) rfl (zQ (zj 6) (zQ (yI (n:=2) rfl (zQ (zj 7) (zQ (zj 8) zr))) zr)))
    (zD (zl (zw K rfl (zN (vH hr.hd) (by rfl) f4 eP (zA (wP ["deed"] [1] (zd (zF j0 hr ⋯ (zA (pv 7) (zA (pv 1) pa_nil)))) (λ_ _ _ _=>zj 0) (λ_ _ _ _ =>.nil) (λ_ _ _ _=>zF j1 hr ⋯ (zA (pv 0) (zA (pv 1) pa_nil)))) pa_nil)) (λ_=>rfl))
     (zE (yT (yU bB bO bP yh (pv 2) (zA (zT (zA (pv 4) (zA (pv 6) pa_nil))) pa_nil)))) zc)
    (zE (zt bD rfl (zd (zF j2 hr ⋯ (zA (pv 0) (zA (pv 4) (zA (pv 6) (zA (pv 1) pa_nil)))))) (zj 9)
     (zE (yT (yU bB bO bP yh (qTm hu (pv 3) (pv 9) (zW pa_nil) ⟨rfl,rfl,rfl,rfl⟩) (zA (zT (zA (pv 4) (zA (pv 6) pa_nil))) pa_nil))))))))))
  (zE (zK (zF j3 hr ⋯ (zA (pv 2) (zA (pv 3) pa_nil))))))),?_⟩
 dsimp only[zb,zg];k_go;show⟨len2 (bL _),λrd f5=>?_⟩;k_go;show(show ∀p,_=Sb->_ from λo b8=>?_);k_go;let b9:rd≠o:=zG zB b8;let f6:H o=Sb:=by rw[zC b9.symm]at b8;show b8
 let E1:Ext [] H (upd (upd H rd (.lst [])) o (.dT [])):=(Ext.laid f5).trans (.laid b8);let c0:upd (upd H rd (.lst [])) o (.dT []) rd=Sa (.lst []):=by rw[zC b9,zB]
 let f7:upd (upd H rd (.lst [])) o (.dT []) o=Sa (.dT []):=zB;generalize upd (upd H rd (.lst [])) o (.dT [])=D at E1 c0 f7 ⊢;let⟨n0,vs,ea,f8,f9⟩:=hW.ofList;cases ea;let j5:vs.length=i.length:=by rw[f9.len,aA]
 let m6:=qO6 a5;let u:∀{G:Hp},Ext [rd,o] D G->Ext [] H G:=λ{G}e=>(((E1.mo (us:=[rd,o])).trans e).drop f5).drop f6
 refine⟨wa,rfl,⟨vs,E1.toSame.seq f8⟩,Qo (xs:=vs) (λn l G => ∃(g:List V) (o4 o5 o6 o7 o8 M:Option V),l = [Sa (.ref wa),Sa (.int x),Sa (.ref rd),Sa (.ref o),o4,o5,o6,o7,o8,M]/\Ext [rd,o] D G/\G rd=Sa (.lst g)/\PlsAt G g ((ya i n).filter (yZ i x)) /\
  NexB G o (ye i x (ya i n)) (λc=>D c=Sb) (22*(ya i n).length)) ?_ ?_ ?_ ?_⟩
 .refine⟨[],_,_,_,_,_,_,rfl,.refl _ _,c0,.nil,[],f7,bL _,λp=>.inl ⟨rfl,rfl⟩,λp q c h=>?_⟩;cases h
 .rintro n l G hn ⟨g,o4,o5,o6,o7,o8,M,rfl,eG,c1,X,hN⟩;show(u eG).toSame.seq f8
 .rintro n y l G pt hy ⟨g,o4,o5,o6,o7,o8,M,rfl,eG,c1,X,hN⟩ O N_ B_ C_ R_ hN_ hC_ hR_;let⟨dd,a8,d3⟩:=f9.get hy;let⟨wk,a6,rfl⟩:=zV a8;let⟨wb,bs,rfl,g0,c5⟩:=d3.ofList;let j6:bs.length=wk.length:=by rw[c5.len,aA]
  let⟨m,n1,n2,g1⟩:=a5.all wk (aK a6);let n3:=g1.len;let g2:∀p∈ya i n,p∈places i:=λp hp=>by
   unfold ya at hp;unfold places;let⟨k,hk,h⟩:=cO.mp hp;let n4:n<i.length:=(aC.mp a6).1;show cO.mpr ⟨k,aZ.mpr (by let:=aZ.mp hk;lia),h⟩
  let e2:Ext [] G (upd G pt (.tup [.int n,.ref wb])):=.laid O;show zv (SqT.of zB) rfl ?_;let d4:Ext [rd,o] D (upd G pt (.tup [.int n,.ref wb])):=eG.trans (e2.mo);let g3:=e2.k c1;let c6:=X.mono e2.tk;let g4:=hN.mono e2 ∅ ∅ e2.tk;generalize upd G pt (.tup [.int n,.ref wb])=G2 at e2 d4 g3 c6 g4 ⊢;k_go
  refine⟨wb,rfl,⟨bs,(u d4).toSame.seq g0⟩,Qo (xs:=bs) (λa l G' => ∃(g:List V) (o6 o7 o8 M:Option V),l = [Sa (.ref wa),Sa (.int x),Sa (.ref rd),Sa (.ref o),Sa (.int n),Sa (.ref wb),o6,o7,o8,M]/\Ext [rd,o] D G'/\G' rd=Sa (.lst g)/\PlsAt G' g ((ya i n++(List.range a).map λ(a:Nat)=>((n:Int),(a:Int))).filter (yZ i x)) /\
   NexB G' o (ye i x (ya i n++(List.range a).map λ(a:Nat)=>((n:Int),(a:Int)))) (λc=>D c=Sb) (22*(ya i n++(List.range a).map λ(a:Nat)=>((n:Int),(a:Int))).length)) ?_ ?_ ?_ ?_⟩
  .refine⟨g,_,_,_,_,rfl,d4,g3,?_,?_⟩
   .simpa using c6
   .simpa using g4
  .rintro a l G' ha ⟨g,o6,o7,o8,M,rfl,e',c2,B,Y⟩;show(u e').toSame.seq g0
  .rintro a v l G' d5 hv ⟨g,o6,o7,o8,M,rfl,e',c2,B,Y⟩ g5 N_ B_ C_ R_ hN_ hC_ hR_;let⟨dd,a8,j7⟩:=c5.get hv;let⟨b,hb,rfl⟩:=zV a8;let g6:=g1.blk b (aK hb);let⟨pb,cs,rfl,hc,j8⟩:=j7.ofTuple;let⟨vd,q1,rfl,g7,j9⟩:=j8.ofCons;let⟨ve,q2,rfl,n5,a9⟩:=j9.ofCons;let a9:=a9.ofNil;subst a9;let c7:blkAt i ((n:Int),(a:Int))=Sa b:=by rw[uO,a6];show hb
   let k0:((n:Int),(a:Int))∈places i:=mem_places.mpr ⟨b,c7⟩;generalize d6:(ya i n++(List.range a).map λ(a:Nat)=>((n:Int),(a:Int)))=I at B Y;let d7:∀p∈I,p∈places i:=λp hp=>by
    rw[<-d6]at hp;rcases aN.mp hp with z|z
    .exact g2 p z
    .let⟨a',k1,rfl⟩:=bG.mp z;let n6:a<wk.length:=(aC.mp hb).1;let n7:=aZ.mp k1;show mem_places.mpr ⟨wk[a'],by rw[uO,a6];show aE ∎⟩
   let n8:=B.len;let e3:Ext [] G' (upd G' d5 (.tup [.int a,.ref pb])):=.laid g5;show zv (SqT.of zB) rfl ?_;let c3:Ext [rd,o] D (upd G' d5 (.tup [.int a,.ref pb])):=e'.trans (e3.mo);let g8:=e3.k c2;let c8:=B.mono e3.tk;let g9:=Y.mono e3 ∅ ∅ e3.tk;generalize upd G' d5 (.tup [.int a,.ref pb])=G3 at e3 c3 g8 c8 g9 ⊢;k_go;show zv ((u c3).toSame.seqT hc) rfl ?_
   with_reducible refine L2.xg ?_
   with_reducible refine L2.vg ?_
   with_reducible refine L2.xg ?_
   with_reducible refine L2.vg ?_
   with_reducible refine L2.wD ?_
   with_reducible refine L2.wD ?_
   let c9:ya i n++(List.range (a+1)).map (λ(a:Nat)=>((n:Int),(a:Int)))=I++[((n:Int),(a:Int))]:=by rw[qT7,<-fR,d6]
   let n9:I.length<=300:=by
    let:=yv (l1:=I) (l2:=places i) (by rw[<-d6];show qUi i n a (aC.mp a6).1) d7;lia
   with_reducible refine r_sq (λl G=>∃(g:List V),l=[Sa (.ref wa),Sa (.int x),Sa (.ref rd),Sa (.ref o),Sa (.int n),Sa (.ref wb),Sa (.int a),Sa vd,Sa ve,M]/\Ext [rd,o] D G/\G rd=Sa (.lst g)/\PlsAt G g ((I++[((n:Int),(a:Int))]).filter (yZ i x))/\NexB G o (ye i x I) (λc=>D c=Sb) (22*I.length)) ?_ (λhC=>?_)
   .rintro l G4 ⟨g,rfl,e4,k2,h0,k3⟩;k_go;show⟨wa,i,n,a,x,rfl,hW.mono (u e4).toSame,a5,k0,λlm us H5 k4 Z d0 h5=>?_⟩;let k5:Ext [rd,o] D H5:=e4.trans (Z.mo);let o1:=qRk a5 x ((n:Int),(a:Int));let k6:=h5.len
    refine⟨lm,rfl,⟨_,SqL.of d0⟩,xU (xs:=us) (λj l G => ∃(M:Option V),l = [Sa (.ref wa),Sa (.int x),Sa (.ref rd),Sa (.ref o),Sa (.int n),Sa (.ref wb),Sa (.int a),Sa vd,Sa ve,M]/\Ext [rd,o] D G/\G lm=Sa (.lst us)/\PlsAt G us (metOf i x ((n:Int),(a:Int)))/\G rd=Sa (.lst g)/\PlsAt G g ((I ++ [((n:Int),(a:Int))]).filter (yZ i x)) /\
     NexB G o (yl i x I ((n:Int),(a:Int)) ((metOf i x ((n:Int),(a:Int))).take j)) (λc=>D c=Sb/\c≠lm) (22*I.length+j)) ?_ ?_ ?_ ?_⟩
    .refine⟨_,rfl,k5,d0,h5,Z.k k2,h0.mono Z.tk,?_⟩;rw[List.take_zero,qLb];let⟨J,z⟩:=k3;show⟨J,Z.k z.at_,z.few,λp=>?_,z.one⟩;rcases z.all p with y|⟨c,vs,h1,h2,h3,h4⟩
     .exact .inl y
     .exact .inr ⟨c,vs,h1,⟨h2,zG h3 k4⟩,Z.k h3,h4.mono Z.tk⟩
    .rintro j l G hj ⟨M,rfl,e6,T,a0,b0,a1,S⟩;show SqL.of T
    .rintro j v l G hv ⟨M,rfl,e6,T,a0,b0,a1,J,S⟩ N_ B_ C_ R_ hN_ hC_ hR_;let⟨r,hr,rb,rfl,k7⟩:=a0.get hv;let k8:j<(metOf i x ((n:Int),(a:Int))).length:=(aC.mp hr).1;let o2:=S.few;k_go;show wA1 ?_;k_go;show⟨o,rfl,.inr ⟨J,.inl S.at_⟩,?_⟩;k_go;show⟨len2 (bL _),λe0 U=>?_⟩;let e7:Ext [] G (upd G e0 (.lst [])):=.laid U;let C:=S.mono e7 ∅ ∅ e7.tk;let a2:upd G e0 (.lst []) e0=Sa (.lst []):=zB;let d8:D e0=Sb:=by
      by_cases z1:e0=rd
      .rw [z1,b0]at U;cases U
      .by_cases z2:e0=o
       .rw [z2,S.at_]at U;cases U
       .exact e6.none (by simp[z1,z2]) U
     let d9:e0≠lm:=(zG T U).symm;let a3:=e7.k T;let e1:=e7.k b0;let b1:=a0.mono e7.tk;let b2:=a1.mono e7.tk;let f0:Ext [rd,o] D (upd G e0 (.lst [])):=e6.trans (e7.mo);let d1:=e7.tk _ _ k7;let k9:∀(p:Pl)(c:Sf),valV J (plK p)=Sa (.ref c)->c≠e0:=λp c hc=>by
      rcases S.all p with z|⟨c',o3,h1,_,h3,_⟩
      .rw [z.1]at hc;cases hc
      .rw [h1]at hc;cases hc;show zG h3 U
     generalize upd G e0 (.lst [])=G7 at e7 C a2 a3 e1 b1 b2 f0 d1 ⊢;let put:∀(L:Hp) (kv:List (List Key×V)) (c:Sf) (t:List V),NexK L o (yl i x I ((n:Int),(a:Int)) ((metOf i x ((n:Int),(a:Int))).take j)) (λc=>D c=Sb/\c≠lm) (22*I.length+j+1) kv->valV kv (plK r)=Sa (.ref c)->L c=Sa (.lst t)->PlsAt L t (yl i x I ((n:Int),(a:Int)) ((metOf i x ((n:Int),(a:Int))).take j) r)->Ext [rd,o] D L->L lm=Sa (.lst us)->PlsAt L us (metOf i x ((n:Int),(a:Int)))->L rd=Sa (.lst g)->PlsAt L g ((I ++ [((n:Int),(a:Int))]).filter (yZ i x)) ->
       ∀(pt:Sf),L pt=Sb -> ∀M:Option V,t.length<100000/\(∃(l0:Option V),[Sa (V.ref wa),Sa (.int x),Sa (.ref rd),Sa (.ref o),Sa (.int n),Sa (.ref wb),Sa (.int a),Sa vd,Sa ve,M] = [Sa (V.ref wa),Sa (.int x),Sa (.ref rd),Sa (.ref o),Sa (.int n),Sa (.ref wb),Sa (.int a),Sa vd,Sa ve,l0]/\Ext [rd,o] D (upd (upd L pt (.tup [.int n,.int a])) c (.lst (t ++ [.ref pt])))/\(upd (upd L pt (.tup [.int n,.int a])) c (.lst (t ++ [.ref pt]))) lm=Sa (.lst us)/\PlsAt (upd (upd L pt (.tup [.int n,.int a])) c (.lst (t ++ [.ref pt]))) us (metOf i x ((n:Int),(a:Int)))/\(upd (upd L pt (.tup [.int n,.int a])) c (.lst (t ++ [.ref pt]))) rd=Sa (.lst g)/\PlsAt (upd (upd L pt (.tup [.int n,.int a])) c (.lst (t ++ [.ref pt]))) g ((I ++ [((n:Int),(a:Int))]).filter (yZ i x)) /\
        NexB (upd (upd L pt (.tup [.int n,.int a])) c (.lst (t++[.ref pt]))) o (yl i x I ((n:Int),(a:Int)) ((metOf i x ((n:Int),(a:Int))).take (j+1))) (λc=>D c=Sb/\c≠lm) (22*I.length+(j+1))):=by
      intro L kv c t hK hc l3 h6 e8 h7 h8 l4 h9 pt O M;let e9:Ext [] L (upd L pt (.tup [.int n,.int a])):=.laid O;let l5:=hK.mono e9 ∅ ∅ e9.tk;let i0:=e9.k l3;let i1:=l5.app (p:=((n:Int),(a:Int))) (pt:=pt) hc i0 (h6.mono e9.tk) zB;let a4:D c=Sb/\c≠lm:=by
       rcases hK.all r with z|⟨c',_,h1,h2,_⟩
       .rw [z.1]at hc;cases hc
       .rw [h1]at hc;cases hc;show h2
      let tk:TK L (upd (upd L pt (.tup [.int n,.int a])) c (.lst (t++[.ref pt]))):=e9.tk.trans (.put (by intro ys z;rw[i0]at z;cases z));let l6:rd≠c:=λz=>by rw[<-z,c0]at a4;cases a4.1
      let p0:=h6.len;let m7:(yl i x I ((n:Int),(a:Int)) ((metOf i x ((n:Int),(a:Int))).take j) r).length<=22*I.length+22:=by
       unfold yl;rw[aF,aA];let h1:=ji a5 x r I;let h2:=cC (λy=>decide (y=r)) ((metOf i x ((n:Int),(a:Int))).take j);rw[aY]at h2;lia
      show⟨∎,M,rfl,?_,?_,h8.mono tk,?_,h9.mono tk,?_⟩
      .exact ((e8.trans (e9.mo)).mo (us:=[c,rd,o])).trans .pt |>.drop a4.1
      .rw [zC a4.2.symm];show e9.k h7
      .rw [zC l6];show e9.k l4
      .rw [zY hr,qJ3];show⟨kv,i1⟩
     show⟨J,plK r,rb,rfl,C.at_,d1,kG ∎,λv hv=>?_,λhv=>?_⟩
     .rcases C.all r with z|⟨c,t,h1,h2,h3,h4⟩
      .rw [z.1]at hv;cases hv
      .rw [h1]at hv;cases hv;show yD h3 ?_;k_go;show⟨len2 (by change 2<=1000;decide),λpt O=>?_⟩;let⟨i2,b3⟩:=put G7 J c t ⟨C.at_,by let:=C.few;lia,C.all,C.one⟩ h1 h3 h4 f0 a3 b1 e1 b2 pt O _;k_go;show yd (Ext.laid (ts:=[]) O _ _ ∅ h3) (kG ∎) (hN_ _ _ b3)
     .let l7:=C.new hv a2 ⟨d8,d9⟩ k9;let l8:e0≠o:=xm a2 C.at_ (by intro z;cases z);let i3:TK G7 (upd G7 o (.dT (putK J (plK r) (.ref e0)))):=.put (by intro ys z;rw[C.at_]at z;cases z);let f1:upd G7 o (.dT (putK J (plK r) (.ref e0))) e0=Sa (.lst []):=by rw[zC l8];show a2
      let l9:yl i x I ((n:Int),(a:Int)) ((metOf i x ((n:Int),(a:Int))).take j) r=[]:=by
       rcases C.all r with z|⟨c,t,h1,_⟩
       .exact z.2
       .rw [h1]at hv;cases hv
      let m0:lm≠o:=xm a3 C.at_ (by intro z;cases z);show yD f1 ?_;k_go;show⟨len2 (by change 2<=1000;decide),λpt O=>?_⟩;let⟨i2,b3⟩:=put _ _ e0 [] l7 (by rw[xP,if_pos rfl]) f1 (by rw[l9];show .nil) (f0.trans .pt) (by rw[zC m0];show a3) (b1.mono i3) (by rw[zC b9];show e1) (b2.mono i3) pt O _;k_go;show yd (xs:=[]) (Ext.laid (ts:=[]) O _ _ ∅ f1) (kG ∅) (hN_ _ _ b3)
    .rintro l G ⟨M,rfl,e6,T,a0,b0,a1,S⟩;rw[k6,aU,qJ4]at S;show L2.yu hN_ ?_;show⟨g,_,_,_,_,rfl,e6,b0,?_,?_⟩
     .rw [c9];show a1
     .rw [c9];let⟨J,z⟩:=S;show⟨J,z.at_,?_,λp=>?_,z.one⟩
      .let:=z.few;rw[aF,bF];lia
      .rcases z.all p with y|⟨c,vs,h1,h2,h3,h4⟩
       .exact .inl y
       .exact .inr ⟨c,vs,h1,h2.1,h3,h4⟩
   .let i4:yZ i x ((n:Int),(a:Int))=readB x b:=by unfold yZ;rw[c7]
    let p1:=g6.few;let m8:=kS x b.ds;k_go;show⟨vd,b.ds,x,rfl,g7.mono (u c3).toSame,∎,λlt i5 H4 i2 e4 b4 b5=>?_⟩;let m1:i5.length=(till x b.ds).length:=by rw[b5.len,aA]
    show⟨lt,rfl,⟨_,SqL.of b4⟩,λlc c4=>?_⟩;let m2:lt≠lc:=zG b4 c4;show zn (xs:=i5) (λj l G=>∃(o0:Option V),l=[o0,Sa (.int x)]/\Ext [lc] H4 G/\G lc=Sa (.lst ((((till x b.ds).take j).map (rdB x)).map V.bl))) ?_ ?_ ?_ ?_
    .exact⟨Sb,rfl,.laid c4,zB⟩
    .rintro j l G hj ⟨o0,rfl,Z,W⟩;show SqL.of (Z _ _ (by simpa using m2) b4)
    .rintro j y l G R hy ⟨o0,rfl,Z,W⟩ hR;let⟨dd,a8,d3⟩:=b5.get hy;let⟨d,hd,rfl⟩:=zV a8;let k8:j<(till x b.ds).length:=(aC.mp hd).1;k_go;k_in;show⟨y,d,x,rfl,d3.mono (Z.drop c4).toSame,λH6 e6=>?_⟩;show⟨_,e6.k W,zU (by rw[aA,aA,aY];lia),hR _ _ ⟨_,rfl,Z.trans ((e6.mo).trans .pt),?_⟩⟩;rw[zB,zY hd,aG,aG];rfl
    .rintro l G ⟨o0,rfl,Z,W⟩;rw[m1,aU]at W;let b6:Ext [] G3 G:=e4.trans (Z.drop c4);let b7:=b6.k g8;let d2:=c8.mono b6.tk;let i6:=g9.mono b6 ∅ ∅ b6.tk;let i7:Ext [rd,o] D G:=c3.trans (b6.mo);let m3:=cC (yZ i x) I;k_go;show⟨lc,(till x b.ds).map (rdB x),rfl,SqL.of W,?_⟩;show⟨readB x b,?_,?_⟩
     .let e:((till x b.ds).map (rdB x)).any id=readB x b:=by unfold readB;rw[hZ];rfl
      rw[e];rfl
     cases hw:readB x b with
     |true=>
      k_in;show yD b7 ?_;k_go;show⟨len2 (by change 2<=1000;decide),λp2 f2=>?_⟩;let f3:p2≠rd:=(zG b7 f2).symm
      with_reducible refine L2.xf ?_
      show yd (xs:=g) (by rw[zC f3.symm];show b7) (zU ∎) ?_;let tk:TK G (upd (upd G p2 (.tup [.int n,.int a])) rd (.lst (g++[.ref p2]))):=(Ext.laid f2).tk.trans (.put (by intro ys z;rw[zC f3.symm,b7]at z;cases z));let e6:Ext [rd] G (upd (upd G p2 (.tup [.int n,.int a])) rd (.lst (g++[.ref p2]))):=(Ext.laid f2).trans .pt;let i8:∀z∈[rd],¬D z=Sb:=λz hz y=>by
       let e:z=rd:=by simpa using hz
       rw[e,c0]at y;cases y
      show hC _ _ ⟨g++[.ref p2],rfl,i7.trans (e6.mo),zB,?_,i6.mono e6 (by simpa using b9.symm) i8 tk⟩;rw[cZ,eU,if_pos (by rw[i4,hw]),fD];show(d2.mono tk).append (.one (by rw[zC f3,zB]))
     |false=>
      show iteF ?_
      with_reducible refine L2.uz ?_
      show hC _ _ ⟨g,rfl,i7,b7,?_,i6⟩;rw[cZ,eU,if_neg (by rw[i4,hw];show aL),fD,cG];show d2
  .rintro l G' ⟨g,o6,o7,o8,M,rfl,e',c2,B,Y⟩;rw[j6]at B Y;rw[<-qIi a6]at B Y;k_go;show⟨g,_,_,_,_,_,_,rfl,e',c2,B,Y⟩
 .rintro l G ⟨g,o4,o5,o6,o7,o8,M,rfl,eG,c1,X,hN⟩;rw[j5]at X hN;let X:PlsAt G g ((places i).filter (yZ i x)):=X;let hN:NexB G o (ye i x (places i)) (λc=>D c=Sb) (22*(places i).length):=hN;let m3:=cC (yZ i x) (places i);k_go;show .inr ⟨rd,o,g,(places i).filter (yZ i x),places i,ye i x (places i),rfl,SqL.of c1,X,hN.toT,λp hp=>(cA.mp hp).1,λp hp z hz=>(mem_behind.mp hz).1,λp=>by let:=ji a5 x p (places i);lia,∎,∎,λd ks H' hd Z m4 i9 m5=>?_⟩;show q d ks H' ((u eG).no hd) ((u eG).trans Z) m4 i9 λp=>by rw[m5,qSn]
def wAa(K:SJ):Sp:=λvs H Q _ => ∃(a:Sf) (wk:List Blk),vs = [.ref a]/\Den K H (workD wk) (.ref a)/\(∀b∈wk,b.ns.length<=2)/\wk.length<=12 /\
 ∀(d:Sf)(H':Hp),H d=Sb->Ext [] H H'->Nex H' d wk->Q (.ref d) H'
noncomputable abbrev sNx:Sr:=top 9
theorem wA5(F:Fun K "nexts_of" "nexts_of" sNx f fd)(m:mg "list"=Sb)(o:mg "enumerate"=Sb):FnOk P w K mg base CX0 1 f fd ["work"] (wAa K):=by
 show F.go (N:=["work"]) fsc ?_;rintro a6 A W s H O Q E hr ⟨a,X,rfl,hW,Y,a7,q⟩
 refine⟨_,zE (zK (wA3 ["at","deeds","end"] [] rfl (.of rfl) (xt rfl o (zA (pv 0) pa_nil)) (λ_ _ _ _=>wR (n:=2) K rfl rfl (zQ (zj 0) (zQ (wR (n:=2) K rfl rfl (zQ (zj 1) (zQ (zj 2) zr))) zr))) (λ_ _ _ _ =>.nil)
  (λ_ _ _ _=>pv 0) (λ_ _ _ _=>yB (qU5 K rfl) (by rfl) m cJ (zA (yP (qWq K rfl) (pv 2) (yO pe_int) yN) pa_nil)))),?_⟩
 dsimp only[zb,zg];let⟨a',O,ea,u,v⟩:=hW.ofList;cases ea;let Z:O.length=X.length:=by rw[v.len,aA]
 k_go;show⟨a,rfl,⟨O,u⟩,λd B=>?_⟩;show Qm (xs:=O) (λi l g=>∃(e:List (Key×V))(S T U:Option V),l=[S,T,U]/\Ext [d] H g/\g d=Sa (.dK e)/\e.length<=i/\∀k:Int,(valV e (Sum.inl k)=Sb/\¬(0<=k/\k<i))\/∃c,valV e (Sum.inl k)=Sa (.ref c)/\c≠d/\g c=Sa (.lst ((nxt X k).map V.int))) ?_ ?_ ?_ ?_
 .exact⟨[],Sb,Sb,Sb,rfl,.laid B,zB,aI _,λk=>.inl ⟨rfl,∎⟩⟩
 .rintro i l g hi ⟨e,S,T,U,rfl,C,h,D,G⟩;show(C.drop B).toSame.seq u
 .rintro i x l g pt R hx ⟨e,S,T,U,rfl,C,h,D,G⟩ r hR;let⟨dd,a0,a1⟩:=v.get hx;let⟨b,hb,rfl⟩:=zV a0;let hi:i<X.length:=(aC.mp hb).1;let I:=Y b (aK hb);let⟨c,dl,a8,ve,rfl,hc,_,_,a2⟩:=wT a1;let⟨en,wd,rfl,a3,_⟩:=jT I a2;let a4:pt≠d:=(zG h r).symm;let e1:Ext [d] H (upd g pt (.tup [.int i,.ref c])):=C.trans (.laid r);let es:Same H (upd g pt (.tup [.int i,.ref c])):=(e1.drop B).toSame;let j:upd g pt (.tup [.int i,.ref c]) d=Sa (.dK e):=by rw[zC a4.symm];show h
  let J:SqT K (upd g pt (.tup [.int i,.ref c])) pt [.int i,.ref c]:=SqT.of zB;let a5:Ext [] g (upd g pt (.tup [.int i,.ref c])):=.laid r;generalize upd g pt (.tup [.int i,.ref c])=H1 at *;show zv J rfl ?_;k_go;show zv (es.seqT hc) rfl ?_;k_go;k_in;show⟨1,rfl,?_⟩;k_go;show jW I (es.seqT a3) λp hp=>?_;let a9:p≠d:=(zG j hp).symm;k_go;show⟨p,_,rfl,.inr (SqT.of zB),λt L=>?_⟩;let e2:Ext [] H1 (upd (upd H1 p (.tup (b.ns.map V.int))) t (.lst (b.ns.map V.int))):=(Ext.laid hp).trans (.laid L);let M:upd (upd H1 p (.tup (b.ns.map V.int))) t (.lst (b.ns.map V.int)) t=Sa (.lst (b.ns.map V.int)):=zB
  let n2:t≠d:=(zG (Ext.laid (ts:=[]) hp _ _ ∅ j) L).symm;generalize upd (upd H1 p (.tup (b.ns.map V.int))) t (.lst (b.ns.map V.int))=H2 at *;show⟨e,Sum.inl (i:Int),rfl,e2.k j,zU ∎,hR _ _ ⟨_,_,_,_,rfl,?_,zB,?_,λk=>?_⟩⟩
  .exact e1.trans ((e2.mo).trans .pt)
  .let:=xQ e (Sum.inl (i:Int):Key) (.ref t);lia
  .rw [xP];by_cases z:k=(i:Int)
   .subst z;rw[if_pos rfl];show .inr ⟨t,rfl,n2,?_⟩;rw[zC n2,M,vG hb]
   .rw [if_neg (λy=>z (gV y))];show(G k).imp (λ⟨a,b⟩=>⟨a,∎⟩) λ⟨c',h1,h2,h3⟩=>⟨c',h1,h2,by rw[zC h2];show(a5.trans e2).k h3⟩
 .rintro l g ⟨e,S,T,U,rfl,C,h,D,G⟩;rw[Z]at G;show q d g B (C.drop B) ⟨e,h,λk=>(G k).imp id λ⟨c,h1,_,h3⟩=>⟨c,h1,h3⟩⟩
theorem anyK(K:SJ)(h:X.K=K)(a:X.A.handled=Sb):CallR X (.builtin "any") (rAnyB K):=h▸vH a
noncomputable abbrev qMt:Sr:=top 15
theorem qOc(F:Fun K "writers" "writers" qMt f fd)(u:mg "enumerate"=Sb)(G:mg "any"=Sb)(a0:Has P w K mg base "writes_box" 1 ["deed","box"] (vI wrB K)):FnOk P w K mg base CX0 2 f fd ["work","box"] (jk K):=by
 show F.go (N:=["work","box"]) fsc ?_;rintro a8 A a1 s H vs Q E hr ⟨wa,B,m,a2,x,rfl,hW,I,hm,q⟩
 refine⟨_,zE (zK (wP ["at","deeds","end"] [1] (xt rfl u (zA (pv 0) pa_nil)) (λ_ _ _ _=>wR (n:=2) K rfl rfl (zQ (zj 0) (zQ (wR (n:=2) K rfl rfl (zQ (zj 1) (zQ (zj 2) zr))) zr)))
  (λ_ _ _ _=>.cons (zw K rfl (zN (anyK K rfl hr.hd) (by rfl) G eP (zA (wP ["deed"] [3] (Qp K rfl (pv 1)) (λ_ _ _ _=>zj 0) (λ_ _ _ _=>.nil) (λ_ _ _ _=>zF a0 hr ⋯ (zA (pv 0) (zA (pv 1) pa_nil)))) pa_nil)) (λ_=>rfl)) .nil) (λ_ _ _ _=>pv 0))),?_⟩
 dsimp only[zb,zg];let⟨a',vs,ea,J,L⟩:=hW.ofList;cases ea;let a3:vs.length=B.length:=by rw[L.len,aA]
 let a9:=I.len;k_go;show⟨wa,rfl,⟨vs,J⟩,λl M=>?_⟩;show Qm (xs:=vs) (λi a o=>∃(r o1 o2:Option V),a=[r,o1,o2,Sa (.int x)]/\Ext [l] H o/\o l=Sa (.lst ((wrTo B x i).map V.int))) ?_ ?_ ?_ ?_
 .exact⟨Sb,Sb,Sb,rfl,.laid M,zB⟩
 .rintro i a o hi ⟨r,o1,o2,rfl,O,h⟩;show(O.drop M).toSame.seq J
 .rintro i y a o pt R hy ⟨r,o1,o2,rfl,O,h⟩ S hR;let⟨dd,v,a4⟩:=L.get hy;let⟨b,hb,rfl⟩:=zV v;let hi:i<B.length:=(aC.mp hb).1;let⟨c,dl,z,ve,rfl,hc,T,t,_⟩:=wT a4;let U:=I.blk b (aK hb);let a5:pt≠l:=(zG h S).symm;let e1:Ext [l] H (upd o pt (.tup [.int i,.ref c])):=O.trans (.laid S);let es:Same H (upd o pt (.tup [.int i,.ref c])):=(e1.drop M).toSame;let W:upd o pt (.tup [.int i,.ref c]) l=Sa (.lst ((wrTo B x i).map V.int)):=by rw[zC a5.symm];show h
  let X:SqT K (upd o pt (.tup [.int i,.ref c])) pt [.int i,.ref c]:=SqT.of zB;generalize upd o pt (.tup [.int i,.ref c])=H1 at *;show zv X rfl ?_;k_go;show zv (es.seqT hc) rfl ?_;k_go;show⟨dl,rfl,⟨z,es.seq T⟩,λlc p=>?_⟩;let b0:l≠lc:=zG W p;show zn (xs:=z) (λj a C=>∃(r:Option V),a=[r,Sa (.int x)]/\Ext [lc] H1 C/\C lc=Sa (.lst (((b.ds.take j).map (wrB x)).map V.bl))) ?_ ?_ ?_ ?_
  .exact⟨Sb,rfl,.laid p,zB⟩
  .rintro j a C hj ⟨r,rfl,D,g⟩;show(D.drop p).toSame.seq (es.seq T)
  .rintro j y a C R2 hy ⟨r,rfl,D,g⟩ a6;let⟨dd,v,a7⟩:=t.get hy;let⟨d,hd,rfl⟩:=zV v;let b1:j<b.ds.length:=(aC.mp hd).1;k_go;k_in;show⟨y,d,x,rfl,(a7.mono es).mono (D.drop p).toSame,λH3 e3=>?_⟩;show⟨_,e3.k g,zU (by rw[aA,aA,aY];let:=U.few;lia),a6 _ _ ⟨_,rfl,D.trans ((e3.mo).trans .pt),?_⟩⟩;rw[zB,zY hd,aG,aG];rfl
  .rintro a C ⟨r,rfl,D,g⟩;let Y:z.length=b.ds.length:=by rw[t.len,aA]
   rw[Y,aU]at g;k_go;show⟨lc,b.ds.map (wrB x),rfl,SqL.of g,?_⟩;show⟨wrote x b.ds,?_,?_⟩
   .let e:(b.ds.map (wrB x)).any id=wrote x b.ds:=by unfold wrote;rw[hZ];rfl
    rw[e];rfl
   let E2:Ext [] H1 C:=D.drop p;let Z:=E2.k W;let hs:=qJc B x i;let b2:=uP B x i;rw[qRz hb]at hs;cases hw:wrote x b.ds with
   |true=>
    rw[hw,if_pos rfl]at hs;show iteT (iteT ?_);k_go;show⟨_,Z,zU (by rw[aA];lia),hR _ _ ⟨_,_,_,rfl,(e1.trans (E2.mo)).trans .pt,?_⟩⟩;rw[zB,hs,aG];rfl
   |false=>
    rw[hw,if_neg aL]at hs;show iteF (iteF (hR _ _ ⟨_,_,_,rfl,e1.trans (E2.mo),?_⟩));rw[hs];show Z
 .rintro a o ⟨r,o1,o2,rfl,O,h⟩;rw[a3]at h;show q l o M (O.drop M) h
noncomputable abbrev qMx:Sr:=top 19
theorem qOl{f:Sf}{fd:FuncData}(F:Fun K "awaited" "awaited" qMx f fd)(a:mg "range"=Sb)(h:mg "len"=Sb)(M:Has P w K mg base "awaiting" 4 ["works","box"] (qPy K)):FnOk P w K mg base CX0 5 f fd ["works","number","box"] (qJp K):=by
 show F.go (N:=["works","number","box","waiting"]) fsc ?_;rintro a3 A O s H vs Q E hr ⟨wa,D,n,I,x,rfl,hW,j,o,q⟩;let hu:=zk hr
 refine⟨_,zD (yQ 3 (zF M hr ⋯ (zA (pv 0) (zA (pv 2) pa_nil))))
  (zE (zK (wP ["at"] [1,3] (yg rfl a (zA (zN yn (by rfl) h bH (zA (zH zO (pv 0) (pv 1) (λ_ _=>rfl)) pa_nil)) pa_nil)) (λ_ _ _ _=>zj 0) (λ_ _ _ _=>.cons (ud (qZ6 hu (zT (zA (pv 1) (zA (pv 0) pa_nil))) (pv 2))) .nil) (λ_ _ _ _=>pv 0)))),?_⟩
 dsimp only[zb,zg];let⟨a',vs,ea,S,T⟩:=hW.ofList;cases ea;let⟨vw,U,W⟩:=T.get' (i:=n) (d:=workD I) (by rw[aR,o];rfl);let⟨wb,bs,rfl,X,r⟩:=W.ofList;let Y:bs.length=I.length:=by rw[r.len,aA]
 let⟨m,a4,a5,Z⟩:=j.all I (aK o);let a6:=Z.len;k_go;show⟨wa,D,x,rfl,hW,j,λd ks H1 hd J u a2 a0=>?_⟩;k_go;show zL (J.toSame.seq S) (zS U) ?_;k_go;show⟨wb,_,rfl,.inl (J.toSame.seq X),?_⟩;k_go;show⟨_,rfl,∎,∎,λl v=>?_⟩;let a7:d≠l:=zG u v;show wO (lo:=0) (n:=(bs.length:Int).toNat) (λi e G=>∃(o0:Option V),e=[o0,Sa (.int n),Sa (.ref d)]/\Ext [l] H1 G/\G l=Sa (.lst ((waitTo D x n i).map V.int))) ?_ ?_ ?_
 .exact⟨Sb,rfl,.laid v,zB⟩
 .rintro i e G R hi ⟨o0,rfl,y,b⟩ hR;let hi:i<I.length:=by lia
  let a1:G d=Sa (.dT (trueD ks)):=(y.drop v).k u;let a8:=qNv D x n i;k_go;show⟨len2 (by change 2<=1000;decide),λp hp=>?_⟩;let z:Ext [] G (upd G p (.tup [.int (n:Int),.int (0+(i:Int))])):=.laid hp;let B:upd G p (.tup [.int (n:Int),.int (0+(i:Int))]) p=Sa (.tup [.int (n:Int),.int (0+(i:Int))]):=zB;let C:=z.k a1;let g:=z.k b;generalize upd G p (.tup [.int (n:Int),.int (0+(i:Int))])=G4 at z B C g ⊢;k_go;show⟨d,_,rfl,DGet.t (k:=plK ((n:Int),0+(i:Int))) C B,?_⟩;rw[kO];let c:askB D x ((n:Int),(i:Int))=decide (((n:Int),(0+(i:Int)))∈ks):=by
   rw[cP,askB_iff,decide_eq_true_iff,a0,eQ]
  by_cases L:((n:Int),(0+(i:Int)))∈ks
  .rw [if_pos L];show yr (iteT (iteT ?_));k_go;show⟨_,g,zU (by rw[aA];lia),hR _ _ ⟨_,rfl,(y.trans (z.mo)).trans .pt,?_⟩⟩;rw[zB,qG7,c,decide_eq_true L,if_pos rfl,aG,eQ];rfl
  .rw [if_neg L];show yr (iteF (iteF (hR _ _ ⟨_,rfl,y.trans (z.mo),?_⟩)));rw[g,qG7,c,decide_eq_false L,if_neg aL]
 .rintro e G ⟨o0,rfl,y,b⟩;rw[bE,Y]at b;show q l G (J.no v) (J.trans (y.drop v)) b
noncomputable abbrev iM:Sr:=top 18
theorem scReached:FnScope ["works","number","box","nexts","starts"] ["works","number","box"] (za iM):=fsc
theorem qOf(F:Fun K "reached" "reached" iM f fd)(I:mg "sorted"=Sb)(hX:Has P w K mg base "nexts_of" 1 ["work"] (wAa K))(a2:Has P w K mg base "writers" 2 ["work","box"] (jk K))(a3:Has P w K mg base "led_to" 1 ["starts","nexts"] (jj K)):FnOk P w K mg base CX0 3 f fd ["works","number","box"] (qJl K):=by
 show F.go scReached ?_;rintro c0 A a4 s H vs Q E S ⟨wa,ws,n,e,x,rfl,hW,a5,T,q⟩;let hu:=zk S
 refine⟨_,zD (yQ 3 (zF hX S ⋯ (zA (zH zO (pv 0) (pv 1) (λ_ _=>rfl)) pa_nil)))
  (zD (qYz (i:=4) ["at","to"] [3] rfl (.of rfl) scReached.nd rfl (Or.inl rfl) (zd (zF a2 S ⋯ (zA (zH zO (pv 0) (pv 1) (λ_ _=>rfl)) (zA (pv 2) pa_nil)))) (λ_ _ _ _=>zj 0) (λ_ _ _ _ =>.nil)
   (λ_ _ _ _=>Qp K rfl (qX4 hu (pv 2) (pv 0) (λ_ _=>rfl))) (λ_ _ _ _=>zj 1) (λ_ _ _ _=>.nil) (λ_ _ _ _=>pv 1))
  (zE (zK (zN (qOt S.hd) (by rfl) I fV (zA (zF a3 S ⋯ (zA (pv 4) (zA (pv 3) pa_nil))) pa_nil))))),?_⟩
 dsimp only[zb,zg];let⟨a',vs,ea,U,a6⟩:=hW.ofList;cases ea;let⟨vw,W,J⟩:=a6.get' (i:=n) (d:=workD e) (by rw[aR,T];rfl);let⟨wb,bs,rfl,c1,b9⟩:=J.ofList;let⟨m,c2,a7,h⟩:=a5.all e (aK T);let c3:=h.len;k_go;show zL U (zS W) ?_;k_go;show⟨wb,e,rfl,J,λb hb=>(h.blk b hb).ns.few,∎,λnd H1 c4 e1 X=>?_⟩;k_go;show zL (e1.toSame.seq U) (zS W) ?_;k_go;show⟨wb,e,m,_,x,rfl,J.mono e1.toSame,h,a7,λlw H2 c5 e2 p=>?_⟩;k_go;show⟨lw,rfl,⟨_,SqL.of p⟩,λl N=>?_⟩;let a8:lw≠l:=zG p N;show zn (xs:=(wrTo e x e.length).map V.int) (λi o G=>∃(o0 B:Option V),o=[o0,B,Sa (.ref nd)]/\Ext [l] H2 G/\G l=Sa (.lst ((((wrTo e x e.length).take i).flatMap (nxt e)).map V.int))) ?_ ?_ ?_ ?_
 .exact⟨Sb,Sb,rfl,.laid N,zB⟩
 .rintro i o G hi ⟨o0,B,rfl,L,t⟩;show SqL.of (L _ _ (by simpa using a8) p)
 .rintro i v o G R hv ⟨o0,B,rfl,L,t⟩ hR;let⟨y,O,rfl⟩:=zV hv;let⟨k,rfl,hk,c6⟩:=mem_wrTo.mp (aK O);let⟨c7,a9,b0⟩:=X;let⟨c,b1,C⟩:=(b0 k).resolve_left λz=>z.2 ∎;let C:=e2.k C;let b2:=(e2.trans (L.drop N)).k a9;let b3:c≠l:=zG C N;let Y:=(L.drop N).k C;k_go;show iteT ?_;unfold bNext;k_go;show⟨nd,.ref c,rfl,?_,?_⟩
  .let:=DGet.k (k:=Sum.inl (k:Int)) b2;rw[b1]at this;show this
  let Z:=jl (nxt e) (λa=>(xL h a).few) ((wrTo e x e.length).take i);let b4:=uP e x e.length;let c8:=(xL h (k:Int)).few;rw[aY]at Z;show⟨c,rfl,⟨_,SqL.of Y⟩,?_⟩;show zn (xs:=(nxt e (k:Int)).map V.int) (λj o G2=>∃(B:Option V),o=[Sa (.int k),B,Sa (.ref nd)]/\Ext [l] G G2/\G2 l=Sa (.lst ((((wrTo e x e.length).take i).flatMap (nxt e)++(nxt e (k:Int)).take j).map V.int))) ?_ ?_ ?_ ?_
  .exact⟨_,rfl,.refl _ _,by rw[t,List.take_zero,cG]⟩
  .rintro j o G2 hj ⟨B,rfl,M,u⟩;show SqL.of (M _ _ (by simpa using b3) Y)
  .rintro j v o G2 R2 hv ⟨B,rfl,M,u⟩ b5;let⟨z,hz,rfl⟩:=zV hv;k_go;k_in;show⟨_,u,zU (by rw[aA,aF,aY];lia),b5 _ _ ⟨_,rfl,M.trans .pt,?_⟩⟩;rw[zB,zY hz,<-fR,aG,aG,aG];rfl
  .rintro o G2 ⟨B,rfl,M,u⟩;rw[aA,aU]at u;show hR _ _ ⟨_,_,rfl,L.trans M,?_⟩;rw[u,zY O,fZ,fU,List.flatMap_nil,cG]
 .rintro o G ⟨o0,B,rfl,L,t⟩;rw[aA,aU]at t;let E3:=L.drop N;let Z:=jl (nxt e) (λa=>(xL h a).few) (wrTo e x e.length);let b4:=uP e x e.length;k_go;show .inl ⟨l,nd,nxt e,vK e x,(List.range e.length).map λ(i:Nat)=>(i:Int),rfl,.inl (SqL.of t),X.g (e2.trans E3).toSame,λs hs=>?_,λz _ y O=>?_,by simp;lia,λy=>cH (xL h y).few ⋯,by unfold vK;lia,λd ks H4 hd M b6 D a0=>?_⟩
  .let⟨y,_,b7⟩:=cO.mp hs;let:=(xL h y).range s b7;show bG.mpr ⟨s.toNat,aZ.mpr ∎,∎⟩
  .let:=(xL h z).range y O;show bG.mpr ⟨y.toNat,aZ.mpr ∎,∎⟩
  k_go;show⟨d,ks,_,rfl,b6,by rw[dC];rfl,?_,λls ns a1 hp b8=>?_⟩
  .let:ks.length<=((List.range e.length).map λ(i:Nat)=>(i:Int)).length:=yv D λy O=>by
    let⟨s,hs,r⟩:=(a0 y).mp O;let⟨z,_,hz⟩:=cO.mp hs;let h1:=(xL h z).range s hz;let:=r.range h ⟨∎,h1.2⟩;show bG.mpr ⟨y.toNat,aZ.mpr ∎,∎⟩
   rw[aA,cL]at this;lia
  let EF:Ext [] H H4:=e1.trans ((e2.trans E3).trans M);show q ls ns _ (EF.no a1) (EF.trans (.laid a1)) zB b8 (hp.symm.nodup D) λy=>by rw[hp.mem_iff,a0]
noncomputable abbrev sBusy:Sr:=top 20
theorem qXf{f:Sf}{fd:FuncData}(F:Fun K "busy" "busy" sBusy f fd)(B:mg "sorted"=Sb)(t:mg "set"=Sb)(a5:Has P w K mg base "awaited" 5 ["works","number","box"] (qJp K))(a6:Has P w K mg base "reached" 3 ["works","number","box"] (qJl K))(a7:Has P w K mg base "writers" 2 ["work","box"] (jk K)):FnOk P w K mg base CX0 6 f fd ["works","number","box"] (jo K):=by
 show F.go (N:=["works","number","box","waited","between"]) fsc ?_;rintro c0 A a8 s H vs Q E S ⟨wa,C,n,c,x,rfl,hW,D,o,q⟩
 refine⟨_,zD (yQ 3 (zF a5 S ⋯ (zA (pv 0) (zA (pv 1) (zA (pv 2) pa_nil)))))
  (zD (jR 4 ["at"] [3] (zd (zF a6 S ⋯ (zA (pv 0) (zA (pv 1) (zA (pv 2) pa_nil))))) (λ_ _ _ _=>zj 0) (λ_ _ _ _=>.cons (zM (inK K rfl) (pv 0) (pv 1) rfl) .nil) (λ_ _ _ _=>pv 0))
  (zE (zK (zN (qHu S.hd) (by rfl) B fV (zA (zI qZ7
   (yB (kM S.hd) (by rfl) t gK (zA (zF a7 S ⋯ (zA (zH zO (pv 0) (pv 1) (λ_ _=>rfl)) (zA (pv 2) pa_nil))) pa_nil))
   (yB (kM S.hd) (by rfl) t gK (zA (pv 4) pa_nil))) pa_nil))))),?_⟩
 dsimp only[zb,zg,zo,zp];let⟨a',vs,ea,a9,b0⟩:=hW.ofList;cases ea;let⟨vw,b1,b2⟩:=b0.get' (i:=n) (d:=workD c) (by rw[aR,o];rfl);let⟨m,c1,I,e⟩:=D.all c (aK o);let c2:=e.len;k_go;show⟨wa,C,n,c,x,rfl,hW,D,o,λla H1 c3 T U=>?_⟩;k_go;show⟨wa,C,n,c,x,rfl,hW.mono T.toSame,D,o,λlr l H2 c4 W g hp hd hy=>?_⟩;let J:∀y∈l,0<=y/\y<m:=λy a=>kW e ((hy y).mp a);let c5:=qMy hp hd J;let u:=W.k U;k_go;show⟨lr,rfl,⟨_,SqL.of g⟩,λlc p=>?_⟩;show zn (xs:=l.map V.int) (λj r G=>∃(o0:Option V),r=[o0,Sa (.ref la)]/\Ext [lc] H2 G/\G lc=Sa (.lst (((l.take j).filter λy=>decide (y∈waitTo C x n c.length)).map V.int))) ?_ ?_ ?_ ?_
 .exact⟨Sb,rfl,.laid p,zB⟩
 .rintro j r G hj ⟨o0,rfl,L,b⟩;show SqL.of (L _ _ (by simpa using zG g p) g)
 .rintro j v r G R hv ⟨o0,rfl,L,b⟩ hR;let⟨y,a,rfl⟩:=zV hv;let c6:j<l.length:=(aC.mp a).1;let X:l.take (j+1)=l.take j++[y]:=by rw[List.take_add_one,a];rfl
  let b3:=cC (λy=>decide (y∈waitTo C x n c.length)) (l.take j);rw[aY]at b3;k_go;show⟨la,_,rfl,.inl (SqL.of (L _ _ (by simpa using zG u p) u)),rfl,yY _,?_⟩;rw[if_neg aL,yX];k_go;by_cases hc:y∈waitTo C x n c.length
  .rw [decide_eq_true hc];show iteT (iteT ?_);k_go;show⟨_,b,zU (by rw[aA];lia),hR _ _ ⟨_,rfl,L.trans .pt,?_⟩⟩;rw[zB,X,cZ,eU,decide_eq_true hc,if_pos rfl,fD,aG];rfl
  .rw [decide_eq_false hc];show iteF (iteF (hR _ _ ⟨_,rfl,L,?_⟩));rw[b,X,cZ,eU,decide_eq_false hc,if_neg aL,fD,cG]
 .rintro r G ⟨o0,rfl,L,b⟩;rw[aA,aU]at b;generalize hF:l.filter (λy=>decide (y∈waitTo C x n c.length))=F at b;let M:∀y,y∈F↔y∈l/\y∈waitTo C x n c.length:=λy=>by rw[<-hF,cA,decide_eq_true_eq]
  let c7:F.length<=l.length:=by rw[<-hF];show cC _ _
  let E3:Ext [] H2 G:=L.drop p;let c8:=hW.mono (T.trans (W.trans E3)).toSame;let c9:=uP c x c.length;k_go;show zL ((T.trans (W.trans E3)).toSame.seq a9) (zS b1) ?_;k_go;let⟨wb,bs,rfl,b4,Y⟩:=b2.ofList;show⟨wb,c,m,_,x,rfl,(Den.list b4 Y).mono (T.trans (W.trans E3)).toSame,e,I,λlw H4 d0 e4 Z=>?_⟩;k_go;show⟨lw,wrTo c x c.length,rfl,SqL.of Z,∎,λs1 b5=>?_⟩;generalize zz:upd H4 s1 _=H5;let ⟨X5,h⟩:=layQq zz b5;k_go;show⟨lc,F,rfl,SqL.of ((e4.trans X5).k b),∎,λs2 O=>?_⟩;let b8:=jc (wrTo c x c.length);let b9:=jc F;k_go;show⟨s1,s2,_,_,rfl,rfl,zG h O,by rw[zC (zG h O)];show h,zB,qMr I λy a=>qH8 e ((xV _).mp a),qMr I λy a=>J y ((M y).mp ((xV _).mp a)).1,∎,λs3 us a0 a1 a2=>?_⟩
  let X6:Ext [] H5 (upd H5 s2 (setO w (yF F))):=.laid O;generalize upd H5 s2 (setO w (yF F))=H6 at X6 a0 ⊢;let b6:∀y∈us,0<=y/\y<m:=λy a=>by
   rcases (a2 y).mp a with z|z
   .exact qH8 e ((xV _).mp z)
   .exact J y ((M y).mp ((xV _).mp z)).1
  k_go;show⟨s3,us,rfl,zB,?_,λlx nx a3 a4 b7=>?_⟩
  .let:=yf 12 a1 λy a=>by let:=b6 y a;lia
   lia
  .let EF:Ext [] H (upd H6 s3 (setO w us)):=(T.trans (W.trans (E3.trans (e4.trans (X5.trans X6))))).trans (.laid a0);show q lx nx _ (EF.no a3) (EF.trans (.laid a3)) zB b7 (a4.symm.nodup a1) λy=>?_;rw[a4.mem_iff,a2,xV,xV,M,hy];rfl
noncomputable abbrev qV5:Sr:=top 27
theorem qTz(F:Fun K "_law_begun" "_law_begun" qV5 f u)(i:mg "len"=Sb)(d:mg "abs"=Sb)(l:mg "int"=Sb):FnOk P w K mg base CX0 1 f u ["_law_script","_law_k"] (Ql K):=by
 show F.go (N:=["_law_script","_law_k","_law_cell"]) fsc ?_;rintro x A p s H z Q E B ⟨a,h,k,rfl,v,C,q⟩
 refine⟨_,zD (yQ 2 (xo (zM xG (pv 1) (zN yn (by rfl) i bH (zA (pv 0) pa_nil)) (zR _)) (zH zO (pv 0) (pv 1) (λ_ _=>rfl)) pe_int))
  (zE (zK (zW (zA (zI wg (zN oI (by rfl) d PyProof.Rows.boot_abs (zA (pv 2) pa_nil)) (yB wj (by rfl) l dF (zA (zu wA4 (zN oI (by rfl) d PyProof.Rows.boot_abs (zA (pv 2) pa_nil)) (zI vT pe_int pe_int) (zR _)) pa_nil)))
   (zA (zI yA (zI yA (zI wH (pv 2) pe_int) (zI wg pe_int (pv 1))) pe_int) (zA pe_int pa_nil)))))),?_⟩
 dsimp only[zb];let m:∀c:Int,0<=(if c<0 then -c else c):=λc=>by split<;>lia
 k_go;show⟨a,_,rfl,.inl v,?_⟩;k_go;by_cases g:(k:Int)<((h.map V.int).length:Int)
 .rw [decide_eq_true g];show iteT ?_;rw[aA]at g;let y:k<h.length:=by lia
  let r:atI (h.map V.int) (k:Int)=Sa (.int h[k]):=by
   let:=zS (xs:=h.map V.int) (j:=k) (by rw[aR,aE y];rfl);show this
  k_go;show zL v r ?_;generalize h[k]=c;k_go;show⟨_,rfl,?_⟩;k_go;show⟨_,rfl,?_⟩;k_go;show wx ⋯ ⋯ ⋯ ?_;k_go;show .inr ⟨_,rfl,?_⟩;show xy (.inr ⟨by let:=bit01 (decide (10^Int.toNat 18<=if c<0 then -c else c));lia,by let:=bit01 (decide (10^Int.toNat 18<=if c<0 then -c else c));lia⟩) ?_;k_go;show xz ⋯ ?_;k_go;show xy (.inl ⟨⋯,⋯⟩) ?_;k_go;show⟨len2 (by change 3<=1000;decide),λt n=>q t _ n ⟨_,_,_,zB,?_,?_,?_,⋯,⋯⟩ λb o e=>?_⟩
  .exact Int.mul_nonneg (m c) (bit01 _).1
  .let:=gJ c (show(2305843009213693951:Int)≠0 by decide);lia
  .let:=fM c (show(0:Int)<2305843009213693951 by decide);lia
  .rw [zC (zG e n)];show e
 .rw [decide_eq_false g];show iteF ?_;k_go;show⟨_,rfl,?_⟩;k_go;show⟨_,rfl,?_⟩;k_go;show wx ⋯ ⋯ ⋯ ?_;k_go;show .inr ⟨_,rfl,?_⟩;show xy (.inr ⟨by let:=bit01 (decide (10^Int.toNat 18<=if 0<0 then -0 else 0));lia,by let:=bit01 (decide (10^Int.toNat 18<=if 0<0 then -0 else 0));lia⟩) ?_;k_go;show xz ⋯ ?_;k_go;show xy (.inl ⟨⋯,⋯⟩) ?_;k_go;show⟨len2 (by change 3<=1000;decide),λt n=>q t _ n ⟨_,_,_,zB,?_,?_,?_,⋯,⋯⟩ λb o e=>?_⟩
  .exact Int.mul_nonneg (m 0) (bit01 _).1
  .let:(0:Int)%2305843009213693951=0:=rfl;lia
  .let:(0:Int)%2305843009213693951=0:=rfl;lia
  .rw [zC (zG e n)];show e
end Fs
local macro_rules | `(tactic| walk_at "qc") => `(tactic| first | refine L2.qYn ?_ | refine L2.qV8 ?_ | refine L2.qVb ?_ | refine L2.qVc ?_ | refine L2.qVi ?_ | refine L2.qQl ?_ | refine L2.wA0 ?_ | refine L2.qWu ?_ | refine L2.qV7 ?_ | refine L2.kE ?_ | refine L2.uS ?_ | refine L2.kC ?_ | walk_at "qz")
local macro_rules | `(tactic| walk_at "re") => `(tactic| repeat (with_reducible first | (refine L2.uQ ?_; intro NN_ hNN_) | walk_at "qa" | refine L2.yu (by assumption) ?_ | refine L2.uK (by assumption) ?_ | (refine L2.uR ?_; intro NA_ NB_ hNA_ hNB_) | walk_at "qc"))
namespace Fs
open PySem L2
theorem qR6(F:Fun K "led_to" "led_to" sLed f fd)(r:mg "list"=Sb):FnOk P w K mg base CX0 1 f fd ["starts","nexts"] (qV3 K):=by
 show F.go scLed ?_;rintro b6 A a5 s H vs Q E hr ⟨st,nd,N,R,U,rfl,a6,a7,a8,a9,hU,hN,b7,q⟩;let hu:=zk hr
 refine⟨_,(zD (yQ 2 pe_dnewK)
  (zD (yQ 3 (yB wI (by rfl) r cJ (zA (pv 0) pa_nil)))
  (zD (we bD (zw K rfl (pv 3) (λ_=>rfl))
  (zD (yQ 4 (oX bB PySem.F.slot_list_pop PySem.F.type_list_pop on (pv 3)))
  (zE (zl (ud (kz hu (pv 4) (pv 2))) (zD (jA hu (pv 2) (pv 4) pe_bl rfl)
  (zE (yT (yU bB iB iC ky (pv 3) (zA (jE hu (pv 1) (pv 4) (zW pa_nil) ⟨rfl,rfl,rfl,rfl⟩) pa_nil))))) zc))))
  (zE (zK (pv 2)))))),?_⟩
 dsimp only[zb,zg,zq,zo,zp];k_ne;show Qn λd hd=>?_;k_ne;let E0:Ext [] H (upd H d (.dK [])):=.laid hd;show⟨st,_,rfl,a6.imp (E0.toSame.seq) (E0.toSame.seqT),λb u=>?_⟩;let i:d≠b:=zG zB u;let m:H b=Sb:=E0.no u;k_ne;let b0:LedGI H d b N R U [] R (upd (upd H d (.dK [])) b (.lst (R.map V.int))):=by
  show⟨E0.trans (.laid u),?_,zB,List.nodup_nil,(λ_ h=>absurd h ∅),λx j=>⟨x,j,.refl⟩,(λ_ h=>absurd h ∅),λs hs=>.inr hs,(λ_ h=>absurd h ∅),∎⟩;rw[zC i,zB];rfl
 show⟨λμ S G=>∃(e due:List Int)(o4:Option V),μ = (U.length-e.length)*401+due.length/\S=[Sa (.ref st),Sa (.ref nd),Sa (.ref d),Sa (.ref b),o4]/\LedGI H d b N R U e due G,⟨_,[],R,Sb,rfl,rfl,b0⟩,?_⟩;rintro μ S T ⟨e,due,o4,rfl,rfl,I⟩;show zm (v:=.ref b) rfl ⟨!(due.map V.int).isEmpty,.inl ⟨_,SqL.of I.hdu,rfl⟩,?_⟩;rcases fJ due with h|⟨a,y,h⟩
 .subst h;show iteF ?_;k_ne;show q d e T hd I.ext I.hd I.nod I.end_
 .let h:due=a++[y]:=by rw[h,fK]
  let he:(!(due.map V.int).isEmpty)=Sc:=by rw[h];simp
  rw[he];show iteT (L2.vE (n2:=λ_ _=>True) λNw_ hNw_=>?_);let⟨s0,B,C⟩:=I.rd y (by rw[h];simp);let b1:=qMz a9 (a8 s0 B) C;let b8:=yv I.nod I.sU;let b2:due.length=a.length+1:=by rw[h];simp
  let b9:=I.fewd;let l:∀{x:Int},x∈due->x∈a\/x=y:=λ{x}z=>by rw[h]at z;simpa using z
  k_ne;show yD I.hdu ?_;show⟨b,due.map V.int,.int y,rfl,rfl,I.hdu,by rw[h];simp,?_⟩;let D:(due.map V.int).dropLast=a.map V.int:=by rw[h];simp
  rw[D];let d1:upd T b (.lst (a.map V.int)) d=Sa (.dK (e.map λk=>((Sum.inl k:Key),V.bl Sc))):=by rw[zC i];show I.hd
  let e1:Ext [] H (upd T b (.lst (a.map V.int))):=((I.ext.mo (us:=[b])).trans .pt).drop m;let u1:upd T b (.lst (a.map V.int)) b=Sa (.lst (a.map V.int)):=zB;generalize upd T b (.lst (a.map V.int))=H1 at d1 e1 u1 ⊢;k_ne;show⟨d,_,rfl,DGet.k (k:=Sum.inl y) d1,?_⟩;rw[vJ];by_cases M:y∈e
  .rw [if_pos M];show yr (iteF ?_);k_ne;show⟨_,by rw[b2];show eE _,e,a,_,rfl,rfl,e1,d1,u1,I.nod,I.rk,λx j=>I.rd x (by rw[h];show bC _ j),λk W c g=>?_,λs1 J=>?_,I.sU,∎⟩
   .exact (I.clo k W c g).elim .inl λz=>(l z).elim .inr λz=>.inl (z▸M)
   .exact (I.one s1 J).elim .inl λz=>(l z).elim .inr λz=>.inl (z▸M)
  .rw [if_neg M];show yr (iteT ?_);k_ne;show⟨d,_,rfl,DPut.k (k:=Sum.inl y) d1 (zU (by rw[aA];lia)),?_⟩;let X:putK (e.map λk=>((Sum.inl k:Key),V.bl Sc)) (Sum.inl y) (V.bl Sc)=(e++[y]).map λk=>((Sum.inl k:Key),V.bl Sc):=by
    rw[vV _ (by rw[vJ,if_neg M]),aG];rfl
   rw[X];let d2:upd H1 d (.dK ((e++[y]).map λk=>((Sum.inl k:Key),V.bl Sc))) d=Sa (.dK ((e++[y]).map λk=>((Sum.inl k:Key),V.bl Sc))):=zB;let e2:Ext [] H (upd H1 d (.dK ((e++[y]).map λk=>((Sum.inl k:Key),V.bl Sc)))):=((e1.mo (us:=[d])).trans .pt).drop hd;let u2:upd H1 d (.dK ((e++[y]).map λk=>((Sum.inl k:Key),V.bl Sc))) b=Sa (.lst (a.map V.int)):=by rw[zC i.symm];show u1
   generalize upd H1 d (.dK ((e++[y]).map λk=>((Sum.inl k:Key),V.bl Sc)))=Y at d2 e2 u2 ⊢;let⟨Z,a0,b3⟩:=a7.mono e2.toSame;k_ne;show yD u2 ?_;k_ne;show⟨nd,rfl,.inl ⟨Z,.inl a0⟩,?_⟩;k_ne;show⟨len2 (bL _),λL b4=>?_⟩;let O:Ext [] Y (upd Y L (.lst [])):=.laid b4;let b5:upd Y L (.lst []) L=Sa (.lst []):=zB;let a3:∃(o:Option V)(c:Sf),o=valV Z (Sum.inl y)/\o.getD (.ref L)=.ref c/\upd Y L (.lst []) c=Sa (.lst ((N y).map V.int)):=by
    rcases b3 y with ⟨a1,a2⟩|⟨c,a1,a2⟩
    .exact⟨Sb,L,a1.symm,rfl,by rw[b5,a2];rfl⟩
    .exact⟨Sa (.ref c),c,a1.symm,rfl,O.k a2⟩
   let⟨o,c,eo,ec,hc⟩:=a3;generalize upd Y L (.lst [])=H3 at O hc ⊢;show⟨o,by rw[eo];show DGet.k (k:=Sum.inl y) (O.k a0),?_⟩;rw[ec];k_ne;let c0:=hN y;let n:(e++[y]).Nodup:=by
    rw[cI];show⟨I.nod,∅,λx j z hz=>?_⟩;rw[aH.mp hz];rintro rfl;show M j
   let p:∀k∈e++[y],k∈U:=λk W=>by
    rcases aN.mp W with z|z
    .exact I.sU k z
    .rw [aH.mp z];show b1
   let a4:=yv n p;rw[aF,bF]at a4;show⟨b,c,a.map V.int,(N y).map V.int,rfl,rfl,O.k u2,hc,by rw[bV,aA,aA];lia,?_⟩;show hNw_ _ _ ?_;show⟨_,?_,e++[y],a++N y,_,rfl,rfl,?_,?_,?_,n,?_,?_,?_,?_,p,?_⟩
   .rw [aF,aF,bF];lia
   .exact (((e2.trans O).mo (us:=[b])).trans .pt).drop m
   .rw [zC i];show O.k d2
   .rw [zB,aG]
   .intro x j;rcases aN.mp j with z|z
    .exact I.rk x z
    .rw [aH.mp z];show⟨s0,B,C⟩
   .intro x j;rcases aN.mp j with z|z
    .exact I.rd x (by rw[h];show bC _ z)
    .exact⟨s0,B,.step C z⟩
   .intro k W c' g;rcases aN.mp W with z|z
    .rcases I.clo k z c' g with t|t
     .exact .inl (bC _ t)
     .rcases l t with t|t
      .exact .inr (bC _ t)
      .exact .inl (by rw[t];simp)
    .rw [aH.mp z]at g;show .inr (bM _ g)
   .intro s1 J;rcases I.one s1 J with t|t
    .exact .inl (bC _ t)
    .rcases l t with t|t
     .exact .inr (bC _ t)
     .exact .inl (by rw[t];simp)
   .rw [aF,aF,bF];lia
theorem qXd{f:Sf}{e:FuncData}(F:Fun K "led_to" "led_to" sLed f e)(a:mg "list"=Sb):FnOk P w K mg base CX0 1 f e ["starts","nexts"] (jj K):=
 ⟨λd H Q E h=>h.elim ((qR6 (P:=P) (w:=w) (base:=base) F a).len d H Q E) ((qR7 (P:=P) (w:=w) (base:=base) F a).len d H Q E),
   λA b s H c g d Q E i j k l h=>h.elim ((qR6 F a).run A b s H c g d Q E i j k l) ((qR7 F a).run A b s H c g d Q E i j k l)⟩
end Fs
local macro_rules | `(tactic| walk_at "qd") => `(tactic| first | refine L2.qYn ?_ | refine L2.qV8 ?_ | refine L2.qVb ?_ | refine L2.qVc ?_ | refine L2.qVi ?_ | refine L2.qQl ?_ | refine L2.wA0 ?_ | refine L2.qV7 ?_ | refine L2.kE ?_ | refine L2.uS ?_ | refine L2.kC ?_ | walk_at "qz")
local macro_rules | `(tactic| walk_at "rf") => `(tactic| repeat (with_reducible first | (refine L2.uQ ?_; intro NN_ hNN_) | walk_at "qa" | refine L2.yu (by assumption) ?_ | refine L2.uK (by assumption) ?_ | (refine L2.uR ?_; intro NA_ NB_ hNA_ hNB_) | walk_at "qd"))
namespace Fs
open PySem L2
noncomputable abbrev qMw:Sr:=top 1
theorem qOh(F:Fun K "nexts_by" "nexts_by" qMw f fd):FnOk P w K mg base CX0 1 f fd ["steps"] (qJn K):=by
 show F.go (N:=["steps","nexts","begin","to"]) fsc ?_;rintro b1 A a6 s H vs Q E hr ⟨a,us,S,rfl,T,hD,hl,q⟩;let hu:=zk hr
 refine⟨_,(zD (yQ 1 pe_dnewK)
  (zD (zt bD rfl (zd (pv 0)) (yI (n:=2) rfl (zQ (zj 2) (zQ (zj 3) zr)))
  (zE (yT (yU bB bO bP yh (qTl (pv 1) (pv 2) (zW pa_nil) ⟨rfl,rfl,rfl,rfl⟩) (zA (pv 3) pa_nil)))))
  (zE (zK (pv 1))))),?_⟩
 dsimp only[zb,zg,zq,zo,zp];let U:=hD.len;rw[aA]at U;kd_p;show Qn λd hd=>?_;kd_p;show⟨a,rfl,⟨us,(Ext.laid (ts:=[]) hd).toSame.seq T⟩,xU (xs:=us) (λi t G=>∃(o2 o3:Option V)(e:List (Key×V)),t=[Sa (.ref a),Sa (.ref d),o2,o3]/\Ext [] H G/\G d=Sa (.dK e)/\e.length<=i/\(∀k:Int,(valV e (Sum.inl k)=Sb/\nby (S.take i) k=[])\/∃c,valV e (Sum.inl k)=Sa (.ref c)/\H c=Sb/\G c=Sa (.lst ((nby (S.take i) k).map V.int)))/\(∀(k j:Int)c,valV e (Sum.inl k)=Sa (.ref c)->valV e (Sum.inl j)=Sa (.ref c)->k=j)) ?_ ?_ ?_ ?_⟩
 .exact⟨Sb,Sb,[],rfl,.laid hd,zB,aI _,λk=>.inl ⟨rfl,rfl⟩,λk j c z=>nomatch z⟩
 .rintro i t G hi ⟨o2,o3,e,rfl,D,h,W,g,l⟩;show D.toSame.seq T
 .rintro i x t G hx ⟨o2,o3,e,rfl,D,h,W,g,l⟩ NN BB CC RR X b2 b3;let⟨dd,a7,a8⟩:=hD.get hx;let⟨p,hp,rfl⟩:=zV a7;let⟨b,rfl,hb⟩:=jp a8;let hi:i<us.length:=(aC.mp hx).1;let Y:∀k,nby (S.take (i+1)) k=nby (S.take i) k++(if p.1=k then [p.2]else []):=λk=>by
   unfold nby;rw[zY hp,cZ,aG]
   congr 1
   by_cases z:p.1=k
   .simp [z]
   .simp [z]
  show zv (D.toSame.seqT hb) rfl ?_;kd_p;show⟨d,rfl,.inl ⟨e,.inl h⟩,?_⟩;kd_p;show⟨len2 (bL _),λm u=>?_⟩;let Z:d≠m:=zG h u;let O:Ext [] G (upd G m (.lst [])):=.laid u;let I:=O.k h;let a0:upd G m (.lst []) m=Sa (.lst []):=zB;let a3:∀c o,G c=Sa o->c≠m:=λc o z=>zG z u;generalize upd G m (.lst [])=G1 at O I a0 ⊢;let E1:=D.trans O;show⟨e,Sum.inl p.1,rfl,I,zU ∎,λv J=>?_,λJ=>?_⟩
  .rcases g p.1 with ⟨z,_⟩|⟨c,L,c2,c3⟩
   .rw [z]at J;cases J
   rw[L]at J;cases J;let c4:=O.k c3;show yD c4 ?_;kd_p;let b0:(nby (S.take i) p.1).length<=i:=by
    unfold nby;rw[aA];show cH (cC _ _) ?_;rw[aY];lia
   show yd c4 (zU (by rw[aA];lia)) ?_;let a9:c≠d:=λz=>by rw[z,h]at c3;cases c3
   show yu X ⟨_,_,e,rfl,((E1.mo (us:=[c])).trans .pt).drop c2,by rw[zC a9.symm];show I,∎,λk=>?_,l⟩;rw[Y k];by_cases z:p.1=k
   .subst z;show .inr ⟨c,L,c2,?_⟩;rw[zB,if_pos rfl,aG];rfl
   .rw [if_neg z,cG];show(g k).imp id λhq_=>?_;let⟨M,r,B,R⟩:=hq_;show⟨M,r,B,?_⟩;let:M≠c:=λy=>z (l _ _ c (by rw[L]) (by rw[r,y]));rw[zC this];show O.k R
  .let e2:Ext [] H (upd G1 d (.dK (putK e (Sum.inl p.1) (.ref m)))):=((E1.mo (us:=[d])).trans .pt).drop hd;let a4:upd G1 d (.dK (putK e (Sum.inl p.1) (.ref m))) m=Sa (.lst []):=by rw[zC Z.symm];show a0
   show yD a4 ?_;kd_p;show yd a4 (zU ∅) ?_;let C:H m=Sb:=D.no u;show yu X ⟨_,_,putK e (Sum.inl p.1) (.ref m),rfl,((e2.mo (us:=[m])).trans .pt).drop C,by rw[zC Z,zB],by let:=xQ e (Sum.inl p.1) (V.ref m);lia,λk=>?_,λk j c r B=>?_⟩
   .rw [Y k,xP];by_cases z:p.1=k
    .subst z;rw[if_pos rfl,if_pos rfl];show .inr ⟨m,rfl,C,?_⟩;rcases g p.1 with ⟨_,y⟩|⟨c,L,_⟩
     .rw [zB,y];rfl
     .rw [L]at J;cases J
    .rw [if_neg z,cG,if_neg (λy=>z (gV y).symm)];show(g k).imp id λhq_=>?_;let⟨M,r,B,R⟩:=hq_;show⟨M,r,B,?_⟩;let n1:M≠m:=a3 _ _ R;let n2:M≠d:=λy=>by rw[y,h]at R;cases R
     rw[zC n1,zC n2];show O.k R
   .rw [xP]at r B;let a5:∀k:Int,valV e (Sum.inl k)=Sa (.ref m)->False:=λk y=>by
     rcases g k with ⟨z,_⟩|⟨M,z1,_,z3⟩
     .rw [z]at y;cases y
     .rw [z1]at y;cases y;show a3 _ _ z3 rfl
    split at r<;>split at B
    .next a1 a2=>show(gV a1).trans (gV a2).symm
    .cases r;show(a5 _ B).elim
    .cases B;show(a5 _ r).elim
    .exact l _ _ _ r B
 .rintro t G ⟨o2,o3,e,rfl,D,h,W,g,l⟩;rw[U,aU]at g;kd_p;show q d G hd D ⟨e,h,λk=>(g k).imp id λ⟨c,L,c2,c3⟩=>⟨c,L,c3⟩⟩
noncomputable abbrev qQ3:Sr:=top 2
theorem qR4(F:Fun K "turned" "turned" qQ3 f D):FnOk P w K mg base CX0 1 f D ["steps"] (jq K):=by
 show F.go (N:=["steps"]) fsc ?_;rintro M A y s H Z Q E O ⟨a,z,S,rfl,m,I,hl,q⟩;let hu:=zk O;show⟨_,(zE (zK (wP ["begin","to"] [] (zd (pv 0)) (λ_ _ _ _=>(wR (n:=2) K rfl rfl (zQ (zj 0) (zQ (zj 1) zr)))) (λ_ _ _ _=>.nil) (λ_ _ _ _=>(zT (zA (pv 1) (zA (pv 0) pa_nil))))))),?_⟩;dsimp only[zb,zg,zq,zo,zp];let o:=I.len;rw[aA]at o;kd_p;show⟨a,rfl,⟨z,m⟩,λj d=>?_⟩;show zn (xs:=z) (λi h G=>∃(t u:Option V)(g:List V),h=[t,u]/\Ext [j] H G/\G j=Sa (.lst g)/\DenL K (wo [j] G) (((S.take i).map tw).map pairD) g) ?_ ?_ ?_ ?_
 .exact⟨Sb,Sb,[],rfl,.laid d,zB,.nil⟩
 .rintro i h G T ⟨t,u,g,rfl,l,e,c⟩;show(l.drop d).toSame.seq m
 .rintro i x h G R J ⟨t,u,g,rfl,l,e,c⟩ U;let⟨dd,B,C⟩:=I.get J;let⟨p,W,rfl⟩:=zV B;let⟨b,rfl,X⟩:=jp C;let T:i<z.length:=(aC.mp J).1;show zv ((l.drop d).toSame.seqT X) rfl ?_;kd_p;show iteT ?_;kd_p;show⟨len2 (by change 2<=1000;decide),λv r=>?_⟩;let k:v≠j:=(zG e r).symm;let Y:g.length=i:=by rw[c.len,aA,aA,aY];lia
  let L:Ext [j] G (upd (upd G v (.tup [.int p.2,.int p.1])) j (.lst (g++[.ref v]))):=(Ext.laid r).trans .pt;show⟨g,by rw[zC k.symm];show e,zU ∎,U _ _ ⟨_,_,g++[.ref v],rfl,l.trans L,zB,?_⟩⟩;rw[zY W,aG,aG];show DenL.append (c.mono L.same) (.cons (denP (p:=tw p) (SqT.of ?_)) .nil);rw[yC (by simpa using k),zC k,zB];rfl
 .rintro h G ⟨t,u,g,rfl,l,e,c⟩;rw[o,aU]at c;show q j g G d (l.drop d) e (c.mono (xw _ _))
noncomputable abbrev qMv:Sr:=top 22
theorem qOg(F:Fun K "outside" "outside" qMv f d)(b:mg "len"=Sb):FnOk P w K mg base CX0 1 f d ["work"] (qJm K):=by
 show F.go (N:=["work"]) fsc ?_;rintro e A c s H k Q E g ⟨a,h,rfl,i,q⟩;let l:=zk g;show⟨_,(zE (zK (zT (zA (yL yM pe_int) (zA (zN yn (by rfl) b bH (zA (pv 0) pa_nil)) pa_nil))))),?_⟩;dsimp only[zb,zg,zq,zo,zp];k_ne;show⟨a,h,rfl,.inl i,?_⟩;k_ne;show⟨len2 (by change 2<=1000;decide),λt j=>q t j⟩
end Fs
local macro_rules | `(tactic| walk_at "qe") => `(tactic| first | refine L2.qWx ?_ | refine L2.qN3 ?_ | refine L2.qVj ?_ | refine L2.qZy ?_ | refine L2.qYi ?_ | refine L2.kC ?_ | refine L2.kE ?_ | walk_at "qz")
local macro_rules | `(tactic| walk_at "rg") => `(tactic| repeat (with_reducible first | (refine L2.uQ ?_; intro NN_ hNN_) | walk_at "qa" | refine L2.yu (by assumption) ?_ | refine L2.uK (by assumption) ?_ | (refine L2.uR ?_; intro NA_ NB_ hNA_ hNB_) | walk_at "qe"))
namespace Fs
open PySem L2
noncomputable abbrev iN:Sr:=top 7
theorem qWt:FnScope ["thing"] ["thing"] (za iN):=⟨rfl,rfl,rfl,by decide +kernel,rfl,by decide +kernel,by decide +kernel⟩
theorem qTx(F:Fun K "is_number" "is_number" iN f i)(a:mg "isinstance"=Sb)(c:mg "int"=Sb)(b:mg "bool"=Sb):FnOk P w K mg base CX0 1 f i ["thing"] (kY K):=by
 show F.ok qWt (λk H Q E h=>?_) (λl A g s H k Q E m h=>?_)
 .let⟨x,d,rfl,_⟩:=h;rfl
 .let⟨x,d,rfl,j,q⟩:=h;let n:=zk m;show⟨_,(zE (zK (wc (zN wY (by rfl) a (by decide +kernel) (zA (pv 0) (zA (wG (v:=.ty "int") rfl c dF rfl) pa_nil))) (xO (ir (zN wY (by rfl) a (by decide +kernel) (zA (pv 0) (zA (wG (v:=.ty "bool") rfl b PyProof.Rows.boot_bool rfl) pa_nil)))))))),?_⟩
  try dsimp only[zb,zg,zq,zo,zp]
  let e:=qHq d;fin2;show⟨x,d,"int",rfl,j,⋯,_,rfl,?_⟩;cases h:xj d "int" with
  |false=>
   rw[h,Bool.false_and]at e;rw[e]at q;show iteF q
  |true=>
   rw[h,Bool.true_and]at e;rw[e]at q;show iteT ?_;fin2;show⟨x,d,"bool",rfl,j,⋯,_,rfl,q⟩
noncomputable abbrev iO:Sr:=top 8
theorem qT6:FnScope ["thing","low","beyond"] ["thing","low","beyond"] (za iO):=⟨rfl,rfl,rfl,by decide +kernel,rfl,by decide +kernel,by decide +kernel⟩
theorem qRa(F:Fun K "is_number_from" "is_number_from" iO f c)(k:Has P w K mg base "is_number" 1 ["thing"] (kY K)):FnOk P w K mg base CX0 2 f c ["thing","low","beyond"] (qJo K):=by
 show F.ok qT6 (λl H Q E h=>?_) (λm A b s H l Q E i h=>?_)
 .let⟨x,d,lo,a,rfl,_⟩:=h;rfl
 .let⟨x,d,lo,a,rfl,j,q⟩:=h;let p:=zk i;show⟨_,(zE (zK (wc (zF k i ⋯ (zA (pv 0) pa_nil)) (xO (oF kw xG (pv 1) (pv 0) (pv 2)))))),?_⟩
  try dsimp only[zb,zg,zq,zo,zp]
  fin2;show⟨x,d,rfl,j,_,rfl,?_⟩;cases h:yx d with
  |false=>
   rw[qUc h]at q;show iteF q
  |true=>
   show iteT ?_;let⟨n,rfl⟩:=qRu h;let o:=j.ofInt;subst o;fin2;show ite2 (λg=>?_) (λg=>?_)
   .fin2;let e:fromD lo a (.int n)=decide (n<a):=by change(decide (lo<=n)&&decide (n<a))=_;rw[g,Bool.true_and]
    rw[e]at q;show q
   .let e:fromD lo a (.int n)=Sd:=by change(decide (lo<=n)&&decide (n<a))=_;rw[Bool.eq_false_iff.mpr g,Bool.false_and]
    rw[e]at q;show q
noncomputable abbrev iP:Sr:=top 4
theorem scShortest:FnScope ["starts","nexts","goals","seen","paths","at","path","to"] ["starts","nexts","goals"] (za iP):=fsc
theorem qLz(F:Fun K "shortest" "shortest" iP f fd)(c9:mg "len"=Sb):FnOk P w K mg base CX0 1 f fd ["starts","nexts","goals"] (qMm K):=by
 show F.go scShortest ?_;rintro i0 A f6 s H vs Q E hr ⟨st,nd,go,O,gs,U,N,rfl,b3,f7,f8,d0,f9,hU,hN,b9,q1,q2⟩;let hu:=zk hr
 refine⟨_,(zD (wA2 (i:=3) ["place"] [] rfl (.of rfl) scShortest.nd rfl (Or.inl rfl) (zd (pv 0)) (λ_ _ _ _=>(zj 0)) (λ_ _ _ _ =>.nil) (λ_ _ _ _=>(pv 0)) (λ_ _ _ _=>pe_bl))
  (zD (jR 4 ["place"] [] (zd (pv 0)) (λ_ _ _ _=>(zj 0)) (λ_ _ _ _=>.nil) (λ_ _ _ _=>(zW (zA (pv 0) pa_nil))))
  (zD (yQ 5 pe_int)
  (zD (we bD (zM xG (pv 5) (zN yn (by rfl) c9 bH (zA (pv 4) pa_nil)) (zR _))
  (zD (yQ 6 (zH zO (pv 4) (pv 5) (λ_ _=>rfl)))
  (zD (zl (zM xH (zH zO (pv 6) (yL yM pe_int) (λ_ _=>rfl)) (pv 2) rfl) (zE (zK (pv 6))) zc)
  (zD (zt bD rfl (zd (jE hu (pv 1) (zH zO (pv 6) (yL yM pe_int) (λ_ _=>rfl)) (zW pa_nil) ⟨rfl,rfl,rfl,rfl⟩)) (zj 7)
  (zE (zl (ud (kz hu (pv 7) (pv 3))) (zD (jA hu (pv 3) (pv 7) pe_bl rfl)
  (zE (yT (yU bB bO bP yh (pv 4) (zA (zI wn (pv 6) (zW (zA (pv 7) pa_nil))) pa_nil))))) zc)))
  (zE (qZ0 (i:=5) scShortest.nd rfl (Or.inl rfl) pe_int qZi))))))
  (zE (zK pe_non)))))),?_⟩
 dsimp only[zb,zg,zq,zo,zp];let i1:=yv b9 d0;kd_p;show⟨st,rfl,⟨_,b3⟩,λd hd=>?_⟩;show zn (xs:=O.map V.int) (λi B G=>∃(o0:Option V),B=[o0]/\Ext [d] H G/\G d=Sa (.dK ((O.take i).map λk=>((Sum.inl k:Key),V.bl Sc)))) ?_ ?_ ?_ ?_
 .exact⟨Sb,rfl,.laid hd,zB⟩
 .rintro i B G S ⟨o0,rfl,eG,a8⟩;show(eG.drop hd).toSame.seq b3
 .rintro i x B G R hx ⟨o0,rfl,eG,a8⟩ hR;let⟨k,hk,rfl⟩:=zV hx;let S:i<O.length:=(aC.mp hk).1;kd_p;show iteT ?_;kd_p;show⟨_,Sum.inl k,rfl,a8,zU (by rw[aA,aY];lia),hR _ _ ⟨_,rfl,eG.trans .pt,?_⟩⟩;let g0:k∉O.take i:=λz=>by
   let⟨j,hj,e⟩:=cE z;rw[aY]at hj;rw[List.getElem_take]at e;let:=cM.mp b9 j i ∎ S ∎;rw[aE S]at hk;show this (e.trans (bI hk).symm)
  rw[zB,vV _ (by rw[vJ,if_neg g0]),zY hk,aG];rfl
 rintro B G0 ⟨o0,rfl,eG,a8⟩;rw[aA,aU]at a8;let E0:=eG.drop hd;kd_p;show⟨st,rfl,⟨_,E0.toSame.seq b3⟩,λT a9=>?_⟩;let d2:d≠T:=zG a8 a9;let d3:H T=Sb:=E0.no a9;show zn (xs:=O.map V.int) (λi B G=>∃(o0:Option V)(L:List Sf),B=[o0]/\Ext [T] G0 G/\G T=Sa (.lst (L.map V.ref))/\L.length=i/\∀(j:Nat)w,L[j]? = Sa w->∃z,O[j]? = Sa z/\w≠T/\H w=Sb/\G w=Sa (.lst [.int z])) ?_ ?_ ?_ ?_
 .exact⟨Sb,[],rfl,.laid a9,zB,rfl,λj w z=>by simp at z⟩
 .rintro i B G S ⟨o0,L,rfl,e1,h1,hl,hw⟩;show(E0.trans (e1.drop a9)).toSame.seq b3
 .rintro i x B G R hx ⟨o0,L,rfl,e1,h1,hl,hw⟩ hR;let⟨k,hk,rfl⟩:=zV hx;let S:i<O.length:=(aC.mp hk).1;kd_p;show iteT ?_;kd_p;show⟨len2 (by change 1<=1000;decide),λp hp=>?_⟩;let c0:p≠T:=(zG h1 hp).symm;show⟨L.map V.ref,by rw[zC c0.symm];show h1,zU (by rw[aA];lia),hR _ _ ⟨_,L++[p],rfl,e1.trans ((Ext.laid hp).trans .pt),by rw[zB,aG];rfl,by rw[aF,bF];lia,λj w z=>?_⟩⟩;let c1:H p=Sb:=(E0.trans (e1.drop a9)).no hp;by_cases hj:j<L.length
  .rw [bQ hj]at z;let⟨y,y1,y2,y3,y4⟩:=hw j w z;show⟨y,y1,y2,y3,by rw[zC y2,zC (zG y4 hp)];show y4⟩
  .let g1:j=L.length:=by
    let:=(aC.mp z).1;rw[aF,bF]at this;lia
   subst g1;rw[bY (aI _),Nat.sub_self]at z;obtain rfl:p=w:=bI z;show⟨k,by rw[hl];show hk,c0,c1,by rw[zC c0,zB]⟩
 rintro B G1 ⟨i2,c2,rfl,e1,h1,hl,hw⟩;rw[aA]at hl;let E1:=E0.trans (e1.drop a9);kd_p;let I0:Bfs H d T N O U O c2 G1:=by
  show⟨E1,e1 _ _ (by simpa using d2) a8,h1,hl,λi w S=>?_,b9,d0,λ_ h=>h⟩;let⟨z,z1,z2,z3,z4⟩:=hw i w S;show⟨[z],z,z1,z3,z4,⟨[],rfl⟩,⟨z,[],rfl,aK z1⟩,λs hs=>by simp[stp]at hs,∅,λx hx=>?_⟩;rw[aH.mp hx];show aK z1
 let L0:Lns c2 (O.map λs=>[s]) G1:=⟨by rw[aA];show hl,λi w S=>by
  let⟨z,z1,_,_,z4⟩:=hw i w S
  show⟨[z],z4,by rw[aR,z1];rfl⟩⟩
 let D0:Dep N O O (dps (O.map λs=>[s])) 0:=by
  rw[show dps (O.map λs=>[s])=List.replicate O.length 0 by
   rw[List.eq_replicate_iff]
   show⟨by rw[aA,aA],λb hb=>by
    let⟨l,hl,rfl⟩:=bG.mp hb;let⟨s,_,rfl⟩:=bG.mp hl
    rfl⟩]
  show .zero
 show⟨λμ B G=>∃(i:Nat)(ks:List Int)(L:List Sf)(ps:List (List Int))(o6 o7:Option V),(Dep N O ks (dps ps) i/\Lns L ps G/\bst N gs (U.length+1-i) ks ps i=bfs N gs U O)/\μ = U.length-i/\i<=ks.length/\B=[Sa (.ref st),Sa (.ref nd),Sa (.ref go),Sa (.ref d),Sa (.ref T),Sa (.int i),o6,o7]/\Bfs H d T N O U ks L G/\Done N gs ks i,⟨_,0,O,c2,_,Sb,Sb,⟨D0,L0,rfl⟩,rfl,bL _,rfl,I0,λj k hj=>absurd hj ∎⟩,?_⟩;rintro μ B G ⟨i,ks,L,ps,o6,o7,⟨D,c3,hR⟩,rfl,i3,rfl,I,a0⟩;let i4:=yv I.nod I.sU;let h7:=I.len;kd_p;show⟨T,_,rfl,.inl (SqL.of I.hpa),?_⟩;kd_p;rw[aA];by_cases S:i<L.length
 case neg=>
  rw[decide_eq_false ∎];show iteF ?_;kd_p;show q2 (a0.all ∎ I.one) G I.ext
 rw[decide_eq_true ∎];show iteT (L2.vE (n2:=λ_ _=>True) λNw_ hNw_=>?_);let⟨l,z,hz,g2,a5,hP⟩:=I.hw i L[i] (aE S);let⟨m,rfl⟩:=hP.ls;let b4:ps[i]? = Sa (m++[z]):=by
  let⟨l',h1,h2⟩:=c3.2 i L[i] (aE S);rw[a5]at h1;rw[h2,qU9 (kX (bI h1))]
 let d4:∀{q:List (List Int)},q[i]? = Sa (m++[z])->(dps q)[i]? = Sa m.length:=λ{q}h=>by
  rw[aR,h,fO,aF,bF];rfl
 let g3:=d4 b4;let g4:z∈ks:=aK hz;let d5:∀{G:Hp}{Q:VK},G L[i]=Sa (.lst ((m++[z]).map V.int))->Q (.int z) G->rIxL K (.ref L[i]) (.int (-1)) G Q:=λ{G Q}h q=>zL (SqL.of h) (by rw[aG];show ul _ _) q;kd_p;show zL (SqL.of I.hpa) (zS (by rw[aR,aE S];rfl)) ?_;kd_p;show d5 a5 ?_;kd_p;show⟨go,_,rfl,.inr (I.ext.toSame.seqT f8),rfl,yY gs,?_⟩;rw[show(if Sd=Sc then !inV (V.int z) (gs.map V.int)else inV (V.int z) (gs.map V.int))=decide (z∈gs)from yX z gs];kd_p;by_cases hg:z∈gs
 .rw [decide_eq_true hg];show iteT ?_;let⟨a,r,e,g5⟩:=hP.ok hg;rw[e]at a5;kd_p
  show q1 _ a r G g2 I.ext a5 g5 (λs hs g g6 k hk=>by
   let h1:=D.least (gs:=gs) (λj k hj hk=>(a0 j k hj hk).1) g3 hs hk g6;let h2:=congrArg List.length e;rw[aF,bF,bK]at h2
   lia) (by rw[<-hR,show U.length+1-i=(U.length-i)+1 by lia,qXw b4 hg,e])
 rw[decide_eq_false hg];show iteF ?_;kd_p;let d6:=f7.mono I.ext.toSame;let⟨d7,d8,g7⟩:=d6;show⟨nd,rfl,.inl ⟨d7,.inl d8⟩,?_⟩;kd_p;show d5 a5 ?_;kd_p;show⟨len2 (bL _),λe0 d9=>?_⟩;let e3:Ext [] G (upd G e0 (.lst [])):=.laid d9;let g8:upd G e0 (.lst []) e0=Sa (.lst []):=zB
 let I1:Bfs H d T N O U ks L (upd G e0 (.lst [])):=⟨I.ext.trans e3,e3.k I.hd,e3.k I.hpa,I.len,λi w S=>by
  let⟨l,z,a1,a2,a3,a4⟩:=I.hw i w S
  show⟨l,z,a1,a2,e3.k a3,a4⟩,I.nod,I.sU,I.one⟩
 let b7:=e3.k a5
 let b8:Lns L ps (upd G e0 (.lst [])):=⟨c3.1,λi w S=>by
  let⟨l,h1,h2⟩:=c3.2 i w S
  show⟨l,e3.k h1,h2⟩⟩
 let e2:=e3.k d8;let h8:H e0=Sb:=I.ext.no d9;let e4:∃(o:Option V)(c:Sf),o=valV d7 (Sum.inl z)/\o.getD (.ref e0)=.ref c/\upd G e0 (.lst []) c=Sa (.lst ((N z).map V.int)):=by
  rcases g7 z with ⟨a1,a2⟩|⟨c,a1,a2⟩
  .exact⟨Sb,e0,a1.symm,rfl,by rw[g8,a2];rfl⟩
  .exact⟨Sa (.ref c),c,a1.symm,rfl,e3.k a2⟩
 let⟨o,c,eo,ec,hc⟩:=e4;let c4:∀b,b=d\/b=T->c≠b:=λb hb y=>by
  rcases hb with hb|hb<;>subst hb<;>subst y
  .rw [I1.hd]at hc;cases hc
  .rw [I1.hpa]at hc;let:=(kX (bI hc));cases X:L with
   |nil=>rw[X]at S;show absurd S ∅
   |cons w0 wr=>
    rw[X]at this;cases e5:N z with
    |nil=>rw[e5]at this;simp at this
    |cons n nr=>rw[e5]at this;simp at this
 generalize upd G e0 (.lst [])=G2 at I1 b7 b8 e2 hc;show⟨o,by rw[eo];show DGet.k (k:=Sum.inl z) e2,?_⟩;rw[ec];show⟨c,rfl,⟨_,SqL.of hc⟩,xU (xs:=(N z).map V.int) (λj B G=>∃(ks':List Int)(u:List Sf)(C:List (List Int))(o7:Option V),(Dep N O ks' (dps C) i/\Lns u C G/\C[i]? = Sa (m++[z])/\((N z).take j).foldl (bstep (m++[z])) (ks,ps)=(ks',C))/\B=[Sa (.ref st),Sa (.ref nd),Sa (.ref go),Sa (.ref d),Sa (.ref T),Sa (.int i),Sa (.ref L[i]),o7]/\Bfs H d T N O U ks' u G/\(∃more,ks'=ks++more)/\G L[i]=Sa (.lst ((m++[z]).map V.int))/\G c=Sa (.lst ((N z).map V.int))/\∀y∈(N z).take j,y∈ks') ?_ ?_ ?_ ?_⟩
 .exact⟨ks,L,ps,_,⟨D,b8,b4,rfl⟩,rfl,I1,⟨[],∅⟩,b7,hc,λy hy=>by simp at hy⟩
 .rintro j B G3 hj ⟨ks',u,C,e6,⟨D',W,Y,b0⟩,rfl,J,_,_,b2,_⟩;show SqL.of b2
 .rintro j x B G3 hx ⟨ks',u,C,e6,⟨D',W,Y,b0⟩,rfl,J,⟨more,v⟩,b5,b2,b1⟩ NN BB CC RR g9 i5 i6;let⟨y,hy,rfl⟩:=zV hx;let e7:y∈N z:=aK hy;let e8:z∈ks':=by rw[v];show bC _ g4
  let e9:=yv J.nod J.sU;let a6:=J.len;kd_p;show⟨d,_,rfl,DGet.k (k:=Sum.inl y) J.hd,?_⟩;rw[vJ];by_cases Z:y∈ks'
  .rw [if_pos Z];show yr (iteF ?_);kd_p;show⟨ks',u,C,_,⟨D',W,Y,by rw[zY hy,List.foldl_append,b0,gD,List.foldl_nil,bstep,if_pos Z]⟩,rfl,J,⟨more,v⟩,b5,b2,λx hx=>?_⟩;rw[zY hy]at hx;rcases aN.mp hx with hx|hx
   .exact b1 x hx
   .rw [aH.mp hx];show Z
  .rw [if_neg Z];show yr (iteT ?_);kd_p;show⟨d,_,rfl,DPut.k (k:=Sum.inl y) J.hd (zU (by rw[aA];lia)),?_⟩;rw[vV _ (by rw[vJ,if_neg Z]),show(ks'.map λk=>((Sum.inl k:Key),V.bl Sc))++[(Sum.inl y,V.bl Sc)]=(ks'++[y]).map λk=>((Sum.inl k:Key),V.bl Sc)by rw[aG];rfl];let f0:∀w o,G3 w=Sa (.lst o)->w≠d:=λw o h y=>by rw[y,J.hd]at h;cases h
   let d1:upd G3 d (.dK ((ks'++[y]).map λk=>((Sum.inl k:Key),V.bl Sc))) d=Sa (.dK ((ks'++[y]).map λk=>((Sum.inl k:Key),V.bl Sc))):=zB;let x1:Ext [d] G3 (upd G3 d (.dK ((ks'++[y]).map λk=>((Sum.inl k:Key),V.bl Sc)))):=.put ∅;generalize upd G3 d (.dK ((ks'++[y]).map λk=>((Sum.inl k:Key),V.bl Sc)))=G4 at d1 x1 ⊢;let l1:∀w o,G3 w=Sa (.lst o)->G4 w=Sa (.lst o):=λw o h=>x1 _ _ (by simpa using f0 w o h) h;kd_p;show yD (l1 _ _ J.hpa) ?_;kd_p;show⟨len2 (by change 1<=1000;decide),λt ht=>?_⟩;let x2:Ext [] G4 (upd G4 t (.lst [.int y])):=.laid ht;let t2:upd G4 t (.lst [.int y]) t=Sa (.lst [.int y]):=zB;generalize upd G4 t (.lst [.int y])=G5 at x2 t2 ⊢
   let h9:(m++[z]).length<=100:=by
    let:=yv hP.nd hP.ks;lia
   show⟨L[i],t,_,_,rfl,rfl,x2.k (l1 _ _ b5),t2,len2 (by rw[aA];change _+1<=1000;lia),λp hp=>?_⟩;let x3:Ext [] G5 (upd G5 p (.lst ((m++[z]).map V.int++[.int y]))):=.laid hp;let p3:upd G5 p (.lst ((m++[z]).map V.int++[.int y])) p=Sa (.lst ((m++[z]).map V.int++[.int y])):=zB;let pd:p≠d:=(zG (x2.k d1) hp).symm;let f1:p≠T:=(zG (x2.k (l1 _ _ J.hpa)) hp).symm;let f2:G3 p=Sb:=x1.none (by simpa using pd) (x2.no hp);let c1:H p=Sb:=J.ext.no f2;generalize upd G5 p (.lst ((m++[z]).map V.int++[.int y]))=G6 at x3 p3 ⊢;let c5:=x2.trans x3;kd_p;let f3:=c5.k (l1 _ _ J.hpa);show yd f3 (zU (by rw[aA];lia)) ?_;let xF:Ext [d,T] G3 (upd G6 T (.lst (u.map V.ref++[.ref p]))):=(x1.mo).trans ((c5.mo).trans .pt)
   let a7:∀w o,w≠T->G3 w=Sa (.lst o)->upd G6 T (.lst (u.map V.ref++[.ref p])) w=Sa (.lst o):=λw o hn h=>xF _ _ (by simp[hn,f0 w o h]) h;let f4:∀(i:Nat)(w:Sf)(l:List Int),u[i]? = Sa w->G3 w=Sa (.lst (l.map V.int))->w≠T:=λi w l S h y=>by
    subst y;rw[J.hpa]at h;let:=kX (bI h);cases X:u with
    |nil=>rw[X]at S;simp at S
    |cons w0 wr=>
     rw[X]at this;cases l with
     |nil=>simp at this
     |cons n nr=>simp at this
   let b6:∀x∈ks',x∈ks'++[y]:=λx hx=>bC _ hx;let h0:y∈U:=f9 z (J.sU z e8) y e7;let h3:=W.1
   let Lp:Lns (u++[p]) (C++[(m++[z])++[y]]) (upd G6 T (.lst (u.map V.ref++[.ref p]))):=⟨by rw[aF,aF,h3];rfl,λi' w M=>by
    by_cases c6:i'<u.length
    .rw [bQ c6]at M;let⟨l',a1,a2⟩:=W.2 i' w M;show⟨l',a7 _ _ (f4 _ _ _ M a1) a1,vM a2⟩
    .let c7:i'=u.length:=by
      let:=(aC.mp M).1;rw[aF,bF]at this;lia
     subst c7;rw[bY (aI _),Nat.sub_self]at M;obtain rfl:p=w:=bI M;show⟨(m++[z])++[y],by rw[zC f1,p3,aG (l₂:=[y])];rfl,?_⟩
     rw[bY ∎,show u.length-C.length=0 by lia];rfl⟩
   let Dp:Dep N O (ks'++[y]) (dps (C++[(m++[z])++[y]])) i:=by
    rw[show dps (C++[(m++[z])++[y]])=dps C++[m.length+1]by
     rw[dps,aG,bJ,fW,aF,aF];rfl]
    show D'.add (d4 Y) y
   show yu g9 ⟨ks'++[y],u++[p],C++[(m++[z])++[y]],_,⟨Dp,Lp,vM Y,by rw[zY hy,List.foldl_append,b0,gD,List.foldl_nil,bstep,if_neg Z]⟩,rfl,⟨?_,?_,?_,?_,λi' w M=>?_,?_,?_,λs hs=>b6 s (J.one s hs)⟩,⟨more++[y],by rw[v,fR]⟩,?_,?_,λx hx=>?_⟩
   .exact ((J.ext.mo (us:=[d,T])).trans xF).drop hd |>.drop d3
   .rw [zC d2];show c5.k d1
   .rw [zB,aG];rfl
   .rw [aF,aF,a6];rfl
   .by_cases c6:i'<u.length
    .rw [bQ c6]at M;let⟨l',z',a1,a2,a3,a4⟩:=J.hw i' w M;show⟨l',z',by rw[bQ ∎];show a1,a2,a7 _ _ (f4 _ _ _ M a3) a3,a4.mono b6⟩
    .let c7:i'=u.length:=by
      let:=(aC.mp M).1;rw[aF,bF]at this;lia
     subst c7;rw[bY (aI _),Nat.sub_self]at M;obtain rfl:p=w:=bI M;show⟨(m++[z])++[y],y,by rw[a6,bY (aI _),Nat.sub_self];rfl,c1,?_,?_⟩
     .rw [zC f1,p3,aG (l₂:=[y])];rfl
     .exact (hP.mono (ks':=ks') λx hx=>by rw[v];show bC _ hx).more e7 Z b6 ∅
   .rw [cI];show⟨J.nod,∅,λx hx w hw e=>?_⟩;rw[aH.mp hw]at e;show Z (e▸hx)
   .intro k hk;rcases aN.mp hk with hk|hk
    .exact J.sU k hk
    .rw [aH.mp hk];show h0
   .refine a7 _ _ ?_ b5;intro y;let e:=I.hpa;rw[<-y,a5]at e;let:=kX (bI e);cases X:L with
    |nil=>rw[X]at S;show absurd S ∅
    |cons w0 wr=>
     let:(List.map V.int (m++[z])).head? = (List.map V.ref L).head?:=by rw[this]
     rw[X]at this;cases m<;>simp at this
   .exact a7 _ _ (c4 T (.inr rfl)) b2
   .rw [zY hy]at hx;rcases aN.mp hx with hx|hx
    .exact b6 x (b1 x hx)
    .rw [aH.mp hx];simp
 .rintro B G3 ⟨ks',u,C,e6,⟨D',W,Y,b0⟩,rfl,J,⟨more,v⟩,b5,b2,b1⟩;rw[aA,aU]at b1;kd_p;show⟨_,rfl,?_⟩;kd_p;show⟨_,_,rfl,rfl,?_⟩;let e9:=yv J.nod J.sU;let i7:ks.length<=ks'.length:=by rw[v,aF];lia
  let a6:=J.len;kd_p;let h4:ks'[i]? = Sa z:=by
   rw[v,bQ ∎];show hz
  rw[aA,aU]at b0;let h5:bst N gs (U.length+1-(i+1)) ks' C (i+1)=bfs N gs U O:=by
   rw[<-hR,show U.length+1-i=(U.length+1-(i+1))+1 by lia,qZt b4 hg b0]
  show⟨U.length-(i+1),∎,i+1,ks',u,C,_,_,⟨D'.next h4 b1,W,h5⟩,rfl,∎,rfl,J,λj k hj hk=>?_⟩;let f5:∀x∈ks,x∈ks':=λx hx=>by rw[v];show bC _ hx
  let c8:ks[j]? = Sa k:=by
   rw[v,bQ ∎]at hk;show hk
  by_cases h6:j=i
  .subst h6;rw[hz]at c8;cases c8;show⟨hg,b1⟩
  .let⟨a1,a2⟩:=a0 j k ∎ c8;show⟨a1,λy hy=>f5 y (a2 y hy)⟩
noncomputable abbrev qMu:Sr:=top 23
theorem qOd(F:Fun K "why_none" "why_none" qMu f fd)(a1:Has P w K mg base "busy" 6 ["works","number","box"] (jo K))(a2:Has P w K mg base "shortest" 1 ["starts","nexts","goals"] (qMm K))(a3:Has P w K mg base "nexts_by" 1 ["steps"] (qJn K))(a4:Has P w K mg base "outside" 1 ["work"] (qJm K))(a5:Has P w K mg base "turned" 1 ["steps"] (jq K)):FnOk P w K mg base CX0 7 f fd ["works","number","box","shut"] (iE K):=by
 show F.go (N:=["works","number","box","shut","path"]) fsc ?_;rintro c5 A a6 s H vs Q E L ⟨wa,sl,n,x,ws,j,S,rfl,c,q1,q2⟩;let hu:=zk L
 refine⟨_,(zD (yQ 4 (zF a2 L ⋯ (zA (zF a1 L ⋯ (zA (pv 0) (zA (pv 1) (zA (pv 2) pa_nil)))) (zA (zF a3 L ⋯ (zA (zI wn (pv 3) (zF a5 L ⋯ (zA (pv 3) pa_nil))) pa_nil)) (zA (zF a4 L ⋯ (zA (zH zO (pv 0) (pv 1) (λ_ _=>rfl)) pa_nil)) pa_nil)))))
  (zE (zK (xo (zM oC (pv 4) pe_non (zR _)) pe_non (yP ym (pv 4) yN (yO (yL yM pe_int))))))),?_⟩
 try dsimp only[zb,zg,zq,zo,zp]
 let⟨m,a7,c6,o⟩:=c.ok.all j (aK c.at_);let⟨a',vs,ea,a8,a9⟩:=c.hW.ofList;cases ea;let⟨vw,b0,b1⟩:=a9.get' (i:=n) (d:=workD j) (by rw[aR,c.at_];rfl);let⟨wb,bs,rfl,b2,O⟩:=b1.ofList;let b3:bs.length=j.length:=by rw[O.len,aA]
 let c7:=o.len;let u:=ju o a7;let⟨B,R,e⟩:=c.sl;let b4:=e.len;rw[aA]at b4;let c8:=c.sn;k_ne;show⟨wa,ws,n,j,x,rfl,c.hW,c.ok,c.at_,λst ss H1 c9 e1 T b5 U g=>?_⟩;k_ne;let C:=e1.k R;show⟨sl,B,S,rfl,SqL.of C,e.mono e1.toSame,∎,λl2 u2 V d0 e2 h2 d2=>?_⟩;let b6:=d2.len;rw[aA,aA]at b6;show⟨sl,l2,B,u2,rfl,rfl,e2.k C,h2,len2 ∎,λM b7=>?_⟩;let W:Ext [] V (upd V M (.lst (B++u2))):=.laid b7;let h3:upd V M (.lst (B++u2)) M=Sa (.lst (B++u2)):=zB;let d3:DenL K (upd V M (.lst (B++u2))) ((ties S).map pairD) (B++u2):=by
  unfold ties;rw[aG];show DenL.append (e.mono (e1.trans (e2.trans W)).toSame) (d2.mono W.toSame)
 generalize upd V M (.lst (B++u2))=H3 at W h3 d3 ⊢;let c4:(ties S).length<=200:=by unfold ties;rw[aF,aA];lia
 show⟨M,_,ties S,rfl,SqL.of h3,d3,∎,λnd H4 d1 e4 b8=>?_⟩;let E4:=e1.trans (e2.trans (W.trans e4));k_ne;show zL (E4.toSame.seq a8) (zS b0) ?_;k_ne;show⟨wb,bs,rfl,E4.toSame.seq b2,λt X=>?_⟩;let x5:Ext [] H4 (upd H4 t (.tup [.int (-1),.int bs.length])):=.laid X;let h5:upd H4 t (.tup [.int (-1),.int bs.length]) t=Sa (.tup [.int (-1),.int bs.length]):=zB;generalize upd H4 t (.tup [.int (-1),.int bs.length])=H5 at x5 h5 ⊢;rw[b3]at h5;let E5:=E4.trans x5;let Y:=(e2.trans (W.trans (e4.trans x5))).k T;let b9:∀v∈ties S,v.1∈univ j.length/\v.2∈univ j.length:=λv hv=>by
  unfold ties at hv;rcases aN.mp hv with z|z
  .exact u v (c.sW v z)
  .let⟨s,D,rfl⟩:=bG.mp z;let:=u s (c.sW s D);show⟨this.2,this.1⟩
 show⟨st,nd,t,ss,[-1,(j.length:Int)],univ j.length,_,rfl,SqL.of Y,b8.mono x5.toSame,SqT.of h5,λs D=>?_,js b9,by rw[qSy];lia,λy=>cH (qXj y) ∎,U,λl a r H' d4 q hl Z c0 c1=>?_,λc2 H' q=>?_⟩
 .let:=vL o ((g s).mp D);rw[wX];lia
 .k_ne;show⟨rfl,?_⟩;rw[decide_eq_false (by intro z;cases z)];k_ne;show iteF ?_;k_ne;show⟨_,rfl,?_⟩;show⟨l,_,rfl,SqL.of hl,λp hp=>?_⟩;let c3:H p=Sb:=(E5.trans q).no hp;let G:a::r≠[]:=by simp
  let I:=Z.ls;let h:(a::r).dropLast++[(a::r).getLast G]=a::r:=List.dropLast_concat_getLast G;let a0:(a::r).dropLast.length=r.length:=by rw[List.length_dropLast];rfl
  let J:=(g a).mp Z.hd;let d5:=vL o J;show q2 ss (a::r).dropLast ((a::r).getLast G) p _ c3 ((E5.trans q).trans (.laid hp)) ?_ ⟨b5,U,g,by rw[h];show c1,tg_iff.mp I,by rw[h];show Z.st,by rw[h];show Z.nd,?_,?_⟩
  .rw [zB,qUm,List.map_dropLast]
  .cases r with
   |nil=>
    let h1:=tg_iff.mp I;let h2:a = -1\/a=(j.length:Int):=h1;lia
   |cons b r=>show⟨a,_,rfl,J⟩
  .rw [a0];show⟨⟨a,_,J,tg_iff.mp I,iD Z.st⟩,λs t k D X hk=>c0 s ((g s).mpr D) t (tg_iff.mpr X) k hk⟩
 .k_ne;show⟨rfl,?_⟩;rw[decide_eq_true rfl];k_ne;show iteT ?_;k_ne;show q1 (λs D y hy X=>c2 s ((g s).mpr D) y hy (tg_iff.mpr X)) H' (E5.trans q)
end Fs
local macro_rules | `(tactic| walk_at "qf") => `(tactic| first | refine L2.yV ?_ | (refine L2.qVf ?_; intro B1_ B2_ B3_ B4_ B5_ B6_ B7_ hB1_ hB2_ hB3_ hB4_ hB5_ hB6_ hB7_) | (refine L2.qVg ?_; intro B1_ B2_ B3_ B4_ hB1_ hB2_ hB3_ hB4_) | (refine L2.qVh ?_; intro B1_ B2_ hB1_ hB2_) | refine L2.Qi ?_ | (refine L2.qYj ?_; intro S_) | refine L2.Qj ?_ | refine L2.Qk ?_ | refine L2.uz ?_)
local macro_rules | `(tactic| walk_at "qg") => `(tactic| first | refine L2.wA0 ?_ | (refine L2.qYl ?_; intro TB_ hTB_; refine L2.qYm ?_) | walk_at "qz")
local macro_rules | `(tactic| walk_at "rh") => `(tactic| repeat (with_reducible first | (refine L2.qV9 ?_; intro NN_ hNN_) | (refine L2.uQ ?_; intro NN_ hNN_) | walk_at "qf" | refine L2.yu (by assumption) ?_ | refine L2.qZm (by assumption) ?_ | refine L2.uK (by assumption) ?_ | (refine L2.uR ?_; intro NA_ NB_ hNA_ hNB_) | walk_at "qg"))
local macro_rules | `(tactic| walk_at "zs") => `(tactic| repeat (with_reducible first | (refine L2.qVf ?_; intro B1_ B2_ B3_ B4_ B5_ B6_ B7_ hB1_ hB2_ hB3_ hB4_ hB5_ hB6_ hB7_) | (refine L2.qVg ?_; intro B1_ B2_ B3_ B4_ hB1_ hB2_ hB3_ hB4_) | (refine L2.qVh ?_; intro B1_ B2_ hB1_ hB2_) | (refine L2.qV9 ?_; intro NN_ hNN_) | (refine L2.uQ ?_; intro NN_ hNN_) | (refine L2.qYj ?_; intro S_) | refine L2.yu (by assumption) ?_ | refine L2.qZm (by assumption) ?_ | refine L2.uz ?_ | (refine L2.uR ?_; intro NA_ NB_ hNA_ hNB_)))
namespace Fs
open PySem L2
local macro_rules|`(tactic|k_in)=>`(tactic|(show iteT ?_;z_go))
local macro_rules|`(tactic|kj_on)=>`(tactic|(show⟨_,rfl,?_⟩))
local macro_rules|`(tactic|kt_k)=>`(tactic|(show iteF ?_;z_go))
local macro_rules|`(tactic|cbv)=>`(tactic|(show iteF (iteF ?_);z_go))
local macro_rules|`(tactic|kt_le)=>`(tactic|(show iteT (iteT ?_);z_go))
local macro_rules|`(tactic|kl_no)=>`(tactic|(z_go;show⟨_,_,rfl,?_⟩))
local macro_rules|`(tactic|k_dec)=>`(tactic|(show iteF ?_))
local macro_rules|`(tactic|k_put)=>`(tactic|(z_go;show xC ?_))
noncomputable abbrev iQ:Sr:=top 25
theorem scShows:FnScope ["works","number","box","shut","thing","many","ties"] ["works","number","box","shut","thing"] (za iQ):=⟨rfl,rfl,rfl,by decide +kernel,rfl,by decide +kernel,by decide +kernel⟩
theorem qTr(F:Fun K "shows_none" "shows_none" iQ f fd)(a3:mg "all"=Sb)(I:mg "len"=Sb)(b1:mg "set"=Sb)(b2:mg "zip"=Sb)(a8:mg "list"=Sb)(b3:mg "isinstance"=Sb)(c8:Has P w K mg base "is_number_from" 2 ["thing","low","beyond"] (qJo K))(c9:Has P w K mg base "busy" 6 ["works","number","box"] (jo K))(d1:Has P w K mg base "turned" 1 ["steps"] (jq K)):FnOk P w K mg base CX0 7 f fd ["works","number","box","shut","thing"] (qPo K):=by
 show F.go scShows ?_;rintro g1 A d3 s H vs Q E hr ⟨wa,sl,n,x,ws,c,S,v,d,rfl,J,hd,L,q⟩;let hu:=zk hr
 refine⟨_,(zD (zZ (i:=5) scShows.nd rfl (Or.inr rfl) (zN (yR K rfl) (by rfl) I bH (zA (zH zO (pv 0) (pv 1) (λ_ _=>rfl)) pa_nil)))
   (zD (zl (PW.pt (yi (xA (zw K rfl (zN wY (by rfl) b3 (by decide +kernel) (zA (pv 4) (zA (wG (v:=.ty "list") rfl a8 cJ rfl) pa_nil))) (λ_=>rfl))) (yi (xA (zw K rfl (pv 4) (λ_=>rfl))) (yz (xA (zw K rfl (zN (uT hr.hd) (by rfl) a3 (by decide +kernel) (zA (yK ["at"] [5] rfl (.of rfl) (zd (pv 4)) (λ_ _ _ _=>(zJ (i:=0) (by change(((["at","many"]:List Str))).Nodup;decide) rfl (Or.inl rfl))) (λ_ _ _ _=>.nil) (λ_ _ _ _=>(zF c8 hr ⋯ (zA (pv 0) (zA pe_int (zA (pv 1) pa_nil)))))) pa_nil)) (λ_=>rfl))))))) (zE (zK pe_bl)) zc)
   (zD (zl (PW.pt (yi (zM xr (zN qSg (by rfl) I bH (zA (yB (kM hr.hd) (by rfl) b1 gK (zA (pv 4) pa_nil)) pa_nil)) (zN (yR K rfl) (by rfl) I bH (zA (pv 4) pa_nil)) (zR _)) (yz (zM (wS K rfl) (zH zO (pv 4) pe_int (λ_ _=>rfl)) (zF c9 hr ⋯ (zA (pv 0) (zA (pv 1) (zA (pv 2) pa_nil)))) rfl)))) (zE (zK pe_bl)) zc)
   (zD (zZ (i:=6) scShows.nd rfl (Or.inr rfl) (zI wn (pv 3) (zF d1 hr ⋯ (zA (pv 3) pa_nil))))
   (zD (zl (xA (zw K rfl (zN (uT hr.hd) (by rfl) a3 (by decide +kernel) (zA (yK ["step"] [6] rfl (.of rfl) (qX2 rfl b2 (zA (pv 4) (zA (yP ym (pv 4) (yO pe_int) yN) pa_nil))) (λ_ _ _ _=>(zJ (i:=0) (by change(((["step","ties"]:List Str))).Nodup;decide) rfl (Or.inl rfl))) (λ_ _ _ _=>.nil) (λ_ _ _ _=>(zu (inP K rfl hu) (pv 0) (pv 1) rfl))) pa_nil)) (λ_=>rfl))) (zE (zK pe_bl)) zc)
   (zE (zK (ue (zu (inP K rfl hu) (zT (zA (zH zO (pv 4) (yL yM pe_int) (λ_ _=>rfl)) (zA (yL yM pe_int) pa_nil))) (pv 6) rfl) (xO (zu (inP K rfl hu) (zT (zA (zH zO (pv 4) (yL yM pe_int) (λ_ _=>rfl)) (zA (pv 5) pa_nil))) (pv 6) rfl)))))))))),?_⟩
 try dsimp only[zb,zg,zq,zo,zp]
 let⟨m,b4,g2,a9⟩:=J.ok.all c (aK J.at_);let⟨a',vs,ea,d4,d9⟩:=J.hW.ofList;cases ea;let⟨vw,e0,e3⟩:=d9.get' (i:=n) (d:=workD c) (by rw[aR,J.at_];rfl);let⟨wb,bs,rfl,e4,b5⟩:=e3.ofList;let e5:bs.length=c.length:=by rw[b5.len,aA]
 let g3:=a9.len;let⟨ts,b6,M⟩:=J.sl;let e6:=M.len;rw[aA]at e6;let g4:=J.sn;let o:(∀y,d=intsD y->¬RowT S (BusyP ws n c x) c.length y)->∀D,Ext [] H D->Q (.bl Sd) D:=λh D e=>q Sd D e ⟨(λz=>by cases z),λ⟨y,t,r⟩=>absurd r (h y t)⟩;z_go;show zL d4 (zS e0) ?_;z_go;show⟨wb,bs,rfl,.inl e4,?_⟩;rw[e5];z_go;show⟨_,d,_,rfl,hd,⋯,?_⟩;kj_on;cases hk:xj d "list" with
 |false=>
  kt_le;show o (λy z=>by rw[z]at hk;show absurd hk (by change ¬(Sc||_)=Sd;simp)) H (.refl _ _)
 |true=>
  k_dec;let⟨ds,rfl⟩:=qKs hk;let⟨ta,b7,rfl,N,U⟩:=hd.ofList;let b8:=L _ rfl;let b0:=U.len;z_go;show⟨_,.inl ⟨b7,N,rfl⟩,?_⟩;cases b7 with
  |nil=>
   kt_le;cases ds with
   |nil=>show o (λy t r=>by
     let⟨a,l,e,_⟩:=r.hd
     rw[e]at t;cases t) H (.refl _ _)
   |cons d0 g5=>cases b0
  |cons v0 vr=>
   kt_k;show⟨ta,rfl,⟨_,N⟩,λlc W=>?_⟩;show zn (xs:=v0::vr) (λj g G=>∃(X:Option V),g=[X,Sa (.int c.length)]/\Ext [lc] H G/\G lc=Sa (.lst ((ds.take j).map λd=>V.bl (fromD 0 c.length d)))) ?_ ?_ ?_ ?_
   .exact⟨Sb,rfl,.laid W,zB⟩
   .rintro j g G hj ⟨X,rfl,e2,T⟩;show(e2.drop W).toSame.seq N
   .rintro j y g G R t ⟨X,rfl,e2,T⟩ hR;z_go;k_in;let⟨d0,e7,hX⟩:=U.get t;let e8:=(aC.mp t).1;show⟨y,d0,_,_,rfl,hX.mono (e2.drop W).toSame,?_⟩;show⟨_,T,?_,hR _ _ ⟨_,rfl,e2.trans .pt,by rw[zB,zY e7,aG];rfl⟩⟩;rw[aA,aY,bV];lia
   .rintro g G ⟨X,rfl,e2,T⟩;z_go;rw[b0,aU]at T;let E2:=e2.drop W;let s2:=E2.toSame.seq N;let d2:=U.mono E2.toSame;show⟨lc,ds.map (fromD 0 c.length),rfl,SqL.of (by rw[dC];show T),?_⟩;kj_on;let a4:(ds.map (fromD 0 c.length)).all id=ds.all (fromD 0 c.length):=by rw[iA];rfl
    rw[a4];cases ha:ds.all (fromD 0 c.length)with
    |false=>
     k_in
     show o (λy t r=>by
      let t:ds=y.map PyData.int:=by injection t
      rw[t,from_ints.mpr r.rg]at ha
      cases ha) G E2
    |true=>
     k_dec;let⟨y,rfl,Y⟩:=iF d2 (qOp ha);let b9:=from_ints.mp ha;rw[Y]at s2;rw[aA]at b8;let f0:y≠[]:=λz=>by rw[z]at Y;cases Y
     let o:¬RowT S (BusyP ws n c x) c.length y->∀D,Ext [] H D->Q (.bl Sd) D:=λh=>o λy' t r=>by
      let h1:y.map PyData.int=y'.map PyData.int:=by injection t
      let T:y=y':=List.map_inj_right (λ_ _ z=>by injection z) |>.mp h1
      show h (T▸r)
     let a5:∀b:Bool,(b=Sc↔RowT S (BusyP ws n c x) c.length y)->∀D,Ext [] H D->Q (.bl b) D:=λb h D e=>q b D e (h.trans ⟨λr=>⟨y,rfl,r⟩,λ⟨y',t,r⟩=>by
      let h1:y.map PyData.int=y'.map PyData.int:=by injection t
      let T:y=y':=List.map_inj_right (λ_ _ z=>by injection z) |>.mp h1
      show T▸r⟩)
     clear hd L q hk N U b0 T a4 ha d2 Y;z_go;show⟨ta,y,rfl,s2,∎,λls f1=>?_⟩;let x3:Ext [] G (upd G ls (setO w (yF y))):=.laid f1;let h3:upd G ls (setO w (yF y)) ls=Sa (setO w (yF y)):=zB;generalize upd G ls (setO w (yF y))=G3 at x3 h3 ⊢;let E3:=E2.trans x3;let s3:=x3.toSame.seq s2;z_go;show⟨ls,_,rfl,h3,?_⟩;z_go;show⟨ta,_,rfl,.inl s3,jQ ⟨_,rfl,?_⟩⟩;rw[aA];by_cases Z:y.Nodup
     .rw [(qLe y).mpr Z,decide_eq_true rfl];k_dec;obtain⟨a,r,rfl⟩:∃a r,y=a::r:=by
       cases y with
       |nil=>show absurd rfl f0
       |cons a r=>show⟨a,r,rfl⟩
      z_go;show zL s3 (show atI ((a::r).map V.int) 0=Sa (.int a)from zS (j:=0) rfl) ?_;z_go;show⟨wa,ws,n,c,x,rfl,J.hW.mono E3.toSame,J.ok,J.at_,λst ss H4 c0 x4 c1 g6 g7 c2=>?_⟩;let E4:=E3.trans x4;let s4:=x4.toSame.seq s3;show⟨st,_,rfl,.inl (SqL.of c1),rfl,yY _,?_⟩;rw[if_pos rfl,yX];kj_on;by_cases a0:a∈ss
      .rw [decide_eq_true a0];k_dec;let hB:=(c2 a).mp a0;obtain⟨i,z,a1⟩:∃i z,a::r=i++[z]:=by
        rcases fJ (a::r)with z|⟨i,z,e⟩
        .cases z
        .exact⟨i,z,by rw[e,fK]⟩
       let c3:atI ((a::r).map V.int) (-1)=Sa (.int z):=by rw[a1,aG];show ul _ _
       z_go;let a6:=E4.k b6;show⟨sl,ts,S,rfl,SqL.of a6,M.mono E4.toSame,∎,λl2 u2 H5 g8 x5 h5 d5=>?_⟩;let f2:=d5.len;rw[aA,aA]at f2;show⟨sl,l2,ts,u2,rfl,rfl,x5.k a6,h5,len2 ∎,λl3 f3=>?_⟩;let x6:Ext [] H5 (upd H5 l3 (.lst (ts++u2))):=.laid f3;let h6:SqL K (upd H5 l3 (.lst (ts++u2))) l3 (ts++u2):=SqL.of zB;let d6:DenL K (upd H5 l3 (.lst (ts++u2))) ((ties S).map pairD) (ts++u2):=by
        unfold ties;rw[aG];show DenL.append (M.mono (E4.trans (x5.trans x6)).toSame) (d5.mono x6.toSame)
       generalize upd H5 l3 (.lst (ts++u2))=H6 at x6 h6 d6 ⊢;let E6:=E4.trans (x5.trans x6);let s6:=(x5.trans x6).toSame.seq s4;z_go;show uS ?_;z_go;show⟨1,rfl,?_⟩;z_go;show⟨ta,_,rfl,s6,λpz f4=>?_⟩;rw[qW5];let x7:Ext [] H6 (upd H6 pz (.lst (((a::r).map V.int).drop 1))):=.laid f4;let z7:SqL K (upd H6 pz (.lst (((a::r).map V.int).drop 1))) pz (((a::r).map V.int).drop 1):=SqL.of zB;generalize upd H6 pz (.lst (((a::r).map V.int).drop 1))=H7 at x7 z7 ⊢;let E7:=E6.trans x7;let s7:=x7.toSame.seq s6;let h7:=x7.toSame.seq h6;let d7:=d6.mono x7.toSame;let z7:SqL K H7 pz (r.map V.int):=z7;z_go;show⟨ta,pz,rfl,⟨_,s7⟩,⟨_,z7⟩,λlz a2=>?_⟩;let a7:(stp (a::r)).length=r.length:=by unfold stp;simp
       show qKm (xs:=(a::r).map V.int) (ys:=r.map V.int) ∅ (λj g C=>∃(X:Option V),g=[X,Sa (.ref l3)]/\Ext [lz] H7 C/\C lz=Sa (.lst (((stp (a::r)).take j).map λs=>V.bl (decide (s∈ties S))))) ?_ ?_ ?_ ?_
       .exact⟨Sb,rfl,.laid a2,zB⟩
       .rintro j g C hj ⟨X,rfl,e9,h9⟩;let B:=e9.drop a2;show⟨B.toSame.seq s7,B.toSame.seq z7⟩
       .rintro j y1 y2 g C pt R f5 f6 ⟨X,rfl,e9,h9⟩ f7 hR;let⟨u,f8,rfl⟩:=zV f5;let⟨v,c4,rfl⟩:=zV f6;let e8:=(aC.mp c4).1;let c0:(stp (a::r))[j]? = Sa (u,v):=by
         unfold stp;rw[gS];show⟨f8,c4⟩
        let x9:Ext [] C (upd C pt (.tup [.int u,.int v])):=.laid f7;let p9:SqP K (upd C pt (.tup [.int u,.int v])) pt (u,v):=SqT.of zB;generalize upd C pt (.tup [.int u,.int v])=G9 at x9 p9 ⊢;let c5:=(e9.drop a2).trans x9;z_go;k_in;show xD (c5.toSame.seq h7) (d7.mono c5.toSame) p9 ?_;let g9:r.length<100:=by rw[bK]at b8;lia
        show⟨_,x9.k h9,by rw[bV,aA,aY,a7];lia,hR _ _ ⟨_,rfl,e9.trans (x9.mo.trans .pt),?_⟩⟩;rw[zB,zY c0,aG];rfl
       .rintro g C ⟨X,rfl,e9,h9⟩;rw[aA,<-a7,aU]at h9;z_go;let B:=e9.drop a2;let E8:=E7.trans B;let s8:=B.toSame.seq s7;let h8:=B.toSame.seq h7;let d8:=d7.mono B.toSame;show⟨lz,(stp (a::r)).map λs=>decide (s∈ties S),rfl,SqL.of (by rw[dC];show h9),?_⟩;kj_on;let O:((stp (a::r)).map λs=>decide (s∈ties S)).all id=Sc ↔ ∀s∈stp (a::r),s∈S\/tw s∈S:=by
         rw[iA,dM];show forall_congr' λs=>forall_congr' λ_=>?_;change decide (s∈ties S)=Sc↔_;rw[decide_eq_true_iff,iG]
        cases p:((stp (a::r)).map λs=>decide (s∈ties S)).all id with
        |false=>
         k_in;show o (λr=>by rw[O.mpr r.st]at p;cases p) C E8
        |true=>
         let p:=O.mp p;k_dec;let h0:=b9 z (by rw[a1];simp);let row:((z,-1)∈ties S\/(z,(c.length:Int))∈ties S)↔RowT S (BusyP ws n c x) c.length (a::r):=by
          rw[iG,iG];constructor
          .intro h;show⟨b9,Z,⟨a,r,rfl,hB⟩,p,⟨i,z,a1,?_⟩⟩;rcases h with(h|h)|(h|h)
           .let:(0:Int)<=-1:=(uY a9 b4 _ (J.sW _ h)).2.2.1;lia
           .exact .inl h
           .exact .inr h
           .let:(c.length:Int)<c.length:=(uY a9 b4 _ (J.sW _ h)).2.1;lia
          .intro h;let⟨i',z',e',h'⟩:=h.ls;let ez:z=z':=by
            let h3:i++[z]=i'++[z']:=a1.symm.trans e';show(List.append_inj_right' h3 rfl |> List.cons.inj).1
           rw[<-ez]at h';show h'.imp .inr .inl
         z_go;show kq ?_;z_go;show zL s8 c3 ?_;z_go;show⟨len2 (by change 2<=1000;decide),λp1 f9=>?_⟩;let w1:Ext [] C (upd C p1 (.tup [.int z,.int (-1)])):=.laid f9;let c6:SqP K (upd C p1 (.tup [.int z,.int (-1)])) p1 (z,-1):=SqT.of zB;generalize upd C p1 (.tup [.int z,.int (-1)])=Ga at w1 c6 ⊢;let Ea:=E8.trans w1;z_go;show xD (w1.toSame.seq h8) (d8.mono w1.toSame) c6 ?_;kj_on;by_cases h1:(z,-1)∈ties S
         .rw [decide_eq_true h1];show iteT (a5 Sc ⟨λ_=>row.mp (.inl h1),λ_=>rfl⟩ Ga Ea)
         .rw [decide_eq_false h1];kt_k;show zL (w1.toSame.seq s8) c3 ?_;z_go;show⟨len2 (by change 2<=1000;decide),λp2 g0=>?_⟩;let w2:Ext [] Ga (upd Ga p2 (.tup [.int z,.int c.length])):=.laid g0;let c7:SqP K (upd Ga p2 (.tup [.int z,.int c.length])) p2 (z,(c.length:Int)):=SqT.of zB;generalize upd Ga p2 (.tup [.int z,.int c.length])=Gb at w2 c7 ⊢;z_go;show xD ((w1.trans w2).toSame.seq h8) (d8.mono (w1.trans w2).toSame) c7 ?_
          show a5 _ (by
           rw[decide_eq_true_iff,<-row]
           show⟨.inr,λh=>h.resolve_left h1⟩) Gb (Ea.trans w2)
      .rw [decide_eq_false a0];k_in;show o (λr=>by let⟨b,l,e,hb⟩:=r.hd;injection e with e1 e2;show a0 ((c2 a).mpr (e1▸hb))) H4 E4
     .rw [decide_eq_false (λz=>Z ((qLe y).mp ∎))];kt_le;show o (λr=>Z r.nd) G3 E3
noncomputable abbrev iR:Sr:=top 41
theorem qQ1:FnScope ["_law_thing"] ["_law_thing"] (za iR):=⟨rfl,rfl,rfl,by decide +kernel,rfl,by decide +kernel,by decide +kernel⟩
theorem qOk(F:Fun K "_law_is_whole" "_law_is_whole" iR f i)(a:mg "isinstance"=Sb)(c:mg "int"=Sb)(b:mg "bool"=Sb):FnOk P w K mg base CX0 1 f i ["_law_thing"] (kY K):=by
 show F.ok qQ1 (λk H Q E h=>?_) (λl A g s H k Q E m h=>?_)
 .let⟨x,d,rfl,_⟩:=h;rfl
 .let⟨x,d,rfl,j,q⟩:=h;let n:=zk m;show⟨_,(zE (zK (wc (zN wY (by rfl) a (by decide +kernel) (zA (pv 0) (zA (wG (v:=.ty "int") rfl c dF rfl) pa_nil))) (xO (ir (zN wY (by rfl) a (by decide +kernel) (zA (pv 0) (zA (wG (v:=.ty "bool") rfl b PyProof.Rows.boot_bool rfl) pa_nil)))))))),?_⟩
  try dsimp only[zb,zg,zq,zo,zp]
  let e:=qHq d;fin2;show⟨x,d,"int",rfl,j,⋯,_,rfl,?_⟩;cases h:xj d "int" with
  |false=>
   rw[h,Bool.false_and]at e;rw[e]at q;show iteF q
  |true=>
   rw[h,Bool.true_and]at e;rw[e]at q;show iteT ?_;fin2;show⟨x,d,"bool",rfl,j,⋯,_,rfl,q⟩
noncomputable abbrev iS:Sr:=top 32
theorem scWritten:FnScope ["_law_work","_law_found","_law_deeds","_law_end"] ["_law_work"] (za iS):=⟨rfl,rfl,rfl,by decide +kernel,rfl,by decide +kernel,by decide +kernel⟩
theorem qOb(F:Fun K "_law_written" "_law_written" iS f fd)(g:mg "sorted"=Sb)(R:mg "set"=Sb):FnOk P w K mg base CX0 1 f fd ["_law_work"] (jv K):=by
 show F.go scWritten ?_;rintro b9 A a4 s H vs Q E hr ⟨wa,u,m,a5,rfl,hW,v,hm,q⟩;let hu:=zk hr
 refine⟨_,(zD (zZ (i:=1) scWritten.nd rfl (Or.inl rfl) (zW pa_nil))
   (zD (zt bD rfl (zd (pv 0)) (yI (n:=2) rfl (zQ (zJ (i:=2) scWritten.nd rfl (Or.inl rfl)) (zQ (zJ (i:=3) scWritten.nd rfl (Or.inl rfl)) zr)))
   (zE (zZ (i:=1) scWritten.nd rfl (Or.inl rfl) (zI wn (pv 1) (yK ["_law_deed_here"] [] rfl (.of rfl) (zd (pv 2)) (λ_ _ _ _=>(zJ (i:=0) (by change(((["_law_deed_here"]:List Str))).Nodup;decide) rfl (Or.inl rfl))) (λ_ _ _ _=>.cons (zM (inK K rfl) (zH (vF K rfl) (pv 0) pe_int (λ_ _=>rfl)) (zT (zA pe_str (zA pe_str pa_nil))) rfl) .nil) (λ_ _ _ _=>(zH (vF K rfl) (pv 0) pe_int (λ_ _=>rfl))))))))
   (zE (zK (zN (qHu hr.hd) (by rfl) g fV (zA (yB (kM hr.hd) (by rfl) R gK (zA (pv 1) pa_nil)) pa_nil)))))),?_⟩
 try dsimp only[zb,zg,zq,zo,zp]
 let⟨a',vs,ea,S,T⟩:=hW.ofList;cases ea;let a6:vs.length=u.length:=by rw[T.len,aA]
 let c0:=v.len;let a7:∀y∈yk u,0<=y/\y<8:=λy h=>by
  unfold yk at h;let⟨b,U,h⟩:=cO.mp h;let⟨d,W,h⟩:=dI.mp h;let:=(v.blk b U).ds d W;cases d<;>simp[wr]at h<;>subst h<;>show⟨this.1,this.2.1⟩
 let X:∀i,(yk (u.take i)).length<=20*i:=λi=>by
  unfold yk
  induction i with
  |zero=>simp
  |succ i ih=>
   by_cases hi:i<u.length
   .rw [zY (aE hi),fZ,aF];let:=(v.blk u[i] (cN hi)).few;let h2:=dA wr u[i].ds;simp only[fU,List.flatMap_nil,cG];lia
   .rw [cY ∎];rw[cY ∎]at ih;lia
 z_go;show⟨len2 (bL _),λY a8=>?_⟩;let O:Ext [] H (upd H Y (.lst [])):=.laid a8;let h0:upd H Y (.lst []) Y=Sa (.lst []):=zB;generalize upd H Y (.lst [])=H0 at O h0 ⊢;z_go;show⟨wa,rfl,⟨_,O.toSame.seq S⟩,xU (xs:=vs) (λi a G=>∃(l:Sf)(o2 o3:Option V),a=[Sa (.ref wa),Sa (.ref l),o2,o3]/\Ext [] H0 G/\G l=Sa (.lst ((yk (u.take i)).map V.int))) ?_ ?_ ?_ ?_⟩
 .exact⟨Y,_,_,rfl,.refl _ _,h0⟩
 .rintro i a G hi ⟨l,o2,o3,rfl,J,Z⟩;show(O.trans J).toSame.seq S
 .rintro i x a G hx ⟨l,o2,o3,rfl,J,Z⟩ N_ B_ C_ R_ hN_ hC_ hR_;let⟨dd,L,a9⟩:=T.get hx;let⟨b,U,rfl⟩:=zV L;let es:Same H G:=(O.trans J).toSame;let⟨c,dl,M,ve,rfl,hc,a0,B,_⟩:=wT a9;let C:=v.blk b (aK U);let c1:=(aC.mp U).1;let c2:=X i;show zv (es.seqT hc) rfl ?_;z_go;show⟨dl,rfl,⟨M,es.seq a0⟩,λlc o=>?_⟩;show zn (xs:=M) (λj a D=>∃(o0:Option V),a=[o0]/\Ext [lc] G D/\D lc=Sa (.lst (((b.ds.take j).filterMap wr).map V.int))) ?_ ?_ ?_ ?_
  .exact⟨Sb,rfl,.laid o,zB⟩
  .rintro j a D hj ⟨o0,rfl,I,e⟩;show(I.drop o).toSame.seq (es.seq a0)
  .rintro j y a D R2 h ⟨o0,rfl,I,e⟩ a1;let⟨dd,L,b0⟩:=B.get h;let⟨d,W,rfl⟩:=zV L;let⟨p,rfl,b1⟩:=vQ b0;let hp:=(I.drop o).toSame.seqT (es.seqT b1);let c3:j<b.ds.length:=(aC.mp W).1;z_go;show yH hp (show atI _ ((0:Nat):Int)=Sa (V.str (dword d))from zS rfl) ?_;z_go;show⟨len2 (by change 2<=1000;decide),λpt b2=>?_⟩;let e6:Ext [] D (upd D pt (.tup [.str "set",.str "add"])):=.laid b2;show⟨pt,[V.str "set",.str "add"],rfl,.inr (SqT.of zB),rfl,rfl,?_⟩;rw[if_neg aL,kQ];kj_on;let N:=e6.toSame.seqT hp;let t:=e6.k e;generalize upd D pt (.tup [.str "set",.str "add"])=G6 at e6 N t ⊢
   let b3:=dA wr (b.ds.take j);rw[aY]at b3;let b4:=C.few;cases hw:(wr d).isSome with
   |true=>
    k_in;k_in;let⟨r,b5⟩:=kP d;rw[b5]at N;show yH N (show atI _ ((1:Nat):Int)=Sa (V.int (darg d))from zS rfl) ?_;show⟨_,t,zU (by rw[aA];lia),a1 _ _ ⟨_,rfl,I.trans (e6.mo.trans .pt),?_⟩⟩;rw[zB,zY W,dE,aG];simp[qXr d hw]
   |false=>
    k_dec;k_dec;let hn:wr d=Sb:=by cases z:wr d with
     |none=>rfl
     |some _=>rw[z]at hw;cases hw
    show a1 _ _ ⟨_,rfl,I.trans e6.mo,?_⟩;rw[t,zY W,dE];simp[hn]
  .rintro a D ⟨o0,rfl,I,e⟩;rw[show M.length=b.ds.length by rw[B.len,aA],aU]at e;let hf:=dA wr b.ds;let b4:=C.few;show⟨l,lc,_,_,rfl,rfl,(I.drop o).k Z,e,len2 (by rw[aA,aA];lia),λp hp=>?_⟩;z_go;show⟨p,_,_,rfl,J.trans ((I.drop o).trans (.laid hp)),?_⟩;rw[zB,zY U];simp[yk]
 .rintro a G ⟨l,o2,o3,rfl,J,Z⟩;rw[a6,aU]at Z;let b6:=X u.length;rw[aU]at b6;z_go;show⟨l,yk u,rfl,SqL.of Z,∎,λs1 b7=>?_⟩;generalize zz:upd G s1 _=G1;let ⟨x1,hs⟩:=layQq zz b7;let b8:(yF (yk u)).length<=8:=yf 8 (jd _) λy h=>a7 y ((xV _).mp h);z_go;show⟨s1,_,rfl,hs,∎,λlx nx a2 a3 c4=>?_⟩;show q lx nx _ ((O.trans (J.trans x1)).no a2) ((O.trans (J.trans x1)).trans (.laid a2)) zB (λy=>by rw[a3.mem_iff,xV]) (by rw[a3.length_eq];show b8)
noncomputable abbrev iT:Sr:=top 33
theorem scLWays:FnScope ["_law_work","_law_found","_law_block","_law_deeds","_law_end"] ["_law_work"] (za iT):=⟨rfl,rfl,rfl,by decide +kernel,rfl,by decide +kernel,by decide +kernel⟩
theorem qTt(F:Fun K "_law_ways" "_law_ways" iT f fd)(e:mg "enumerate"=Sb)(a1:mg "len"=Sb)(u:mg "sorted"=Sb):FnOk P w K mg base CX0 1 f fd ["_law_work"] (kZ K):=by
 show F.go scLWays ?_;rintro b9 A a6 s H vs Q E hr ⟨wa,d,m,a7,rfl,hW,g,hm,q⟩;let hu:=zk hr
 refine⟨_,(zD (zZ (i:=1) scLWays.nd rfl (Or.inl rfl) (zW (zA (zT (zA (yL yM pe_int) (zA pe_int pa_nil))) pa_nil)))
   (zD (zt bD rfl (xt rfl e (zA (pv 0) pa_nil)) (yI (n:=2) rfl (zQ (zJ (i:=2) scLWays.nd rfl (Or.inr rfl)) (zQ (yI (n:=2) rfl (zQ (zJ (i:=3) scLWays.nd rfl (Or.inl rfl)) (zQ (zJ (i:=4) scLWays.nd rfl (Or.inl rfl)) zr))) zr)))
   (zE (zZ (i:=1) scLWays.nd rfl (Or.inl rfl) (zI wn (pv 1) (yK ["_law_to"] [2] rfl (.of rfl) (iu (xo (zM xr (zH yW (pv 4) pe_int (λ_ _=>rfl)) pe_str (zR _)) (yP wm (pv 4) (yO pe_int) yN) (zT (zA (zN yn (by rfl) a1 bH (zA (pv 0) pa_nil)) pa_nil)))) (λ_ _ _ _=>(zJ (i:=0) (by change(((["_law_to","_law_block"]:List Str))).Nodup;decide) rfl (Or.inl rfl))) (λ_ _ _ _=>.nil) (λ_ _ _ _=>(zT (zA (pv 1) (zA (pv 0) pa_nil)))))))))
   (zE (zK (zN qM7 (by rfl) u fV (zA (pv 1) pa_nil)))))),?_⟩
 try dsimp only[zb,zg,zq,zo,zp]
 let⟨a',vs,ea,R,a2⟩:=hW.ofList;cases ea;let a3:vs.length=d.length:=by rw[a2.len,aA]
 let c0:=g.len;z_go;show⟨len2 (by change 2<=1000;decide),λC a8=>?_⟩;z_go;show⟨len2 (by change 1<=1000;decide),λl0 a4=>?_⟩;let E0:=(Ext.laid (ts:=[]) (o:=.tup [V.int (-1),.int 0]) a8).trans (.laid (o:=.lst [V.ref C]) a4);let n0:C≠l0:=zG zB a4;let d0:DenL K (upd (upd H C (.tup [V.int (-1),.int 0])) l0 (.lst [V.ref C])) ((rawTo d 0).map pairD) [V.ref C]:=by
  show .cons (.tuple (SqT.of ?_) (.cons .int (.cons .int .nil))) .nil;rw[zC n0,zB]
 let l1:upd (upd H C (.tup [V.int (-1),.int 0])) l0 (.lst [V.ref C]) l0=Sa (.lst [V.ref C]):=zB;generalize upd (upd H C (.tup [V.int (-1),.int 0])) l0 (.lst [V.ref C])=H1 at E0 d0 l1 ⊢;z_go;show⟨wa,rfl,⟨vs,E0.toSame.seq R⟩,vt (xs:=vs) (λi D G=>∃(l:Sf)(J:List V)(o2 o3 o4:Option V),D=[Sa (.ref wa),Sa (.ref l),o2,o3,o4]/\Ext [] H1 G/\G l=Sa (.lst J)/\DenL K G ((rawTo d i).map pairD) J) ?_ ?_ ?_ ?_⟩
 .exact⟨l0,_,_,_,_,rfl,.refl _ _,l1,d0⟩
 .rintro i D G hi ⟨l,J,o2,o3,o4,rfl,e1,hl,a⟩;show(E0.trans e1).toSame.seq R
 .rintro i x D G pt hx ⟨l,J,o2,o3,o4,rfl,e1,hl,a⟩ a9;let⟨dd,b0,b1⟩:=a2.get hx;let⟨b,hb,rfl⟩:=zV b0;let hi:i<d.length:=(aC.mp hb).1;let b2:=(g.blk b (aK hb)).ns;let S:=b2.few;let⟨c,dl,c1,ve,rfl,hc,_,_,b3⟩:=wT b1;let⟨en,wd,rfl,a5,L⟩:=jT S b3;let b4:=a.len;rw[aA]at b4;let b5:=qJy g i;let e2:Ext [] G (upd G pt (.tup [.int i,.ref c])):=.laid a9;let M:SqT K (upd G pt (.tup [.int i,.ref c])) pt [.int i,.ref c]:=SqT.of zB;let E2:=E0.trans (e1.trans e2);let T:=e2.k hl;let v:=a.mono e2.toSame;let U:=e1.trans e2;generalize upd G pt (.tup [.int i,.ref c])=N at e2 M E2 T v U ⊢
  show zv M rfl ?_;z_go;show zv (E2.toSame.seqT hc) rfl ?_;z_go;show yH (E2.toSame.seqT a5) (show atI (V.str wd::b.ns.map V.int) ((0:Nat):Int)=Sa (V.str wd)from zS rfl) ?_;z_go;show qZz ?_;z_go;let O:rawTo d (i+1)=rawTo d i++wE d.length i b.ns:=by
   change rawTo d i++wE d.length i ((d[i]?.map Blk.ns).getD [])=_;rw[hb];rfl
  by_cases I:b.ns=[]
  .rw [decide_eq_true (L.mpr I)];kt_k;show⟨wa,vs,rfl,.inl (E2.toSame.seq R),?_⟩;rw[a3];z_go;show⟨len2 (by change 1<=1000;decide),λp hp=>?_⟩;let j:Ext [] N (upd N p (.tup [V.int d.length])):=.laid hp;let h:SqT K (upd N p (.tup [V.int d.length])) p (([(d.length:Int)]:List Int).map V.int):=SqT.of zB;generalize upd N p (.tup [V.int d.length])=H3 at j h ⊢;show⟨p,rfl,⟨_,h⟩,qHk (i:=i) rfl h (by change 1<=2;decide) λlc ws G' b6 W X y=>?_⟩;let Y:=y.len;rw[aA,bF]at Y;z_go;show⟨l,lc,J,ws,rfl,rfl,(j.trans W).k T,X,len2 ∎,λq1 B=>?_⟩;z_go;show⟨q1,_,_,_,_,rfl,U.trans (j.trans (W.trans (.laid B))),zB,?_⟩
   rw[O,aG];unfold wE;rw[if_pos I];show(DenL.append (v.mono (j.trans W).toSame) y).mono (Ext.laid B).toSame
  .rw [decide_eq_false (λz=>I (L.mp z))];k_in;show⟨1,rfl,?_⟩;z_go;show jW S (E2.toSame.seqT a5) λp hp=>?_;let j:Ext [] N (upd N p (.tup (b.ns.map V.int))):=.laid hp;let h:SqT K (upd N p (.tup (b.ns.map V.int))) p (b.ns.map V.int):=SqT.of zB;generalize upd N p (.tup (b.ns.map V.int))=H3 at j h ⊢;show⟨p,rfl,⟨_,h⟩,qHk (i:=i) rfl h S λlc ws G' b6 W X y=>?_⟩;let Y:=y.len;rw[aA]at Y;z_go;show⟨l,lc,J,ws,rfl,rfl,(j.trans W).k T,X,len2 ∎,λq1 B=>?_⟩;z_go;show⟨q1,_,_,_,_,rfl,U.trans (j.trans (W.trans (.laid B))),zB,?_⟩;rw[O,aG];unfold wE;rw[if_neg I,dC]
   show(DenL.append (v.mono (j.trans W).toSame) y).mono (Ext.laid B).toSame
 .rintro D G ⟨l,J,o2,o3,o4,rfl,e1,hl,a⟩;let E1:=E0.trans e1;rw[a3]at a;let b5:=qJy g d.length;z_go;show⟨l,J,(rawTo d d.length).map tOf,rfl,SqL.of hl,Qr (λ_ _ z=>z) a,λt ht=>?_,by rw[aA];lia,λr b7 hr Z a0=>?_⟩
  .let⟨p,_,rfl⟩:=bG.mp ht;show λz=>nomatch z
  .let j:Ext [] G (upd G r (.lst (b7.map (·.1)))):=.laid hr;let⟨b8,h1,h2,h3⟩:=qJq (a.mono j.toSame) (qLs g) Z a0;let he:b8=xK d d.length:=Qq h2 (qG6 g) λp=>by rw[h3,(kN g _).mem_iff]
   rw[he]at h1;show q r _ _ (E1.no hr) (E1.trans j) zB h1
noncomputable abbrev iU:Sr:=top 34
theorem scFirst:FnScope ["_law_deeds","_law_box","_law_asking_here","_law_deed_here"] ["_law_deeds","_law_box","_law_asking_here"] (za iU):=⟨rfl,rfl,rfl,by decide +kernel,rfl,by decide +kernel,by decide +kernel⟩
theorem qTy(F:Fun K "_law_first" "_law_first" iU f R):FnOk P w K mg base CX0 1 f R ["_law_deeds","_law_box","_law_asking_here"] (qPs K):=by
 show F.go scFirst ?_;rintro a0 A C s H z Q E hr ⟨v,ak,g,as,x,rfl,h,l,D,q⟩;let hu:=zk hr
 refine⟨_,(zD (zt bD rfl (zd (pv 0)) (zJ (i:=3) scFirst.nd rfl (Or.inl rfl))
   (zD (zl (PW.pt (yi (PW.pt (yS (zM yJ (zH yW (pv 3) pe_int (λ_ _=>rfl)) pe_str (zR _)) (yy (zM yJ (zH yW (pv 3) pe_int (λ_ _=>rfl)) (pv 1) (zR _))))) (yz (PW.pt (yS (zM yJ (zH yW (pv 3) pe_int (λ_ _=>rfl)) pe_str (zR _)) (yy (zM xH (pv 1) (yP wm (pv 3) (yO pe_int) yN) rfl))))))) (zE (zK pe_str)) zc)
   (zD (zl (PW.pt (yS (zM yJ (zH yW (pv 3) pe_int (λ_ _=>rfl)) pe_str (zR _)) (yy (zM xH (pv 1) (zH zO (pv 2) (zH yW (pv 3) pe_int (λ_ _=>rfl)) (λ_ _=>rfl)) rfl)))) (zE (zK pe_str)) zc)
   (zE (zl (PW.pt (yS (zM xH (zH yW (pv 3) pe_int (λ_ _=>rfl)) (zT (zA pe_str (zA pe_str pa_nil))) rfl) (yy (zM yJ (zH yW (pv 3) pe_int (λ_ _=>rfl)) (pv 1) (zR _))))) (zE (zK pe_str)) zc)))))
   (zE (zK pe_str))),?_⟩
 try dsimp only[zb,zg,zq,zo,zp]
 let⟨S,z,rfl,o,r⟩:=h.ofList;let⟨a1,us,ea,a2,a3⟩:=l.ofList;cases ea;let I:z.length=g.length:=by rw[r.len,aA]
 z_go;show⟨S,rfl,⟨z,o⟩,xU (xs:=z) (λi c G=>∃(B:Option V),c=[Sa (.ref S),Sa (.int x),Sa (.ref ak),B]/\Ext [] H G/\yG as x g=yG as x (g.drop i)) ?_ ?_ ?_ ?_⟩
 .exact⟨_,rfl,.refl _ _,rfl⟩
 .rintro i c G T ⟨B,rfl,b,a⟩;show b.toSame.seq o
 .rintro i y c G hy ⟨B,rfl,b,a⟩ N_ B_ C_ R_ hN_ hC_ hR_;let⟨dd,J,L⟩:=r.get hy;let⟨d,U,rfl⟩:=zV J;let⟨p,rfl,M⟩:=vQ L;let W:=b.toSame.seqT M;let N:=D d (aK U);let h:g.drop i=d::g.drop (i+1):=by
   let⟨T,e⟩:=aC.mp U;rw[List.drop_eq_getElem_cons T,e]
  rw[h]at a;let O:yG as x (d::g.drop (i+1))=if fstR as x d=Sc then ("read" : Str)else if wrB x d=Sc then ("write" : Str)else yG as x (g.drop (i+1)):=rfl
  rw[O]at a;walk_at "zs";show qY5 (d:=d) (x:=x) (n:=3) (m:=1) (by with_unfolding_all rfl) (by with_unfolding_all rfl) W λX j=>?_;let t:=j.toSame.seqT W;cases u:rdB x d with
  |true=>
   k_in;let:=q X (b.trans j);rw[a,show fstR as x d=Sc by unfold fstR;rw[u];rfl,if_pos rfl]at this;show this
  |false=>
   k_dec;walk_at "zs";show qWj (d:=d) (x:=x) (as:=as) (n:=3) (m:=1) (k:=2) (by with_unfolding_all rfl) (by with_unfolding_all rfl) (by with_unfolding_all rfl) t (l.mono (b.trans j).toSame) N ?_;cases Y:uV as x d with
   |true=>
    k_in;let:=q X (b.trans j);rw[a,show fstR as x d=Sc by unfold fstR;rw[Y];simp,if_pos rfl]at this;show this
   |false=>
    k_dec;walk_at "zs";rw[show fstR as x d=Sd by unfold fstR;rw[u,Y];rfl,if_neg aL]at a;show qWi (d:=d) (x:=x) (n:=3) (m:=1) (by with_unfolding_all rfl) (by with_unfolding_all rfl) t λG2 Z=>?_;cases hw:wrB x d with
    |true=>
     k_in;let:=q G2 (b.trans (j.trans Z));rw[a,hw,if_pos rfl]at this;show this
    |false=>
     kt_k;rw[hw,if_neg aL]at a;show⟨_,rfl,b.trans (j.trans Z),a⟩
 .rintro c G ⟨B,rfl,b,a⟩;z_go;rw[I,List.drop_length]at a;let:=q G b;rw[a]at this;show this
noncomputable abbrev iV:Sr:=top 35
theorem scAwaits:FnScope ["_law_work","_law_box","_law_asking_here","_law_first_here","_law_found","_law_changed","_law_one","_law_to"] ["_law_work","_law_box","_law_asking_here"] (za iV):=⟨rfl,rfl,rfl,by decide +kernel,rfl,by decide +kernel,by decide +kernel⟩
theorem qRd(F:Fun K "_law_awaits" "_law_awaits" iV f fd)(a4:mg "len"=Sb)(a1:Has P w K mg base "_law_first" 1 ["_law_deeds","_law_box","_law_asking_here"] (qPs K))(c0:Has P w K mg base "_law_ways" 1 ["_law_work"] (kZ K)):FnOk P w K mg base CX0 2 f fd ["_law_work","_law_box","_law_asking_here"] (jy K):=by
 show F.go scAwaits ?_;rintro d8 A c3 s H vs Q E hr ⟨wa,ak,g,m,C,x,rfl,hW,o,hm,c5,q⟩;let hu:=zk hr
 refine⟨_,(zD (xZ (i:=3) ["_law_deeds","_law_end"] [1,2] rfl (.of rfl) scAwaits.nd rfl (Or.inl rfl) (zd (pv 0)) (λ_ _ _ _=>(wR (n:=2) K rfl rfl (zQ (zJ (i:=0) (by show (((["_law_deeds","_law_end","_law_box","_law_asking_here"]:List Str))).Nodup;decide) rfl (Or.inl rfl)) (zQ (zJ (i:=1) (by show (((["_law_deeds","_law_end","_law_box","_law_asking_here"]:List Str))).Nodup;decide) rfl (Or.inl rfl)) zr)))) (λ_ _ _ _ =>.nil) (λ_ _ _ _=>(zF a1 hr ⋯ (zA (pv 0) (zA (pv 2) (zA (pv 3) pa_nil))))))
   (zD (xZ (i:=4) ["_law_one"] [] rfl (.of rfl) scAwaits.nd rfl (Or.inl rfl) (zd (pv 3)) (λ_ _ _ _=>(zJ (i:=0) (by change(((["_law_one"]:List Str))).Nodup;decide) rfl (Or.inl rfl))) (λ_ _ _ _=>.nil) (λ_ _ _ _=>(zu yJ (pv 0) pe_str (zR _))))
   (zD (zZ (i:=5) scAwaits.nd rfl (Or.inl rfl) pe_bl)
   (zD (we bD (zw K rfl (pv 5) (λ_=>rfl))
   (zD (zZ (i:=5) scAwaits.nd rfl (Or.inl rfl) pe_bl)
   (zE (zt bD rfl (zd (zF c0 hr ⋯ (zA (pv 0) pa_nil))) (yI (n:=2) rfl (zQ (zJ (i:=6) scAwaits.nd rfl (Or.inl rfl)) (zQ (zJ (i:=7) scAwaits.nd rfl (Or.inl rfl)) zr)))
   (zE (zl (PW.pt (yS (zM kw pe_int (pv 6) (zR _)) (yS (zM xG (pv 7) (zN yn (by rfl) a4 bH (zA (pv 0) pa_nil)) (zR _)) (yS (zw K rfl (zH zO (pv 4) (pv 7) (λ_ _=>rfl)) (λ_=>rfl)) (yS (zM yJ (zH zO (pv 3) (pv 6) (λ_ _=>rfl)) pe_str (zR _)) (yy (xA (zw K rfl (zH zO (pv 4) (pv 6) (λ_ _=>rfl)) (λ_=>rfl))))))))) (zD (xX pe_bl (uf (pv 4) (pv 6) um))
   (zE (zZ (i:=5) scAwaits.nd rfl (Or.inl rfl) pe_bl))) zc))))))
   (zE (zK (pv 4))))))),?_⟩
 try dsimp only[zb,zg,zq,zo,zp]
 let⟨a',vs,ea,a2,a5⟩:=hW.ofList;cases ea;let a6:vs.length=g.length:=by rw[a5.len,aA]
 let d9:=o.len;obtain⟨F,D⟩:∃F:List Str,F=g.map λk=>yG C x k.ds:=⟨_,rfl⟩;z_go;show⟨wa,rfl,⟨_,a2⟩,λZ S=>?_⟩;show zn (xs:=vs) (λi e G=>∃(T o1:Option V),e=[T,o1,Sa (.int x),Sa (.ref ak)]/\Ext [Z] H G/\G Z=Sa (.lst ((F.take i).map V.str))) ?_ ?_ ?_ ?_
 .exact⟨Sb,Sb,rfl,.laid S,zB⟩
 .rintro i e G hi ⟨T,o1,rfl,e1,h1⟩;show(e1.drop S).toSame.seq a2
 .rintro i y e G R hy ⟨T,o1,rfl,e1,h1⟩ hR;let⟨dd,c6,c7⟩:=a5.get hy;let⟨b,J,rfl⟩:=zV c6;let hi:i<g.length:=(aC.mp J).1;let a7:=o.blk b (aK J);let es:Same H G:=(e1.drop S).toSame;let⟨c,dl,e0,ve,rfl,hc,c8,a8,_⟩:=wT c7;show zv (es.seqT hc) rfl ?_;z_go;k_in;show⟨_,ak,b.ds,C,x,rfl,(Den.list c8 a8).mono es,c5.mono es,a7.ds,λG2 U=>?_⟩;let a1:F[i]? = Sa (yG C x b.ds):=by
   rw[D,aR,J];rfl
  show⟨_,U.k h1,zU (by rw[aA,aY];lia),hR _ _ ⟨_,_,rfl,e1.trans (U.mo.trans .pt),?_⟩⟩;rw[zB,zY a1,aG];rfl
 rintro e G0 ⟨T,o1,rfl,e1,h1⟩;let a9:F.length=g.length:=by rw[D,aA]
 rw[a6,<-a9,aU]at h1;let E0:=e1.drop S;z_go;show⟨Z,rfl,⟨_,SqL.of h1⟩,λr a3=>?_⟩;let W:r≠Z:=(zG h1 a3).symm;let L:H r=Sb:=E0.no a3;show zn (xs:=F.map V.str) (λi e G=>∃(T:Option V),e=[T]/\Ext [r] G0 G/\G r=Sa (.lst (((F.take i).map λ(s:Str)=>decide (s="read")).map V.bl))) ?_ ?_ ?_ ?_
 .exact⟨Sb,rfl,.laid a3,zB⟩
 .rintro i e G hi ⟨T,rfl,U,h2⟩;show SqL.of (U _ _ (by simpa using W.symm) h1)
 .rintro i y e G R hy ⟨T,rfl,U,h2⟩ hR;let⟨s0,b0,rfl⟩:=zV hy;let hi:i<F.length:=(aC.mp b0).1;z_go;k_in;show kB ?_;show⟨_,h2,zU (by rw[aA,aA,aY];lia),hR _ _ ⟨_,rfl,U.trans .pt,?_⟩⟩;rw[zB,zY b0,aG,aG];rfl
 rintro e G1 ⟨T,rfl,U,h2⟩;rw[aA,aU]at h2;let c9:G1 Z=Sa (.lst (F.map V.str)):=U _ _ (by simpa using W.symm) h1;let d0:Ext [r] H G1:=E0.mo.trans U;let I0:AwI C g x (F.map λ(s:Str)=>decide (s="read")):=by
  show⟨by rw[aA,a9],λb J=>?_,λb k M hr=>?_⟩
  .rw [aR,D,aR]at J;cases M:g[b]? with
   |none=>rw[M]at J;cases J
   |some k=>
    rw[M]at J;show .read M (by simpa using J)
  .rw [aR,D,aR,M];simp[hr]
 generalize (F.map λ(s:Str)=>decide (s="read"))=B0 at h2 I0;z_go;show⟨λμ e G=>∃(bs:List Bool)(c:Bool)(o6 o7:Option V),e=[Sa (.ref wa),Sa (.int x),Sa (.ref ak),Sa (.ref Z),Sa (.ref r),Sa (.bl c),o6,o7]/\Ext [r] G1 G/\G r=Sa (.lst (bs.map V.bl))/\AwI C g x bs/\(c=Sd->∀v∈Wk g,kb C g x bs v)/\μ = 2*cntF bs+(if c=Sc then 1 else 0),⟨_,B0,Sc,_,_,rfl,.refl _ _,h2,I0,(λz=>by cases z),rfl⟩,?_⟩;rintro μ e G ⟨bs,c,o6,o7,rfl,e3,h3,I,d1,rfl⟩;let E3:Ext [] H G:=(d0.trans e3).drop L;z_go;show⟨c,rfl,?_⟩;cases c with
 |false=>
  kt_k;show q r bs G L E3 h3 I.len λb=>⟨I.aw b,λhA=>?_⟩;let:=qSk o I.len I.rd (λv hv=>d1 rfl v hv) hA;rw[bE]at this;show this
 |true=>
  show iteT (L2.vE (n2:=λ_ _=>True) λNw_ hNw_=>?_);z_go;show⟨wa,g,m,_,rfl,hW.mono E3.toSame,o,hm,λlw us G2 d2 e4 a0 b1=>?_⟩;let d3:lw≠r:=(zG h3 d2).symm;let b3:=b1.len;rw[aA]at b3;show⟨lw,rfl,⟨_,SqL.of a0⟩,xU (xs:=us) (λi e X=>∃(d:List Bool)(c:Bool)(o6 o7:Option V),e=[Sa (.ref wa),Sa (.int x),Sa (.ref ak),Sa (.ref Z),Sa (.ref r),Sa (.bl c),o6,o7]/\Ext [r] G2 X/\X r=Sa (.lst (d.map V.bl))/\AwI C g x d/\(c=Sc->cntF d<cntF bs)/\(c=Sd->d=bs/\∀v∈(Wk g).take i,kb C g x bs v)) ?_ ?_ ?_ ?_⟩
  .exact⟨bs,Sd,_,_,rfl,.refl _ _,e4.k h3,I,(λz=>by cases z),λ_=>⟨rfl,λv hv=>by simp at hv⟩⟩
  .rintro i e X hi ⟨d,c,o6,o7,rfl,B,N,O,l,p⟩;show SqL.of (B _ _ (by simpa using d3) a0)
  .rintro i y e X hy ⟨d,c,o6,o7,rfl,B,N,O,l,p⟩ N_ B_ C_ R_ hN_ hC_ hR_;let⟨v,b,hv,rfl,J⟩:=b1.pairs hy;let d4:=aK hv;let d5:SqT K X b [.int v.1,.int v.2]:=J.over B λz hz=>by
    rw[aH.mp hz];show qZb (e4.k h3)
   let b4:X Z=Sa (.lst (F.map V.str)):=B _ _ (by simpa using W.symm) (e4.k (e3 _ _ (by simpa using W.symm) c9));let EG:Ext [] H X:=(E3.mo.trans (e4.mo.trans B):Ext [r] H X).drop L;let skip:(d=bs->kb C g x bs v)->(c=Sd->d=bs/\∀u∈(Wk g).take (i+1),kb C g x bs u):=λh z=>by
    let⟨z1,z2⟩:=p z;show⟨z1,λu hu=>?_⟩;rw[zY hv]at hu;rcases aN.mp hu with hu|hu
    .exact z2 u hu
    .rw [aH.mp hu];show h z1
   show zv d5 rfl ?_;z_go;by_cases c1:0<=v.1
   case neg=>
    rw[decide_eq_false c1];cbv;show⟨d,c,_,_,rfl,B,N,O,l,skip λ_ a=>absurd a c1⟩
   rw[decide_eq_true c1];k_in;show⟨wa,vs,rfl,.inl (EG.toSame.seq a2),?_⟩;rw[a6];z_go;by_cases c2:v.2<(g.length:Int)
   case neg=>
    rw[decide_eq_false c2];cbv;show⟨d,c,_,_,rfl,B,N,O,l,skip λ_ _ a=>absurd a c2⟩
   rw[decide_eq_true c2];show iteT ?_;let⟨v1,v2⟩:=v;obtain⟨a,rfl⟩:∃a:Nat,v1=a:=⟨v1.toNat,(dD c1).symm⟩;let⟨k,M,b5⟩:=(uX o).mp ⟨d4,c2⟩;let e6:=(o.blk k (aK M)).ns.range v2 b5;obtain⟨Y,rfl⟩:∃Y:Nat,v2=Y:=⟨v2.toNat,(dD ∎).symm⟩;let d6:=(aC.mp M).1;let c2:(Y:Int)<g.length:=c2;let e7:=O.len;let gt:∀j:Nat,j<g.length->∃t,d[j]? = Sa t/\atI (d.map V.bl) (j:Int)=Sa (.bl t):=λj hj=>by
    let:d[j]? = Sa (d[j]'(by lia)):=aE _;show⟨_,this,zS (by rw[aR,this];rfl)⟩
   let⟨t2,b6,b7⟩:=gt Y ∎;let⟨t1,b8,b9⟩:=gt a d6;z_go;show zL (SqL.of N) b7 ?_;show⟨t2,rfl,?_⟩;cases t2 with
   |false=>
    cbv
    show⟨d,c,_,_,rfl,B,N,O,l,skip λz _ _ h=>by
     rw[<-z,show((a:Int),(Y:Int)).2.toNat=Y from bE Y,b6]at h;cases h⟩
   |true=>
    k_in
    let d7:atI (F.map V.str) (a:Int)=Sa (.str (yG C x k.ds)):=zS (by
     rw[D,aR,aR,M];rfl)
    show zL (SqL.of b4) d7 ?_;z_go;show kB ?_;z_go;by_cases c4:yG C x k.ds=""
    case neg=>
     rw[decide_eq_false c4];cbv;show⟨d,c,_,_,rfl,B,N,O,l,skip λ_ _ _ _ h=>absurd (h k (by rw[show((a:Int),(Y:Int)).1.toNat=a from bE a];show M)) c4⟩
    rw[decide_eq_true c4];k_in;show zL (SqL.of N) b9 ?_;show⟨t1,rfl,?_⟩;cases t1 with
    |true=>
     kt_k
     show⟨d,c,_,_,rfl,B,N,O,l,skip λz _ _ _ _=>by
      rw[<-z,show((a:Int),(Y:Int)).1.toNat=a from bE a];show b8⟩
    |false=>
     k_in;show kA N (qW1 (by rw[aA];lia)) ?_;z_go;let e8:=qSc b8;show⟨d.set a Sc,Sc,_,_,rfl,B.trans .pt,by rw[zB,List.map_set],O.set o M b5 b6 c4,λ_=>?_,(λz=>by cases z)⟩;cases c with
     |true=>have:=l rfl;lia
     |false=>obtain⟨rfl,_⟩:=p rfl;lia
  .rintro e X ⟨d,c,o6,o7,rfl,B,N,O,l,p⟩;rw[b3]at p;show L2.yu hNw_ ⟨2*cntF d+(if c=Sc then 1 else 0),?_,d,c,_,_,rfl,e3.trans (e4.mo.trans B),N,O,(λz=>?_),rfl⟩
   .cases c with
    |true=>have:=l rfl;simp;lia
    |false=>obtain⟨rfl,_⟩:=p rfl;simp
   .let⟨rfl,z2⟩:=p z;rw[aU]at z2;show z2
noncomputable abbrev iW:Sr:=top 36
theorem scAsking:FnScope ["_law_works_here","_law_found","_law_changed","_law_number","_law_work","_law_box"] ["_law_works_here"] (za iW):=⟨rfl,rfl,rfl,by decide +kernel,rfl,by decide +kernel,by decide +kernel⟩
theorem qRe(F:Fun K "_law_asking" "_law_asking" iW f fd)(S:mg "range"=Sb)(B:mg "enumerate"=Sb)(c1:Has P w K mg base "_law_awaits" 2 ["_law_work","_law_box","_law_asking_here"] (jy K)):FnOk P w K mg base CX0 3 f fd ["_law_works_here"] (qMq K):=by
 show F.go scAsking ?_;rintro f1 A c3 s H vs Q E hr ⟨wa,C,rfl,hW,T,q⟩;let hu:=zk hr
 refine⟨_,(zD (xZ (i:=1) ["_law_work"] [] rfl (.of rfl) scAsking.nd rfl (Or.inl rfl) (zd (pv 0)) (λ_ _ _ _=>(zJ (i:=0) (by show (((["_law_work"]:List Str))).Nodup;decide) rfl (Or.inl rfl))) (λ_ _ _ _ =>.nil) (λ_ _ _ _=>(zW pa_nil)))
   (zD (zZ (i:=2) scAsking.nd rfl (Or.inl rfl) pe_bl)
   (zD (we bD (zw K rfl (pv 2) (λ_=>rfl))
   (zD (zZ (i:=2) scAsking.nd rfl (Or.inl rfl) pe_bl)
   (zE (zt bD rfl (xt rfl B (zA (pv 0) pa_nil)) (yI (n:=2) rfl (zQ (zJ (i:=3) scAsking.nd rfl (Or.inl rfl)) (zQ (zJ (i:=4) scAsking.nd rfl (Or.inl rfl)) zr)))
   (zE (zt bD rfl (yg rfl S (zA pe_int pa_nil)) (zJ (i:=5) scAsking.nd rfl (Or.inl rfl))
   (zE (zl (PW.pt (yS (zM (wS K rfl) (pv 5) (zH zO (pv 1) (pv 3) (λ_ _=>rfl)) rfl) (yy (zw K rfl (zH zO (zF c1 hr ⋯ (zA (pv 4) (zA (pv 5) (zA (pv 1) pa_nil)))) pe_int (λ_ _=>rfl)) (λ_=>rfl))))) (zD (xX (zI (catLK K rfl) (zH zO (pv 1) (pv 3) (λ_ _=>rfl)) (zW (zA (pv 5) pa_nil))) (uf (pv 1) (pv 3) um))
   (zE (zZ (i:=2) scAsking.nd rfl (Or.inl rfl) pe_bl))) zc))))))))
   (zE (zK (pv 1)))))),?_⟩
 try dsimp only[zb,zg,zq,zo,zp]
 let⟨a',vs,ea,U,b2⟩:=hW.ofList;cases ea;let c4:vs.length=C.length:=by rw[b2.len,aA]
 let f0:=T.few;z_go;show⟨wa,rfl,⟨_,U⟩,λr J=>?_⟩;show zn (xs:=vs) (λi l G=>∃(o0:Option V)(us:List V),l=[o0]/\Ext [r] H G/\G r=Sa (.lst us)/\DenL K (wo [r] G) ((List.replicate i ([]:List Int)).map intsD) us) ?_ ?_ ?_ ?_
 .exact⟨Sb,[],rfl,.laid J,zB,.nil⟩
 .rintro i l G hi ⟨o0,us,rfl,e1,h1,d1⟩;show(e1.drop J).toSame.seq U
 .rintro i y l G R hy ⟨o0,us,rfl,e1,h1,d1⟩ hR;let hi:i<vs.length:=(aC.mp hy).1;let c5:=d1.len;rw[aA,dQ]at c5;z_go;k_in;show⟨len2 (bL _),λp hp=>?_⟩;let a7:p≠r:=(zG h1 hp).symm;let e2:Ext [r] G (upd (upd G p (.lst [])) r (.lst (us++[.ref p]))):=(Ext.laid hp).trans .pt;show⟨us,by rw[zC a7.symm];show h1,zU ∎,hR _ _ ⟨_,us++[.ref p],rfl,e1.trans e2,zB,?_⟩⟩;rw[List.replicate_succ',aG];show DenL.append (d1.mono e2.same) (.cons (.list (SqL.of (xs:=[]) ?_) .nil) .nil);rw[yC (by simpa using a7),zC a7,zB]
 rintro l G0 ⟨o0,c6,rfl,e1,h1,d1⟩;rw[c4]at d1;let I0:AskI C (List.replicate C.length []):=by
  show⟨dQ ..,λa ha=>?_,λn x hx=>?_⟩
  .rw [List.eq_of_mem_replicate ha];show⟨.nil,λx hx=>nomatch hx⟩
  .rw [aV,dS]at hx;split at hx<;>cases hx
 generalize List.replicate C.length ([]:List Int)=A0 at d1 I0;z_go;show⟨λμ l G=>∃(u:List (List Int))(us:List V)(c:Bool)(o3 o4 M:Option V),l=[Sa (.ref wa),Sa (.ref r),Sa (.bl c),o3,o4,M]/\Ext [r] H G/\G r=Sa (.lst us)/\DenL K (wo [r] G) (u.map intsD) us/\AskI C u/\(c=Sd->∀(n:Nat)(x:Int),0<=x->x<8->wF C u n x)/\μ = 2*(8*C.length-tot u)+(if c=Sc then 1 else 0),⟨_,A0,c6,Sc,_,_,_,rfl,e1,h1,d1,I0,(λz=>by cases z),rfl⟩,?_⟩;rintro μ l G ⟨u,us,c,o3,o4,M,rfl,e2,h2,d2,I,c7,rfl⟩;let E2:Ext [] H G:=e2.drop J;z_go;show⟨c,rfl,?_⟩;cases c with
 |false=>
  kt_k;show q r u G J E2 (.list (SqL.of h2) (d2.mono (xw _ _))) I.len λn wk b x hn W h8=>qMa I T (c7 rfl) hn W h8
 |true=>
  show iteT (L2.vE (n2:=λ_ _=>True) λNw_ hNw_=>?_);let b3:=jz I.nd;rw[I.len]at b3;z_go;show⟨wa,rfl,⟨_,E2.toSame.seq U⟩,vt (xs:=vs) (λi l D=>∃(o:List (List Int))(us:List V)(c:Bool)(o3 o4 M:Option V),l=[Sa (.ref wa),Sa (.ref r),Sa (.bl c),o3,o4,M]/\Ext [r] H D/\D r=Sa (.lst us)/\DenL K (wo [r] D) (o.map intsD) us/\AskI C o/\(c=Sc->tot u<tot o)/\(c=Sd->o=u/\∀(n:Nat)(x:Int),n<i->0<=x->x<8->wF C u n x)) ?_ ?_ ?_ ?_⟩
  .exact⟨u,us,Sd,_,_,_,rfl,e2,h2,d2,I,(λz=>by cases z),λ_=>⟨rfl,λn x h=>by lia⟩⟩
  .rintro i l D hi ⟨o,us,c,o3,o4,M,rfl,e3,h3,d3,I',X,L⟩;show(e3.drop J).toSame.seq U
  .rintro i y l D pt hy ⟨o,us,c,o3,o4,M,rfl,e3,h3,d3,I',X,L⟩ b4;let⟨dd,c8,b5⟩:=b2.get hy;let⟨wk,Y,rfl⟩:=zV c8;let hi:i<C.length:=(aC.mp Y).1;let⟨m,f2,c9,b6⟩:=T.all wk (aK Y);let f3:=b6.len;let d0:pt≠r:=(zG h3 b4).symm;let x3:Ext [r] D (upd D pt (.tup [.int i,y])):=.laid b4;let e4:=e3.trans x3;let h4:(upd D pt (.tup [.int i,y])) r=Sa (.lst us):=by rw[zC d0.symm];show h3
   let d4:=d3.mono x3.same;let a5:SqT K (upd D pt (.tup [.int i,y])) pt [.int i,y]:=SqT.of zB;generalize upd D pt (.tup [.int i,y])=G4 at x3 e4 h4 d4 a5 ⊢;show zv a5 rfl ?_;z_go;show⟨8,rfl,⋯,⋯,xh (lo:=0) (n:=(8:Int).toNat) (λj l D=>∃(o:List (List Int))(us:List V)(c:Bool)(M:Option V),l=[Sa (.ref wa),Sa (.ref r),Sa (.bl c),Sa (.int i),Sa y,M]/\Ext [r] H D/\D r=Sa (.lst us)/\DenL K (wo [r] D) (o.map intsD) us/\AskI C o/\(c=Sc->tot u<tot o)/\(c=Sd->o=u/\(∀(n:Nat)(x:Int),n<i->0<=x->x<8->wF C u n x)/\∀x:Int,0<=x->x<j->wF C u i x)) ?_ ?_ ?_⟩
   .exact⟨o,us,c,_,rfl,e4,h4,d4,I',X,λz=>⟨(L z).1,(L z).2,λx W h1=>by lia⟩⟩
   .rintro j l G5 hj ⟨g,N,c2,M,rfl,e5,h5,d5,Z,O,a0⟩ N2_ B2_ C2_ R2_ hN2_ hC2_ hR2_;let f4:j<8:=hj;rw[eQ];let E5:Ext [] H G5:=e5.drop J;let a8:i<g.length:=by rw[Z.len];show hi
    let ha:g[i]? = Sa g[i]:=aE a8;let⟨v,hv,d6⟩:=d5.get' (i:=i) (d:=intsD g[i]) (by rw[aR,ha];rfl);let⟨li,zs,rfl,a1,hz⟩:=d6.ofList;let hz:=hz.ints;subst hz;let a1:=(xw [r] G5).seq a1;let skip:(g=u->wF C u i (j:Int))->(c2=Sd->g=u/\(∀(n:Nat)(x:Int),n<i->0<=x->x<8->wF C u n x)/\∀x:Int,0<=x->x<((j+1:Nat):Int)->wF C u i x):=λh z=>by
     let⟨z1,z2,z3⟩:=a0 z;show⟨z1,z2,λx W h1=>?_⟩;by_cases e:x=(j:Int)
     .rw [e];show h z1
     .exact z3 x W ∎
    z_go;show zL (SqL.of h5) (zS hv) ?_;show⟨li,_,rfl,.inl a1,rfl,yY _,?_⟩;rw[if_pos rfl,yX];kj_on;by_cases a2:(j:Int)∈g[i]
    .rw [decide_eq_true a2];cbv
     show⟨g,N,c2,_,rfl,e5,h5,d5,Z,O,skip λz d7 _ _=>by
      rw[<-z,aV,ha];show a2⟩
    .rw [decide_eq_false a2];k_in;let a3:Den K G5 (uU g) (.ref r):=.list (SqL.of h5) (d5.mono (xw _ _));let⟨wv,f5,rfl,_,_⟩:=id b5.ofList;show⟨wv,r,wk,m,g,(j:Int),rfl,b5.mono E5.toSame,by rw[Z.len];show b6,c9,a3,λlb bs G6 f6 e6 d8 f7 d9=>?_⟩;let b7:bs[0]? = Sa (bs[0]'(by lia)):=aE _;let a4:=d9 0;rw[b7]at a4;z_go;show zL (SqL.of d8) (show atI _ ((0:Nat):Int)=Sa (V.bl (bs[0]'(by lia)))from zS (by rw[aR,b7];rfl)) ?_;generalize bs[0]'(by lia)=t at a4;show⟨t,rfl,?_⟩;cases t with
     |false=>
      kt_k
      show⟨g,N,c2,_,rfl,e5.trans e6.mo,e6.k h5,d5.mono (e6.mo (us:=[r])).same,Z,O,skip λz d7 a6 hA=>by
       rw[Y]at a6;cases a6;rw[<-z]at hA;let:=a4.mpr hA
       simp at this⟩
     |true=>
      show iteT ?_;let hA:Aw g wk j 0:=a4.mp rfl;let b8:=e6.k h5;z_go;show zL (SqL.of b8) (zS hv) ?_;z_go;show⟨len2 (by change 1<=1000;decide),λp1 e0=>?_⟩;let e7:Ext [] G6 (upd G6 p1 (.lst [V.int (j:Int)])):=.laid e0;let b9:(upd G6 p1 (.lst [V.int (j:Int)])) p1=Sa (.lst [V.int (j:Int)]):=zB;let a9:=e7.k b8;generalize upd G6 p1 (.lst [V.int (j:Int)])=G7 at e7 b9 a9 ⊢;let f8:=yf 8 (Z.nd g[i] (cN a8)).1 (Z.nd g[i] (cN a8)).2;show⟨li,p1,_,_,rfl,rfl,(e6.trans e7).toSame.seq a1,SqL.of b9,len2 (by rw[aA];change _+1<=1000;lia),λp2 c0=>?_⟩;let b0:p2≠r:=(zG a9 c0).symm;z_go;show kA (by rw[zC b0.symm];show a9) (qW1 (aC.mp hv).1) ?_
      let e8:Ext [r] G5 (upd (upd G7 p2 (.lst (g[i].map V.int++[V.int (j:Int)]))) r (.lst (N.set i (.ref p2)))):=(e6.trans e7).mo.trans ((Ext.laid c0).trans .pt);z_go;let ht:=qPd (j:Int) ha;show⟨g.set i (g[i]++[(j:Int)]),_,Sc,_,rfl,e5.trans e8,zB,?_,Z.set T Y ha a2 ∎ ∎ hA,λ_=>?_,(λz=>by cases z)⟩
      .rw [List.map_set];show DenL.setAt (.list (SqL.of (xs:=(g[i]++[(j:Int)]).map V.int) ?_) (DenL.ofInts _)) i (d5.mono e8.same);rw[yC (by simpa using b0),zC b0,zB,aG];rfl
      .rw [ht];cases c2 with
       |true=>have:=O rfl;lia
       |false=>obtain⟨z,_⟩:=a0 rfl;rw[z];lia
   .rintro l G5 ⟨g,N,c2,M,rfl,e5,h5,d5,Z,O,a0⟩;show⟨g,N,c2,_,_,_,rfl,e5,h5,d5,Z,O,λz=>?_⟩;let⟨z1,z2,z3⟩:=a0 z;show⟨z1,λn x hn W h8=>?_⟩;rcases gH n i with e9|hge
    .exact z2 n x e9 W h8
    .let:n=i:=by lia
     subst this;show z3 x W (by let:((8:Int).toNat:Int)=8:=rfl;lia)
  .rintro l D ⟨o,us,c,o3,o4,M,rfl,e3,h3,d3,I',X,L⟩;let b1:=jz I'.nd;rw[I'.len]at b1;show L2.yu hNw_ ⟨2*(8*C.length-tot o)+(if c=Sc then 1 else 0),?_,o,us,c,_,_,_,rfl,e3,h3,d3,I',λz=>?_,rfl⟩
   .cases c with
    |true=>have:=X rfl;simp;lia
    |false=>obtain⟨rfl,_⟩:=L rfl;simp
   .let⟨rfl,z2⟩:=L z;intro n x W h8 wk hn hA;show z2 n x (by let:=(aC.mp hn).1;lia) W h8 wk hn hA
noncomputable abbrev iX:Sr:=top 37
theorem scLBusyX:FnScope ["_law_works_here","_law_number","_law_box","_law_work","_law_writers","_law_behind","_law_awaits_here","_law_block","_law_deeds","_law_end","_law_changed","_law_one","_law_to"] ["_law_works_here","_law_number","_law_box"] (za iX):=⟨rfl,rfl,rfl,by decide +kernel,rfl,by decide +kernel,by decide +kernel⟩
theorem qR9(F:Fun K "_law_busy" "_law_busy" iX f fd)(a6:mg "range"=Sb)(O:mg "enumerate"=Sb)(b1:mg "len"=Sb)(d1:mg "any"=Sb)(a7:Has P w K mg base "_law_asking" 3 ["_law_works_here"] (qMq K))(f8:Has P w K mg base "_law_awaits" 2 ["_law_work","_law_box","_law_asking_here"] (jy K))(f9:Has P w K mg base "_law_ways" 1 ["_law_work"] (kZ K)):FnOk P w K mg base CX0 4 f fd ["_law_works_here","_law_number","_law_box"] (qPv K):=by
 show F.go scLBusyX ?_;rintro j7 A g0 s H vs Q E hr ⟨wa,ws,n,g,x,rfl,hW,d2,hn,g1,g2,q⟩;let hu:=zk hr
 refine⟨_,(zD (zZ (i:=3) scLBusyX.nd rfl (Or.inl rfl) (zH zO (pv 0) (pv 1) (λ_ _=>rfl)))
   (zD (xX (zT (zA (zW pa_nil) (zA (zW pa_nil) (zA (zF f8 hr ⋯ (zA (pv 3) (zA (pv 2) (zA (zF a7 hr ⋯ (zA (pv 0) pa_nil)) pa_nil)))) pa_nil)))) (yI (n:=3) rfl (zQ (zJ (i:=4) scLBusyX.nd rfl (Or.inr rfl)) (zQ (zJ (i:=5) scLBusyX.nd rfl (Or.inr rfl)) (zQ (zJ (i:=6) scLBusyX.nd rfl (Or.inr rfl)) zr)))))
   (zD (zt bD rfl (xt rfl O (zA (pv 3) pa_nil)) (yI (n:=2) rfl (zQ (zJ (i:=7) scLBusyX.nd rfl (Or.inl rfl)) (zQ (yI (n:=2) rfl (zQ (zJ (i:=8) scLBusyX.nd rfl (Or.inl rfl)) (zQ (zJ (i:=9) scLBusyX.nd rfl (Or.inl rfl)) zr))) zr)))
   (zE (zl (zw K rfl (zN (vH hr.hd) (by rfl) d1 eP (zA (yK ["_law_deed_here"] [2] rfl (.of rfl) (zd (pv 8)) (λ_ _ _ _=>(zJ (i:=0) (by change(((["_law_deed_here","_law_box"]:List Str))).Nodup;decide) rfl (Or.inl rfl))) (λ_ _ _ _=>.nil) (λ_ _ _ _=>(wc (zu (inK K rfl) (zH (vF K rfl) (pv 0) pe_int (λ_ _=>rfl)) (zT (zA pe_str (zA pe_str pa_nil))) rfl) (xO (zu yJ (zH (vF K rfl) (pv 0) pe_int (λ_ _=>rfl)) (pv 1) (zR _)))))) pa_nil)) (λ_=>rfl)) (zE (yT (yU bB bO bP yh (pv 4) (zA (pv 7) pa_nil)))) zc)))
   (zD (zZ (i:=10) scLBusyX.nd rfl (Or.inl rfl) pe_bl)
   (zD (we bD (zw K rfl (pv 10) (λ_=>rfl))
   (zD (zZ (i:=10) scLBusyX.nd rfl (Or.inl rfl) pe_bl)
   (zE (zt bD rfl (zd (zF f9 hr ⋯ (zA (pv 3) pa_nil))) (yI (n:=2) rfl (zQ (zJ (i:=11) scLBusyX.nd rfl (Or.inl rfl)) (zQ (zJ (i:=12) scLBusyX.nd rfl (Or.inl rfl)) zr)))
   (zE (zl (PW.pt (yS (PW.pt (yi (zM (inK K rfl) (pv 11) (pv 4) rfl) (yz (zM (inK K rfl) (pv 11) (pv 5) rfl)))) (yS (zM xG (pv 12) (zN yn (by rfl) b1 bH (zA (pv 3) pa_nil)) (zR _)) (yy (zM (wS K rfl) (pv 12) (pv 5) rfl))))) (zD (yT (yU bB bO bP yh (pv 5) (zA (pv 12) pa_nil)))
   (zE (zZ (i:=10) scLBusyX.nd rfl (Or.inl rfl) pe_bl))) zc))))))
   (zE (zK (yK ["_law_block"] [4,5,6] rfl (.of rfl) (yg rfl a6 (zA (zN yn (by rfl) b1 bH (zA (pv 3) pa_nil)) pa_nil)) (λ_ _ _ _=>(zJ (i:=0) (by change(((["_law_block","_law_writers","_law_behind","_law_awaits_here"]:List Str))).Nodup;decide) rfl (Or.inl rfl))) (λ_ _ _ _=>.cons (PW.pt (yi (zM (inK K rfl) (pv 0) (pv 1) rfl) (yz (PW.pt (yS (zM (inK K rfl) (pv 0) (pv 2) rfl) (yy (zw K rfl (zH (kF K rfl) (pv 3) (pv 0) (λ_ _=>rfl)) (λ_=>rfl)))))))) .nil) (λ_ _ _ _=>(pv 0)))))))))),?_⟩
 try dsimp only[zb,zg,zq,zo,zp]
 let⟨m,j8,d3,a0⟩:=d2.all g (aK hn);let j9:=a0.len;let⟨a',k0,ea,d4,d5⟩:=hW.ofList;cases ea;let⟨v0,g3,a2⟩:=d5.get' (i:=n) (d:=workD g) (by rw[aR,hn];rfl);let⟨wb,vs,rfl,a8,d6⟩:=a2.ofList;let b6:vs.length=g.length:=by rw[d6.len,aA]
 z_go;show zL d4 (zS g3) ?_;z_go;show⟨len2 (bL _),λC d7=>?_⟩;generalize zz:upd H C _=H1;let ⟨e1,b7⟩:=layQq zz d7;z_go;show⟨len2 (bL _),λB b8=>?_⟩;let b9:C≠B:=zG b7 b8;let e2:Ext [] H1 (upd H1 B (.lst [])):=.laid b8;let c0:(upd H1 B (.lst [])) B=Sa (.lst []):=zB;let c4:(upd H1 B (.lst [])) C=Sa (.lst []):=e2.k b7;generalize upd H1 B (.lst [])=H2 at e2 c0 c4 ⊢;z_go;show⟨wa,ws,rfl,hW.mono (e1.trans e2).toSame,d2,λak as H3 k1 e3 a7 g4 g5=>?_⟩;z_go;let E3:=e1.trans (e2.trans e3);show⟨wb,ak,g,m,as,x,rfl,a2.mono E3.toSame,by rw[g4];show a0,d3,a7,λU bs H4 k2 e4 d8 g6 c5=>?_⟩
 let c5:∀b:Nat,bs[b]? = Sa Sc↔Asks ws x ((n:Int),(b:Int)):=λb=>(c5 b).trans (g5 n g b x hn g1 g2);let E4:=E3.trans e4;let d9:=(e3.trans e4).k c4;let e0:=(e3.trans e4).k c0;z_go;show⟨len2 (by change 3<=1000;decide),λpt a9=>?_⟩;let e5:Ext [] H4 (upd H4 pt (.tup [.ref C,.ref B,.ref U])):=.laid a9;let f0:SqT K (upd H4 pt (.tup [.ref C,.ref B,.ref U])) pt [.ref C,.ref B,.ref U]:=SqT.of zB;let c6:=e5.k d9;let c7:=e5.k e0;let S:=e5.k d8;let E5:=E4.trans e5;generalize upd H4 pt (.tup [.ref C,.ref B,.ref U])=G0 at e5 f0 c6 c7 S E5 ⊢;let a3:H C=Sb:=d7;let b2:H B=Sb:=e1.no b8;clear e2 e3 e4 e5 b7 c4 d9 c0 e0 d8 a7;show zv f0 rfl ?_
 z_go;show⟨wb,rfl,⟨vs,E5.toSame.seq a8⟩,vt (xs:=vs) (λi l G=>∃(o7 o8 o9 b0 D J:Option V),l=[Sa (.ref wa),Sa (.int n),Sa (.int x),Sa (.ref wb),Sa (.ref C),Sa (.ref B),Sa (.ref U),o7,o8,o9,b0,D,J]/\Ext [C] G0 G/\G C=Sa (.lst ((wrTo g x i).map V.int))) ?_ ?_ ?_ ?_⟩
 .exact⟨_,_,_,_,_,_,rfl,.refl _ _,c6⟩
 .rintro i l G hi ⟨o7,o8,o9,b0,D,J,rfl,e6,h6⟩;show((E5.mo.trans e6:Ext [C] H G).drop a3).toSame.seq a8
 .rintro i y l G pt hy ⟨o7,o8,o9,b0,D,J,rfl,e6,h6⟩ a9;let⟨dd,c8,g7⟩:=d6.get hy;let⟨b,hb,rfl⟩:=zV c8;let hi:i<g.length:=(aC.mp hb).1;let⟨c,dl,c9,ve,rfl,hc,f1,b3,_⟩:=wT g7;let f2:=a0.blk b (aK hb);let g8:pt≠C:=(zG h6 a9).symm;let e7:Ext [C] G0 (upd G pt (.tup [.int i,.ref c])):=e6.trans (.laid a9);let es:Same H (upd G pt (.tup [.int i,.ref c])):=((E5.mo.trans e7:Ext [C] H _).drop a3).toSame;let h7:upd G pt (.tup [.int i,.ref c]) C=Sa (.lst ((wrTo g x i).map V.int)):=by rw[zC g8.symm];show h6
  let b4:SqT K (upd G pt (.tup [.int i,.ref c])) pt [.int i,.ref c]:=SqT.of zB;generalize upd G pt (.tup [.int i,.ref c])=G1 at e7 es h7 b4 ⊢;show zv b4 rfl ?_;z_go;show zv (es.seqT hc) rfl ?_;z_go;show⟨dl,rfl,⟨c9,es.seq f1⟩,λlc a4=>?_⟩;let k3:C≠lc:=zG h7 a4;show zn (xs:=c9) (λj l T=>∃(o0:Option V),l=[o0,Sa (.int x)]/\Ext [lc] G1 T/\T lc=Sa (.lst (((b.ds.take j).map (wrB x)).map V.bl))) ?_ ?_ ?_ ?_
  .exact⟨Sb,rfl,.laid a4,zB⟩
  .rintro j l T hj ⟨o0,rfl,N,h8⟩;show(N.drop a4).toSame.seq (es.seq f1)
  .rintro j z l T R2 hz ⟨o0,rfl,N,h8⟩ g9;let⟨dd,c8,h0⟩:=b3.get hz;let⟨d,hd,rfl⟩:=zV c8;let⟨p,rfl,h2⟩:=vQ h0;let hp:=(N.drop a4).toSame.seqT (es.seqT h2);let k4:j<b.ds.length:=(aC.mp hd).1;z_go;show iteT ?_;show wC (qWg (d:=d) (x:=x) (n:=0) (m:=1) (by with_unfolding_all rfl) (by with_unfolding_all rfl) hp λG3 Y=>?_);show⟨_,Y.k h8,zU (by rw[aA,aA,aY];let:=f2.few;lia),g9 _ _ ⟨_,rfl,N.trans ((Y.mo).trans .pt),?_⟩⟩;rw[zB,zY hd,aG,aG];rfl
  .rintro l T ⟨o0,rfl,N,h8⟩;let f3:c9.length=b.ds.length:=by rw[b3.len,aA]
   rw[f3,aU]at h8;z_go;show⟨lc,b.ds.map (wrB x),rfl,SqL.of h8,?_⟩;show⟨wrote x b.ds,?_,?_⟩
   .let e:(b.ds.map (wrB x)).any id=wrote x b.ds:=by unfold wrote;rw[hZ];rfl
    rw[e];rfl
   let E8:Ext [] G1 T:=N.drop a4;let Z:=E8.k h7;let hs:=qJc g x i;let h3:=uP g x i;rw[qRz hb]at hs;cases hw:wrote x b.ds with
   |true=>
    rw[hw,if_pos rfl]at hs;k_in;show yD Z ?_;z_go;show yd Z (zU (by rw[aA];lia)) ?_;show⟨_,_,_,_,_,_,rfl,(e7.trans (E8.mo)).trans .pt,?_⟩;rw[zB,hs,aG];rfl
   |false=>
    rw[hw,if_neg aL]at hs;kt_k;show⟨_,_,_,_,_,_,rfl,e7.trans (E8.mo),?_⟩;rw[hs];show Z
 .rintro l G ⟨o7,o8,o9,b0,D,J,rfl,e6,h6⟩;rw[b6]at h6;let h4:G B=Sa (.lst (([]:List Int).map V.int)):=e6 _ _ (by simpa using b9.symm) c7;let h5:U≠C:=λz=>by
   rw[z]at S;rw[c6]at S;injection S with e5
   injection e5 with this
   let h1:bs.length=0:=by rw[<-aA (f:=V.bl) (as:=bs),<-this];rfl
   lia
  let i0:U≠B:=λz=>by
   rw[z]at S;rw[c7]at S;injection S with e5
   injection e5 with this
   let h1:bs.length=0:=by rw[<-aA (f:=V.bl) (as:=bs),<-this];rfl
   lia
  let i1:G U=Sa (.lst (bs.map V.bl)):=e6 _ _ (by simpa using h5) S;let EG:Ext [] H G:=(E5.mo.trans e6:Ext [C] H G).drop a3;z_go
  show⟨λμ l G'=>∃(L:List Int)(c:Bool)(o7 o8 o9 D J:Option V),l=[Sa (.ref wa),Sa (.int n),Sa (.int x),Sa (.ref wb),Sa (.ref C),Sa (.ref B),Sa (.ref U),o7,o8,o9,Sa (.bl c),D,J]/\Ext [B] G G'/\G' B=Sa (.lst (L.map V.int))/\BhI g x L/\(c=Sd->∀v∈Wk g,v.2<(g.length:Int)->(v.1∈wrTo g x g.length\/v.1∈L)->v.2∈L)/\μ = 2*(g.length-L.length)+(if c=Sc then 1 else 0),
   ⟨_,[],Sc,_,_,_,_,_,rfl,.refl _ _,h4,⟨.nil,(λy hy=>nomatch hy),λy hy=>nomatch hy⟩,(λz=>by cases z),rfl⟩,?_⟩
  rintro μ l G' ⟨L,c,o7,o8,o9,D,J,rfl,e7,h7,I,i2,rfl⟩;let E7:Ext [] H G':=(EG.mo.trans e7:Ext [B] H G').drop b2;let d0:G' C=Sa (.lst ((wrTo g x g.length).map V.int)):=e7 _ _ (by simpa using b9) h6;let f4:G' U=Sa (.lst (bs.map V.bl)):=e7 _ _ (by simpa using i0) i1;z_go;show⟨c,rfl,?_⟩;cases c with
  |false=>
   kt_k;show⟨wb,vs,rfl,.inl (E7.toSame.seq a8),?_⟩;rw[b6];z_go;show⟨_,rfl,∎,∎,λlr a1=>?_⟩;let i3:lr≠C:=(zG d0 a1).symm;let i4:lr≠B:=(zG h7 a1).symm;let i5:lr≠U:=(zG f4 a1).symm;show wO (lo:=0) (n:=(g.length:Int).toNat) (λi l T=>∃(o0:Option V),l=[o0,Sa (.ref C),Sa (.ref B),Sa (.ref U)]/\Ext [lr] G' T/\T lr=Sa (.lst ((bsyTo (wrTo g x g.length) L bs i).map V.int))) ?_ ?_ ?_
   .exact⟨Sb,rfl,.laid a1,zB⟩
   .rintro i l T R hi ⟨o0,rfl,N,h8⟩ hR;let hi:i<g.length:=by lia
    let i6:=N _ _ (by simpa using i3.symm) d0;let i7:=N _ _ (by simpa using i4.symm) h7;let i8:=N _ _ (by simpa using i5.symm) f4;rw[eQ];let a5:=qOv (wrTo g x g.length) L bs i;let h3:=qSi (wrTo g x g.length) L bs i;obtain⟨t,ht⟩:∃t,bs[i]? = Sa t:=⟨_,aE ∎⟩;let i9:bs.getD i Sd=t:=by rw[aV,ht];rfl
    let M:∀r:Bool,bsyB (wrTo g x g.length) L bs i=r->(if r=Sc then eApp (tVar 0) lr [Sa (.int i),Sa (.ref C),Sa (.ref B),Sa (.ref U)] T R else R [Sa (.int i),Sa (.ref C),Sa (.ref B),Sa (.ref U)] T):=by
     intro r j0;rw[j0]at a5;cases r with
     |true=>
      rw[if_pos rfl]at a5;show iteT (wC (zm rfl ⟨_,h8,zU (by rw[aA];lia),hR _ _ ⟨_,rfl,N.trans .pt,?_⟩⟩));rw[zB,a5,aG];rfl
     |false=>
      rw[if_neg aL]at a5;show iteF (hR _ _ ⟨_,rfl,N,by rw[a5];show h8⟩)
    unfold bsyB at M;rw[i9]at M;show vg (vA (wB (kf (i:=i) (n:=0) (m:=1) (by with_unfolding_all rfl) (by with_unfolding_all rfl) i6 ?_)));by_cases c1:(i:Int)∈wrTo g x g.length
    .rw [decide_eq_true c1]at M ⊢;show iteT (iteT (M Sc rfl))
    rw[decide_eq_false c1]at M ⊢;show iteF (yt (kf (i:=i) (n:=0) (m:=2) (by with_unfolding_all rfl) (by with_unfolding_all rfl) i7 ?_));by_cases c2:(i:Int)∈L
    .rw [decide_eq_true c2]at M ⊢;show iteT (yV (zm (by with_unfolding_all rfl) (zm (by with_unfolding_all rfl) (zL (SqL.of i8) (show atI _ (i:Int)=Sa (V.bl t)from zS (by rw[aR,ht];rfl)) ⟨t,rfl,?_⟩))));cases t with
     |true=>show iteT (iteT (M Sc rfl))
     |false=>show iteF (iteF (M Sd rfl))
    .rw [decide_eq_false c2]at M ⊢;show iteF (iteF (M Sd rfl))
   .rintro l T ⟨o0,rfl,N,h8⟩;rw[bE]at h8;z_go;show q lr _ T (E7.no a1) (E7.trans (N.drop a1)) h8 ((qHv _ _ _ _).imp λh=>by lia) ((qHv _ _ _ _).imp λh=>by lia) λy=>qZs a0 I (i2 rfl) g6 c5 y
  |true=>
   show iteT (L2.vE (n2:=λ_ _=>True) λNw_ hNw_=>?_);let k5:=I.few;z_go;show⟨wb,g,m,_,rfl,a2.mono E7.toSame,a0,d3,λly us T j1 N b5 f5=>?_⟩;let j2:ly≠B:=(zG h7 j1).symm;let f6:=f5.len;rw[aA]at f6;show⟨ly,rfl,⟨_,SqL.of b5⟩,xU (xs:=us) (λi l G3=>∃(o:List Int)(c:Bool)(o7 o8 o9 D J:Option V),l=[Sa (.ref wa),Sa (.int n),Sa (.int x),Sa (.ref wb),Sa (.ref C),Sa (.ref B),Sa (.ref U),o7,o8,o9,Sa (.bl c),D,J]/\Ext [B] T G3/\G3 B=Sa (.lst (o.map V.int))/\BhI g x o/\(c=Sc->L.length<o.length)/\(c=Sd->o=L/\∀v∈(Wk g).take i,v.2<(g.length:Int)->(v.1∈wrTo g x g.length\/v.1∈L)->v.2∈L)) ?_ ?_ ?_ ?_⟩
   .exact⟨L,Sd,_,_,_,_,_,rfl,.refl _ _,N.k h7,I,(λz=>by cases z),λ_=>⟨rfl,λv hv=>by simp at hv⟩⟩
   .rintro i l G3 hi ⟨o,c,o7,o8,o9,D,J,rfl,Y,Z,I',W,X⟩;show SqL.of (Y _ _ (by simpa using j2) b5)
   .rintro i y l G3 hy ⟨o,c,o7,o8,o9,D,J,rfl,Y,Z,I',W,X⟩ N_ B_ C_ R_ hN_ hC_ hR_;let⟨v,b,hv,rfl,hb⟩:=f5.pairs hy;let j3:=aK hv;let j4:SqT K G3 b [.int v.1,.int v.2]:=hb.over Y λz hz=>by
     rw[aH.mp hz];show qZb (N.k h7)
    let j5:G3 C=Sa (.lst ((wrTo g x g.length).map V.int)):=Y _ _ (by simpa using b9) (N.k d0);let E9:Ext [] H G3:=(E7.mo.trans (N.mo.trans Y):Ext [B] H G3).drop b2;let f7:=I'.few;let skip:(o=L->v.2<(g.length:Int)->(v.1∈wrTo g x g.length\/v.1∈L)->v.2∈L)->(c=Sd->o=L/\∀u∈(Wk g).take (i+1),u.2<(g.length:Int)->(u.1∈wrTo g x g.length\/u.1∈L)->u.2∈L):=λh z=>by
     let⟨z1,z2⟩:=X z;show⟨z1,λu hu=>?_⟩;rw[zY hv]at hu;rcases aN.mp hu with hu|hu
     .exact z2 u hu
     .rw [aH.mp hu];show h z1
    show zv j4 rfl ?_;walk_at "zs";show xg ?_;walk_at "zs";show xg ?_;walk_at "zs";show wD ?_;walk_at "zs";show yt (qY6 (i:=v.1) (n:=11) (m:=4) (k:=5) (by with_unfolding_all rfl) (by with_unfolding_all rfl) (by with_unfolding_all rfl) j5 Z ?_);cases ho:(decide (v.1∈wrTo g x g.length)||decide (v.1∈o))with
    |false=>
     cbv;show⟨o,c,_,_,_,_,_,rfl,Y,Z,I',W,skip λz _ h=>?_⟩;rw[Bool.or_eq_false_iff,decide_eq_false_iff_not,decide_eq_false_iff_not,z]at ho;show absurd h (λh=>h.elim ho.1 ho.2)
    |true=>
     let j6:v.1∈wrTo g x g.length\/v.1∈o:=by simpa using ho
     k_in;show⟨wb,vs,rfl,.inl (E9.toSame.seq a8),?_⟩;rw[b6];z_go;by_cases c2:v.2<(g.length:Int)
     case neg=>
      rw[decide_eq_false c2];cbv;show⟨o,c,_,_,_,_,_,rfl,Y,Z,I',W,skip λ_ a=>absurd a c2⟩
     rw[decide_eq_true c2];k_in;show⟨B,_,rfl,.inl (SqL.of Z),rfl,yY _,?_⟩;rw[if_pos rfl,yX];kj_on;by_cases c3:v.2∈o
     .rw [decide_eq_true c3];kt_k;show⟨o,c,_,_,_,_,_,rfl,Y,Z,I',W,skip λz _ _=>z▸c3⟩
     .rw [decide_eq_false c3];k_in;show yD Z ?_;z_go;show yd Z (zU (by rw[aA];lia)) ?_;z_go;show⟨o++[v.2],Sc,_,_,_,_,_,rfl,Y.trans .pt,by rw[zB,aG];rfl,I'.snoc a0 j3 c2 j6 c3,λ_=>?_,(λz=>by cases z)⟩;rw[aF,bF];cases c with
      |true=>have:=W rfl;lia
      |false=>obtain⟨z,_⟩:=X rfl;rw[z];lia
   .rintro l G3 ⟨o,c,o7,o8,o9,D,J,rfl,Y,Z,I',W,X⟩;let f7:=I'.few;rw[f6]at X;show L2.yu hNw_ ⟨2*(g.length-o.length)+(if c=Sc then 1 else 0),?_,o,c,_,_,_,_,_,rfl,e7.trans (N.mo.trans Y),Z,I',(λz=>?_),rfl⟩
    .cases c with
     |true=>have:=W rfl;simp;lia
     |false=>obtain⟨rfl,_⟩:=X rfl;simp
    .let⟨rfl,z2⟩:=X z;rw[aU]at z2;show z2
noncomputable abbrev iY:Sr:=top 30
theorem scLDeedX:FnScope ["_law_tape","_law_works_here","_law_boxes","_law_box","_law_other","_law_way","_law_some"] ["_law_tape","_law_works_here","_law_boxes"] (za iY):=⟨rfl,rfl,rfl,by decide +kernel,rfl,by decide +kernel,by decide +kernel⟩
theorem qR8(F:Fun K "_law_deed" "_law_deed" iY f fd)(z:Has P w K mg base "_law_draw" 1 ["_law_tape","_law_many"] xc):FnOk P w K mg base CX0 2 f fd ["_law_tape","_law_works_here","_law_boxes"] (qPu K):=by
 show F.go scLDeedX ?_;rintro a0 A S s H vs Q E v ⟨t,k,c,boxes,rfl,hT,hk,a5,a6,a7,a8,q⟩;let hu:=zk v
 refine⟨_,(zD (xq (i:=3) (j:=4) rfl scLDeedX.nd rfl rfl ⋯ rfl rfl (zA (zI wf pe_int (zF z v ⋯ (zA (pv 0) (zA (pv 2) pa_nil)))) (zA (zI wf pe_int (zF z v ⋯ (zA (pv 0) (zA (pv 2) pa_nil)))) pa_nil)) rfl)
   (zD (zZ (i:=5) scLDeedX.nd rfl (Or.inl rfl) (zF z v ⋯ (zA (pv 0) (zA pe_int pa_nil))))
   (zD (zl (zM yJ (pv 5) pe_int (zR _)) (zE (zK (zT (zA pe_str (zA (zF z v ⋯ (zA (pv 0) (zA (pv 1) pa_nil))) pa_nil))))) zc)
   (zD (zZ (i:=6) scLDeedX.nd rfl (Or.inl rfl) (zW (zA (zT (zA pe_str (zA (pv 3) (zA (zI wf (zF z v ⋯ (zA (pv 0) (zA pe_int pa_nil))) pe_int) pa_nil)))) (zA (zT (zA pe_str (zA (pv 3) pa_nil))) (zA (zT (zA pe_str (zA (pv 3) (zA (pv 4) pa_nil)))) (zA (zT (zA pe_str (zA (pv 3) pa_nil))) (zA (zT (zA pe_str (zA (pv 3) (zA pe_int pa_nil)))) pa_nil)))))))
   (zE (zK (zH zO (pv 6) (pv 5) (λ_ _=>rfl)))))))),?_⟩
 try dsimp only[zb,zg,zq,zo,zp]
 z_go;show zi hT ∎ ∎ ∎ λB H1 a1 b1 T1 e1 _=>?_;z_go;show zi T1 ∎ ∎ ∎ λr2 H2 a2 b2 T2 e2 _=>?_;kl_no;z_go;show zi T2 ∎ ⋯ ⋯ λT H3 a3 b3 T3 e3 _=>?_;let U:=e1.trans (e2.trans e3);k_put;z_go;show ite2 (λg=>?_) (λg=>?_)
 .z_go;show zi T3 ∎ ∎ ∎ λW X a4 b4 C N _=>?_;z_go;show⟨len2 (by change 2<=1000;decide),λp e=>?_⟩;show q p (.call W) _ ((U.trans N).none (by simpa using C.ne e) e) ((C.ext (ts:=[]) (.laid e) ∅).mono ∎) (U.trans (N.trans (.laid e))) ⟨a4,b4⟩ zB
 .let g:T≠5:=by simpa using g
  z_go;show zi T3 ∎ ⋯ ⋯ λW X a4 b4 C N _=>?_;let E4:=U.trans N;z_go;show⟨len2 (by change 3<=1000;decide),λm D=>?_⟩;generalize b:upd X m _=G1;let ⟨x,h1⟩:=layQq b D;z_go;show⟨len2 (by change 2<=1000;decide),λn G=>?_⟩;generalize b:upd G1 n _=G2;let ⟨O,h2⟩:=layQq b G;z_go;show⟨len2 (by change 3<=1000;decide),λo I=>?_⟩;generalize b:upd G2 o _=G3;let ⟨Y,h3⟩:=layQq b I;z_go;show⟨len2 (by change 2<=1000;decide),λr J=>?_⟩;generalize b:upd G3 r _=G4;let ⟨x4,h4⟩:=layQq b J;z_go;show⟨len2 (by change 3<=1000;decide),λu L=>?_⟩;generalize b:upd G4 u _=R;let ⟨x5,h5⟩:=layQq b L
  z_go;show⟨len2 (by change 5<=1000;decide),λl hl=>?_⟩;let x6:Ext [] R (upd R l (.lst [.ref m,.ref n,.ref o,.ref r,.ref u])):=.laid hl;let y:SqL K (upd R l (.lst [.ref m,.ref n,.ref o,.ref r,.ref u])) l [.ref m,.ref n,.ref o,.ref r,.ref u]:=SqL.of zB;generalize upd R l (.lst [.ref m,.ref n,.ref o,.ref r,.ref u])=M at x6 y ⊢;let y5:=x6;let y4:=x5.trans y5;let y3:=x4.trans y4;let y2:=Y.trans y3;let Z:=O.trans y2;let T6:Tape M t (k+10):=(C.ext (x.trans Z) ∅).mono ∎;let E6:Ext [t] H M:=E4.trans (x.trans Z).mo;let a:∀(p:Sf)(d:Deed),X p=Sb->wQ c d->M p=Sa (.tup (V.str (dword d)::(dargs d).map V.int))->Q (.ref p) M:=λp d e hd h=>q p d M (E4.none (by simpa using C.ne e) e) T6 E6 hd h
  obtain⟨j,rfl⟩:∃j:Nat,T=j:=⟨T.toNat,(dD a3).symm⟩;let hj:j<5:=by lia
  z_go
  match j,hj with
  |0,_=>show zL y (show atI _ ((0:Nat):Int)=Sa (.ref m)from zS rfl) (a m (.set (7-B) (W-4)) D ⟨∎,∎,∎,∎⟩ (Z.k h1))
  |1,_=>show zL y (show atI _ ((1:Nat):Int)=Sa (.ref n)from zS rfl) (a n (.tell (7-B)) (x.no G) ⟨∎,∎⟩ (y2.k h2))
  |2,_=>show zL y (show atI _ ((2:Nat):Int)=Sa (.ref o)from zS rfl) (a o (.add (7-B) (7-r2)) ((x.trans O).no I) ⟨∎,∎,∎,∎⟩ (y3.k h3))
  |3,_=>show zL y (show atI _ ((3:Nat):Int)=Sa (.ref r)from zS rfl) (a r (.tell (7-B)) ((x.trans (O.trans Y)).no J) ⟨∎,∎⟩ (y4.k h4))
  |4,_=>show zL y (show atI _ ((4:Nat):Int)=Sa (.ref u)from zS rfl) (a u (.set (7-B) 7) ((x.trans (O.trans (Y.trans x4))).no L) ⟨∎,∎,∎,∎⟩ (y5.k h5))
noncomputable abbrev iZ:Sr:=top 39
theorem scLPrice:FnScope ["_law_ways_here","_law_case","_law_inside","_law_counts","_law_prices","_law_shut","_law_found","_law_way","_law_count"] ["_law_ways_here","_law_case","_law_inside"] (za iZ):=⟨rfl,rfl,rfl,by decide +kernel,rfl,by decide +kernel,by decide +kernel⟩
theorem qR5(F:Fun K "_law_price" "_law_price" iZ f fd)(o:mg "zip"=Sb)(r:mg "int"=Sb):FnOk P w K mg base CX0 2 f fd ["_law_ways_here","_law_case","_law_inside"] (qPp K):=by
 show F.go scLPrice ?_;rintro a3 A N s H vs Q E hr ⟨wl,ca,cl,pr,sl,D,us,ts,W,S,cs,a,p0,p1,rfl,hU,t,O,u,a4,R,a5,a6,a7,a8,T,U,X,q⟩;let hu:=zk hr
 refine⟨_,(zD (xX (pv 1) (yI (n:=3) rfl (zQ (zJ (i:=3) scLPrice.nd rfl (Or.inl rfl)) (zQ (zJ (i:=4) scLPrice.nd rfl (Or.inl rfl)) (zQ (zJ (i:=5) scLPrice.nd rfl (Or.inl rfl)) zr)))))
   (zD (zZ (i:=6) scLPrice.nd rfl (Or.inl rfl) pe_int)
   (zD (zt bD rfl (qVm rfl o (zA (pv 0) (zA (pv 3) pa_nil))) (yI (n:=2) rfl (zQ (zJ (i:=7) scLPrice.nd rfl (Or.inl rfl)) (zQ (zJ (i:=8) scLPrice.nd rfl (Or.inl rfl)) zr)))
   (zE (zl (zM xr (zu xH (zH yW (pv 7) pe_int (λ_ _=>rfl)) (pv 2) rfl) (zu xH (zH yW (pv 7) pe_int (λ_ _=>rfl)) (pv 2) rfl) (zR _)) (zD (zl (zM (qVu hu) (pv 7) (pv 5) rfl) (zE (zK pe_non)) zc)
   (zE (zZ (i:=6) scLPrice.nd rfl (Or.inl rfl) (zI yA (pv 6) (zI wg (pv 8) (zH yW (pv 4) (yB wj (by rfl) r dF (zA (zu xH (zH yW (pv 7) pe_int (λ_ _=>rfl)) (pv 2) rfl) pa_nil)) (λ_ _=>rfl))))))) zc)))
   (zE (zK (pv 6)))))),?_⟩
 try dsimp only[zb,zg,zq,zo,zp]
 let x:=t.len;rw[aA]at x;z_go;show zv O rfl ?_;z_go;show uS ?_;z_go;show⟨wl,cl,rfl,⟨_,hU⟩,⟨_,u⟩,qUe (xs:=us) (ys:=cs.map V.int) (by rw[aA];lia) (λi e G=>∃(f:Int)(I J:Option V),e=[Sa (.ref wl),Sa (.ref ca),Sa (.ref D),Sa (.ref cl),Sa (.ref pr),Sa (.ref sl),Sa (.int f),I,J]/\Ext [] H G/\¬CutS (W.take i) S a) ?_ ?_ ?_ ?_⟩
 .exact⟨0,_,_,rfl,.refl _ _,λ⟨v,L,_⟩=>by simp at L⟩
 .rintro i e G hi ⟨f,I,J,rfl,m,d⟩;show⟨m.toSame.seq hU,m.toSame.seq u⟩
 .rintro i y z e G pt hy hz ⟨f,I,J,rfl,m,d⟩ Y N_ B_ C_ R_ hN_ hC_ hR_;let⟨p,b,hp,rfl,hb⟩:=t.pairs hy;let⟨c,Z,rfl⟩:=zV hz;let a0:p∈W:=aK hp;let x2:Ext [] G (upd G pt (.tup [.ref b,.int c])):=.laid Y;let j:SqT K (upd G pt (.tup [.ref b,.int c])) pt [.ref b,.int c]:=SqT.of zB;let g:=m.trans x2;generalize upd G pt (.tup [.ref b,.int c])=G1 at x2 j g ⊢;let a1:=g.toSame.seqT hb;let k:=g.toSame.seq X;let B:¬(isCut (inB a) p=Sc/\p∈S)->¬CutS (W.take (i+1)) S a:=λh ⟨v,L,l⟩=>by
   rw[zY hp]at L;rcases aN.mp L with z|z
   .exact d ⟨v,z,l⟩
   .rw [aH.mp z]at l;show h l
  show zv j rfl ?_;z_go;show⟨D,_,rfl,.inl k,rfl,yY a,?_⟩;rw[show(if Sd=Sc then !inV (V.int p.1) (a.map V.int)else inV (V.int p.1) (a.map V.int))=inB a p.1 from yX _ a];z_go;show⟨D,_,rfl,.inl k,rfl,yY a,?_⟩;rw[show(if Sd=Sc then !inV (V.int p.2) (a.map V.int)else inV (V.int p.2) (a.map V.int))=inB a p.2 from yX _ a];show⟨rfl,?_⟩;let C:(!decide (V.bl (inB a p.1)=V.bl (inB a p.2)))=isCut (inB a) p:=by
   unfold isCut;cases inB a p.1<;>cases inB a p.2<;>rfl
  rw[C];z_go;cases Z:isCut (inB a) p with
  |false=>
   kt_k;show⟨f,_,_,rfl,g,B λh=>by rw[Z]at h;cases h.1⟩
  |true=>
   k_in;show xD (g.toSame.seq T) (U.mono g.toSame) a1 ?_;z_go;by_cases M:p∈S
   .rw [decide_eq_true M];k_in;show q _ G1 g (.inl ⟨⟨p,a0,Z,M⟩,rfl⟩)
   .rw [decide_eq_false M];kt_k;show⟨D,_,rfl,.inl k,rfl,yY a,?_⟩;rw[show(if Sd=Sc then !inV (V.int p.1) (a.map V.int)else inV (V.int p.1) (a.map V.int))=inB a p.1 from yX _ a];z_go;show .inr ⟨_,rfl,?_⟩;let a2:atI [V.int p0,V.int p1] (if inB a p.1=Sc then (1:Int)else 0)=Sa (.int (if inB a p.1=Sc then p1 else p0)):=by
     cases inB a p.1<;>rfl
    show yH (g.toSame.seqT R) a2 ?_;show xy (.inr ⟨by split<;>lia,by split<;>lia⟩) ?_;z_go;show⟨_,_,_,rfl,g,B λh=>M h.2⟩
 .rintro e G ⟨f,I,J,rfl,m,d⟩;rw[x,aU]at d;z_go;show q _ G m (.inr ⟨d,_,rfl⟩)
noncomputable abbrev ia:Sr:=top 40
theorem scLLeastX:FnScope ["_law_work","_law_ways_here","_law_case","_law_needed","_law_lists","_law_block","_law_some"] ["_law_work","_law_ways_here","_law_case","_law_needed"] (za ia):=⟨rfl,rfl,rfl,by decide +kernel,rfl,by decide +kernel,by decide +kernel⟩
theorem qOj{f:Sf}{fd:FuncData}(F:Fun K "_law_least" "_law_least" ia f fd)(Z:mg "range"=Sb)(b4:mg "len"=Sb)(a6:mg "list"=Sb)(b5:mg "min"=Sb)(c7:Has P w K mg base "_law_price" 2 ["_law_ways_here","_law_case","_law_inside"] (qPp K)):FnOk P w K mg base CX0 3 f fd ["_law_work","_law_ways_here","_law_case","_law_needed"] (qMn K):=by
 show F.go scLLeastX ?_;rintro f3 A c8 s H D Q E J ⟨wa,wl,ca,cl,pr,sl,il,bs,us,ts,W,S,cs,N,p0,p1,rfl,c9,f4,hU,d0,d2,d3,d4,b6,d5,d6,d7,d8,d9,e4,b7,e5,b8,q⟩;let hu:=zk J
 refine⟨_,(zD (zZ (i:=4) scLLeastX.nd rfl (Or.inl rfl) (zW (zA (yB wI (by rfl) a6 cJ (zA (pv 3) pa_nil)) pa_nil)))
   (zD (zt bD rfl (yg rfl Z (zA (zN yn (by rfl) b4 bH (zA (pv 0) pa_nil)) pa_nil)) (zJ (i:=5) scLLeastX.nd rfl (Or.inr rfl))
   (zE (zl (zM (wS K rfl) (pv 5) (pv 3) rfl) (zE (zZ (i:=4) scLLeastX.nd rfl (Or.inl rfl) (zI wn (pv 4) (yK ["_law_one"] [5] rfl (.of rfl) (zd (pv 4)) (λ_ _ _ _=>(zJ (i:=0) (by change(((["_law_one","_law_block"]:List Str))).Nodup;decide) rfl (Or.inl rfl))) (λ_ _ _ _=>.nil) (λ_ _ _ _=>(zI (catLK K rfl) (pv 0) (zW (zA (pv 1) pa_nil)))))))) zc)))
   (zD (xZ (i:=6) ["_law_one"] [1,2] rfl (.of rfl) scLLeastX.nd rfl (Or.inl rfl) (zd (pv 4)) (λ_ _ _ _=>(zJ (i:=0) (by change(((["_law_one","_law_ways_here","_law_case"]:List Str))).Nodup;decide) rfl (Or.inl rfl))) (λ_ _ _ _=>.nil) (λ_ _ _ _=>(zF c7 J ⋯ (zA (pv 1) (zA (pv 2) (zA (pv 0) pa_nil))))))
   (zD (xZ (i:=6) ["_law_one"] [] rfl (.of rfl) scLLeastX.nd rfl (Or.inl rfl) (zd (pv 6)) (λ_ _ _ _=>(zJ (i:=0) (by change(((["_law_one"]:List Str))).Nodup;decide) rfl (Or.inl rfl))) (λ_ _ _ _=>.cons (zM oD (pv 0) pe_non (zR _)) .nil) (λ_ _ _ _=>(pv 0)))
   (zE (zK (xo (zM (qZ8 (Nat.lt_of_succ_lt hu)) (pv 6) (zW pa_nil) (zR _)) (zN (qSe J.hd) (by rfl) b5 PyProof.Rows.boot_min (zA (pv 6) pa_nil)) pe_non))))))),?_⟩
 try dsimp only[zb,zg,zq,zo,zp]
 let f5:=yf bs.length e5 b8;z_go;show⟨il,_,rfl,.inl b7,λX e6=>?_⟩;let e0:Ext [] H (upd H X (.lst (N.map V.int))):=.laid e6;let h0:upd H X (.lst (N.map V.int)) X=Sa (.lst (N.map V.int)):=zB;generalize upd H X (.lst (N.map V.int))=H0 at e0 h0 ⊢;z_go;show⟨len2 (by change 1<=1000;decide),λf0 b9=>?_⟩;let e1:Ext [] H (upd H0 f0 (.lst [.ref X])):=e0.trans (.laid b9);let h1:upd H0 f0 (.lst [.ref X]) f0=Sa (.lst [.ref X]):=zB;let d1:DenL K (upd H0 f0 (.lst [.ref X])) ([N].map intsD) [.ref X]:=.cons (.list (SqL.of (Ext.laid (ts:=[]) b9 _ _ ∅ h0)) (DenL.ofInts N)) .nil;generalize upd H0 f0 (.lst [.ref X])=H1 at e1 h1 d1 ⊢;z_go;show⟨wa,bs,rfl,.inl (e1.toSame.seq c9),?_⟩
 z_go;show⟨_,rfl,∎,∎,xh (lo:=0) (n:=(bs.length:Int).toNat) (λi a G=>∃(fl:Sf)(D:List V)(Y:List (List Int))(o5 o6:Option V),a=[Sa (.ref wa),Sa (.ref wl),Sa (.ref ca),Sa (.ref il),Sa (.ref fl),o5,o6]/\Ext [] H G/\G fl=Sa (.lst D)/\DenL K G (Y.map intsD) D/\LsI N i Y) ?_ ?_ ?_⟩
 .exact⟨f0,_,[N],_,_,rfl,e1,h1,d1,.zero N⟩
 .rintro i a G hi ⟨fl,D,Y,o5,o6,rfl,eG,d,dG,I⟩ N_ B_ C_ R_ hN_ hC_ hR_;let hi:i<bs.length:=by lia
  let a0:=dG.len;rw[aA]at a0;let c0:(2:Nat)^(i+1)<=2^12:=Nat.pow_le_pow_right ⋯ ∎;let f6:(2:Nat)^(i+1)=2*2^i:=by rw[Nat.pow_succ];lia
  let c1:=I.few;rw[eQ];z_go;show⟨il,_,rfl,.inl (eG.toSame.seq b7),rfl,yY N,?_⟩;rw[if_pos rfl,yX];z_go;by_cases a1:(i:Int)∈N
  .rw [decide_eq_true a1];kt_k;show⟨fl,D,Y,_,_,rfl,eG,d,dG,I.same a1⟩
  rw[decide_eq_false a1];k_in;show⟨fl,rfl,⟨_,SqL.of d⟩,λlc a2=>?_⟩;show zn (xs:=D) (λj a c=>∃(m:Option V)(ws:List V),a=[m,Sa (.int i)]/\Ext [lc] G c/\c lc=Sa (.lst ws)/\DenL K (wo [lc] c) (((Y.take j).map λx=>x++[(i:Int)]).map intsD) ws) ?_ ?_ ?_ ?_
  .exact⟨Sb,[],rfl,.laid a2,zB,.nil⟩
  .rintro j a c hj ⟨m,ws,rfl,u,a3,g⟩;show SqL.of ((u.drop a2) _ _ ∅ d)
  .rintro j y a c R hy ⟨m,ws,rfl,u,a3,g⟩ hR;let⟨dd,a7,a8⟩:=dG.get hy;let⟨x,hx,rfl⟩:=zV a7;let⟨xa,xv,rfl,a9,b0⟩:=a8.ofList;let:=b0.ints;subst this;let f7:=(I.sup x (aK hx)).2.2;z_go;k_in;show⟨len2 (by change 1<=1000;decide),λt ht=>?_⟩;let x1:Ext [] c (upd c t (.lst [.int i])):=.laid ht;let t1:upd c t (.lst [.int i]) t=Sa (.lst [.int i]):=zB;generalize upd c t (.lst [.int i])=B at x1 t1 ⊢;let c2:=((u.drop a2).trans x1).toSame.seq a9;show⟨xa,t,_,_,rfl,rfl,c2,SqL.of t1,len2 (by rw[aA];change _+1<=1000;lia),λp hp=>?_⟩;let a5:=x1.k a3;let b1:p≠lc:=(zG a5 hp).symm;let b2:=g.len;let c3:=(aC.mp hx).1
   rw[aA,aA,aY]at b2;let x3:Ext [lc] c (upd (upd B p (.lst (x.map V.int++[.int i]))) lc (.lst (ws++[.ref p]))):=(x1.mo.trans (.laid hp)).trans .pt;show⟨ws,by rw[zC b1.symm];show a5,by rw[bV];lia,hR _ _ ⟨_,ws++[.ref p],rfl,u.trans x3,zB,?_⟩⟩;rw[zY hx,aG,aG];show DenL.append (g.mono x3.same) (.cons (.list (SqL.of (xs:=(x++[(i:Int)]).map V.int) ?_) (DenL.ofInts _)) .nil);rw[yC (by simpa using b1),zC b1,zB,aG];rfl
  .rintro a c ⟨m,ws,rfl,u,a3,g⟩;rw[a0,aU]at g;let b2:=g.len;rw[aA,aA]at b2;let C:=u.drop a2;show⟨fl,lc,D,ws,rfl,rfl,C _ _ ∅ d,a3,by rw[bV];lia,λf1 e7=>?_⟩;let x3:Ext [] c (upd c f1 (.lst (D++ws))):=.laid e7;z_go;show⟨f1,D++ws,_,_,_,rfl,eG.trans (C.trans x3),zB,?_,I.more a1⟩;rw[aG];show DenL.append (dG.mono (C.trans x3).toSame) ((g.mono (xw _ _)).mono x3.toSame)
 .rintro a G ⟨fl,D,Y,o5,o6,rfl,eG,d,dG,I⟩;rw[bE]at I;let c0:(2:Nat)^bs.length<=2^12:=Nat.pow_le_pow_right ⋯ ∎;let c1:=I.few;let a0:=dG.len;rw[aA]at a0;z_go;show⟨fl,rfl,⟨_,SqL.of d⟩,λl2 L=>?_⟩;show zn (xs:=D) (λj a c=>∃(m:Option V)(b:List (Option Int)),a=[m,Sa (.ref wl),Sa (.ref ca)]/\Ext [l2] G c/\c l2=Sa (.lst (b.map λr=>r.elim V.non V.int))/\b.length=j/\∀(k:Nat)(x:List Int)(r:Option Int),Y[k]? = Sa x->b[k]? = Sa r->(CutS W S x↔r=Sb)) ?_ ?_ ?_ ?_
  .exact⟨Sb,[],rfl,.laid L,zB,rfl,λk x r _ h=>by simp at h⟩
  .rintro j a c hj ⟨m,b,rfl,u,h2,a4,O⟩;show SqL.of ((u.drop L) _ _ ∅ d)
  .rintro j y a c R hy ⟨m,b,rfl,u,h2,a4,O⟩ hR;let⟨dd,a7,a8⟩:=dG.get hy;let⟨x,hx,rfl⟩:=zV a7;let⟨xa,xv,rfl,a9,b0⟩:=a8.ofList;let:=b0.ints;subst this;let c3:=(aC.mp hx).1;let C:=eG.trans (u.drop L);z_go;k_in;show⟨wl,ca,cl,pr,sl,xa,us,ts,W,S,cs,x,p0,p1,rfl,C.toSame.seq hU,d0.mono C.toSame,C.toSame.seqT d2,C.toSame.seq d3,d4,C.toSame.seqT b6,d5,d6,d7,d8,C.toSame.seq d9,e4.mono C.toSame,(u.drop L).toSame.seq a9,λr B e3 J=>?_⟩;let c4:∀o:Option Int,(CutS W S x↔o=Sb)->r=o.elim V.non V.int->∃xs:List V,B l2=Sa (.lst xs)/\xs.length<Sn/\R [Sa (.ref xa),Sa (.ref wl),Sa (.ref ca)] (upd B l2 (.lst (xs++[r]))):=λo ho er=>by
    show⟨_,e3.k h2,by rw[bV,aA];lia,hR _ _ ⟨_,b++[o],rfl,u.trans (e3.mo.trans .pt),?_,by rw[aF,a4];rfl,λk x' r' hk T=>?_⟩⟩
    .rw [zB,aG,er];rfl
    .by_cases l:k<b.length
     .rw [bQ l]at T;show O k x' r' hk T
     .let:k=b.length:=by let:=(aC.mp T).1;rw[aF,bF]at this;lia
      subst this;rw[bY (aI _),Nat.sub_self]at T;rw[a4,hx]at hk;cases hk;let:o=r':=by simpa using T
      rw[<-this];show ho
   rcases J with ⟨hc,rfl⟩|⟨hc,i,rfl⟩
   .exact c4 Sb ⟨λ_=>rfl,λ_=>hc⟩ rfl
   .exact c4 (Sa i) ⟨λz=>absurd z hc,λz=>by cases z⟩ rfl
  .rintro a c ⟨m,b,rfl,u,h2,a4,O⟩;let C:=eG.trans (u.drop L);z_go;show⟨l2,rfl,⟨_,SqL.of h2⟩,λl3 b3=>?_⟩;show zn (xs:=b.map λr=>r.elim V.non V.int) (λj a B=>∃(m:Option V),a=[m]/\Ext [l3] c B/\B l3=Sa (.lst (((b.take j).filterMap id).map V.int))) ?_ ?_ ?_ ?_
   .exact⟨Sb,rfl,.laid b3,zB⟩
   .rintro j a B hj ⟨m,rfl,e3,h3⟩;show SqL.of ((e3.drop b3) _ _ ∅ h2)
   .rintro j y a B R hy ⟨m,rfl,e3,h3⟩ hR;let⟨r,J,rfl⟩:=zV hy;let c3:=(aC.mp J).1;let c5:=dA id (b.take j);rw[aY]at c5;z_go;show⟨rfl,?_⟩;z_go;cases r with
    |none=>
     show iteF (iteF (hR _ _ ⟨_,rfl,e3,?_⟩));rw[h3,zY J,dE];simp
    |some i=>
     kt_le;show⟨_,h3,by rw[bV,aA];lia,hR _ _ ⟨_,rfl,e3.trans .pt,?_⟩⟩;rw[zB,zY J,dE,aG];simp
   .rintro a B ⟨m,rfl,e3,h3⟩;rw[aA,aU]at h3;let E3:=C.trans (e3.drop b3);z_go;show⟨len2 (bL _),λle e8=>?_⟩;let x4:Ext [] B (upd B le (.lst [])):=.laid e8;let h4:=x4.k h3;show⟨l3,le,_,rfl,rfl,SqL.of h4,SqL.of zB,?_⟩;generalize upd B le (.lst [])=G4 at x4 h4 ⊢;z_go;let E4:=E3.trans x4;let U:=I.none (W:=W) (S:=S) b8;by_cases v:∀x∈Y,CutS W S x
    .let e9:b.filterMap id=[]:=by
      rw[List.filterMap_eq_nil_iff];intro r J;let⟨k,hk,e⟩:=cE J;let l:k<Y.length:=by lia
      let:=(O k Y[k] r (aE l) (by rw[aE hk,e])).mp (v _ (cN l));rw[this];rfl
     rw[e9];kt_k;show q _ G4 E4 (.inl ⟨U.mpr v,rfl⟩)
    .let c6:b.filterMap id≠[]:=λz=>v λx hx=>by
      let⟨k,hk,e⟩:=cE hx;let l:k<b.length:=by lia
      let f2:b[k]? = Sa b[k]:=aE l;show(O k x b[k] (by rw[aE hk,e]) f2).mpr ?_;let:=List.filterMap_eq_nil_iff.mp z b[k] (cN l);simpa using this
     let hb:(!((b.filterMap id).map V.int).isEmpty)=Sc:=by
      cases hz:b.filterMap id with
      |nil=>show absurd hz c6
      |cons _ _=>rfl
     rw[hb];k_in;show⟨l3,_,rfl,SqL.of h4,c6,λM _ _=>q _ G4 E4 (.inr ⟨λz=>v (U.mp z),M,rfl⟩)⟩
noncomputable abbrev ib:Sr:=top 45
theorem scFewest:FnScope ["_law_work","_law_shut","_law_needed","_law_layer","_law_known","_law_turn","_law_further","_law_one","_law_tied"] ["_law_work","_law_shut","_law_needed"] (za ib):=⟨rfl,rfl,rfl,by decide +kernel,rfl,by decide +kernel,by decide +kernel⟩
theorem qRb(F:Fun K "_law_fewest" "_law_fewest" ib f fd)(L:mg "range"=Sb)(W:mg "len"=Sb)(X:mg "list"=Sb)(b3:mg "any"=Sb):FnOk P w K mg base CX0 1 f fd ["_law_work","_law_shut","_law_needed"] (qMo K):=by
 show F.go scFewest ?_;rintro e8 A d3 s H vs Q E U ⟨wa,sl,il,bs,ts,S,O,rfl,b8,e9,a3,a4,a5,c7,c8,b9,q⟩;let hu:=zk U
 refine⟨_,(zD (xq (i:=3) (j:=4) rfl scFewest.nd rfl rfl ⋯ rfl rfl (zA (yB wI (by rfl) X cJ (zA (pv 2) pa_nil)) (zA (yB wI (by rfl) X cJ (zA (pv 2) pa_nil)) pa_nil)) rfl)
   (zD (zt bD rfl (yg rfl L (zA (zN (yR K rfl) (by rfl) W bH (zA (pv 0) pa_nil)) pa_nil)) (zJ (i:=5) scFewest.nd rfl (Or.inl rfl))
   (zD (zl (zw K rfl (zN (vH U.hd) (by rfl) b3 eP (zA (yK ["_law_one"] [0,1] rfl (.of rfl) (zd (pv 3)) (λ_ _ _ _=>(zJ (i:=0) (by change(((["_law_one","_law_work","_law_shut"]:List Str))).Nodup;decide) rfl (Or.inl rfl))) (λ_ _ _ _=>.nil) (λ_ _ _ _=>(ue (zu (inP K rfl hu) (zT (zA (yL yM pe_int) (zA (pv 0) pa_nil))) (pv 2) rfl) (xO (zu (inP K rfl hu) (zT (zA (pv 0) (zA (zN (yR K rfl) (by rfl) W bH (zA (pv 1) pa_nil)) pa_nil))) (pv 2) rfl))))) pa_nil)) (λ_=>rfl)) (zE (zK (zI yA (pv 5) pe_int))) zc)
   (zD (zZ (i:=6) scFewest.nd rfl (Or.inl rfl) (zW pa_nil))
   (zD (zt bD rfl (yg rfl L (zA (zN (yR K rfl) (by rfl) W bH (zA (pv 0) pa_nil)) pa_nil)) (zJ (i:=7) scFewest.nd rfl (Or.inr rfl))
   (zD (zZ (i:=8) scFewest.nd rfl (Or.inl rfl) (zN (vH U.hd) (by rfl) b3 eP (zA (yK ["_law_other"] [1,7] rfl (.of rfl) (zd (pv 3)) (λ_ _ _ _=>(zJ (i:=0) (by change(((["_law_other","_law_shut","_law_one"]:List Str))).Nodup;decide) rfl (Or.inl rfl))) (λ_ _ _ _=>.nil) (λ_ _ _ _=>(ue (zu (inP K rfl hu) (zT (zA (pv 2) (zA (pv 0) pa_nil))) (pv 1) rfl) (xO (zu (inP K rfl hu) (zT (zA (pv 0) (zA (pv 2) pa_nil))) (pv 1) rfl))))) pa_nil)))
   (zE (zl (PW.pt (yS (zM (wS K rfl) (pv 7) (pv 4) rfl) (yy (zw K rfl (pv 8) (λ_=>rfl))))) (zE (yT (yU bB bO bP yh (pv 6) (zA (pv 7) pa_nil)))) zc))))
   (zE (xq (i:=3) (j:=4) rfl scFewest.nd rfl rfl ⋯ rfl rfl (zA (pv 6) (zA (zI (catLK K rfl) (pv 4) (pv 6)) pa_nil)) rfl))))))
   (zE (zK pe_int)))),?_⟩
 try dsimp only[zb,zg,zq,zo,zp]
 z_go;show⟨il,_,rfl,.inl c7,λll d4=>?_⟩;let x0:Ext [] H (upd H ll (.lst (O.map V.int))):=.laid d4;let y0:upd H ll (.lst (O.map V.int)) ll=Sa (.lst (O.map V.int)):=zB;generalize upd H ll (.lst (O.map V.int))=H0 at x0 y0 ⊢;z_go;show⟨il,_,rfl,.inl (x0.toSame.seq c7),λkl a6=>?_⟩;let x1:Ext [] H0 (upd H0 kl (.lst (O.map V.int))):=.laid a6;let y1:upd H0 kl (.lst (O.map V.int)) kl=Sa (.lst (O.map V.int)):=zB;let z1:=x1.k y0;let e1:=x0.trans x1;generalize upd H0 kl (.lst (O.map V.int))=H1 at x1 y1 z1 e1 ⊢;kl_no;z_go;show⟨wa,bs,rfl,.inl (e1.toSame.seq b8),?_⟩;z_go;show⟨_,rfl,∎,∎,xh (lo:=0) (n:=(bs.length:Int).toNat) (λi c G=>∃(la ka:Sf)(l C:List Int)(o5 o6 o7 o8:Option V),c=[Sa (.ref wa),Sa (.ref sl),Sa (.ref il),Sa (.ref la),Sa (.ref ka),o5,o6,o7,o8]/\Ext [] H G/\G la=Sa (.lst (l.map V.int))/\G ka=Sa (.lst (C.map V.int))/\LayI (nby (ties S)) (·∈O) (λt=>t = -1\/t=(bs.length:Int)) i l C/\C.Nodup/\(∀n∈C,0<=n/\n<(bs.length:Int))/\l.Nodup/\(∀n∈l,0<=n/\n<(bs.length:Int))/\(i+1<=C.length\/l=[])) ?_ ?_ ?_⟩
 .refine⟨ll,kl,O,O,_,_,_,_,rfl,e1,z1,y1,.zero (λ_=>Iff.rfl) (λx hx=>?_),c8,b9,c8,b9,?_⟩
  .let:=b9 x hx;lia
  .cases O with
   |nil=>show .inr rfl
   |cons _ _=>show .inl ∅
 .rintro i c G hi ⟨la,ka,l,C,o5,o6,o7,o8,rfl,eG,a7,c9,I,a8,a9,c0,c1,M⟩ N_ B_ C_ R_ hN_ hC_ hR_;let hi:i<bs.length:=by lia
  rw[eQ];z_go;show⟨la,rfl,⟨_,SqL.of a7⟩,λlc T=>?_⟩;show zn (xs:=l.map V.int) (λj c v=>∃(o0:Option V),c=[o0,Sa (.ref wa),Sa (.ref sl)]/\Ext [lc] G v/\v lc=Sa (.lst ((l.take j).map λa=>V.bl (decide ((-1,a)∈S)||decide ((a,(bs.length:Int))∈S))))) ?_ ?_ ?_ ?_
  .exact⟨Sb,rfl,.laid T,zB⟩
  .rintro j c v hj ⟨o0,rfl,e2,r⟩;show SqL.of ((e2.drop T) _ _ ∅ a7)
  .rintro j y c v R hy ⟨o0,rfl,e2,r⟩ hR;let⟨a,d,rfl⟩:=zV hy;z_go;k_in;show kq ?_;z_go;show⟨len2 (by change 2<=1000;decide),λp1 c2=>?_⟩;let w1:Ext [] v (upd v p1 (.tup [.int (-1),.int a])):=.laid c2;let Y:SqP K (upd v p1 (.tup [.int (-1),.int a])) p1 (-1,a):=SqT.of zB;generalize upd v p1 (.tup [.int (-1),.int a])=G3 at w1 Y ⊢;let E3:=eG.trans ((e2.drop T).trans w1);z_go;show xD (E3.toSame.seq a3) (a4.mono E3.toSame) Y ?_;kj_on;let Z:∀(b:Bool)(B:Hp),Ext [] G3 B->b=(decide ((-1,a)∈S)||decide ((a,(bs.length:Int))∈S))->∃vs,B lc=Sa (.lst vs)/\vs.length<Sn/\R [Sa (.int a),Sa (.ref wa),Sa (.ref sl)] (upd B lc (.lst (vs++[.bl b]))):=λb B e4 eb=>by
    let d5:=(aC.mp d).1;let a6:=yf bs.length c0 c1;show⟨_,(w1.trans e4).k r,by rw[bV,aA,aY];lia,hR _ _ ⟨_,rfl,e2.trans ((w1.trans e4).mo.trans .pt),?_⟩⟩;rw[zB,zY d,aG,eb];rfl
   by_cases o:(-1,a)∈S
   .rw [decide_eq_true o];show iteT (Z Sc G3 (.refl _ _) (by rw[decide_eq_true o];rfl))
   .rw [decide_eq_false o];kt_k;show⟨wa,bs,rfl,.inl (E3.toSame.seq b8),?_⟩;z_go;show⟨len2 (by change 2<=1000;decide),λp2 c3=>?_⟩;let w2:Ext [] G3 (upd G3 p2 (.tup [.int a,.int bs.length])):=.laid c3;let a0:SqP K (upd G3 p2 (.tup [.int a,.int bs.length])) p2 (a,(bs.length:Int)):=SqT.of zB;generalize upd G3 p2 (.tup [.int a,.int bs.length])=B at w2 a0 ⊢;z_go;show xD ((E3.trans w2).toSame.seq a3) (a4.mono (E3.trans w2).toSame) a0 ?_;show Z _ B w2 (by rw[decide_eq_false o];rfl)
  .rintro c v ⟨o0,rfl,e2,r⟩;rw[aA,aU]at r;z_go;let E2:=eG.trans (e2.drop T);let b4:=e2.drop T _ _ ∅ a7;let b5:=e2.drop T _ _ ∅ c9;show⟨lc,l.map λa=>(decide ((-1,a)∈S)||decide ((a,(bs.length:Int))∈S)),rfl,SqL.of (by rw[dC];show r),?_⟩;kj_on;rw[hZ];cases b6:l.any (id∘λa=>(decide ((-1,a)∈S)||decide ((a,(bs.length:Int))∈S)))with
   |true=>
    k_in;let⟨a,d,D⟩:=bX.mp b6;let D:(decide ((-1,a)∈S)||decide ((a,(bs.length:Int))∈S))=Sc:=D;rw[eA,decide_eq_true_iff,decide_eq_true_iff]at D;let hL:Least (nby (ties S)) (·∈O) (λt=>t = -1\/t=(bs.length:Int)) (i+1):=by
     rcases D with h|h
     .exact I.goal d (tie_mem.mpr (.inr h)) (.inl rfl)
     .exact I.goal d (tie_mem.mpr (.inl h)) (.inr rfl)
    show q (i+1) v E2 (.inr ⟨∎,hL⟩)
   |false=>
    kt_k;show⟨len2 (bL _),λN a1=>?_⟩;let x3:Ext [] v (upd v N (.lst [])):=.laid a1;let d6:la≠N:=zG b4 a1;let d0:ka≠N:=zG b5 a1;let y3:upd v N (.lst []) N=Sa (.lst (([]:List Int).map V.int)):=zB;let z3:=x3.k b4;let u3:=x3.k b5;let e3:=E2.trans x3;let X3:Ext [N] v (upd v N (.lst [])):=x3.mo;generalize upd v N (.lst [])=G3 at x3 y3 z3 u3 e3 X3 ⊢;z_go;show⟨wa,bs,rfl,.inl (e3.toSame.seq b8),?_⟩;z_go;show⟨_,rfl,∎,∎,xh (lo:=0) (n:=(bs.length:Int).toNat) (λj c B=>∃(fu:List Int)(o7 o8:Option V),c=[Sa (.ref wa),Sa (.ref sl),Sa (.ref il),Sa (.ref la),Sa (.ref ka),Sa (.int i),Sa (.ref N),o7,o8]/\Ext [N] G3 B/\B N=Sa (.lst (fu.map V.int))/\fu.Nodup/\∀y,y∈fu↔(0<=y/\y<(j:Int))/\y∉C/\∃a∈l,(y,a)∈S\/(a,y)∈S) ?_ ?_ ?_⟩
    .exact⟨[],_,_,rfl,.refl _ _,y3,.nil,λy=>⟨λz=>by simp at z,λ⟨z,_⟩=>by lia⟩⟩
    .rintro j c B hj ⟨fu,o7,o8,rfl,e4,h4,u,m⟩ N2_ B2_ C2_ R2_ hN2_ hC2_ hR2_;rw[eQ];let hj:j<bs.length:=by lia
     let E4:Ext [] H B:=E2.trans ((X3.trans e4).drop a1);z_go;let b7:=e4 _ _ (by simpa using d6) z3;let a2:=e4 _ _ (by simpa using d0) u3;show⟨la,rfl,⟨_,SqL.of b7⟩,λlt b0=>?_⟩;show zn (xs:=l.map V.int) (λk c G5=>∃(o0:Option V),c=[o0,Sa (.ref sl),Sa (.int j)]/\Ext [lt] B G5/\G5 lt=Sa (.lst ((l.take k).map λa=>V.bl (decide (((j:Int),a)∈S)||decide ((a,(j:Int))∈S))))) ?_ ?_ ?_ ?_
     .exact⟨Sb,rfl,.laid b0,zB⟩
     .rintro k c G5 hk ⟨o0,rfl,e5,h5⟩;show SqL.of ((e5.drop b0) _ _ ∅ b7)
     .rintro k y c G5 R hy ⟨o0,rfl,e5,h5⟩ hR;let⟨a,d,rfl⟩:=zV hy;z_go;k_in;show kq ?_;z_go;show⟨len2 (by change 2<=1000;decide),λp1 c2=>?_⟩;let w1:Ext [] G5 (upd G5 p1 (.tup [.int j,.int a])):=.laid c2;let Y:SqP K (upd G5 p1 (.tup [.int j,.int a])) p1 ((j:Int),a):=SqT.of zB;generalize upd G5 p1 (.tup [.int j,.int a])=G6 at w1 Y ⊢;let E6:=(E4.trans (e5.drop b0)).trans w1;z_go;show xD (E6.toSame.seq a3) (a4.mono E6.toSame) Y ?_;kj_on;let Z:∀(b:Bool)(G7:Hp),Ext [] G6 G7->b=(decide (((j:Int),a)∈S)||decide ((a,(j:Int))∈S))->∃vs,G7 lt=Sa (.lst vs)/\vs.length<Sn/\R [Sa (.int a),Sa (.ref sl),Sa (.int j)] (upd G7 lt (.lst (vs++[.bl b]))):=λb G7 e7 eb=>by
       let d5:=(aC.mp d).1;let a6:=yf bs.length c0 c1;show⟨_,(w1.trans e7).k h5,by rw[bV,aA,aY];lia,hR _ _ ⟨_,rfl,e5.trans ((w1.trans e7).mo.trans .pt),?_⟩⟩;rw[zB,zY d,aG,eb];rfl
      by_cases o:((j:Int),a)∈S
      .rw [decide_eq_true o];show iteT (Z Sc G6 (.refl _ _) (by rw[decide_eq_true o];rfl))
      .rw [decide_eq_false o];kt_k;show⟨len2 (by change 2<=1000;decide),λp2 c3=>?_⟩;let w2:Ext [] G6 (upd G6 p2 (.tup [.int a,.int j])):=.laid c3;let a0:SqP K (upd G6 p2 (.tup [.int a,.int j])) p2 (a,(j:Int)):=SqT.of zB;generalize upd G6 p2 (.tup [.int a,.int j])=G7 at w2 a0 ⊢;z_go;show xD ((E6.trans w2).toSame.seq a3) (a4.mono (E6.trans w2).toSame) a0 ?_;show Z _ G7 w2 (by rw[decide_eq_false o];rfl)
     .rintro c G5 ⟨o0,rfl,e5,h5⟩;rw[aA,aU]at h5;z_go;let E5:=e5.drop b0;let b1:=E5 _ _ ∅ h4;let d1:=E5 _ _ ∅ a2;show⟨lt,l.map λa=>(decide (((j:Int),a)∈S)||decide ((a,(j:Int))∈S)),rfl,SqL.of (by rw[dC];show h5),?_⟩;rw[hZ];let J:(l.any (id∘λa=>(decide (((j:Int),a)∈S)||decide ((a,(j:Int))∈S))))=Sc ↔ ∃a∈l,((j:Int),a)∈S\/(a,(j:Int))∈S:=by
       rw[bX];show⟨λ⟨a,d,D⟩=>⟨a,d,?_⟩,λ⟨a,d,D⟩=>⟨a,d,?_⟩⟩
       .let D:(decide (((j:Int),a)∈S)||decide ((a,(j:Int))∈S))=Sc:=D
        rwa[eA,decide_eq_true_iff,decide_eq_true_iff]at D
       .show (decide (((j:Int),a)∈S)||decide ((a,(j:Int))∈S))=Sc
        rwa[eA,decide_eq_true_iff,decide_eq_true_iff]
      generalize l.any (id∘λa=>(decide (((j:Int),a)∈S)||decide ((a,(j:Int))∈S)))=tb at J ⊢;z_go;let c4:=e4.trans (E5.mo (us:=[N]));let d7:((j+1:Nat):Int)=j+1:=rfl;let skip:¬((j:Int)∉C/\∃a∈l,((j:Int),a)∈S\/(a,(j:Int))∈S)->∀y,y∈fu↔(0<=y/\y<((j+1:Nat):Int))/\y∉C/\∃a∈l,(y,a)∈S\/(a,y)∈S:=λhn y=>by
       rw[m];show⟨λ⟨o,r⟩=>⟨∎,r⟩,λ⟨o,r⟩=>⟨⟨o.1,?_⟩,r⟩⟩;by_cases e:y=(j:Int)
       .rw [e]at r;show absurd r hn
       .lia
      show⟨ka,_,rfl,.inl (SqL.of d1),rfl,yY _,?_⟩;rw[if_pos rfl,yX];kj_on;by_cases b2:(j:Int)∈C
      .rw [decide_eq_true b2];cbv;show⟨fu,_,_,rfl,c4,b1,u,skip λh=>h.1 b2⟩
      .rw [decide_eq_false b2];k_in;show⟨tb,rfl,?_⟩;cases tb with
       |false=>
        kt_k;show⟨fu,_,_,rfl,c4,b1,u,skip λh=>by let:=J.mpr h.2;cases this⟩
       |true=>
        show iteT ?_;let d8:(j:Int)∉fu:=λz=>by let:=((m _).mp z).1;lia
        let c5:=yf bs.length u λn hn=>by let:=((m n).mp hn).1;lia
        z_go;show yD b1 ?_;z_go;show yd b1 (zU (by rw[aA];lia)) ?_;z_go;show⟨fu++[(j:Int)],_,_,rfl,c4.trans .pt,by rw[zB,aG];rfl,?_,λy=>?_⟩
        .rw [cI];show⟨u,cQ.mpr ⟨∅,.nil⟩,λa d b hb=>by rw[aH.mp hb];show λz=>d8 (z▸d)⟩
        .rw [aN,aH,m];constructor
         .rintro (⟨o,r⟩|rfl)
          .exact⟨∎,r⟩
          .exact⟨∎,b2,J.mp rfl⟩
         .rintro⟨o,r⟩;by_cases e:y=(j:Int)
          .exact .inr e
          .exact .inl ⟨∎,r⟩
    .rintro c B ⟨fu,o7,o8,rfl,e4,h4,u,m⟩;rw[bE]at m;z_go;let E4:Ext [] H B:=E2.trans ((X3.trans e4).drop a1);let a2:=e4 _ _ (by simpa using d0) u3;let c6:∀n∈fu,0<=n/\n<(bs.length:Int):=λn hn=>((m n).mp hn).1;let c5:=yf bs.length u c6;let d9:=yf bs.length a8 a9;let hT:∀a∈l,∀g∈nby (ties S) a,¬(g = -1\/g=(bs.length:Int)):=λa d g hg d2=>by
      let D:=List.any_eq_false.mp b6 a d;let D:¬(decide ((-1,a)∈S)||decide ((a,(bs.length:Int))∈S))=Sc:=D;rw[eA,decide_eq_true_iff,decide_eq_true_iff]at D;rcases tie_mem.mp hg with h|h
      .let U:=a5 _ h;rcases d2 with e|e
       .let:(0:Int)<=g:=U.2.2.1;lia
       .rw [e]at h;show D (.inr h)
      .let U:=a5 _ h;rcases d2 with e|e
       .rw [e]at h;show D (.inl h)
       .let:g<(bs.length:Int):=U.2.1;lia
     let hf:∀y,y∈fu↔y∉C/\∃a∈l,y∈nby (ties S) a:=λy=>by
      rw[m];constructor
      .rintro⟨_,o,a,d,h⟩;show⟨o,a,d,tie_mem.mpr h.symm⟩
      .rintro⟨o,a,d,h⟩;let hn:=hT a d y h;let hs:=tie_mem.mp h;show⟨?_,o,a,d,hs.symm⟩;rcases hs with h|h
       .let U:=a5 _ h;let r:(0:Int)<=y/\y<=(bs.length:Int):=U.2.2;show⟨r.1,∎⟩
       .let U:=a5 _ h;let r:(-1:Int)<=y:=U.1;let h3:y<(bs.length:Int):=U.2.1;show⟨∎,h3⟩
     let e0:(C++fu).Nodup:=by
      rw[cI];show⟨a8,u,λa d b hb z=>((m b).mp hb).2.1 (z▸d)⟩
     show⟨ka,N,_,_,rfl,rfl,SqL.of a2,SqL.of h4,len2 (by rw[aA,aA];lia),λp hp=>?_⟩;let xp:Ext [] B (upd B p (.lst (C.map V.int++fu.map V.int))):=.laid hp;kl_no;z_go;show⟨N,p,fu,C++fu,_,_,_,_,rfl,E4.trans xp,xp.k h4,by rw[zB,aG],I.next hT hf,e0,λn hn=>?_,u,c6,?_⟩
     .rcases aN.mp hn with h|h
      .exact a9 n h
      .exact c6 n h
     .by_cases e:fu=[]
      .exact .inr e
      .refine .inl ?_;let o:0<fu.length:=gX.mpr e;rw[aF];rcases M with h|h
       .lia
       .subst h;let⟨y,hy⟩:=gR _ e;let⟨_,_,a,d,_⟩:=(m y).mp hy;cases d
 .rintro c G ⟨la,ka,l,C,o5,o6,o7,o8,rfl,eG,a7,c9,I,a8,a9,c0,c1,M⟩;rw[bE]at I M;let a6:=yf bs.length a8 a9;let e6:l=[]:=by
   rcases M with h|h
   .lia
   .exact h
  subst e6;z_go;show q 0 G eG (.inl ⟨rfl,λs hs y hy=>I.dead hs hy⟩)
noncomputable abbrev ic:Sr:=top 38
theorem scSetting:FnScope ["_law_tape","_law_ways_here","_law_kind","_law_counts","_law_prices","_law_shut","_law_often","_law_way"] ["_law_tape","_law_ways_here"] (za ic):=⟨rfl,rfl,rfl,by decide +kernel,rfl,by decide +kernel,by decide +kernel⟩
theorem qOe(F:Fun K "_law_setting" "_law_setting" ic f fd)(c2:mg "int"=Sb)(hD:Has P w K mg base "_law_draw" 1 ["_law_tape","_law_many"] xc):FnOk P w K mg base CX0 2 f fd ["_law_tape","_law_ways_here"] (qJk K):=by
 show F.go scSetting ?_;rintro g9 A e6 s H vs Q E hr ⟨t,wl,k,us,rfl,hT,hk,c3,b0,e7,q⟩;let hu:=zk hr
 refine⟨_,(PSsx.h (zX (psx (zZ (i:=2) scSetting.nd rfl (Or.inr rfl) (zF hD hr ⋯ (zA (pv 0) (zA pe_int pa_nil)))))
   (zX (psx (xZ (i:=3) ["_law_way"] [0,2] rfl (.of rfl) scSetting.nd rfl (Or.inl rfl) (zd (pv 1)) (λ_ _ _ _=>(zJ (i:=0) (by change(((["_law_way","_law_tape","_law_kind"]:List Str))).Nodup;decide) rfl (Or.inl rfl))) (λ_ _ _ _=>.nil) (λ_ _ _ _=>(zF hD hr ⋯ (zA (pv 1) (zA (zH (kF K rfl) (zW (zA pe_int (zA pe_int (zA pe_int (zA (zI vT pe_int pe_int) pa_nil))))) (pv 2) (λ_ _=>rfl)) pa_nil))))))
   (zX (qTf (i:=4) scSetting.nd rfl (Or.inl rfl) (qZ1 zO qO8 (zF hD hr ⋯ (zA (pv 0) (zA pe_int pa_nil))) (λ_ _=>rfl)))
   (zX (psx (xq (i:=5) (j:=6) rfl scSetting.nd rfl rfl ⋯ rfl rfl (zA (zW pa_nil) (zA (zH zO (zW (zA pe_int (zA pe_int (zA pe_int (zA pe_int pa_nil))))) (zF hD hr ⋯ (zA (pv 0) (zA pe_int pa_nil))) (λ_ _=>rfl)) pa_nil)) rfl))
   (zX (psx (zt bD rfl (zd (zI ot (pv 1) (yB wj (by rfl) c2 dF (zA (zu wh (pv 6) pe_int (zR _)) pa_nil)))) (zJ (i:=7) scSetting.nd rfl (Or.inl rfl))
   (PSsx.h (zx (xE (zM yJ (zF hD hr ⋯ (zA (pv 0) (zA (pv 6) pa_nil))) pe_int (zR _)) (zx (psx (yT (yU bB bO bP yh (pv 5) (zA (pv 7) pa_nil))))) zc)))))
   (zx (psx (zK (zT (zA (pv 3) (zA (pv 4) (zA (pv 5) pa_nil))))))))))))),?_⟩
 try dsimp only[zb,zg,zq,zo,zp]
 z_go;show zi hT ∎ ⋯ ⋯ λkd H1 a1 b1 T1 e1 k1=>?_;z_go;let M:H1 wl=Sa (.lst us):=by rw[k1 wl b0];show c3
 show⟨wl,rfl,⟨_,SqL.of M⟩,λm N=>?_⟩;let C:m≠t:=T1.ne N;show zn (xs:=us) (λj g G=>∃(o0:Option V)(O:List Int),g=[o0,Sa (.ref t),Sa (.int kd)]/\Ext [t,m] H1 G/\Tape G t (k+1+j)/\G m=Sa (.lst (O.map V.int))/\O.length=j) ?_ ?_ ?_ ?_
 .exact⟨Sb,[],rfl,(.laid N),T1.ext (ts:=[]) (.laid N) ∅,zB,rfl⟩
 .rintro j g G hj ⟨o0,O,rfl,eG,TG,b,a6⟩;let:wl≠m:=zG M N;show SqL.of (eG _ _ (by simp[b0,this]) M)
 .rintro j y g G R hy ⟨o0,O,rfl,eG,TG,b,a6⟩ hR;let hj:=(aC.mp hy).1;z_go;k_in;show wx ⋯ ⋯ ⋯ ?_;z_go;show⟨len2 (by change 4<=1000;decide),λl1 e9=>?_⟩;let x1:Ext [] G (upd G l1 (.lst (([2,4,10,10^6]:List Int).map V.int))):=.laid e9;let T2:=TG.ext (ts:=[]) x1 ∅;let f0:=x1.k b;let⟨sv,f1,f2⟩:=xi (ns:=[2,4,10,10^6]) a1 b1;let m1:0<sv/\sv<2^24:=by
   simp only[aM,bA,or_false]at f1;lia
  z_go;show zL (SqL.of (xs:=([2,4,10,10^6]:List Int).map V.int) zB) f2 ?_;z_go;show zi T2 ∎ m1.1 m1.2 λr H3 a3 b3 T3 e3 k3=>?_;let f3:H3 m=Sa (.lst (O.map V.int)):=by rw[k3 m C];show f0
  show⟨_,f3,zU (by rw[aA];lia),hR _ _ ⟨_,O++[r],rfl,?_,?_,by rw[zB,aG];rfl,by rw[aF,a6];rfl⟩⟩
  .exact (eG.trans ((x1.mo).trans (e3.mono ∅))).trans (.put ∅)
  .exact (T3.ext (ts:=[m]) (.put ∅) (by simpa using C.symm)).mono ∎
 rintro g G ⟨o0,O,rfl,eG,TG,b,a6⟩;let EG:Ext [t] H G:=e1.trans ((eG.mo (us:=[m,t])).drop N);let h1:G m=Sa (.lst (O.map V.int)):=b;let X:Ext [] G G:=.refl _ _;let a:=TG;z_go;show⟨len2 (by change 2<=1000;decide),λS c4=>?_⟩;let n1:=a.ne c4;let x1:Ext [] G (upd G S (.tup [.int 1,.int 1])):=.laid c4;let d:(upd G S (.tup [.int 1,.int 1])) S=Sa (.tup [.int 1,.int 1]):=zB;replace X:=X.trans x1;replace a:=a.ext (ts:=[]) x1 ∅;replace b:=x1.k b;generalize upd G S (.tup [.int 1,.int 1])=G1 at x1 d X a b ⊢;z_go;show⟨len2 (by change 2<=1000;decide),λT c5=>?_⟩;let n2:=a.ne c5;let x2:Ext [] G1 (upd G1 T (.tup [.int 1,.int 1])):=.laid c5
 let l:(upd G1 T (.tup [.int 1,.int 1])) T=Sa (.tup [.int 1,.int 1]):=zB;replace d:=x2.k d;replace X:=X.trans x2;replace a:=a.ext (ts:=[]) x2 ∅;replace b:=x2.k b;generalize upd G1 T (.tup [.int 1,.int 1])=G2 at x2 d l X a b ⊢;z_go;show⟨len2 (by change 2<=1000;decide),λU c6=>?_⟩;let n3:=a.ne c6;let x3:Ext [] G2 (upd G2 U (.tup [.int 2,.int 1])):=.laid c6;let p:(upd G2 U (.tup [.int 2,.int 1])) U=Sa (.tup [.int 2,.int 1]):=zB;replace d:=x3.k d;replace l:=x3.k l;replace X:=X.trans x3;replace a:=a.ext (ts:=[]) x3 ∅;replace b:=x3.k b;generalize upd G2 U (.tup [.int 2,.int 1])=G3 at x3 d l p X a b ⊢;z_go;show⟨len2 (by change 2<=1000;decide),λW c7=>?_⟩
 let n4:=a.ne c7;let x4:Ext [] G3 (upd G3 W (.tup [.int 0,.int 3])):=.laid c7;let L:(upd G3 W (.tup [.int 0,.int 3])) W=Sa (.tup [.int 0,.int 3]):=zB;replace d:=x4.k d;replace l:=x4.k l;replace p:=x4.k p;replace X:=X.trans x4;replace a:=a.ext (ts:=[]) x4 ∅;replace b:=x4.k b;generalize upd G3 W (.tup [.int 0,.int 3])=G4 at x4 d l p L X a b ⊢;z_go;show⟨len2 (by change 2<=1000;decide),λY c8=>?_⟩;let n5:=a.ne c8;let x5:Ext [] G4 (upd G4 Y (.tup [.int 1,.int 0])):=.laid c8;let y5:(upd G4 Y (.tup [.int 1,.int 0])) Y=Sa (.tup [.int 1,.int 0]):=zB;replace d:=x5.k d;replace l:=x5.k l;replace p:=x5.k p;replace L:=x5.k L;replace X:=X.trans x5
 replace a:=a.ext (ts:=[]) x5 ∅;replace b:=x5.k b;generalize upd G4 Y (.tup [.int 1,.int 0])=G5 at x5 d l p L y5 X a b ⊢;z_go;show⟨len2 (by change 2<=1000;decide),λZ c9=>?_⟩;let n6:=a.ne c9;let x6:Ext [] G5 (upd G5 Z (.tup [.int 7,.int 5])):=.laid c9;let y6:(upd G5 Z (.tup [.int 7,.int 5])) Z=Sa (.tup [.int 7,.int 5]):=zB;replace d:=x6.k d;replace l:=x6.k l;replace p:=x6.k p;replace L:=x6.k L;replace y5:=x6.k y5;replace X:=X.trans x6;replace a:=a.ext (ts:=[]) x6 ∅;replace b:=x6.k b;generalize upd G5 Z (.tup [.int 7,.int 5])=G6 at x6 d l p L y5 y6 X a b ⊢;z_go;show⟨len2 (by change 6<=1000;decide),λlp d0=>?_⟩;let f4:=a.ne d0
 let x7:Ext [] G6 (upd G6 lp (.lst [.ref S,.ref T,.ref U,.ref W,.ref Y,.ref Z])):=.laid d0;let y7:(upd G6 lp (.lst [.ref S,.ref T,.ref U,.ref W,.ref Y,.ref Z])) lp=Sa (.lst [.ref S,.ref T,.ref U,.ref W,.ref Y,.ref Z]):=zB;replace X:=X.trans x7;replace a:=a.ext (ts:=[]) x7 ∅;replace b:=x7.k b;replace d:=x7.k d;replace l:=x7.k l;replace p:=x7.k p;replace L:=x7.k L;replace y5:=x7.k y5;replace y6:=x7.k y6;generalize upd G6 lp (.lst [.ref S,.ref T,.ref U,.ref W,.ref Y,.ref Z])=G7 at x7 d l p L y5 y6 y7 X a b ⊢;z_go;show zi a ∎ ⋯ ⋯ λr8 G8 a8 b8 T8 e8 k8=>?_;let d1:∃(pr:Sf)(p0 D:Int),atI [V.ref S,.ref T,.ref U,.ref W,.ref Y,.ref Z] r8=Sa (.ref pr)/\pr≠t/\G8 pr=Sa (.tup [.int p0,.int D])/\0<=p0/\p0<=1000/\0<=D/\D<=1000:=by
  let hc:r8=0\/r8=1\/r8=2\/r8=3\/r8=4\/r8=5:=by lia
  rcases hc with rfl|rfl|rfl|rfl|rfl|rfl
  .exact⟨S,1,1,rfl,n1,by rw[k8 S n1];show d,⋯,⋯,⋯,⋯⟩
  .exact⟨T,1,1,rfl,n2,by rw[k8 T n2];show l,⋯,⋯,⋯,⋯⟩
  .exact⟨U,2,1,rfl,n3,by rw[k8 U n3];show p,⋯,⋯,⋯,⋯⟩
  .exact⟨W,0,3,rfl,n4,by rw[k8 W n4];show L,⋯,⋯,⋯,⋯⟩
  .exact⟨Y,1,0,rfl,n5,by rw[k8 Y n5];show y5,⋯,⋯,⋯,⋯⟩
  .exact⟨Z,7,5,rfl,n6,by rw[k8 Z n6];show y6,⋯,⋯,⋯,⋯⟩
 let⟨pr,p0,D,f5,d2,d3,q0,q1,q2,q3⟩:=d1;show zL (SqL.of (by rw[k8 lp f4];show y7)) f5 ?_;let d4:G8 m=Sa (.lst (O.map V.int)):=by rw[k8 m C];show b
 let E8:Ext [t] H G8:=EG.trans ((X.mo).trans e8);clear d l p L y5 y6 y7 x1 x2 x3 x4 x5 x6 x7 X;z_go;show⟨len2 (bL _),λe a0=>?_⟩;let a7:=T8.ne a0;let f6:m≠e:=zG d4 a0;let f7:pr≠e:=zG d3 a0;let x9:Ext [] G8 (upd G8 e (.lst [])):=.laid a0;let y9:upd G8 e (.lst []) e=Sa (.lst []):=zB;let T9:=T8.ext (ts:=[]) x9 ∅;let b2:=x9.k d4;let a2:=x9.k d3;let E9:=E8.trans x9.mo;generalize upd G8 e (.lst [])=G9 at x9 y9 T9 b2 a2 E9 ⊢;z_go;show⟨len2 (by change 4<=1000;decide),λl2 d5=>?_⟩;let n2:=T9.ne d5;let I:Ext [] G9 (upd G9 l2 (.lst (([5,12,0,0]:List Int).map V.int))):=.laid d5;let d6:=T9.ext (ts:=[]) I ∅
 z_go;show zi d6 ∎ ⋯ ⋯ λh2 c f8 f9 d7 d8 a4=>?_;let⟨of,d9,e0⟩:=xi (ns:=[5,12,0,0]) f8 f9;show zL (SqL.of (xs:=([5,12,0,0]:List Int).map V.int) (by rw[a4 l2 n2];show zB)) e0 ?_;let o:c e=Sa (.lst []):=by rw[a4 e a7];show I.k y9
 let v:c m=Sa (.lst (O.map V.int)):=by rw[a4 m C];show I.k b2
 let B:c pr=Sa (.tup [.int p0,.int D]):=by rw[a4 pr d2];show I.k a2
 let a5:Ext [t] H c:=E9.trans (I.mo.trans d8);let g0:H e=Sb:=E8.none (by simpa using a7) a0;let g8:of=0\/(0<of/\of<2^24):=by
  simp only[aM,bA,or_false]at d9;lia
 clear x9 I y9 T9 d6 b2 a2 E9 a4 d8 e0 d9;kl_no;z_go;let b4:c wl=Sa (.lst us):=a5 _ _ (by simpa using b0) c3;show .inr ⟨_,rfl,?_⟩;let g1:∃n:Nat,n<=1/\(if decide (0<of)=Sc then (1:Int)else 0)=(n:Int)/\(n≠0->0<of):=by
  by_cases h:0<of
  .exact⟨1,aI _,by rw[decide_eq_true h];rfl,λ_=>h⟩
  .exact⟨0,bL _,by rw[decide_eq_false h];rfl,λz=>absurd rfl z⟩
 let⟨n,g2,g3,g4⟩:=g1;change rRep (V.ref wl) (V.int (if decide (0<of)=Sc then (1:Int)else 0)) c _;rw[g3];let e2:us.length*n<=25:=cH (Nat.mul_le_mul e7 g2) ⋯;show⟨wl,_,us,rfl,rfl,b4,∎,∎,by rw[bE,bV];lia,λlr b5=>?_⟩;rw[bE];let g5:(List.replicate n us).flatten.length<=25:=by rw[oq,Nat.mul_comm];show e2
 let b6:∀(i:Nat)x,(List.replicate n us).flatten[i]? = Sa x->0<of:=λi x h=>by
  show g4 λz=>?_;subst z;simp at h
 generalize (List.replicate n us).flatten=zs at g5 b6 ⊢;let J:Ext [] c (upd c lr (.lst zs)):=.laid b5;let b7:upd c lr (.lst zs) lr=Sa (.lst zs):=zB;let e4:=d7.ext (ts:=[]) J ∅;let g6:lr≠e:=(zG o b5).symm;let g7:=d7.ne b5;replace o:=J.k o;replace v:=J.k v;replace B:=J.k B;replace a5:Ext [t] H (upd c lr (.lst zs)):=a5.trans J.mo;generalize upd c lr (.lst zs)=e5 at J b7 e4 o v B a5 ⊢;show⟨lr,rfl,⟨_,SqL.of b7⟩,xU (xs:=zs) (λi g G=>∃(o7:Option V)(vs:List V),g=[Sa (.ref t),Sa (.ref wl),Sa (.int kd),Sa (.ref m),Sa (.ref pr),Sa (.ref e),Sa (.int of),o7]/\Ext [e,t] e5 G/\Tape G t (k+100+i)/\G e=Sa (.lst vs)/\vs.length<=i) ?_ ?_ ?_ ?_⟩
 .exact⟨_,[],rfl,.refl _ _,e4.mono ∎,o,aI _⟩
 .rintro i g G hi ⟨o7,vs,rfl,u,a9,b9,hv⟩;show SqL.of (u _ _ (by simp[g6,g7]) b7)
 .rintro i x g G hx ⟨o7,vs,rfl,u,a9,b9,hv⟩ N_ B_ C_ R_ hN_ hC_ hR_;let hi:=(aC.mp hx).1;z_go;show zi a9 ∎ (b6 _ _ hx) (by let:=b6 _ _ hx;lia) λr H3 a3 b3 T3 e3 k3=>?_;let c0:H3 e=Sa (.lst vs):=by rw[k3 e a7];show b9
  z_go;show⟨rfl,?_⟩;z_go;let x3:Ext [e,t] e5 H3:=u.trans (e3.mo);by_cases h0:V.int r=V.int 0
  .rw [decide_eq_true h0];k_in;show yD c0 ?_;z_go;show yd c0 (zU ∎) ?_;z_go;show⟨_,vs++[x],rfl,x3.trans (.put ∅),(T3.ext (ts:=[e]) (.put ∅) (by simpa using a7.symm)).mono ∎,zB,by rw[aF,bF];lia⟩
  .rw [decide_eq_false h0];kt_k;show⟨_,vs,rfl,x3,T3.mono ∎,c0,∎⟩
 .rintro g G ⟨o7,vs,rfl,u,a9,b9,hv⟩;z_go;show⟨len2 (by change 3<=1000;decide),λca c1=>?_⟩;let EF:Ext [t] H G:=((a5.mo (us:=[e,t])).trans u).drop g0;let xF:Ext [] G (upd G ca (.tup [.ref m,.ref pr,.ref e])):=.laid c1;show q ca m pr e O p0 D _ ((a9.ext (ts:=[]) (.laid c1) ∅).mono ∎) (EF.trans (.laid c1)) zB (xF.k (u _ _ (by simp[f6,C]) v)) a6 (xF.k (u _ _ (by simp[f7,d2]) B)) q0 q1 q2 q3 C
noncomputable abbrev sLOdd:Sr:=top 42
theorem scLOdd:FnScope ["_law_tape","_law_some"] ["_law_tape"] (za sLOdd):=⟨rfl,rfl,rfl,by decide +kernel,rfl,by decide +kernel,by decide +kernel⟩
theorem qXc(F:Fun K "_law_odd" "_law_odd" sLOdd f m)(c:mg "len"=Sb)(y:Has P w K mg base "_law_draw" 1 ["_law_tape","_law_many"] xc):FnOk P w K mg base CX0 2 f m ["_law_tape"] (iJ K):=by
 show F.go scLOdd ?_;rintro z A e s H O Q E n ⟨t,k,rfl,hT,R,q⟩;let S:=zk n
 refine⟨_,(PSsx.h (zX (qTg (i:=1) scLOdd.nd rfl (Or.inl rfl) (qTj (K:=K)))
   (zx (psx (zK (zH zO (pv 1) (zF y n ⋯ (zA (pv 0) (zA (zN (yR K rfl) (by rfl) c bH (zA (pv 1) pa_nil)) pa_nil))) (λ_ _=>rfl))))))),?_⟩
 try dsimp only[zb,zg,zq,zo,zp]
 z_go;show λos g p j=>⟨len2 (by rw[j.len];decide),λlo b=>?_⟩;let u:=j.mono (qWc hT (Ext.laid (o:=.lst os) b));let l:Ext [] H (upd g lo (.lst os)):=p.trans (.laid b);let a:(upd g lo (.lst os)) lo=Sa (.lst os):=zB;generalize upd g lo (.lst os)=T at u l a ⊢;z_go;show⟨lo,os,rfl,.inl (SqL.of a),?_⟩;let B:os.length=19:=j.len;z_go;let C:=hT.ext (ts:=[]) l ∅;show zi C ∎ ∎ ∎ λr D G U I x J=>?_;let⟨d,v,L,M,N⟩:=u.pick G (by change r<19;lia);show zL (SqL.of (by rw[J lo (hT.ne (kj p b))];show a)) M ?_;show q d v D (I.mono ∎) ((l.mono ∅).trans x) (N.mono x.young) (qU1 d L)
noncomputable abbrev ie:Sr:=top 43
theorem scLBent:FnScope ["_law_tape","_law_numbers","_law_way","_law_at","_law_by"] ["_law_tape","_law_numbers"] (za ie):=⟨rfl,rfl,rfl,by decide +kernel,rfl,by decide +kernel,by decide +kernel⟩
theorem qTw(F:Fun K "_law_bent" "_law_bent" ie f fd)(a6:mg "len"=Sb)(a0:mg "tuple"=Sb)(hD:Has P w K mg base "_law_draw" 1 ["_law_tape","_law_many"] xc)(a9:Has P w K mg base "_law_odd" 2 ["_law_tape"] (iJ K)):FnOk P w K mg base CX0 3 f fd ["_law_tape","_law_numbers"] (qPx K):=by
 show F.go scLBent ?_;rintro c5 A b8 s H vs Q E hr ⟨t,Z,k,ns,rfl,hT,hk,O,b0,c6,q⟩;let hu:=zk hr
 refine⟨_,(PSsx.h (zX (psx (xq (i:=2) (j:=3) rfl scLBent.nd rfl rfl ⋯ rfl rfl (zA (zF hD hr ⋯ (zA (pv 0) (zA pe_int pa_nil))) (zA (zF hD hr ⋯ (zA (pv 0) (zA (zI yA (zN (yR K rfl) (by rfl) a6 bH (zA (pv 1) pa_nil)) pe_int) pa_nil))) pa_nil)) rfl))
   (zX (psx (zZ (i:=4) scLBent.nd rfl (Or.inl rfl) (zH zO (zW (zA pe_int (zA (yL yM pe_int) (zA pe_int (zA (yL yM pe_int) (zA pe_int (zA (yL yM pe_int) (zA (zI vT pe_int pe_int) pa_nil)))))))) (zF hD hr ⋯ (zA (pv 0) (zA pe_int pa_nil))) (λ_ _=>rfl))))
   (zX (xE (PW.pt (yS (zM xG (pv 2) pe_int (zR _)) (yy (zM xG (pv 3) (zN (yR K rfl) (by rfl) a6 bH (zA (pv 1) pa_nil)) (zR _))))) (zx (psx (zK (zI (catLK K rfl) (zI (catLK K rfl) (yP ym (pv 1) yN (yO (pv 3))) (zW (zA (zI yA (zH zO (pv 1) (pv 3) (λ_ _=>rfl)) (pv 4)) pa_nil))) (yP ym (pv 1) (yO (zI yA (pv 3) pe_int)) yN))))) zc)
   (zX (xE (zM yJ (pv 2) pe_int (zR _)) (zx (psx (zK (zI (catLK K rfl) (yP ym (pv 1) yN (yO (pv 3))) (yP ym (pv 1) (yO (zI yA (pv 3) pe_int)) yN))))) zc)
   (zX (xE (zM yJ (pv 2) pe_int (zR _)) (zx (psx (zK (zI (catLK K rfl) (zI (catLK K rfl) (yP ym (pv 1) yN (yO (pv 3))) (zW (zA (pv 4) pa_nil))) (yP ym (pv 1) (yO (pv 3)) yN))))) zc)
   (zX (xE (zM yJ (pv 2) pe_int (zR _)) (zx (psx (zK (zI (catLK K rfl) (zI (catLK K rfl) (yP ym (pv 1) yN (yO (pv 3))) (zW (zA (zF a9 hr ⋯ (zA (pv 0) pa_nil)) pa_nil))) (yP ym (pv 1) (yO (zI yA (pv 3) pe_int)) yN))))) zc)
   (zX (xE (zM yJ (pv 2) pe_int (zR _)) (zx (psx (zK (zH zO (zW (zA (yB qL6 (by rfl) a0 PyProof.Rows.boot_tuple (zA (pv 1) pa_nil)) (zA (qZ3 (pv 1) (yL yM pe_int)) (zA (zI (catLK K rfl) (pv 1) (yP ym (pv 1) (yO (yL yM pe_int)) yN)) pa_nil)))) (zF hD hr ⋯ (zA (pv 0) (zA pe_int pa_nil))) (λ_ _=>rfl))))) zc)
   (zx (psx (zK (xo (zM yJ (zF hD hr ⋯ (zA (pv 0) (zA pe_int pa_nil))) pe_int (zR _)) (zF a9 hr ⋯ (zA (pv 0) pa_nil)) (yK ["_law_one"] [] rfl (.of rfl) (zd (pv 1)) (λ_ _ _ _=>(zJ (i:=0) (by change(((["_law_one"]:List Str))).Nodup;decide) rfl (Or.inl rfl))) (λ_ _ _ _=>.nil) (λ_ _ _ _=>(zI wf pe_int (pv 0)))))))))))))))),?_⟩
 try dsimp only[zb,zg,zq,zo,zp]
 z_go;show zi hT ∎ ⋯ ⋯ λwy H1 a1 b1 T1 e1 k1=>?_;z_go;let s1:H1 Z=Sa (.lst (ns.map V.int)):=e1 _ _ (by simpa using O) b0;show⟨Z,_,rfl,.inl (SqL.of s1),?_⟩;rw[aA];z_go;show zi T1 ∎ ∎ ∎ λb9 H2 a2 b2 T2 e2 k2=>?_;let s2:H2 Z=Sa (.lst (ns.map V.int)):=e2 _ _ (by simpa using O) s1;kl_no;z_go;show wx ⋯ ⋯ ⋯ ?_;z_go;show⟨len2 (by change 7<=1000;decide),λlb a7=>?_⟩;let m:Ext [] H2 (upd H2 lb (.lst (([1,-1,1,-1,2,-7,10^6]:List Int).map V.int))):=.laid a7;let c0:lb≠t:=T2.ne a7;let s3:=m.k s2;let T3:=T2.ext (ts:=[]) m ∅
 let h3:upd H2 lb (.lst (([1,-1,1,-1,2,-7,10^6]:List Int).map V.int)) lb=Sa (.lst (([1,-1,1,-1,2,-7,10^6]:List Int).map V.int)):=zB;generalize b3:upd H2 lb (.lst (([1,-1,1,-1,2,-7,10^6]:List Int).map V.int))=G3 at m s3 T3 h3;rw[show upd H2 lb (.lst [V.int 1,V.int (-1),V.int 1,V.int (-1),V.int 2,V.int (-7),V.int (10^(6:Int).toNat)])=G3 from b3];clear b3;z_go;show zi T3 ∎ ⋯ ⋯ λrb S a4 b4 T4 e4 k4=>?_;let C:S Z=Sa (.lst (ns.map V.int)):=e4 _ _ (by simpa using O) s3;let⟨by0,c1,b6⟩:=xi (ns:=[1,-1,1,-1,2,-7,10^6]) a4 b4;show zL (SqL.of (by rw[k4 lb c0];show h3)) b6 ?_;let E4:Ext [t] H S:=e1.trans (e2.trans ((m.mono ∅).trans e4))
 let I:∀(d:PyData)(v:V)(G:Hp),Ext [t] S G->Tape G t (k+20)->DenX K (yo H [t] G) d v->FewD d->Q v G:=λd v G e TG hd hf=>q d v G TG (E4.trans e) hd hf;let J:∀(p:Sf)(ms:List Int)(G:Hp),Ext [t] S G->Tape G t (k+20)->p≠t->S p=Sb->G p=Sa (.lst (ms.map V.int))->ms.length<=100->Q (.ref p) G:=λp ms G e TG hp h0 hG hl=>by
  show I (.list (ms.map .int)) (.ref p) G e TG (DenX.list (SqL.of (by rw[yj (E4.none (by simpa using hp) h0) (by simpa using hp)];show hG)) (DenXs.ints ms)) λds z=>?_;cases z
  rwa[aA]
 let l:Tape S t (k+4):=T4.mono ∎;clear T1 T2 T3 T4 e1 e2 e4 k1 k2 k4 s1 s2 s3 m h3 c1 b6 a7 hT b0 q;z_go;let T:∀(p:Sf)(ms:List Int)(G0 G:Hp),Ext [] S G0->G0 p=Sb->Ext [] G0 G->G p=Sa (.lst (ms.map V.int))->ms.length<=100->Q (.ref p) G:=λp ms G0 G e hp e' hG hl=>
  J p ms G (e.trans e').mo ((l.ext (ts:=[]) (e.trans e') ∅).mono ∎) ((l.ext (ts:=[]) e ∅).ne hp) (e.none ∅ hp) hG hl
 show qSq ?_ λhB h1=>?_
 .k_put;by_cases h4:wy=4
  .rw [decide_eq_true h4];show⟨_,rfl,iteT ?_⟩;z_go;kj_on;show xl C λc g r q1 u g1 l1=>?_;z_go;kj_on;z_go;show xl (u.k C) λx m4 U q4 D g4 l4=>?_;show vP (D.k g1) g4 ∎ λn W M B g5=>T n _ U W (u.trans D) M B g5 (by rw[aF];lia)
  rw[decide_eq_false h4];show⟨_,rfl,iteF ?_⟩;k_put;by_cases h5:wy=5
  .rw [decide_eq_true h5];show⟨_,rfl,iteT ?_⟩;z_go;kj_on;show xl C λc g r q1 u g1 l1=>?_;z_go;show⟨len2 (by change 1<=1000;decide),λa q2=>?_⟩;let X:Ext [] r (upd r a (.lst [.int by0])):=.laid q2;let g2:upd r a (.lst [.int by0]) a=Sa (.lst (([by0]:List Int).map V.int)):=zB;generalize upd r a (.lst [.int by0])=Y at X g2 ⊢;show vP (X.k g1) g2 (by change g.length+1<=1000;lia) λp3 G3 q3 m g3=>?_;let X3:=u.trans (X.trans m);z_go;kj_on;z_go;show xl (X3.k C) λx m4 U q4 D g4 l4=>?_;let c2:(g++[by0]).length=g.length+1:=by simp
   show vP (D.k g3) g4 ∎ λn W M B g5=>T n _ U W (X3.trans D) M B g5 (by rw[aF];lia)
  rw[decide_eq_false h5];show⟨_,rfl,iteF ?_⟩;k_put;by_cases N:wy=6
  .rw [decide_eq_true N];show⟨_,rfl,iteT ?_⟩;z_go;kj_on;show xl C λc g r q1 u g1 l1=>?_;z_go;show⟨t,k+4,rfl,l.ext (ts:=[]) u ∅,∎,λd v Y T2 e2 hd hf=>?_⟩;let c3:c≠t:=l.ne q1;let g2:Y c=Sa (.lst (g.map V.int)):=e2 _ _ (by simpa using c3) g1;let s5:Y Z=Sa (.lst (ns.map V.int)):=e2 _ _ (by simpa using O) (u.k C);z_go;show⟨len2 (by change 1<=1000;decide),λa q2=>?_⟩;let m:Ext [] Y (upd Y a (.lst [v])):=.laid q2;let g3:upd Y a (.lst [v]) a=Sa (.lst [v]):=zB;generalize upd Y a (.lst [v])=G3 at m g3 ⊢;show⟨c,a,_,_,rfl,rfl,SqL.of (m.k g2),SqL.of g3,len2 (by rw[aA];change g.length+1<=1000;lia),λp3 q3=>?_⟩
   let D:Ext [] G3 (upd G3 p3 (.lst (g.map V.int++[v]))):=.laid q3;let g4:upd G3 p3 (.lst (g.map V.int++[v])) p3=Sa (.lst (g.map V.int++[v])):=zB;generalize upd G3 p3 (.lst (g.map V.int++[v]))=U at D g4 ⊢;let X4:=m.trans D;z_go;kj_on;z_go;show xl (X4.k s5) λx m4 W q4 B g5 l4=>?_;show⟨p3,x,_,_,rfl,rfl,SqL.of (B.k g4),SqL.of g5,len2 (by rw[aF,aA,aA];change g.length+1+m4.length<=1000;lia),λn M=>?_⟩;let x6:Ext [] W (upd W n (.lst (g.map V.int++[v]++m4.map V.int))):=.laid M;let g6:upd W n (.lst (g.map V.int++[v]++m4.map V.int)) n=Sa (.lst (g.map V.int++[v]++m4.map V.int)):=zB
   generalize upd W n (.lst (g.map V.int++[v]++m4.map V.int))=G6 at x6 g6 ⊢;let X6:=X4.trans (B.trans x6);let b7:n≠t:=(T2.ext (ts:=[]) (X4.trans B) ∅).ne M;show I (.list (g.map .int++[d]++m4.map .int)) (.ref n) G6 (u.mo.trans (e2.trans X6.mo)) ((T2.ext (ts:=[]) X6 ∅).mono ∎) (DenX.list (SqL.of (by rw[yj ((E4.trans (u.mo.trans (e2.trans (X4.trans B).mo))).none (by simpa using b7) M) (by simpa using b7)];show g6)) (((DenXs.ints g).app (.cons (hd.mono λb o h=>Ext.young (X6.mo (us:=[t])) _ _ (uy (E4.trans u.mo) (λ_ h=>h) _ _ h)) .nil)).app (DenXs.ints m4))) λds z=>?_;cases z;rw[aF,aF,aA,aA]
   change g.length+1+m4.length<=100;lia
  rw[decide_eq_false N];show⟨_,rfl,iteF ?_⟩;k_put;by_cases h7:wy=7
  .rw [decide_eq_true h7];show⟨_,rfl,iteT ?_⟩;z_go;show⟨Z,_,rfl,SqL.of C,λc q1=>?_⟩;let u:Ext [] S (upd S c (.tup (ns.map V.int))):=.laid q1;let g1:upd S c (.tup (ns.map V.int)) c=Sa (.tup (ns.map V.int)):=zB;generalize upd S c (.tup (ns.map V.int))=r at u g1 ⊢;z_go;show qZx ?_;z_go;show⟨rfl,Z,_,rfl,.inl ⟨SqL.of (u.k C),λa q2=>?_⟩⟩;rw[<-List.map_reverse];let X:Ext [] r (upd r a (.lst (ns.reverse.map V.int))):=.laid q2;let g2:upd r a (.lst (ns.reverse.map V.int)) a=Sa (.lst (ns.reverse.map V.int)):=zB;generalize upd r a (.lst (ns.reverse.map V.int))=Y at X g2 ⊢;let X2:=u.trans X;z_go;kj_on;z_go
   show xl (X2.k C) λp3 m3 G3 q3 m g3 l3=>?_;show vP ((X2.trans m).k C) g3 ∎ λx U q4 D g4=>?_;let X4:=X2.trans (m.trans D);z_go;show⟨len2 (by change 3<=1000;decide),λn M=>?_⟩;let B:Ext [] U (upd U n (.lst [.ref c,.ref a,.ref x])):=.laid M;let g5:upd U n (.lst [.ref c,.ref a,.ref x]) n=Sa (.lst [.ref c,.ref a,.ref x]):=zB;generalize upd U n (.lst [.ref c,.ref a,.ref x])=W at B g5 ⊢;let X5:=X4.trans B;let T5:=l.ext (ts:=[]) X5 ∅;let n5:n≠t:=(l.ext (ts:=[]) X4 ∅).ne M;z_go;show zi T5 ∎ ⋯ ⋯ λrc G6 a5 b5 T6 e6 k6=>?_;let N:SqL K G6 n [.ref c,.ref a,.ref x]:=SqL.of (by rw[k6 n n5];show g5)
   let X6:=(X5.mo (us:=[t])).trans e6;let a8:=T6.mono (show k+4+1<=k+20 by lia);rcases (by lia:rc=0\/rc=1\/rc=2)with rfl|rfl|rfl
   .let n1:c≠t:=l.ne q1;let c4:G6 c=Sa (.tup (ns.map V.int)):=by rw[k6 c n1];show(X.trans (m.trans (D.trans B))).k g1
    show zL N (show atI [V.ref c,.ref a,.ref x] 0=Sa (.ref c)from rfl) ?_;show I (.tuple (ns.map .int)) _ G6 X6 a8 (DenX.tuple (SqT.of (by rw[yj (E4.none (by simpa using n1) q1) (by simpa using n1)];show c4)) (DenXs.ints ns)) λds z=>by cases z
   .let n2:a≠t:=(l.ext (ts:=[]) u ∅).ne q2;show zL N (show atI [V.ref c,.ref a,.ref x] 1=Sa (.ref a)from rfl) ?_;show J a _ G6 X6 a8 n2 (u.none ∅ q2) (by rw[k6 a n2];show(m.trans (D.trans B)).k g2) (by rw[gY];lia)
   .let n4:x≠t:=(l.ext (ts:=[]) (X2.trans m) ∅).ne q4;show zL N (show atI [V.ref c,.ref a,.ref x] 2=Sa (.ref x)from rfl) ?_;show J x _ G6 X6 a8 n4 ((X2.trans m).none ∅ q4) (by rw[k6 x n4];show B.k g4) (by rw[aF];lia)
  rw[decide_eq_false h7];show⟨_,rfl,iteF ?_⟩;z_go;show zi l ∎ ⋯ ⋯ λrc r a5 b5 T5 e5 k5=>?_;let s5:r Z=Sa (.lst (ns.map V.int)):=e5 _ _ (by simpa using O) C;k_put;kj_on;by_cases h8:rc=0
  .rw [decide_eq_true h8];k_in;show⟨t,k+5,rfl,T5,∎,λd v Y T2 e2 hd hf=>I d v Y (e5.trans e2) (T2.mono ∎) (hd.mono (uy (E4.trans e5) (λ_ h=>h))) hf⟩
  .rw [decide_eq_false h8];kt_k;show⟨Z,rfl,⟨_,SqL.of s5⟩,λlc L=>?_⟩;show zn (xs:=ns.map V.int) (λj a3 G=>∃(o0:Option V),a3=[o0]/\Ext [lc] r G/\G lc=Sa (.lst (((ns.take j).map λi=>0-i).map V.int))) ?_ ?_ ?_ ?_
   .exact⟨Sb,rfl,.laid L,zB⟩
   .rintro j a3 G hj ⟨o0,rfl,e6,N⟩;show SqL.of ((e6.drop L).k s5)
   .rintro j y a3 G R hy ⟨o0,rfl,e6,N⟩ hR;let⟨i,hi,rfl⟩:=zV hy;let c7:=(aC.mp hi).1;z_go;k_in;show⟨_,N,zU (by rw[aA,aA,aY];lia),hR _ _ ⟨_,rfl,e6.trans .pt,?_⟩⟩;rw[zB,zY hi,aG,aG];rfl
   .rintro a3 G ⟨o0,rfl,e6,N⟩;rw[aA,aU]at N;let E6:=e6.drop L;show J lc _ G (e5.trans E6.mo) ((T5.ext (ts:=[]) E6 ∅).mono ∎) (T5.ne L) (e5.none (by simpa using T5.ne L) L) N (by rw[aA];lia)
 .z_go;show⟨Z,_,rfl,.inl (SqL.of C),?_⟩;rw[aA];z_go;by_cases h2:b9<ns.length
  .rw [decide_eq_true h2];k_in;kj_on;show xl C λc g r q1 u g1 l1=>?_;z_go;let⟨n0,_,e0⟩:=xi (ns:=ns) a2 h2;show zL (SqL.of (u.k C)) e0 ?_;z_go;show⟨len2 (by change 1<=1000;decide),λa q2=>?_⟩;let X:Ext [] r (upd r a (.lst [.int (n0+by0)])):=.laid q2;let g2:upd r a (.lst [.int (n0+by0)]) a=Sa (.lst (([n0+by0]:List Int).map V.int)):=zB;generalize upd r a (.lst [.int (n0+by0)])=Y at X g2 ⊢;show vP (X.k g1) g2 (by change g.length+1<=1000;lia) λp3 G3 q3 m g3=>?_;let X3:=u.trans (X.trans m);z_go;kj_on;z_go;show xl (X3.k C) λx m4 U q4 D g4 l4=>?_;let c2:(g++[n0+by0]).length=g.length+1:=by simp
   show vP (D.k g3) g4 ∎ λn W M B g5=>T n _ U W (X3.trans D) M B g5 (by rw[aF];lia)
  .rw [decide_eq_false h2];show iteF hB
noncomputable abbrev ig:Sr:=top 44
theorem qWs:FnScope ["_law_work","_law_shut","_law_needed","_law_thing"] ["_law_work","_law_shut","_law_needed","_law_thing"] (za ig):=⟨rfl,rfl,rfl,by decide +kernel,rfl,by decide +kernel,by decide +kernel⟩
theorem qTu(F:Fun K "_law_ties" "_law_ties" ig f fd)(b0:mg "list"=Sb)(J:mg "all"=Sb)(B:mg "len"=Sb)(b1:mg "dict"=Sb)(b8:mg "zip"=Sb)(b9:mg "isinstance"=Sb)(c9:Has P w K mg base "_law_is_whole" 1 ["_law_thing"] (kY K)):FnOk P w K mg base CX0 2 f fd ["_law_work","_law_shut","_law_needed","_law_thing"] (qV0 K):=by
 show F.go qWs ?_;rintro f6 A d1 s H L Q E hr ⟨wa,sl,il,v,bs,ts,S,ns,d,rfl,c0,f7,Z,a0,d3,hd,M,q⟩;let hu:=zk hr
 refine⟨_,(zD (zl (PW.pt (yi (xA (zw K rfl (zN wY (by rfl) b9 (by decide +kernel) (zA (pv 3) (zA (wG (v :=.ty "list") rfl b0 cJ rfl) pa_nil))) (λ_=>rfl))) (yi (zM (qVv (Nat.lt_of_succ_lt hu)) (pv 3) (zW pa_nil) (zR _)) (yz (xA (zw K rfl (zN (uT hr.hd) (by rfl) J (by decide +kernel) (zA (yK ["_law_one"] [] rfl (.of rfl) (zd (pv 3)) (λ_ _ _ _=>(zJ (i:=0) (by show (((["_law_one"]:List Str))).Nodup;decide) rfl (Or.inl rfl))) (λ_ _ _ _ =>.nil) (λ_ _ _ _=>(zF c9 hr ⋯ (zA (pv 0) pa_nil)))) pa_nil)) (λ_=>rfl))))))) (zE (zK pe_bl)) zc)
   (zD (zl (PW.pt (yi (xA (zw K rfl (zN (uT hr.hd) (by rfl) J (by decide +kernel) (zA (yK ["_law_one"] [0] rfl (.of rfl) (zd (pv 3)) (λ_ _ _ _=>(zJ (i:=0) (by change(((["_law_one","_law_work"]:List Str))).Nodup;decide) rfl (Or.inl rfl))) (λ_ _ _ _=>.nil) (λ_ _ _ _=>(oF kw xG pe_int (pv 0) (zN (yR K rfl) (by rfl) B bH (zA (pv 1) pa_nil))))) pa_nil)) (λ_=>rfl))) (yz (zM xr (zN (yR K rfl) (by rfl) B bH (zA (pv 3) pa_nil)) (zN qSh (by rfl) B bH (zA (yB (qOu rfl) (by rfl) b1 PyProof.Rows.boot_dict (zA (yK ["_law_one"] [] rfl (.of rfl) (zd (pv 3)) (λ_ _ _ _=>(zJ (i:=0) (by change(((["_law_one"]:List Str))).Nodup;decide) rfl (Or.inl rfl))) (λ_ _ _ _=>.nil) (λ_ _ _ _=>(zT (zA (pv 0) (zA pe_int pa_nil))))) pa_nil)) pa_nil)) (zR _))))) (zE (zK pe_bl)) zc)
   (zD (zl (PW.pt (yi (zM (wS K rfl) (zH zO (pv 3) pe_int (λ_ _=>rfl)) (pv 2) rfl) (yz (xA (PW.pt (yi (zM (inP K rfl hu) (zT (zA (yL yM pe_int) (zA (zH zO (pv 3) (yL yM pe_int) (λ_ _=>rfl)) pa_nil))) (pv 1) rfl) (yz (zM (inP K rfl hu) (zT (zA (zH zO (pv 3) (yL yM pe_int) (λ_ _=>rfl)) (zA (zN (yR K rfl) (by rfl) B bH (zA (pv 0) pa_nil)) pa_nil))) (pv 1) rfl)))))))) (zE (zK pe_bl)) zc)
   (zE (zK (zN (uT hr.hd) (by rfl) J (by decide +kernel) (zA (yK ["_law_one","_law_other"] [1] rfl (.of rfl) (qVm rfl b8 (zA (pv 3) (zA (yP ym (pv 3) (yO pe_int) yN) pa_nil))) (λ_ _ _ _=>(wR (n:=2) K rfl rfl (zQ (zJ (i:=0) (by change(((["_law_one","_law_other","_law_shut"]:List Str))).Nodup;decide) rfl (Or.inl rfl)) (zQ (zJ (i:=1) (by change(((["_law_one","_law_other","_law_shut"]:List Str))).Nodup;decide) rfl (Or.inl rfl)) zr)))) (λ_ _ _ _=>.nil) (λ_ _ _ _=>(ue (zu (inP K rfl hu) (zT (zA (pv 0) (zA (pv 1) pa_nil))) (pv 2) rfl) (xO (zu (inP K rfl hu) (zT (zA (pv 1) (zA (pv 0) pa_nil))) (pv 2) rfl))))) pa_nil))))))),?_⟩
 try dsimp only[zb,zg,zq,zo,zp]
 let b2:(∀y,d≠intsD y)->∀H',Ext [] H H'->Q (.bl Sd) H':=λh H' e=>q Sd H' e ⟨(λz=>by cases z),λ⟨y,D,_⟩=>absurd D (h y)⟩
 let m:∀x,d=intsD x->¬RowT S (·∈ns) bs.length x->∀H',Ext [] H H'->Q (.bl Sd) H':=λx h hx H' e=>q Sd H' e ⟨(λz=>by cases z),λ⟨y,D,r⟩=>by
  rw[h]at D;let I:x.map PyData.int=y.map PyData.int:=by injection D
  let o:x=y:=List.map_inj_right (λ_ _ z=>by injection z) |>.mp I
  show absurd (o▸r) hx⟩
 z_go;show⟨_,d,_,rfl,hd,⋯,?_⟩;kj_on;cases hk:xj d "list" with
 |false=>
  kt_le;show b2 (λy z=>by rw[z]at hk;show absurd hk (by change ¬(Sc||_)=Sd;simp)) H (.refl _ _)
 |true=>
  k_dec;let⟨ds,rfl⟩:=qKs hk;let⟨ta,L,rfl,b3,p⟩:=hd.ofList;z_go;show⟨len2 (bL _),λle d4=>?_⟩;let x1:Ext [] H (upd H le (.lst [])):=.laid d4;let s1:=x1.toSame.seq b3;show⟨ta,le,L,rfl,rfl,.inl ⟨s1,SqL.of zB⟩,?_⟩;generalize upd H le (.lst [])=H1 at x1 s1 ⊢;kj_on;cases L with
  |nil=>
   kt_le;cases ds with
   |nil=>show m [] rfl (λr=>by let⟨a,l,e,_⟩:=r.hd;cases e) H1 x1
   |cons d0 f8=>simp only[DenXs]at p;let⟨_,_,e,_⟩:=p;cases e
  |cons v0 vr=>
   kt_k;show⟨ta,rfl,⟨_,s1⟩,λlc a1=>?_⟩;show zn (xs:=v0::vr) (λj c G=>∃(g:Option V),c=[g]/\Ext [lc] H1 G/\G lc=Sa (.lst ((ds.take j).map λd=>V.bl (yx d)))) ?_ ?_ ?_ ?_
   .exact⟨Sb,rfl,.laid a1,zB⟩
   .rintro j c G hj ⟨g,rfl,e2,o⟩;show(e2.drop a1).toSame.seq s1
   .rintro j y c G R D ⟨g,rfl,e2,o⟩ hR;z_go;k_in;let⟨d0,d5,hX⟩:=p.get D;let b4:=p.len;let b5:=(aC.mp D).1;let E2:=x1.trans (e2.drop a1);show⟨y,d0,rfl,hX.mono E2.toSame,?_⟩;show⟨_,o,?_,hR _ _ ⟨_,rfl,e2.trans .pt,by rw[zB,zY d5,aG];rfl⟩⟩;let:=M ds rfl;rw[aA,aY,bV];lia
   .rintro c G ⟨g,rfl,e2,o⟩;z_go;let b4:=p.len;rw[b4,aU]at o;let E2:=x1.trans (e2.drop a1);let s2:=E2.toSame.seq b3;let d2:=p.mono E2.toSame;show⟨lc,ds.map yx,rfl,SqL.of (by rw[dC];show o),?_⟩;kj_on;let N:(ds.map yx).all id=ds.all yx:=by rw[iA];rfl
    cases ha:(ds.map yx).all id with
    |false=>
     k_in
     show b2 (λy z=>by
      let z:ds=y.map PyData.int:=by injection z
      rw[N,z,qUa]at ha
      cases ha) G E2
    |true=>
     k_dec;rw[N]at ha;let⟨x,rfl,a2⟩:=iF d2 ha;rw[a2]at s2;let d6:x.length<=100:=by let:=M _ rfl;rwa[aA]at this
     let d7:x≠[]:=λz=>by rw[z]at a2;cases a2
     clear s1 b3 p d2 b4 o N ha b2 hd a2 hk;z_go;show⟨ta,rfl,⟨_,s2⟩,λlr a3=>?_⟩;show zn (xs:=x.map V.int) (λj c G2=>∃(g:Option V),c=[g,Sa (.ref wa)]/\Ext [lr] G G2/\G2 lr=Sa (.lst ((x.take j).map λi=>V.bl (decide (0<=i)&&decide (i<(bs.length:Int)))))) ?_ ?_ ?_ ?_
     .exact⟨Sb,rfl,.laid a3,zB⟩
     .rintro j c G2 hj ⟨g,rfl,e3,h3⟩;show(e3.drop a3).toSame.seq s2
     .rintro j y c G2 R D ⟨g,rfl,e3,h3⟩ hR;let⟨i,hi,rfl⟩:=zV D;z_go;k_in;show qN3 ?_;z_go;let b5:=(aC.mp hi).1;let O:∀b:Bool,b=(decide (0<=i)&&decide (i<(bs.length:Int)))->∃L,G2 lr=Sa (.lst L)/\L.length<Sn/\R [Sa (.int i),Sa (.ref wa)] (upd G2 lr (.lst (L++[.bl b]))):=λb eb=>by
       show⟨_,h3,by rw[bV,aA,aY];lia,hR _ _ ⟨_,rfl,e3.trans .pt,?_⟩⟩;rw[zB,zY hi,aG,eb];rfl
      by_cases h0:(0:Int)<=i
      .rw [decide_eq_true h0];k_in;show⟨wa,bs,rfl,.inl ((E2.trans (e3.drop a3)).toSame.seq c0),?_⟩;z_go;show O _ (by rw[decide_eq_true h0,Bool.true_and])
      .rw [decide_eq_false h0];k_dec;show O _ (by rw[decide_eq_false h0,Bool.false_and])
     .rintro c G2 ⟨g,rfl,e3,h3⟩;rw[aA,aU]at h3;z_go;let c1:=e3.drop a3;let E3:=E2.trans c1;let s3:=c1.toSame.seq s2;show⟨lr,x.map λi=>(decide (0<=i)&&decide (i<(bs.length:Int))),rfl,SqL.of (by rw[dC];show h3),?_⟩;kj_on;let a4:(x.map λi=>(decide (0<=i)&&decide (i<(bs.length:Int)))).all id=Sc ↔ ∀y∈x,0<=y/\y<(bs.length:Int):=by
       rw[iA,dM];show forall_congr' λy=>forall_congr' λ_=>?_;change(decide (0<=y)&&decide (y<(bs.length:Int)))=Sc↔_;rw[bT,decide_eq_true_iff,decide_eq_true_iff]
      cases ha:(x.map λi=>(decide (0<=i)&&decide (i<(bs.length:Int)))).all id with
      |false=>
       kt_le;show m x rfl (λr=>by rw[a4.mpr r.rg]at ha;cases ha) G2 E3
      |true=>
       let a4:=a4.mp ha;kt_k;show⟨ta,_,rfl,.inl s3,?_⟩;z_go;show⟨ta,rfl,⟨_,s3⟩,λlp b6=>?_⟩;show zn (xs:=x.map V.int) (λj c t=>∃(g:Option V)(us:List V),c=[g]/\Ext [lp] G2 t/\t lp=Sa (.lst us)/\us.length=(x.take j).length/\PairsAt t us ((x.take j).map λi=>((Sum.inl i:Key),V.int 0))) ?_ ?_ ?_ ?_
       .exact⟨Sb,[],rfl,.laid b6,zB,rfl,.nil⟩
       .rintro j c t hj ⟨g,us,rfl,e4,h4,T,U⟩;show(e4.drop b6).toSame.seq s3
       .rintro j y c t R D ⟨g,us,rfl,e4,h4,T,U⟩ hR;let⟨i,hi,rfl⟩:=zV D;let b5:=(aC.mp hi).1;z_go;k_in;show⟨len2 (by change 2<=1000;decide),λW a5=>?_⟩;let w1:Ext [] t (upd t W (.tup [.int i,.int 0])):=.laid a5;let X:upd t W (.tup [.int i,.int 0]) W=Sa (.tup [.int i,.int 0]):=zB;generalize upd t W (.tup [.int i,.int 0])=G4 at w1 X ⊢;show⟨us,w1.k h4,by rw[bV,T,aY];lia,hR _ _ ⟨_,us++[.ref W],rfl,e4.trans (w1.mo.trans .pt),zB,?_,?_⟩⟩
        .rw [zY hi,aF,aF,T];rfl
        .rw [zY hi,aG];let d8:∀b ys,t b=Sa (.tup ys)->b≠lp:=λb ys e z=>by rw[z,h4]at e;cases e
         show Paired.snoc (PairsAt.mono (λb ys e=>?_) U) ⟨W,rfl,?_⟩
         .rw [zC (d8 b ys e)];show w1.k e
         .rw [zC (zG h4 a5).symm];show X
       .rintro c t ⟨g,us,rfl,e4,h4,T,U⟩;rw[aA,aU]at T U;let c2:=e4.drop b6;z_go;show⟨lp,us,_,rfl,h4,U,by rw[aA];lia,λdd d9=>?_⟩;let x5:Ext [] t (upd t dd (.dK (yc [] (x.map λi=>((Sum.inl i:Key),V.int 0))))):=.laid d9;let h5:upd t dd (.dK (yc [] (x.map λi=>((Sum.inl i:Key),V.int 0)))) dd=Sa (.dK (yc [] (x.map λi=>((Sum.inl i:Key),V.int 0)))):=zB;generalize upd t dd (.dK (yc [] (x.map λi=>((Sum.inl i:Key),V.int 0))))=G4 at x5 h5 ⊢;let E5:=E3.trans (c2.trans x5);let s5:=(c2.trans x5).toSame.seq s3;z_go;show⟨dd,_,rfl,h5,jQ ⟨_,rfl,?_⟩⟩;rw[aA];by_cases a6:x.Nodup
        .rw [(qNd (V.int 0) x).mpr a6,decide_eq_true rfl];kt_k;obtain⟨a,r,rfl⟩:∃a r,x=a::r:=by
          cases x with
          |nil=>show absurd rfl d7
          |cons a r=>show⟨a,r,rfl⟩
         show zL s5 (show atI ((a::r).map V.int) 0=Sa (.int a)from zS (j:=0) rfl) ?_;z_go;show⟨il,_,rfl,.inl (E5.toSame.seq d3),rfl,yY _,?_⟩;rw[if_pos rfl,yX];kj_on;by_cases a7:a∈ns
         .rw [decide_eq_true a7];k_dec;obtain⟨i,z,b7⟩:∃i z,a::r=i++[z]:=by
           rcases fJ (a::r)with z|⟨i,z,e⟩
           .cases z
           .exact⟨i,z,by rw[e,fK]⟩
          let c3:atI ((a::r).map V.int) (-1)=Sa (.int z):=by rw[b7,aG];show ul _ _
          z_go;show zL s5 c3 ?_;z_go;show⟨len2 (by change 2<=1000;decide),λW a5=>?_⟩;let w1:Ext [] G4 (upd G4 W (.tup [.int (-1),.int z])):=.laid a5;let X:SqP K (upd G4 W (.tup [.int (-1),.int z])) W (-1,z):=SqT.of zB;generalize upd G4 W (.tup [.int (-1),.int z])=G5 at w1 X ⊢;let E6:=E5.trans w1;let s6:=w1.toSame.seq s5;z_go;show xD (E6.toSame.seq Z) (a0.mono E6.toSame) X ?_;kj_on;show qXl (C:=(-1,z)∈S\/(z,(bs.length:Int))∈S) (λG6 e6 e0=>?_) (λh=>.inl (decide_eq_true_iff.mp h)) λrest I=>?_
          .let E7:=E6.trans e6;let s7:=e6.toSame.seq s6;z_go;show uS ?_;z_go;show⟨1,rfl,?_⟩;z_go;show⟨ta,_,rfl,s7,λpz e5=>?_⟩;rw[qW5];let x8:Ext [] G6 (upd G6 pz (.lst (((a::r).map V.int).drop 1))):=.laid e5;let z8:SqL K (upd G6 pz (.lst (((a::r).map V.int).drop 1))) pz (((a::r).map V.int).drop 1):=SqL.of zB;generalize upd G6 pz (.lst (((a::r).map V.int).drop 1))=G7 at x8 z8 ⊢;let E8:=E7.trans x8;let s8:=x8.toSame.seq s7;let z8:SqL K G7 pz (r.map V.int):=z8;z_go;show⟨ta,pz,rfl,⟨_,s8⟩,⟨_,z8⟩,λlz a8=>?_⟩;let a9:(stp (a::r)).length=r.length:=by unfold stp;simp
           show qKm (xs:=(a::r).map V.int) (ys:=r.map V.int) ∅ (λj c Y=>∃(g o1:Option V),c=[g,o1,Sa (.ref sl)]/\Ext [lz] G7 Y/\Y lz=Sa (.lst (((stp (a::r)).take j).map λs=>V.bl (decide (s∈S)||decide (tw s∈S))))) ?_ ?_ ?_ ?_
           .exact⟨Sb,Sb,rfl,.laid a8,zB⟩
           .rintro j c Y hj ⟨g,o1,rfl,e9,h9⟩;let c4:=e9.drop a8;show⟨c4.toSame.seq s8,c4.toSame.seq z8⟩
           .rintro j y1 y2 c Y pt R e7 e8 ⟨g,o1,rfl,e9,h9⟩ f0 hR;let⟨u,f1,rfl⟩:=zV e7;let⟨v,c5,rfl⟩:=zV e8;let b5:=(aC.mp c5).1;let f2:(stp (a::r))[j]? = Sa (u,v):=by
             unfold stp;rw[gS];show⟨f1,c5⟩
            let x9:Ext [] Y (upd Y pt (.tup [.int u,.int v])):=.laid f0;let p9:SqT K (upd Y pt (.tup [.int u,.int v])) pt [.int u,.int v]:=SqT.of zB;generalize upd Y pt (.tup [.int u,.int v])=G9 at x9 p9 ⊢;let E9:=E8.trans ((e9.drop a8).trans x9);show zv p9 rfl ?_;z_go;k_in;show kq ?_;z_go;show⟨len2 (by change 2<=1000;decide),λq1 f3=>?_⟩;let v1:Ext [] G9 (upd G9 q1 (.tup [.int u,.int v])):=.laid f3;let c6:SqP K (upd G9 q1 (.tup [.int u,.int v])) q1 (u,v):=SqT.of zB;generalize upd G9 q1 (.tup [.int u,.int v])=Ga at v1 c6 ⊢;let Ea:=E9.trans v1;z_go;show xD (Ea.toSame.seq Z) (a0.mono Ea.toSame) c6 ?_;kj_on
            let O:∀(b:Bool)(Gb:Hp),Ext [] Ga Gb->b=(decide ((u,v)∈S)||decide ((v,u)∈S))->∃L,Gb lz=Sa (.lst L)/\L.length<Sn/\R [Sa (.int u),Sa (.int v),Sa (.ref sl)] (upd Gb lz (.lst (L++[.bl b]))):=λb Gb eb hb=>by
             let e':=(x9.trans v1).trans eb;let f9:r.length<100:=by rw[bK]at d6;lia
             show⟨_,e'.k h9,by rw[bV,aA,aY,a9];lia,hR _ _ ⟨_,_,rfl,e9.trans (e'.mo.trans .pt),?_⟩⟩;rw[zB,zY f2,aG,hb];rfl
            by_cases I:(u,v)∈S
            .rw [decide_eq_true I];show iteT (O Sc Ga (.refl _ _) (by rw[decide_eq_true I];rfl))
            .rw [decide_eq_false I];kt_k;show⟨len2 (by change 2<=1000;decide),λq2 f4=>?_⟩;let v2:Ext [] Ga (upd Ga q2 (.tup [.int v,.int u])):=.laid f4;let c7:SqP K (upd Ga q2 (.tup [.int v,.int u])) q2 (v,u):=SqT.of zB;generalize upd Ga q2 (.tup [.int v,.int u])=Gb at v2 c7 ⊢;z_go;show xD ((Ea.trans v2).toSame.seq Z) (a0.mono (Ea.trans v2).toSame) c7 ?_;show O _ Gb v2 (by rw[decide_eq_false I];rfl)
           .rintro c Y ⟨g,o1,rfl,e9,h9⟩;rw[aA,<-a9,aU]at h9;z_go;let E9:=E8.trans (e9.drop a8);show⟨lz,(stp (a::r)).map λs=>(decide (s∈S)||decide (tw s∈S)),rfl,SqL.of (by rw[dC];show h9),?_⟩;show q _ Y E9 ?_;rw[iA,dM];constructor
            .intro h;show⟨a::r,rfl,a4,a6,⟨a,r,rfl,a7⟩,λs hs=>?_,⟨i,z,b7,e0⟩⟩;let I:(decide (s∈S)||decide (tw s∈S))=Sc:=h s hs
             rwa[eA,decide_eq_true_iff,decide_eq_true_iff]at I
            .rintro⟨y,D,hr⟩ s hs;let I:(a::r).map PyData.int=y.map PyData.int:=by injection D
             let o:a::r=y:=List.map_inj_right (λ_ _ z=>by injection z) |>.mp I
             change(decide (s∈S)||decide (tw s∈S))=Sc;rw[eA,decide_eq_true_iff,decide_eq_true_iff];show hr.st s (o▸hs)
          .z_go;show zL s6 c3 ?_;z_go;show⟨wa,bs,rfl,.inl (E6.toSame.seq c0),?_⟩;z_go;show⟨len2 (by change 2<=1000;decide),λp2 f5=>?_⟩;let w2:Ext [] G5 (upd G5 p2 (.tup [.int z,.int bs.length])):=.laid f5;let c8:SqP K (upd G5 p2 (.tup [.int z,.int bs.length])) p2 (z,(bs.length:Int)):=SqT.of zB;generalize upd G5 p2 (.tup [.int z,.int bs.length])=G6 at w2 c8 ⊢;z_go;show xD ((E6.trans w2).toSame.seq Z) (a0.mono (E6.trans w2).toSame) c8 ?_;kj_on;by_cases o:(z,(bs.length:Int))∈S
           .rw [decide_eq_true o];show iteF (rest G6 w2 (.inr o))
           .rw [decide_eq_false o];k_in;show m _ rfl (λr=>?_) G6 (E6.trans w2);let⟨i',z',e',h'⟩:=r.ls;let ez:z=z':=by
             let h3:i++[z]=i'++[z']:=b7.symm.trans e';show(List.append_inj_right' h3 rfl |> List.cons.inj).1
            rw[<-ez]at h';rcases h' with h'|h'
            .exact of_decide_eq_false I h'
            .exact o h'
         .rw [decide_eq_false a7];kt_le;show m _ rfl (λr=>by let⟨b,l,e,hb⟩:=r.hd;injection e with e1 e2;show a7 (e1▸hb)) G4 E5
        .rw [decide_eq_false (λz=>a6 ((qNd (V.int 0) x).mp ∎))];k_in;show m x rfl (λr=>a6 r.nd) G4 E5
noncomputable abbrev ii:Sr:=top 29
theorem scLEnds:FnScope ["_law_tape","_law_many","_law_to","_law_block","_law_some","_law_more"] ["_law_tape","_law_many"] (za ii):=⟨rfl,rfl,rfl,by decide +kernel,rfl,by decide +kernel,by decide +kernel⟩
theorem qTv(F:Fun K "_law_ends" "_law_ends" ii f fd)(o:mg "range"=Sb)(J:mg "len"=Sb)(W:mg "tuple"=Sb)(hD:Has P w K mg base "_law_draw" 1 ["_law_tape","_law_many"] xc):FnOk P w K mg base CX0 2 f fd ["_law_tape","_law_many"] (qPt K):=by
 show F.go scLEnds ?_;rintro c8 A b9 s H vs Q E hr ⟨t,k,m,rfl,hT,hk,c9,d0,q⟩;let hu:=zk hr
 refine⟨_,(PSsx.h (zX (psx (zZ (i:=2) scLEnds.nd rfl (Or.inr rfl) (yK ["_law_block"] [] rfl (.of rfl) (yg rfl o (zA (pv 1) pa_nil)) (λ_ _ _ _=>(zJ (i:=0) (by show (((["_law_block"]:List Str))).Nodup;decide) rfl (Or.inl rfl))) (λ_ _ _ _ =>.nil) (λ_ _ _ _=>(zW pa_nil)))))
   (zX (psx (zt bD rfl (qQv rfl o (zA pe_int (zA (pv 1) pa_nil))) (zJ (i:=3) scLEnds.nd rfl (Or.inl rfl))
   (PSsx.h (zX (psx (xZ (i:=4) ["_law_one"] [2] rfl (.of rfl) scLEnds.nd rfl (Or.inl rfl) (yg rfl o (zA (pv 3) pa_nil)) (λ_ _ _ _=>(zJ (i:=0) (by change(((["_law_one","_law_to"]:List Str))).Nodup;decide) rfl (Or.inl rfl))) (λ_ _ _ _=>.cons (zM xG (zN (yR K rfl) (by rfl) J bH (zA (zH (kF K rfl) (pv 1) (pv 0) (λ_ _=>rfl)) pa_nil)) pe_int (zR _)) .nil) (λ_ _ _ _=>(pv 0))))
   (zx (psx (yT (yU bB bO bP yh (zH zO (pv 2) (zH zO (pv 4) (zF hD hr ⋯ (zA (pv 0) (zA (zN (yR K rfl) (by rfl) J bH (zA (pv 4) pa_nil)) pa_nil))) (λ_ _=>rfl)) (λ_ _=>rfl)) (zA (pv 3) pa_nil)))))))))
   (zX (psx (zt bD rfl (yg rfl o (zA (pv 1) pa_nil)) (zJ (i:=3) scLEnds.nd rfl (Or.inl rfl))
   (PSsx.h (zX (psx (zZ (i:=5) scLEnds.nd rfl (Or.inl rfl) (xo (zM wh (pv 1) pe_int (zR _)) (zI yA pe_int (zF hD hr ⋯ (zA (pv 0) (zA (zI wf (pv 1) pe_int) pa_nil)))) pe_int)))
   (zx (xE (PW.pt (yS (zM xG (zN (yR K rfl) (by rfl) J bH (zA (zH zO (pv 2) (pv 3) (λ_ _=>rfl)) pa_nil)) pe_int (zR _)) (yS (zM wh (pv 5) pe_int (zR _)) (yS (zM (wS K rfl) (pv 5) (zH zO (pv 2) (pv 3) (λ_ _=>rfl)) rfl) (yy (zM yJ (zF hD hr ⋯ (zA (pv 0) (zA pe_int pa_nil))) pe_int (zR _))))))) (zx (psx (yT (yU bB PySem.F.slot_list_insert PySem.F.type_list_insert qRj (zH zO (pv 2) (pv 3) (λ_ _=>rfl)) (zA (zF hD hr ⋯ (zA (pv 0) (zA (zI yA (zN (yR K rfl) (by rfl) J bH (zA (zH zO (pv 2) (pv 3) (λ_ _=>rfl)) pa_nil)) pe_int) pa_nil))) (zA (pv 5) pa_nil)))))) zc))))))
   (zx (psx (zK (yK ["_law_one"] [] rfl (.of rfl) (zd (pv 2)) (λ_ _ _ _=>(zJ (i:=0) (by change(((["_law_one"]:List Str))).Nodup;decide) rfl (Or.inl rfl))) (λ_ _ _ _=>.nil) (λ_ _ _ _=>(zH (kF K rfl) (zW (zA (zT (zA pe_str pa_nil)) (zA (zI (catTK K rfl) (zT (zA pe_str pa_nil)) (yB (tupLK K rfl) (by rfl) W PyProof.Rows.boot_tuple (zA (pv 0) pa_nil))) (zA (zI (catTK K rfl) (zT (zA pe_str pa_nil)) (yB (tupLK K rfl) (by rfl) W PyProof.Rows.boot_tuple (zA (pv 0) pa_nil))) pa_nil)))) (zN (yR K rfl) (by rfl) J bH (zA (pv 0) pa_nil)) (λ_ _=>rfl))))))))))),?_⟩
 try dsimp only[zb,zg,zq,zo,zp]
 z_go;show⟨m,rfl,∎,∎,λlt a6=>?_⟩;let a7:lt≠t:=hT.ne a6;show wO (lo:=0) (n:=m.toNat) (λj d G=>∃(o0:Option V)(B:List Sf),d=[o0]/\Ext [lt] H G/\Lols G lt B (List.replicate j [])/\∀a∈B,H a=Sb) ?_ ?_ ?_
 .exact⟨Sb,[],rfl,.laid a6,⟨zB,rfl,.nil,∅,λi a ns h=>by simp at h⟩,∅⟩
 .rintro j d G R hj ⟨o0,B,rfl,e1,L1,y1⟩ hR;z_go;k_in;show⟨len2 (bL _),λp O=>?_⟩;let x1:Ext [] G (upd G p (.lst [])):=.laid O;let g1:upd G p (.lst []) p=Sa (.lst (([]:List Int).map V.int)):=zB;generalize upd G p (.lst [])=G1 at x1 g1 ⊢;let S:B.length=j:=by rw[L1.len,dQ]
  let b0:p≠lt:=λz=>by rw[z,L1.top]at O;cases O
  let c2:p∉B:=λz=>by
   let⟨i,hi⟩:=List.mem_iff_getElem?.mp z;let:=(aC.mp hi).1;rw[L1.at_ i p [] hi (by rw[dS,if_pos ∎])]at O;cases O
  show⟨_,x1.k L1.top,zU (by rw[aA];lia),hR _ _ ⟨_,B++[p],rfl,e1.trans (x1.mo.trans .pt),⟨by rw[zB,aG];rfl,by rw[aF,dQ,S];rfl,cI.mpr ⟨L1.nd,cQ.mpr ⟨∅,.nil⟩,λa l b hb=>by rw[aH.mp hb];show λz=>c2 (z▸l)⟩,λz=>?_,λi a ns h1 h2=>?_⟩,λa l=>?_⟩⟩
  .rcases aN.mp z with z|z
   .exact L1.no z
   .exact b0 (aH.mp z).symm
  .let g:ns=[]:=by
    rw[dS]at h2;split at h2<;>cases h2
    rfl
   subst g;by_cases hi:i<B.length
   .rw [bQ hi]at h1;let hm:=aK h1;rw[zC (show a≠lt from λz=>L1.no (z▸hm))];show x1.k (L1.at_ i a [] h1 (by rw[dS,if_pos ∎]))
   .rw [bY ∎]at h1;let:=aH.mp (aK h1);subst this;rw[zC b0];show g1
  .rcases aN.mp l with z|z
   .exact y1 a z
   .rw [aH.mp z];show kj (e1.drop a6) O
 .rintro d G ⟨o0,B,rfl,e1,L1,y1⟩;let E1:=e1.drop a6;let T1:=hT.ext (ts:=[]) E1 ∅;let d1:(m.toNat:Int)=m:=by lia
  let S:B.length=m.toNat:=by rw[L1.len,dQ]
  let b1:t∉B:=λz=>by let:=y1 t z;let⟨_,_,_,h,_⟩:=hT;rw[this]at h;cases h
  z_go;show qYg ?_;z_go;show⟨1,m,rfl,⟨∎,∎,∎,∎⟩,xh (lo:=1) (n:=(m-1).toNat) (λi d G=>∃(ls:List (List Int))(o3 o4:Option V),d=[Sa (.ref t),Sa (.int m),Sa (.ref lt),o3,o4,Sb]/\Ext [t] H G/\Tape G t (k+i)/\Lols G lt B ls/\(∀ns∈ls,NsM (1+(i:Int)) ns)/\(ls.map List.length).sum=i) ?_ ?_ ?_⟩
  .refine⟨_,_,_,rfl,E1.mo,T1,L1,λns C=>?_,?_⟩
   .rw [(List.mem_replicate.mp C).2];show⟨∅,.nil,∅⟩
   .exact qPk _
  .rintro i d G1 hi ⟨ls,o3,o4,rfl,e2,X,L2,g,Y⟩ N_ B_ C_ R_ hN_ hC_ hR_;let a0:ls.length=m.toNat:=by rw[<-L2.len];show S
   z_go;show⟨_,rfl,∎,∎,λly a1=>?_⟩;let c3:ly≠t:=X.ne a1;let d2:lt≠ly:=zG L2.top a1;let d3:ly∉B:=λz=>by
    let⟨j,hj⟩:=List.mem_iff_getElem?.mp z;let a2:=(aC.mp hj).1;let h:=L2.at_ j ly _ hj (aE (by rw[<-L2.len];show a2));rw[a1]at h;cases h
   show wO (lo:=0) (n:=(1+(i:Int)).toNat) (λj d G2=>∃(o0:Option V),d=[o0,Sa (.ref lt)]/\Ext [ly] G1 G2/\G2 ly=Sa (.lst ((roomy ls j).map V.int))) ?_ ?_ ?_
   .exact⟨Sb,rfl,.laid a1,zB⟩
   .rintro j d G2 R hj ⟨o0,rfl,L,h3⟩ hR;let L3:=L2.ext (L.drop a1) ∅ ∅;rw[eQ];obtain⟨a,l⟩:∃a,B[j]? = Sa a:=⟨_,aE ∎⟩;obtain⟨ns,C⟩:∃ns,ls[j]? = Sa ns:=⟨_,aE ∎⟩;z_go;show zL (SqL.of L3.top) (zS (by rw[aR,l];rfl)) ?_;z_go;show⟨a,_,rfl,.inl (SqL.of (L3.at_ j a ns l C)),?_⟩;rw[aA];z_go;let T:=qO1 ls j;rw[C,Option.getD_some]at T;let c4:=qJv ls j;by_cases h2:ns.length<2
    .rw [decide_eq_true ∎];kt_le;show⟨_,h3,zU (by rw[aA];lia),hR _ _ ⟨_,rfl,L.trans .pt,?_⟩⟩;rw[zB,T,if_pos h2,aG];rfl
    .rw [decide_eq_false ∎];show iteF (iteF ?_);show hR _ _ ⟨_,rfl,L,by rw[T,if_neg h2];show h3⟩
   .rintro d G2 ⟨o0,rfl,L,h3⟩;rw[show(1+(i:Int)).toNat=i+1 by lia]at h3;let E3:=L.drop a1;let L3:=L2.ext E3 ∅ ∅;let T3:=X.ext (ts:=[]) E3 ∅;let c5:=qT8 (ls:=ls) (i:=i+1) ∎ ∎;let c4:=qJv ls (i+1);let c7:=gX.mpr c5;z_go;show⟨ly,_,rfl,.inl (SqL.of h3),?_⟩;rw[aA];z_go;show zi T3 ∎ ∎ ∎ λr D r0 r1 T4 e4 k4=>?_;let u:∀a∈B,a≠t:=λa l z=>b1 (z▸l);let L4:=L3.ext e4 (by simpa using a7) (λa l=>by simpa using u a l);let⟨y,hy,ey⟩:=xi (ns:=roomy ls (i+1)) r0 r1;show zL (SqL.of (by rw[k4 ly c3];show h3)) ey ?_;let⟨j,rfl,hj,a2⟩:=qQc hy;obtain⟨a,l⟩:∃a,B[j]? = Sa a:=⟨_,aE ∎⟩
    obtain⟨ns,C⟩:∃ns,ls[j]? = Sa ns:=⟨_,aE ∎⟩;rw[C,Option.getD_some]at a2;let I:=L4.at_ j a ns l C;show zL (SqL.of L4.top) (zS (by rw[aR,l];rfl)) ?_;show yD I ?_;z_go;show yd I (zU (by rw[aA];lia)) ?_;z_go;let hm:=aK l;let hN:=g ns (aK C);let b2:NsM (1+((i+1:Nat):Int)) (ns++[1+(i:Int)]):=by
     let:=NsM.put (m:=1+((i+1:Nat):Int)) (y:=1+(i:Int)) (hN.up ∎) a2 ∎ ∎ (λz=>by let:=(hN.rg _ z).2;lia) ns.length
     rwa[aU,List.drop_length]at this
    let e5:upd D a (.lst (ns.map V.int++[.int (1+(i:Int))]))=upd D a (.lst ((ns++[1+(i:Int)]).map V.int)):=by rw[aG];rfl
    rw[e5];let EH:Ext [t] H D:=e2.trans (E3.mo.trans e4);show⟨ls.set j (ns++[1+(i:Int)]),_,_,rfl,((EH.mo (us:=[a,t])).trans (.put ∅)).drop (y1 a hm),(T4.ext (ts:=[a]) .pt (by simpa using (u a hm).symm)).mono ∎,L4.put l,λx hx=>?_,by rw[qPj C ∅,Y]⟩;show NsM.set (λx hx=>(g x hx).up ∎) b2 x hx
  .rintro d G1 ⟨ls,o3,o4,rfl,e2,X,L2,g,Y⟩;let a0:ls.length=m.toNat:=by rw[<-L2.len];show S
   rw[show 1+((m-1).toNat:Int)=m by lia]at g;let u:∀a∈B,a≠t:=λa l z=>b1 (z▸l);z_go;show⟨m,rfl,∎,∎,xh (lo:=0) (n:=m.toNat) (λi d G=>∃(ls:List (List Int))(o3 o4 o5:Option V),d=[Sa (.ref t),Sa (.int m),Sa (.ref lt),o3,o4,o5]/\Ext [t] H G/\Tape G t (k+12+3*i)/\Lols G lt B ls/\∀ns∈ls,NsM m ns) ?_ ?_ ?_⟩
   .exact⟨ls,_,_,_,rfl,e2,X.mono ∎,L2,g⟩
   .clear L2 X e2 g Y a0 ls;rintro i d G2 hi ⟨ls,o3,o4,o5,rfl,e2,X,L2,g⟩ N_ B_ C_ R_ hN_ hC_ hR_;let a0:ls.length=m.toNat:=by rw[<-L2.len];show S
    rw[eQ];z_go;show qXn (λv G=>∃y:Int,v=.int y/\Ext [t] G2 G/\Tape G t (k+12+3*i+1)/\(y=0\/1<=y/\y<m)) ?_ (λb3 h1=>?_) (λ_=>⟨0,rfl,.refl _ _,X.mono ∎,.inl rfl⟩)
    .rintro v D ⟨y,rfl,L,T3,hy⟩;let L3:=L2.ext L (by simpa using a7) (λa l=>by simpa using u a l);obtain⟨a,l⟩:∃a,B[i]? = Sa a:=⟨_,aE ∎⟩;obtain⟨ns,C⟩:∃ns,ls[i]? = Sa ns:=⟨_,aE ∎⟩;let I:=L3.at_ i a ns l C;let hm:=aK l;let b4:=u a hm;let Z:(B.map V.ref)[i]? = Sa (.ref a):=by rw[aR,l];rfl
     let hN:=g ns (aK C);let E3:=e2.trans L;z_go;show zL (SqL.of L3.top) (zS Z) ?_;z_go;show⟨a,_,rfl,.inl (SqL.of I),?_⟩;rw[aA];z_go;by_cases h2:ns.length<2
     .rw [decide_eq_true (show(ns.length:Int)<2 by lia)];k_in;by_cases b5:0<y
      .rw [decide_eq_true b5];k_in;show zL (SqL.of L3.top) (zS Z) ?_;show⟨a,_,rfl,.inl (SqL.of I),rfl,yY _,?_⟩;rw[if_pos rfl,yX];kj_on;by_cases a8:y∈ns
       .rw [decide_eq_true a8];cbv;show⟨ls,_,_,_,rfl,E3,T3.mono ∎,L3,g⟩
       .rw [decide_eq_false a8];k_in;show zi T3 ∎ ⋯ ⋯ λc G4 c0 c1 T4 e4 k4=>?_;let L4:=L3.ext e4 (by simpa using a7) (λa l=>by simpa using u a l);k_put;kj_on;by_cases hc:c=0
        .rw [decide_eq_true hc];show iteT ?_;let b6:=L4.at_ i a ns l C;z_go;show zL (SqL.of L4.top) (zS Z) ?_;show yD b6 ?_;z_go;show zL (SqL.of L4.top) (zS Z) ?_;z_go;show⟨a,_,rfl,.inl (SqL.of b6),?_⟩;rw[aA];z_go;show zi T4 ∎ ∎ ∎ λj G5 j0 j1 T5 e5 k5=>?_;let L5:=L4.ext e5 (by simpa using a7) (λa l=>by simpa using u a l);let c6:=L5.at_ i a ns l C;z_go;show⟨a,_,j,_,rfl,rfl,c6,j0,by rw[aA];lia,by rw[aA];lia,?_⟩;z_go;let e6:upd G5 a (.lst ((ns.map V.int).take j.toNat++.int y::(ns.map V.int).drop j.toNat))=upd G5 a (.lst ((ns.take j.toNat++y::ns.drop j.toNat).map V.int)):=by rw[aG,bJ,List.map_take,List.map_drop]
         rw[e6];let EH:Ext [t] H G5:=E3.trans (e4.trans e5);show⟨ls.set i (ns.take j.toNat++y::ns.drop j.toNat),_,_,_,rfl,((EH.mo (us:=[a,t])).trans (.put ∅)).drop (y1 a hm),(T5.ext (ts:=[a]) .pt (by simpa using b4.symm)).mono ∎,L5.put l,NsM.set g (hN.put h2 ∎ ∎ a8 _)⟩
        .rw [decide_eq_false hc];kt_k;show⟨ls,_,_,_,rfl,E3.trans e4,T4.mono ∎,L4,g⟩
      .rw [decide_eq_false b5];cbv;show⟨ls,_,_,_,rfl,E3,T3.mono ∎,L3,g⟩
     .rw [decide_eq_false (show ¬(ns.length:Int)<2 by lia)];cbv;show⟨ls,_,_,_,rfl,E3,T3.mono ∎,L3,g⟩
    .let h1:=of_decide_eq_true h1;z_go;show zi X ∎ ∎ ∎ λr D r0 r1 T3 L k3=>?_;show xx (b3 _ _ ⟨1+r,rfl,L,T3.mono ∎,.inr ∎⟩)
   .clear L2 X e2 g Y a0 ls;rintro d G2 ⟨ls,o3,o4,o5,rfl,e2,X,L2,g⟩;let a0:ls.length=m.toNat:=by rw[<-L2.len];show S
    z_go;show⟨lt,rfl,⟨_,SqL.of L2.top⟩,λN M=>?_⟩;let b7:N≠t:=X.ne M;let d4:lt≠N:=zG L2.top M;let d5:∀a∈B,a≠N:=λa l z=>by
     let⟨j,hj⟩:=List.mem_iff_getElem?.mp l;let a2:=(aC.mp hj).1;let h:=L2.at_ j a _ hj (aE (by rw[<-L2.len];show a2));rw[z,M]at h;cases h
    let y2:H N=Sb:=e2.none (by simpa using b7) M;show zn (xs:=B.map V.ref) (λj d D=>∃(o0:Option V)(es:List V),d=[o0]/\Ext [N] G2 D/\D N=Sa (.lst es)/\es.length=j/\DenEL (yo H [t,N] D) ((ls.take j).map endD) es) ?_ ?_ ?_ ?_
    .exact⟨Sb,[],rfl,.laid M,zB,rfl,.nil⟩
    .rintro j d D hj ⟨o0,es,rfl,L,h3,a9,a4⟩;show SqL.of ((L.drop M).k L2.top)
    .rintro j y d D R hy ⟨o0,es,rfl,L,h3,a9,a4⟩ hR;let⟨a,l,rfl⟩:=zV hy;let d6:=(aC.mp l).1;obtain⟨ns,C⟩:∃ns,ls[j]? = Sa ns:=⟨_,aE ∎⟩;let a3:=L.drop M;let I:=a3.k (L2.at_ j a ns l C);let hN:=g ns (aK C);let b8:=hN.few;let T3:=X.ext (ts:=[]) a3 ∅;let a5:∀(G:Hp)(p:Sf),Ext [] D G->G p=Sb->H p=Sb/\p∉[t,N]:=λG p e O=>by
      let e4:=a3.trans e;let np:p≠t:=(X.ext (ts:=[]) e4 ∅).ne O;show⟨(e2.trans e4.mo).none (by simpa using np) O,?_⟩;let:p≠N:=λz=>by rw[z,e.k h3]at O;cases O
      simp[np,this]
     z_go;k_in;show⟨len2 (by change 1<=1000;decide),λp1 q1=>?_⟩;let x1:Ext [] D (upd D p1 (.tup [.str (Str.ofString "out")])):=.laid q1;let g1:upd D p1 (.tup [.str (Str.ofString "out")]) p1=Sa (.tup [.str (Str.ofString "out")]):=zB;generalize upd D p1 (.tup [.str (Str.ofString "out")])=G4 at x1 g1 ⊢;z_go;show⟨len2 (by change 1<=1000;decide),λp2 q2=>?_⟩;let x2:Ext [] G4 (upd G4 p2 (.tup [.str (Str.ofString "go")])):=.laid q2;let g2:upd G4 p2 (.tup [.str (Str.ofString "go")]) p2=Sa (.tup [.str (Str.ofString "go")]):=zB;generalize upd G4 p2 (.tup [.str (Str.ofString "go")])=G5 at x2 g2 ⊢;let X2:=x1.trans x2;z_go;show⟨a,_,rfl,SqL.of (X2.k I),λp3 q3=>?_⟩
     let x3:Ext [] G5 (upd G5 p3 (.tup (ns.map V.int))):=.laid q3;let g3:upd G5 p3 (.tup (ns.map V.int)) p3=Sa (.tup (ns.map V.int)):=zB;generalize upd G5 p3 (.tup (ns.map V.int))=G6 at x3 g3 ⊢;let X3:=X2.trans x3;show iK (x3.k g2) g3 ∅ (by rw[aA];change 1+ns.length<=1000;lia) λp4 G7 q4 x4 g4=>?_;let X4:=X3.trans x4;z_go;show⟨len2 (by change 1<=1000;decide),λp5 q5=>?_⟩;let x5:Ext [] G7 (upd G7 p5 (.tup [.str (Str.ofString "fork")])):=.laid q5;let g5:upd G7 p5 (.tup [.str (Str.ofString "fork")]) p5=Sa (.tup [.str (Str.ofString "fork")]):=zB;generalize upd G7 p5 (.tup [.str (Str.ofString "fork")])=G8 at x5 g5 ⊢;let X5:=X4.trans x5;z_go;show⟨a,_,rfl,SqL.of (X5.k I),λp6 q6=>?_⟩
     let x6:Ext [] G8 (upd G8 p6 (.tup (ns.map V.int))):=.laid q6;let g6:upd G8 p6 (.tup (ns.map V.int)) p6=Sa (.tup (ns.map V.int)):=zB;generalize upd G8 p6 (.tup (ns.map V.int))=G9 at x6 g6 ⊢;let X6:=X5.trans x6;show iK (x6.k g5) g6 ∅ (by rw[aA];change 1+ns.length<=1000;lia) λp7 Ga q7 x7 g7=>?_;let X7:=X6.trans x7;z_go;show⟨len2 (by change 3<=1000;decide),λp8 q8=>?_⟩;let x8:Ext [] Ga (upd Ga p8 (.lst [.ref p1,.ref p4,.ref p7])):=.laid q8;let g8:upd Ga p8 (.lst [.ref p1,.ref p4,.ref p7]) p8=Sa (.lst [.ref p1,.ref p4,.ref p7]):=zB;generalize upd Ga p8 (.lst [.ref p1,.ref p4,.ref p7])=Gb at x8 g8 ⊢;let X8:=X7.trans x8;z_go;show⟨a,_,rfl,.inl (SqL.of (X8.k I)),?_⟩
     rw[aA];let U:∀p,H p=Sb/\p∉[t,N]->Gb p=Sa (.tup (endV ns))->∃vs,Gb N=Sa (.lst vs)/\vs.length<Sn/\R [Sa (.ref a)] (upd Gb N (.lst (vs++[.ref p]))):=λp O hg=>by
      let X9:Ext [N] D (upd Gb N (.lst (es++[.ref p]))):=X8.mo.trans .pt;show⟨es,X8.k h3,zU ∎,hR _ _ ⟨_,es++[.ref p],rfl,L.trans X9,zB,by rw[aF,a9];rfl,?_⟩⟩;rw[zY C,aG];show DenEL.append (a4.mono ((X9.mo (us:=[t,N])).young)) (.cons (qUg ?_) .nil);rw[yj O.1 O.2,zC (λz=>O.2 (by simp[z]))];show hg
     match ns,b8,g4,g7,U with
     |[],_,g4,g7,U=>
      show zL (SqL.of g8) (show atI [V.ref p1,.ref p4,.ref p7] 0=Sa (.ref p1)from rfl) ?_;show U p1 (a5 D p1 (.refl _ _) q1) ((x2.trans (x3.trans (x4.trans (x5.trans (x6.trans (x7.trans x8)))))).k g1)
     |[x],_,g4,g7,U=>
      show zL (SqL.of g8) (show atI [V.ref p1,.ref p4,.ref p7] 1=Sa (.ref p4)from rfl) ?_;show U p4 ?_ ((x5.trans (x6.trans (x7.trans x8))).k g4);rcases q4 with rfl|q4
      .exact a5 G4 _ x1 q2
      .exact a5 G6 _ X3 q4
     |[x,y],_,g4,g7,U=>
      show zL (SqL.of g8) (show atI [V.ref p1,.ref p4,.ref p7] 2=Sa (.ref p7)from rfl) ?_;show U p7 ?_ (x8.k g7);rcases q7 with rfl|q7
      .exact a5 G7 _ X4 q5
      .exact a5 G9 _ X6 q7
    .rintro d D ⟨o0,es,rfl,L,h3,a9,a4⟩;rw[aA,S,<-a0,aU]at a4;let a3:=L.drop M;show q N es ls D y2 b7 ((X.ext (ts:=[]) a3 ∅).mono ∎) (e2.trans a3.mo) h3 ∎ (λns C=>(g ns C).ok) (a4.mono (wN ∅))
noncomputable abbrev ij:Sr:=top 31
theorem scLWorksX:FnScope ["_law_tape","_law_most","_law_works_here","_law_boxes","_law_found","_law_number","_law_many","_law_made","_law_end","_law_deeds"] ["_law_tape","_law_most"] (za ij):=⟨rfl,rfl,rfl,by decide +kernel,rfl,by decide +kernel,by decide +kernel⟩
theorem qOi(F:Fun K "_law_works" "_law_works" ij f fd)(T:mg "range"=Sb)(b7:mg "int"=Sb)(hD:Has P w K mg base "_law_draw" 1 ["_law_tape","_law_many"] xc)(f7:Has P w K mg base "_law_ends" 2 ["_law_tape","_law_many"] (qPt K))(f8:Has P w K mg base "_law_deed" 2 ["_law_tape","_law_works_here","_law_boxes"] (qPu K))(f9:Has P w K mg base "_law_written" 1 ["_law_work"] (jv K)):FnOk P w K mg base CX0 3 f fd ["_law_tape","_law_most"] (qMl K):=by
 show F.go scLWorksX ?_;rintro j6 A g0 s H vs Q E hr ⟨t,k,rfl,hT,hk,q⟩;let hu:=zk hr
 refine⟨_,(PSsx.h (zX (psx (zZ (i:=2) scLWorksX.nd rfl (Or.inr rfl) (zH zO (zW (zA (zI yA pe_int (zF hD hr ⋯ (zA (pv 0) (zA pe_int pa_nil)))) (zA (zI yA pe_int (zF hD hr ⋯ (zA (pv 0) (zA pe_int pa_nil)))) pa_nil))) (yB wj (by rfl) b7 dF (zA (zu yJ (zF hD hr ⋯ (zA (pv 0) (zA pe_int pa_nil))) pe_int (zR _)) pa_nil)) (λ_ _=>rfl))))
   (zX (psx (xX (zT (zA (zH zO (zW (zA pe_int (zA pe_int (zA pe_int pa_nil)))) (zF hD hr ⋯ (zA (pv 0) (zA pe_int pa_nil))) (λ_ _=>rfl)) (zA (zW pa_nil) pa_nil))) (yI (n:=2) rfl (zQ (zJ (i:=3) scLWorksX.nd rfl (Or.inr rfl)) (zQ (zJ (i:=4) scLWorksX.nd rfl (Or.inl rfl)) zr)))))
   (zX (psx (zt bD rfl (yg rfl T (zA (pv 2) pa_nil)) (zJ (i:=5) scLWorksX.nd rfl (Or.inl rfl))
   (PSsx.h (zX (psx (zZ (i:=6) scLWorksX.nd rfl (Or.inl rfl) (xo (zM xG (pv 2) pe_int (zR _)) (zI yA pe_int (zF hD hr ⋯ (zA (pv 0) (zA (zI wf (pv 1) pe_int) pa_nil)))) (zI yA pe_int (zF hD hr ⋯ (zA (pv 0) (zA pe_int pa_nil)))))))
   (zX (psx (zZ (i:=7) scLWorksX.nd rfl (Or.inl rfl) (zW pa_nil)))
   (zX (psx (zt bD rfl (zd (zF f7 hr ⋯ (zA (pv 0) (zA (pv 6) pa_nil)))) (zJ (i:=8) scLWorksX.nd rfl (Or.inl rfl))
   (PSsx.h (zX (psx (zZ (i:=9) scLWorksX.nd rfl (Or.inl rfl) (zF hD hr ⋯ (zA (pv 0) (zA (zH zO (zW (zA pe_int (zA pe_int pa_nil))) (yB wj (by rfl) b7 dF (zA (zu yJ (zF hD hr ⋯ (zA (pv 0) (zA pe_int pa_nil))) pe_int (zR _)) pa_nil)) (λ_ _=>rfl)) pa_nil)))))
   (zx (psx (yT (yU bB bO bP yh (pv 7) (zA (zT (zA (yK ["_law_turn"] [0,2,3] rfl (.of rfl) (yg rfl T (zA (pv 9) pa_nil)) (λ_ _ _ _=>(zJ (i:=0) (by change(((["_law_turn","_law_tape","_law_works_here","_law_boxes"]:List Str))).Nodup;decide) rfl (Or.inl rfl))) (λ_ _ _ _=>.nil) (λ_ _ _ _=>(zF f8 hr ⋯ (zA (pv 1) (zA (pv 2) (zA (pv 3) pa_nil)))))) (zA (pv 8) pa_nil))) pa_nil)))))))))
   (zx (psx (yT (yU bB bO bP yh (pv 4) (zA (pv 7) pa_nil)))))))))))
   (zX (xE (zM (qVv (Nat.lt_of_succ_lt hu)) (zF f9 hr ⋯ (zA (zH zO (pv 4) pe_int (λ_ _=>rfl)) pa_nil)) (zW pa_nil) (zR _)) (zx (psx (yT (yU bB bO bP yh (zH yW (zH zO (zH zO (pv 4) pe_int (λ_ _=>rfl)) (yL yM pe_int) (λ_ _=>rfl)) pe_int (λ_ _=>rfl)) (zA (zT (zA pe_str (zA pe_int (zA pe_int pa_nil)))) pa_nil))))) zc)
   (zx (psx (zK (pv 4))))))))),?_⟩
 try dsimp only[zb,zg,zq,zo,zp]
 z_go;show zi hT ∎ ⋯ ⋯ λu H1 u0 u1 T1 e1 k1=>?_;z_go;show zi T1 ∎ ⋯ ⋯ λv H2 v0 v1 T2 e2 k2=>?_;z_go;show⟨len2 (by change 2<=1000;decide),λl0 d1=>?_⟩;let x3:Ext [] H2 (upd H2 l0 (.lst [.int (1+u),.int (5+v)])):=.laid d1;let g3:upd H2 l0 (.lst [.int (1+u),.int (5+v)]) l0=Sa (.lst (([1+u,5+v]:List Int).map V.int)):=zB;let n0:=T2.ne d1;let T3:=T2.ext (ts:=[]) x3 ∅;generalize upd H2 l0 (.lst [.int (1+u),.int (5+v)])=H3 at x3 g3 T3 ⊢;z_go;show zi T3 ∎ ⋯ ⋯ λc H4 c0 c1 T4 e4 k4=>?_;k_put;z_go;show .inr ⟨_,rfl,?_⟩;let⟨W,hW,eW⟩:=xi (ns:=[1+u,5+v]) (r:=if decide (c=0)=Sc then 1 else 0) (by split<;>decide) (by split<;>simp)
 show zL (SqL.of (by rw[k4 l0 n0];show g3)) eW ?_;let W1:1<=W/\W<=10:=by
  simp only[aM,bA,or_false]at hW;lia
 let E4:Ext [t] H H4:=e1.trans (e2.trans (x3.mo.trans e4));z_go;show⟨len2 (by change 3<=1000;decide),λl1 d2=>?_⟩;let x5:Ext [] H4 (upd H4 l1 (.lst [.int 3,.int 3,.int 8])):=.laid d2;let g5:upd H4 l1 (.lst [.int 3,.int 3,.int 8]) l1=Sa (.lst (([3,3,8]:List Int).map V.int)):=zB;let n1:=T4.ne d2;let T5:=T4.ext (ts:=[]) x5 ∅;generalize upd H4 l1 (.lst [.int 3,.int 3,.int 8])=H5 at x5 g5 T5 ⊢;z_go;show zi T5 ∎ ⋯ ⋯ λb H6 b0 b1 T6 e6 k6=>?_;let⟨B,hB,eB⟩:=xi (ns:=[3,3,8]) b0 b1;show zL (SqL.of (by rw[k6 l1 n1];show g5)) eB ?_;let B1:1<=B/\B<=8:=by
  simp only[aM,bA,or_false]at hB;lia
 z_go;show⟨len2 (bL _),λL c4=>?_⟩;let x7:Ext [] H6 (upd H6 L (.lst [])):=.laid c4;let g7:upd H6 L (.lst []) L=Sa (.lst []):=zB;let X:=T6.ne c4;let T7:=T6.ext (ts:=[]) x7 ∅;let E6:Ext [t] H H6:=E4.trans (x5.mo.trans e6);let b8:H L=Sb:=E6.none (by simpa using X) c4;generalize upd H6 L (.lst [])=H7 at x7 g7 T7 ⊢;z_go;show⟨len2 (by change 2<=1000;decide),λpt g1=>?_⟩;let x8:Ext [] H7 (upd H7 pt (.tup [.int B,.ref L])):=.laid g1;let g8:SqT K (upd H7 pt (.tup [.int B,.ref L])) pt [.int B,.ref L]:=SqT.of zB;let T8:=T7.ext (ts:=[]) x8 ∅;let c5:=x8.k g7;generalize upd H7 pt (.tup [.int B,.ref L])=H8 at x8 g8 T8 c5 ⊢
 show zv g8 rfl ?_;let E8:Ext [t] H H8:=E6.trans ((x7.trans x8).mo);z_go;let F8:FI H t L W H8 0:=.inl ⟨rfl,c5⟩;show⟨W,rfl,∎,∎,xh (lo:=0) (n:=W.toNat) (λi J G=>∃(o5 o6 o7 o8 o9:Option V),J=[Sa (.ref t),Sa (.int 6),Sa (.int W),Sa (.int B),Sa (.ref L),o5,o6,o7,o8,o9]/\Ext [t] H G/\Tape G t (k+20+1500*i)/\FI H t L W G i) ?_ ?_ ?_⟩
 .exact⟨_,_,_,_,_,rfl,E8,T8.mono ∎,F8⟩
 .clear F8 T8 E8 g8 x8 c5 g7 T7 x7 E6 T6 e6 k6 T5 g5 x5 E4 T4 T3 x3 g3 e1 e2 e4 k1 k2 k4 T1 T2;rintro i J G0 hi ⟨o5,o6,o7,o8,o9,rfl,e0,T0,F0⟩ N_ B_ C_ R_ hN_ hC_ hR_;rw[eQ];let j5:i<10:=by lia
  z_go;show qZj (λv G=>∃m:Int,v=.int m/\Ext [t] G0 G/\Tape G t (k+20+1500*i+1)/\1<=m/\m<=6) ?_ (λ_ a0=>?_) (λ_ a0=>?_)
  .rintro _ C ⟨m,rfl,e1,T1,m1,m2⟩;let E1:=e0.trans e1;z_go;show⟨len2 (bL _),λe a8=>?_⟩;let x2:Ext [] C (upd C e (.lst [])):=.laid a8;let g2:upd C e (.lst []) e=Sa (.lst []):=zB;let a4:=T1.ne a8;let T2:=T1.ext (ts:=[]) x2 ∅;generalize upd C e (.lst [])=G2 at x2 g2 T2 ⊢;z_go;show⟨t,_,m,rfl,T2,∎,m1,∎,λle es g4 G3 d3 g6 T3 e3 h3 h2 i0 a9=>?_⟩;let E3:Ext [t] C G3:=x2.mo.trans e3;let g3:G3 e=Sa (.lst []):=e3 _ _ (by simpa using a4) g2;let i1:=a9.len;rw[aA]at i1
   let a9:DenEL (yo C [t,e] G3) (g4.map endD) es:=a9.mono (km x2 ∅ (λb M=>by
    rcases aM.mp M with z|z
    .exact .inl (by simp[z])
    .rw [aH.mp z,g2];show .inr (λz=>nomatch z)))
   z_go;show⟨le,rfl,⟨_,SqL.of h3⟩,xU (xs:=es) (λj J G=>∃(o8 o9:Option V)(bs:List Blk)(vs:List V),J=[Sa (.ref t),Sa (.int 6),Sa (.int W),Sa (.int B),Sa (.ref L),Sa (.int i),Sa (.int m),Sa (.ref e),o8,o9]/\Ext [t,e] G3 G/\Tape G t (k+20+1500*i+110+150*j)/\bs.length=j/\vs.length=j/\G e=Sa (.lst vs)/\DenEL (yo C [t,e] G) (bs.map blkD) vs/\(1<=j->∃ld,LastB C [t,e] G ld bs vs)/\∀b∈bs,BlkOk m W b/\b.ds.length<=12) ?_ ?_ ?_ ?_⟩
   .exact⟨_,_,[],[],rfl,.refl _ _,T3.mono ∎,rfl,rfl,g3,.nil,λz=>by lia,∅⟩
   .rintro j J G hj ⟨o8,o9,bs,vs,rfl,e4,T4,M,hv,hG,hd,hL,a5⟩;let:le≠e:=λz=>by rw[z,g2]at d3;cases d3
    show SqL.of (e4 _ _ (by simp[g6,this]) h3)
   .rintro j ve J G4 hj ⟨o8,o9,bs,vs,rfl,e4,T4,M,hv,hG,hd,hL,a5⟩ N2_ B2_ C2_ R2_ hN2_ hC2_ hR2_;let j7:j<6:=by let:=(aC.mp hj).1;lia
    let⟨de,d4,i2⟩:=a9.get hj;let⟨ns,hn,rfl⟩:=zV d4;let E4:Ext [t,e] C G4:=(E3.mono ∅).trans e4;z_go;show⟨len2 (by change 2<=1000;decide),λl5 q5=>?_⟩;let x5:Ext [] G4 (upd G4 l5 (.lst [.int 3,.int 13])):=.laid q5;let g5:upd G4 l5 (.lst [.int 3,.int 13]) l5=Sa (.lst (([3,13]:List Int).map V.int)):=zB;let n5:=T4.ne q5;let T5:=T4.ext (ts:=[]) x5 ∅;generalize upd G4 l5 (.lst [.int 3,.int 13])=G5 at x5 g5 T5 ⊢;z_go;show zi T5 ∎ ⋯ ⋯ λc G6 c0 c1 T6 e6 k6=>?_;k_put;z_go;show .inr ⟨_,rfl,?_⟩;let⟨D,i3,eD⟩:=xi (ns:=[3,13]) (r:=if decide (c=0)=Sc then 1 else 0) (by split<;>decide) (by split<;>decide)
    show zL (SqL.of (by rw[k6 l5 n5];show g5)) eD ?_;let D1:0<D/\D<=13:=by
     simp only[aM,bA,or_false]at i3;lia
    z_go;show zi T6 ∎ ∎ ∎ λr G7 r0 r1 T7 e7 k7=>?_;let E7:Ext [t] G4 G7:=x5.mo.trans (e6.trans e7);let c6:Ext [t,e] C G7:=E4.trans (E7.mono ∅);let a6:G7 e=Sa (.lst vs):=E7 _ _ (by simpa using a4) hG;z_go;show yD a6 ?_;z_go;show⟨r,rfl,∎,∎,λI N=>?_⟩;let b2:=T7.ne N;let U:I≠e:=λz=>by rw[z,a6]at N;cases N
    show wO (lo:=0) (n:=r.toNat) (λa J G=>∃(o0:Option V)(ds:List Deed)(g:List V),J=[o0,Sa (.ref t),Sa (.int W),Sa (.int B)]/\Ext [t,I] G7 G/\Tape G t (k+20+1500*i+110+150*j+2+10*a)/\G I=Sa (.lst g)/\g.length=a/\ds.length=a/\DenEL (yo G7 [t,I] G) (ds.map deedD) g/\∀d∈ds,wQ W d) ?_ ?_ ?_
    .exact⟨Sb,[],[],rfl,.laid N,(T7.ext (ts:=[]) (.laid N) ∅).mono ∎,zB,rfl,rfl,.nil,∅⟩
    .rintro a J G8 R ha ⟨o0,ds,g,rfl,e8,T8,h8,d5,b3,c7,c8⟩ hR;z_go;k_in;show⟨t,_,W,B,rfl,T8,∎,∎,∎,∎,∎,λp d G9 hp T9 e9 i4 i5=>?_⟩;let h9:G9 I=Sa (.lst g):=e9 _ _ (by simpa using b2) h8;let np:=T8.ne hp;let Y:p≠I:=λz=>by rw[z,h8]at hp;cases hp
     let d6:Ext [t,I] G8 (upd G9 I (.lst (g++[.ref p]))):=(e9.mono ∅).trans (.put ∅);show⟨g,h9,zU ∎,hR _ _ ⟨_,ds++[d],g++[.ref p],rfl,e8.trans d6,(T9.ext (ts:=[I]) .pt (by simpa using b2.symm)).mono ∎,zB,by rw[aF,d5];rfl,by rw[aF,b3];rfl,?_,λx hx=>?_⟩⟩
     .rw [aG];show DenEL.append (c7.mono d6.young) (.cons (qNk ?_) .nil);rw[yj (e8.none (by simp[np,Y]) hp) (by simp[np,Y]),zC Y];show i5
     .rcases aN.mp hx with z|z
      .exact c8 x z
      .rw [aH.mp z];show i4
    .rintro J G8 ⟨o0,ds,g,rfl,e8,T8,h8,d5,b3,c7,c8⟩;z_go;show⟨len2 (by change 2<=1000;decide),λO S=>?_⟩;let b9:e∉[t,I]:=by simp[a4,U.symm]
     let x9:Ext [] G8 (upd G8 O (.tup [.ref I,ve])):=.laid S;let g9:upd G8 O (.tup [.ref I,ve]) O=Sa (.tup [.ref I,ve]):=zB;let d7:=T8.ne S;let Y:O≠I:=λz=>by rw[z,h8]at S;cases S
     let c9:O≠e:=λz=>by rw[z,e8 _ _ b9 a6]at S;cases S
     let T9:=T8.ext (ts:=[]) x9 ∅;generalize upd G8 O (.tup [.ref I,ve])=G9 at x9 g9 T9 ⊢;let d8:Ext [t,I] G7 G9:=e8.trans x9.mo;let i6:G9 e=Sa (.lst vs):=d8 _ _ b9 a6;z_go;show yd i6 (zU ∎) ?_;z_go;let xF:Ext [t,I,e] G7 (upd G9 e (.lst (vs++[.ref O]))):=(d8.mono ∅).trans (.put ∅);let d9:C I=Sb:=c6.none (by simp[b2,U]) N;let e5:C O=Sb:=(c6.mono (us:=[t,I,e]) ∅).trans (e8.mono ∅) |>.none (by simp[d7,Y,c9]) S
     let eF:Ext [t,e] G7 (upd G9 e (.lst (vs++[.ref O]))):=((xF.mono (us:=[I,t,e]) ∅).drop N);let Y7:Same (yo C [t,e] G4) (yo C [t,e] G7):=Ext.young (E7.mono ∅);let YF:Same (yo C [t,e] G7) (yo C [I,t,e] (upd G9 e (.lst (vs++[.ref O])))):=qY1 N (xF.mono ∅)
     let YD:Same (yo G7 [t,I] G9) (yo C [I,t,e] (upd G9 e (.lst (vs++[.ref O])))):=λb o h=>Ext.young (ts:=[I,t,e]) (.put ∅) _ _ (km c6 ∅ (λb M=>by
      simp only[aM,bA,or_false]at M;rcases M with z|z|z
      .exact .inl (by simp[z])
      .exact .inl (by simp[z])
      .rw [z,a6];show .inr (λz=>nomatch z)) _ _ h)
     let f0:LastB C [t,e] (upd G9 e (.lst (vs++[.ref O]))) I (bs++[⟨ds,ns⟩]) (vs++[.ref O]):=by
      show⟨⟨bs,⟨ds,ns⟩,vs,O,ve,g,rfl,rfl,(hd.mono Y7).mono YF,?_,?_,?_,(c7.mono x9.mo.young).mono YD⟩,d9,by simp[b2,U]⟩
      .rw [yj e5 (by simp[Y,d7,c9]),zC c9];show g9
      .exact ((i2.mono (e4.young)).mono Y7).mono YF
      .rw [zC U];show x9.k h8
     show⟨_,_,bs++[⟨ds,ns⟩],vs++[.ref O],rfl,e4.trans ((E7.mono ∅).trans eF),(T9.ext (ts:=[e]) .pt (by simpa using a4.symm)).mono ∎,by rw[aF,M];rfl,by rw[aF,hv];rfl,zB,f0.den,λ_=>⟨I,f0⟩,λb M=>?_⟩;rcases aN.mp M with z|z
     .exact a5 b z
     .rw [aH.mp z];show⟨⟨i0 ns (aK hn),c8,by change ds.length<=20;lia⟩,by change ds.length<=12;lia⟩
   .rintro J G ⟨o8,o9,bs,vs,rfl,e4,T4,M,hv,hG,hd,hL,a5⟩;let⟨ld,hL⟩:=hL ∎;let eG:Ext [t] C G:=(((E3.mono (us:=[e,t]) ∅).trans (e4.mono ∅)).drop a8);let hm:yo C [ld,t] G e=Sa (.lst vs):=by
     rw[yj a8 (by
      let:=hL.out;simp only[aM,bA,or_false,not_or]at this ⊢
      show⟨eI this.2,a4⟩)]
     show hG
    let⟨us,c2,j8,hF⟩:=(F0.ext e1 X).step E1 eG X b8 (hL.less ∅) hm ⟨m,m1,m2,⟨∎,λb M=>(a5 b M).1⟩,λb M=>(a5 b M).2⟩;z_go;show yD c2 ?_;z_go;show yd c2 (zU ∎) ?_;z_go;let eH:Ext [t] H (upd G L (.lst (us++[.ref e]))):=(((E1.trans eG).mono (us:=[L,t]) ∅).trans (.put ∅)).drop b8;show⟨_,_,_,_,_,rfl,eH,(T4.ext (ts:=[L]) .pt (by simpa using X.symm)).mono ∎,hF⟩
  .z_go;show zi T0 ∎ ⋯ ⋯ λr C r0 r1 T1 e1 k1=>?_;show xx (a0 _ _ ⟨2+r,rfl,e1,T1,∎,∎⟩)
  .z_go;show zi T0 ∎ ⋯ ⋯ λr C r0 r1 T1 e1 k1=>?_;show xx (a0 _ _ ⟨1+r,rfl,e1,T1,∎,∎⟩)
 .rintro J G ⟨o5,o6,o7,o8,o9,rfl,e0,T0,F0⟩;let F0:FoundI H t L W G W.toNat:=by
   rcases F0 with ⟨h,_⟩|h
   .lia
   .exact h
  obtain⟨bs,rest,ld,e,vs,d0,hG,j9,hL,hm,hR,⟨m,m1,m2,a7,f1⟩,i7⟩:=F0.ex;let Yy:Same (yo H [ld,t,L] G) G:=Qf;let f2:=Yy _ _ hm;let b4:=a7.len;z_go;show zL (SqL.of hG) (show atI (V.ref e::d0) 0=Sa (.ref e)from zS (j:=0) rfl) ?_;z_go;show⟨e,bs,m,W,rfl,(DenE.list f2 (hL.den.mono Qf)).den,a7,∎,λl ns C hl x1 h1 f3 h2=>?_⟩;z_go;show⟨len2 (bL _),λp0 i8=>?_⟩;let x2:Ext [] C (upd C p0 (.lst [])):=.laid i8;let g2:upd C p0 (.lst []) p0=Sa (.lst []):=zB;generalize upd C p0 (.lst [])=G2 at x2 g2 ⊢;let X2:=x1.trans x2;let T2:=T0.ext (ts:=[]) X2 ∅;show⟨l,p0,_,rfl,rfl,.inl ⟨SqL.of (x2.k h1),SqL.of g2⟩,?_⟩;kj_on
  let c3:∀w0,WorkOk m W w0->WsOk (w0::rest):=λw0 h0=>by
   let hW:((w0::rest).length:Int)=W:=by rw[bK];lia
   show⟨λw hw=>?_,by rw[bK];lia,by rw[bK];lia⟩;rw[hW];rcases aM.mp hw with z|z
   .rw [z];show⟨m,m1,∎,h0⟩
   .let⟨m',a1,a2,a3,_⟩:=i7 w z;show⟨m',a1,∎,a3⟩
  cases ns with
  |cons y ns=>
   kt_k;let i9:Tape G2 t (k+20000):=T2.mono ∎;let Y2:Same (yo H [t] G) (wo [t] G2):=λb o h=>jP _ _ (Ext.young (ts:=[t]) (X2.mono ∅) _ _ h);show q L (bs::rest) bs G2 i9 (e0.trans X2.mo) (DenE.list (by rw[yC (by simpa using X)];show X2.k hG) (.cons (.list (Y2 _ _ (wN ∅ _ _ hm)) (hL.den.mono λb o h=>Y2 _ _ (wN ∅ _ _ h))) (hR.mono λb o h=>Y2 _ _ (wN ∅ _ _ h)))).den (c3 bs a7) rfl ∎ λz=>?_;let:=(f3 y).mp ∅;rw[z]at this;cases this
  |nil=>
   show iteT ?_;let⟨Z,b,us,O,ve,g,rfl,rfl,h3,h4,h5,h6,h7⟩:=hL.ex;let b5:=hL.out;simp only[aM,bA,or_false,not_or]at b5;z_go;show zL (SqL.of (X2.k hG)) (show atI (V.ref e::d0) 0=Sa (.ref e)from zS (j:=0) rfl) ?_;z_go;show zL (SqL.of (X2.k f2)) (ul _ _) ?_;z_go;let f4:=Yy _ _ h4;show yH (SqT.of (X2.k f4)) (show atI [V.ref ld,ve] 0=Sa (.ref ld)from rfl) ?_;let f5:=X2.k h6;let k0:=f1 b ∅;let b3:=h7.len;rw[aA]at b3;show yD f5 ?_;z_go;show⟨len2 (by change 3<=1000;decide),λps b6=>?_⟩;let x3:Ext [] G2 (upd G2 ps (.tup [.str (Str.ofString "set"),.int 0,.int 5])):=.laid b6
   let g3:upd G2 ps (.tup [.str (Str.ofString "set"),.int 0,.int 5]) ps=Sa (.tup (V.str (dword (.set 0 5))::(dargs (.set 0 5)).map V.int)):=zB;let j0:=T2.ne b6;let j1:ps≠ld:=λz=>by rw[z,f5]at b6;cases b6
   generalize upd G2 ps (.tup [.str (Str.ofString "set"),.int 0,.int 5])=G3 at x3 g3 ⊢;let X3:=X2.trans x3;let j2:=X3.k h6;z_go;show yd j2 (zU ∎) ?_;z_go;let XF:Ext [ld] G (upd G3 ld (.lst (g++[.ref ps]))):=X3.mo.trans .pt;let YF:Same (yo H [ld,t,L] G) (wo [t] (upd G3 ld (.lst (g++[.ref ps])))):=λb o h=>jP _ _ (wN ∅ _ _ (Ext.young (XF.mono (us:=[ld,t,L]) ∅) _ _ h));let j3:Tape (upd G3 ld (.lst (g++[.ref ps]))) t (k+20000):=(T0.ext XF (by simpa using eI b5.1)).mono ∎;let j4:Ext [t] H (upd G3 ld (.lst (g++[.ref ps]))):=((e0.mono (us:=[ld,t]) ∅).trans (XF.mono ∅)).drop hL.new;let f6:WorkOk m W (Z++[⟨b.ds++[.set 0 5],b.ns⟩]):=by
    show⟨by rw[aF]at b4 ⊢;show b4,λc hc=>?_⟩;rcases aN.mp hc with z|z
    .exact a7.blk c (by simp[z])
    .let M:=a7.blk b ∅;rw[aH.mp z];show⟨M.ns,λd hd=>?_,by change(b.ds++[Deed.set 0 5]).length<=20;rw[aF];change b.ds.length+1<=20;lia⟩;rcases aN.mp hd with z|z
     .exact M.ds d z
     .rw [aH.mp z];show⟨⋯,⋯,⋯,⋯⟩
   show q L ((Z++[⟨b.ds++[.set 0 5],b.ns⟩])::rest) _ _ j3 j4 ?_ (c3 _ f6) rfl (by rw[aF]at b4 ⊢;change Z.length+1<=6;let:((Z.length+1:Nat):Int)=m:=b4;lia) λz=>?_
   .refine (DenE.list (vs:=.ref e::d0) (ds:=workD (Z++[⟨b.ds++[.set 0 5],b.ns⟩])::rest.map workD) ?_ (.cons (.list (YF _ _ hm) ?_) (hR.mono YF))).den
    .rw [yC (by simpa using X),zC (eI b5.2)];show X3.k hG
    .rw [aG];show DenEL.append (h3.mono YF) (.cons (.tuple (YF _ _ h4) (.cons (.list (vs:=g++[.ref ps]) ?_ ?_) (.cons (h5.mono YF) .nil))) .nil)
     .rw [yC (by simpa using b5.1)];show zB
     .rw [aG];show DenEL.append (h7.mono YF) (.cons (qNk ?_) .nil);rw[yC (by simpa using j0),zC j1];show g3
   .let h0:(0:Int)∈yk (Z++[⟨b.ds++[.set 0 5],b.ns⟩]):=by
     unfold yk;show cO.mpr ⟨_,bM _ (aH.mpr rfl),dI.mpr ⟨.set 0 5,∅,rfl⟩⟩
    rw[z]at h0;cases h0
noncomputable abbrev sLaw:Sr:=top 46
theorem scLaw:FnScope ["_law_script","_law_k","_law_tape","_law_works_here","_law_work","_law_boxes","_law_box","_law_ways_here","_law_case","_law_needed","_law_shut","_law_none","_law_few","_law_told","_law_rows","_law_turn","_law_thing","_law_found"] ["_law_script"] (za sLaw):=⟨rfl,rfl,rfl,by decide +kernel,rfl,by decide +kernel,by decide +kernel⟩
theorem qZa(F:Fun K "law" "law" sLaw f fd)(D:mg "range"=Sb)(Y:mg "len"=Sb)(i5:mg "min"=Sb)(i6:mg "int"=Sb)(f7:mg "list"=Sb)(f8:mg "bool"=Sb)(i7:mg "isinstance"=Sb)(p4:Has P w K mg base "_law_begun" 1 ["_law_script","_law_k"] (Ql K))(f9:Has P w K mg base "_law_works" 3 ["_law_tape","_law_most"] (qMl K))(p8:Has P w K mg base "_law_written" 1 ["_law_work"] (jv K))(p9:Has P w K mg base "_law_ways" 1 ["_law_work"] (kZ K))(q0:Has P w K mg base "_law_setting" 2 ["_law_tape","_law_ways_here"] (qJk K))(q4:Has P w K mg base "_law_busy" 4 ["_law_works_here","_law_number","_law_box"] (qPv K))(q5:Has P w K mg base "_law_least" 3 ["_law_work","_law_ways_here","_law_case","_law_needed"] (qMn K))(q6:Has P w K mg base "_law_fewest" 1 ["_law_work","_law_shut","_law_needed"] (qMo K))(i8:Has P w K mg base "why_none" 7 ["works","number","box","shut"] (iE K))(i9:Has P w K mg base "_law_ties" 2 ["_law_work","_law_shut","_law_needed","_law_thing"] (qV0 K))(q7:Has P w K mg base "shows_none" 7 ["works","number","box","shut","thing"] (qPo K))(q8:Has P w K mg base "_law_odd" 2 ["_law_tape"] (iJ K))(q9:Has P w K mg base "_law_bent" 3 ["_law_tape","_law_numbers"] (qPx K))(hD:Has P w K mg base "_law_draw" 1 ["_law_tape","_law_many"] xc):FnOk P w K mg base CX0 8 f fd ["_law_script"] (ko K):=by
 show F.go scLaw ?_;rintro y0 A r2 s H vs Q E T ⟨a,ns,rfl,j0,w8,q⟩;let hu:=zk T
 refine⟨_,(PSsx.h (zX (psx (zt bD rfl (yg rfl D (zA (zI yA pe_int (zN (qSf rfl) (by rfl) i5 PyProof.Rows.boot_min (zA pe_int (zA (zN yn (by rfl) Y bH (zA (pv 0) pa_nil)) pa_nil)))) pa_nil)) (zJ (i:=1) scLaw.nd rfl (Or.inl rfl))
   (PSsx.h (zX (psx (zZ (i:=2) scLaw.nd rfl (Or.inr rfl) (zF p4 T ⋯ (zA (pv 0) (zA (pv 1) pa_nil)))))
   (zX (psx (zZ (i:=3) scLaw.nd rfl (Or.inl rfl) (zF f9 T ⋯ (zA (pv 2) (zA pe_int pa_nil)))))
   (zX (psx (xX (zT (zA (zH zO (pv 3) pe_int (λ_ _=>rfl)) (zA (zF p8 T ⋯ (zA (zH zO (pv 3) pe_int (λ_ _=>rfl)) pa_nil)) pa_nil))) (yI (n:=2) rfl (zQ (zJ (i:=4) scLaw.nd rfl (Or.inr rfl)) (zQ (zJ (i:=5) scLaw.nd rfl (Or.inl rfl)) zr)))))
   (zX (psx (xq (i:=6) (j:=7) rfl scLaw.nd rfl rfl ⋯ rfl rfl (zA (zH zO (pv 5) (zF hD T ⋯ (zA (pv 2) (zA (zN yn (by rfl) Y bH (zA (pv 5) pa_nil)) pa_nil))) (λ_ _=>rfl)) (zA (zF p9 T ⋯ (zA (pv 4) pa_nil)) pa_nil)) rfl))
   (zX (psx (xq (i:=8) (j:=9) rfl scLaw.nd rfl rfl ⋯ rfl rfl (zA (zF q0 T ⋯ (zA (pv 2) (zA (pv 7) pa_nil))) (zA (zF q4 T ⋯ (zA (pv 3) (zA pe_int (zA (pv 6) pa_nil)))) pa_nil)) rfl))
   (zX (psx (xZ (i:=10) ["_law_way"] [2] rfl (.of rfl) scLaw.nd rfl (Or.inl rfl) (zd (pv 7)) (λ_ _ _ _=>(zJ (i:=0) (by change(((["_law_way","_law_tape"]:List Str))).Nodup;decide) rfl (Or.inl rfl))) (λ_ _ _ _=>.cons (zM wh (zF hD T ⋯ (zA (pv 1) (zA pe_int pa_nil))) pe_int (zR _)) .nil) (λ_ _ _ _=>(pv 0))))
   (zX (psx (xq (i:=11) (j:=12) rfl scLaw.nd rfl rfl ⋯ rfl rfl (zA (zu oC (zF q5 T ⋯ (zA (pv 4) (zA (pv 7) (zA (zI oR (yP wm (pv 8) yN (yO pe_int)) (zT (zA (pv 10) pa_nil))) (zA (pv 9) pa_nil))))) pe_non (zR _)) (zA (zF q6 T ⋯ (zA (pv 4) (zA (pv 10) (zA (pv 9) pa_nil)))) pa_nil)) rfl))
   (zX (psx (zZ (i:=13) scLaw.nd rfl (Or.inl rfl) (zF i8 T ⋯ (zA (pv 3) (zA pe_int (zA (pv 6) (zA (pv 10) pa_nil)))))))
   (zX (xE (PW.pt (yi (zM xr (pv 11) (zu wh (pv 12) pe_int (zR _)) (zR _)) (yz (zM xr (pv 11) (zu oD (pv 13) pe_non (zR _)) (zR _))))) (zx (psx (zK pe_bl))) zc)
   (zX (xE (PW.pt (yS (zw K rfl (pv 11) (λ_=>rfl)) (yy (PW.pt (yi (zM xr (zN yn (by rfl) Y bH (zA (pv 13) pa_nil)) (pv 12) (zR _)) (yz (xA (zw K rfl (zF i9 T ⋯ (zA (pv 4) (zA (pv 10) (zA (pv 9) (zA (pv 13) pa_nil))))) (λ_=>rfl))))))))) (zx (psx (zK pe_bl))) zc)
   (zX (xE (zM (neDK K rfl T) (zF i8 T ⋯ (zA (pv 3) (zA pe_int (zA (pv 6) (zA (pv 10) pa_nil))))) (pv 13) (zR _)) (zx (psx (zK pe_bl))) zc)
   (zX (psx (zZ (i:=14) scLaw.nd rfl (Or.inl rfl) (zI (catLK K rfl) (zW (zA (zF q8 T ⋯ (zA (pv 2) pa_nil)) (zA (yB (qJ1 T.hd) (by rfl) f7 cJ (zA (yB qM8 (by rfl) D PyProof.Rows.boot_range (zA (zN (yR K rfl) (by rfl) Y bH (zA (pv 4) pa_nil)) pa_nil)) pa_nil)) (zA (pv 9) pa_nil)))) (yK ["_law_block"] [] rfl (.of rfl) (yg rfl D (zA (zN (yR K rfl) (by rfl) Y bH (zA (pv 4) pa_nil)) pa_nil)) (λ_ _ _ _=>(zJ (i:=0) (by change(((["_law_block"]:List Str))).Nodup;decide) rfl (Or.inl rfl))) (λ_ _ _ _=>.nil) (λ_ _ _ _=>(zW (zA (pv 0) pa_nil)))))))
   (zX (psx (zt bD rfl (yg rfl D (zA pe_int pa_nil)) (zJ (i:=15) scLaw.nd rfl (Or.inl rfl))
   (PSsx.h (zX (psx (yT (yU bB bO bP yh (pv 14) (zA (yK ["_law_place"] [2,4] rfl (.of rfl) (yg rfl D (zA (zI yA pe_int (zF hD T ⋯ (zA (pv 2) (zA pe_int pa_nil)))) pa_nil)) (λ_ _ _ _=>(zJ (i:=0) (by change(((["_law_place","_law_tape","_law_work"]:List Str))).Nodup;decide) rfl (Or.inl rfl))) (λ_ _ _ _=>.nil) (λ_ _ _ _=>(zF hD T ⋯ (zA (pv 1) (zA (zI yA (zN (yR K rfl) (by rfl) Y bH (zA (pv 2) pa_nil)) pe_int) pa_nil))))) pa_nil))))
   (zx (psx (yT (yU bB bO bP yh (pv 14) (zA (zF q9 T ⋯ (zA (pv 2) (zA (xo (zw K rfl (pv 11) (λ_=>rfl)) (pv 13) (pv 9)) pa_nil))) pa_nil)))))))))
   (zx (psx (zt bD rfl (zd (zI (catLK K rfl) (pv 14) (zI ot (zW (zA (pv 13) pa_nil)) (yB wj (by rfl) i6 dF (zA (pv 11) pa_nil))))) (zJ (i:=16) scLaw.nd rfl (Or.inl rfl))
   (PSsx.h (zX (psx (zZ (i:=17) scLaw.nd rfl (Or.inl rfl) (zF q7 T ⋯ (zA (pv 3) (zA pe_int (zA (pv 6) (zA (pv 10) (zA (pv 16) pa_nil))))))))
   (zx (xE (PW.pt (yi (xA (zw K rfl (zN wY (by rfl) i7 (by decide +kernel) (zA (pv 17) (zA (wG (v:=.ty "bool") rfl f8 PyProof.Rows.boot_bool rfl) pa_nil))) (λ_=>rfl))) (yz (zM xr (pv 17) (zF i9 T ⋯ (zA (pv 4) (zA (pv 10) (zA (pv 9) (zA (pv 16) pa_nil))))) (zR _))))) (zx (psx (zK pe_bl))) zc)))))))))))))))))))))))
   (zx (psx (zK pe_bl))))),?_⟩
 try dsimp only[zb,zg,zq,zo,zp]
 z_go;show⟨a,_,rfl,.inl j0,?_⟩;rw[aA];kl_no;generalize hN:(if (ns.length:Int)<4 then (ns.length:Int)else 4)=N;let y3:0<=N/\N<=4:=by
  rw[<-hN];split<;>lia
 z_go;show⟨1+N,rfl,∎,∎,xh (lo:=0) (n:=(1+N).toNat) (λi B G=>∃(o1 o2 o3 o4 o5 o6 o7 o8 o9 oa ob oc od oe og oh oi:Option V),B=[Sa (.ref a),o1,o2,o3,o4,o5,o6,o7,o8,o9,oa,ob,oc,od,oe,og,oh,oi]/\Ext [] H G) ?_ ?_ ?_⟩
 .exact⟨_,_,_,_,_,_,_,_,_,_,_,_,_,_,_,_,_,rfl,.refl _ _⟩
 .rintro i B G0 hi ⟨o1,o2,o3,o4,o5,o6,o7,o8,o9,oa,ob,oc,od,oe,og,oh,oi,rfl,e0⟩ N_ B_ C_ R_ hN_ hC_ hR_;rw[eQ];z_go;show⟨a,ns,i,rfl,e0.toSame.seq j0,∎,λt H1 ht T1 s1=>?_⟩;z_go;show⟨t,0,rfl,T1,⋯,λwa ws w0 H2 T2 e2 dW g0 d3 g5 r3=>?_⟩;let E2:Ext [t] G0 H2:=(show Ext [t] G0 H1 from λb o _ h=>s1 b o h).trans e2;let r4:∀G,Ext [t] H2 G->Ext [] H G:=λG e=>e0.trans ((E2.trans e).drop ht);let⟨a',vs,ea,j1,g6⟩:=dW.ofList;cases ea;let⟨vw,j2,g7⟩:=g6.get' (i:=0) (d:=workD w0) (by rw[aR,d3];rfl);let⟨wb,g,rfl,r5,r6⟩:=id g7.ofList;let b5:g.length=w0.length:=by rw[r6.len,aA]
  let⟨m,g8,g9,a2⟩:=g0.all w0 (aK d3);let y5:=a2.len;let sm:∀{G:Hp},Ext [t] H2 G->Same (wo [t] H2) G:=λ{G}e b o h=>xw [t] G _ _ (e.same _ _ h);clear e2 s1 T1 E2;z_go;show zL ((sm (.refl _ _)).seq j1) (show atI vs 0=Sa (.ref wb)from zS (j:=0) j2) ?_;z_go;show zL ((sm (.refl _ _)).seq j1) (show atI vs 0=Sa (.ref wb)from zS (j:=0) j2) ?_;z_go;show⟨wb,w0,m,ws.length,rfl,g7.mono (sm (.refl _ _)),a2,g9,λlb bx H3 r7 e3 j3 j4 y7=>?_⟩;let r8:=T2.ne r7;let T3:=T2.ext (ts:=[]) e3 ∅;z_go;show⟨len2 (by change 2<=1000;decide),λpt r9=>?_⟩;let x4:Ext [] H3 (upd H3 pt (.tup [.ref wb,.ref lb])):=.laid r9
  let g4:SqT K (upd H3 pt (.tup [.ref wb,.ref lb])) pt [.ref wb,.ref lb]:=SqT.of zB;let T4:=T3.ext (ts:=[]) x4 ∅;let b9:=x4.k j3;generalize upd H3 pt (.tup [.ref wb,.ref lb])=H4 at x4 g4 T4 b9 ⊢;show zv g4 rfl ?_;let E4:Ext [t] H2 H4:=(e3.trans x4).mo;let j5:bx≠[]:=λz=>by
   let⟨y,hy⟩:=gR _ r3;let:=(j4 y).mpr hy;rw[z]at this;cases this
  let s0:=gX.mpr j5;z_go;show⟨lb,_,rfl,.inl (SqL.of b9),?_⟩;rw[aA];z_go;show zi T4 ∎ ∎ ∎ λr H5 r0 r1 T5 e5 k5=>?_;let⟨y,hy,ey⟩:=xi (ns:=bx) r0 r1;show zL (SqL.of (by rw[k5 lb r8];show b9)) ey ?_;let E5:=E4.trans e5;z_go;show⟨wb,w0,m,ws.length,rfl,g7.mono (sm E5),a2,g9,λwl us H6 s2 e6 f2 dU=>?_⟩;let y8:=qY2 a2 g9;let s3:=dU.len;rw[aA]at s3;let T6:=T5.ext (ts:=[]) e6 ∅;let d4:=T5.ne s2;let E6:=E5.trans e6.mo;let j6:0<=y/\y<8:=qHx a2 ((j4 y).mp hy);kl_no;z_go;show⟨t,wl,_,us,rfl,T6,∎,f2,d4,∎,λca cl pr s4 cs p0 p1 H7 T7 e7 j7 s5 y9 j8 s6 s7 s8 s9 h0=>?_⟩
  let E7:=E6.trans e7;let j9:H7 wl=Sa (.lst us):=e7 _ _ (by simpa using d4) f2;z_go;show⟨wa,ws,0,w0,y,rfl,dW.mono (sm E7),g0,d3,j6.1,j6.2,λJ nd H8 t0 e8 k0 z0 d5 h4=>?_⟩;let b6:=T7.ne t0;let T8:=T7.ext (ts:=[]) e8 ∅;let E8:=E7.trans e8.mo;let b3:=e8.k j9;kl_no;z_go;show⟨wl,rfl,⟨_,SqL.of b3⟩,λlc c2=>?_⟩;let d6:=T8.ne c2;show zn (xs:=us) (λj B G=>∃(o0:Option V)(S:List Wy)(ts:List V),B=[o0,Sa (.ref t)]/\Ext [t,lc] H8 G/\Tape G t (20201+j)/\G lc=Sa (.lst ts)/\DenL K H6 (S.map pairD) ts/\(∀v∈S,v∈Wk w0)/\S.length<=j) ?_ ?_ ?_ ?_
  .exact⟨Sb,[],[],rfl,.laid c2,(T8.ext (ts:=[]) (.laid c2) ∅).mono ∎,zB,.nil,∅,aI _⟩
  .rintro j B G hj ⟨o0,S,ts,rfl,eG,TG,Z,U,a4,k7⟩;let:wl≠lc:=zG b3 c2;show SqL.of (eG _ _ (by simp[d4,this]) b3)
  .rintro j v B G R hv ⟨o0,S,ts,rfl,eG,TG,Z,U,a4,k7⟩ hR;let z4:=(aC.mp hv).1;let⟨dd,t4,g6⟩:=dU.get hv;let⟨p,hp,rfl⟩:=zV t4;z_go;show zi TG ∎ ⋯ ⋯ λc M c0 c1 T2 e2 k2=>?_;let d7:M lc=Sa (.lst ts):=by rw[k2 lc d6];show Z
   z_go;by_cases hc:0<c
   .rw [decide_eq_true hc];kt_le;show⟨ts,d7,zU (by let:=U.len;rw[aA]at this;lia),hR _ _ ⟨_,S++[p],ts++[v],rfl,(eG.trans (e2.mono ∅)).trans (.put ∅),(T2.ext (ts:=[lc]) .pt (by simpa using d6.symm)).mono ∎,zB,by rw[aG];show DenL.append U (.cons g6 .nil),λw hw=>?_,by rw[aF];change S.length+1<=j+1;lia⟩⟩;rcases aN.mp hw with z|z
    .exact a4 w z
    .rw [aH.mp z];show aK hp
   .rw [decide_eq_false hc];show iteF (iteF ?_);show hR _ _ ⟨_,S,ts,rfl,eG.trans (e2.mono ∅),T2.mono ∎,d7,U,a4,∎⟩
  .rintro B Hc ⟨o0,S,ts,rfl,eG,TG,Z,U,a4,k7⟩;let c3:Ext [t] H8 Hc:=(eG.mono (us:=[lc,t]) ∅).drop c2;let Ec:=E8.trans c3;let⟨t1,t2,t3,t5,_⟩:=id T6;let a0:∀x∈[t],NoT H6 x:=λx hx zs z=>by
    rw[aH.mp hx]at z;rcases z with z|⟨o,z⟩<;>(rw[t5]at z;cases z)
   let b7:Ext [t] H6 Hc:=e7.trans (e8.mo.trans c3);let h0:cl≠t:=h0;let t6:=qMj T7 j7;let t7:=qMj T7 j8;let h5:Ext [t] H7 Hc:=e8.mo.trans c3;let k8:=h5 _ _ (by simpa using t6) j7;let k9:=h5 _ _ (by simpa using h0) s5;let l0:=h5 _ _ (by simpa using t7) j8;let a1:Hc J=Sa (.lst (nd.map V.int)):=c3 _ _ (by simpa using b6) k0;let l1:Hc wl=Sa (.lst us):=c3 _ _ (by simpa using d4) b3;let z5:S.length<=25:=by lia
   let f9:=uY a2 g8;let t8:=Z;let a7:(λy_1=>y_1∈nd)=BusyP ws 0 w0 y:=funext λz=>propext (h4 z);let b4:∀n∈nd,0<=n/\n<(g.length:Int):=λn hn=>by rw[b5];show vL a2 ((h4 n).mp hn)
   let l3:∀v∈S,-1<=v.1/\v.1<(g.length:Int)/\0<=v.2/\v.2<=(g.length:Int):=λv hv=>by rw[b5];show f9 v (a4 v hv)
   let O:∀{G},Ext [t] H2 G->SqL K G wb g:=λ{G}e=>(sm e).seq r5;z_go;show⟨2,rfl,?_⟩;show⟨ca,_,rfl,SqT.of k8,(λz=>absurd z.2 (show ¬(2:Nat)=3 by decide)),λq1 h6=>?_⟩;rw[show cutV [V.ref cl,.ref pr,.ref s4] Sb (Sa 2)=[.ref cl,.ref pr]from rfl];let x1:Ext [] Hc (upd Hc q1 (.tup [.ref cl,.ref pr])):=.laid h6;let g1:upd Hc q1 (.tup [.ref cl,.ref pr]) q1=Sa (.tup [.ref cl,.ref pr]):=zB;generalize upd Hc q1 (.tup [.ref cl,.ref pr])=I1 at x1 g1 ⊢;z_go;show⟨len2 (by change 1<=1000;decide),λq2 h7=>?_⟩;let x2:Ext [] I1 (upd I1 q2 (.tup [.ref lc])):=.laid h7;let g2:upd I1 q2 (.tup [.ref lc]) q2=Sa (.tup [.ref lc]):=zB;generalize upd I1 q2 (.tup [.ref lc])=I2 at x2 g2 ⊢
   show iK (x2.k g1) g2 ∅ (by change 2+1<=1000;decide) λq3 I3 l4 x3 g3=>?_;let X3:Ext [] Hc I3:=x1.trans (x2.trans x3);let E3:=Ec.trans X3.mo;z_go;show⟨wb,wl,q3,cl,pr,lc,J,g,us,ts,Wk w0,S,cs,nd,p0,p1,rfl,O E3,∎,SqL.of (X3.k l1),dU.overP (b7.trans X3.mo) a0,SqT.of g3,SqL.of (X3.k k9),∎,SqT.of (X3.k l0),s6,s7,s8,s9,SqL.of (X3.k Z),U.overP (b7.trans X3.mo) a0,SqL.of (X3.k a1),d5,b4,λrv I4 x4 h8=>?_⟩;let X4:=X3.trans x4;let E4:=Ec.trans X4.mo;z_go;show⟨rfl,?_⟩;z_go;show⟨wb,lc,J,g,ts,S,nd,rfl,O E4,∎,SqL.of (X4.k Z),U.overP (b7.trans X4.mo) a0,l3,SqL.of (X4.k a1),d5,b4,λfw I5 x5 d8=>?_⟩;let X5:=X4.trans x5
   let E5:=Ec.trans X5.mo;kl_no;let hI:∀{G},Ext [t] Hc G->FIn K G wa 0 lc ws w0 S:=λ{G}e=>⟨dW.mono (sm (Ec.trans e)),g0,d3,⟨ts,e _ _ (by simpa using d6) Z,U.overP (b7.trans e) a0⟩,a4,∎⟩;z_go;show qP5 (n:=0) (hI X5.mo) λtv I6 x6 c4=>?_;let X6:=X5.trans x6;let t9:=Ec.trans X6.mo;let u0:Tg w0=λt=>t = -1\/t=(g.length:Int):=by rw[b5];rfl
   rw[a7,<-u0]at d8;rw[b5]at h8;let c5:=qUd a2 g8 a4 h4;obtain⟨nn,l5,l6,a5⟩:∃nn:Bool,decide (rv=V.non)=nn/\decide ((fw:Int)>0)=nn/\(!decide (tv=V.non))=nn:=by
    by_cases hw:NoWay (nby (ties S)) (BusyP ws 0 w0 y) (Tg w0)
    .refine⟨Sd,?_,?_,?_⟩
     .rcases h8 with ⟨h,_⟩|⟨_,i,rfl⟩
      .exact absurd hw (c5.mp h)
      .rfl
     .rcases d8 with ⟨rfl,_⟩|⟨_,h⟩
      .rfl
      .exact absurd hw h.way
     .rcases c4 with ⟨rfl,_⟩|⟨_,_,_,_,_,_,_,h⟩
      .rfl
      .exact absurd hw h.ls.way
    .refine⟨Sc,?_,?_,?_⟩
     .rcases h8 with ⟨_,rfl⟩|⟨h,_⟩
      .rfl
      .exact absurd (c5.mpr hw) h
     .rcases d8 with ⟨_,h⟩|⟨h,_⟩
      .exact absurd h hw
      .exact decide_eq_true ∎
     .rcases c4 with ⟨_,h⟩|⟨_,_,_,_,rfl,_⟩
      .exact absurd h hw
      .rfl
   rw[l5];z_go;show jx ⟨_,rfl,?_⟩;rw[l6,decide_eq_true rfl];kt_k;show⟨rfl,?_⟩;show jx ⟨_,rfl,?_⟩;rw[a5,decide_eq_true rfl];kt_k;let a8:∀{ss row:List Int}{t':Int},RowX ws 0 w0 y S ss row t'->RowT S (λz=>z∈nd) g.length row:=λ{ss row t'}h=>by rw[a7,b5];show h.row a2 g8 a4
   let a9:∀{row:List Int},RowT S (λz=>z∈nd) g.length row->row.length<=6:=λ{row}h=>by
    let:=yf g.length h.nd h.rg;lia
   show⟨nn,rfl,?_⟩;show qSr (λI7 x7=>?_) λhB u1=>?_
   .let X7:=X6.trans x7;z_go;show qP5 (n:=0) (hI X7.mo) λu2 I8 x8 f3=>?_;let X8:=X7.trans x8;obtain⟨dt,l7,l8,f4,l9⟩:∃d,Den K I8 d u2/\Den K I8 d tv/\SeqAt.shaped d=Sc/\d.hasDict=Sd:=by
     rcases c4 with ⟨rfl,hw⟩|⟨ss,row,tt,l,rfl,_,hl,I⟩
     .rcases f3 with ⟨rfl,_⟩|⟨_,_,_,_,_,_,_,h⟩
      .exact⟨.none,by simp only[Den],by simp only[Den],rfl,rfl⟩
      .exact absurd hw h.ls.way
     .rcases f3 with ⟨rfl,hw⟩|⟨z6,w9,z7,W,rfl,_,c6,h9⟩
      .exact absurd hw I.ls.way
      .let e:=I.again h9;subst e;let c7:=a8 I;let⟨m0,z8,u3⟩:=qRx (ns:=row) (λz hz=>by let:=c7.rg z hz;lia) (by let:=a9 c7;lia);show⟨intsD row,(DenE.list c6 (DenEL.ofInts row)).den,(DenE.list ((x7.trans x8).k hl) (DenEL.ofInts row)).den,qLg m0 u3 ⟨_,rfl⟩,qLh m0⟩
    z_go;show⟨dt,dt,l7,l8,f4,f4,?_⟩;rw[Qa _ l9];kj_on;kt_k;let u4:=TG.ext (ts:=[]) X8 ∅;let u5:=TG.ext (ts:=[]) X5 ∅;let c8:nn=Sc->∃(l:Sf)(row:List Int),tv=.ref l/\l≠t/\row.length<=6/\∀G,Ext [t] I8 G->G l=Sa (.lst (row.map V.int)):=λz=>by
     rcases c4 with ⟨rfl,_⟩|⟨ss,row,tt,l,rfl,u6,hl,I⟩
     .rw [z]at a5;cases a5
     .let nl:=u5.ne u6;show⟨l,row,rfl,nl,a9 (a8 I),λG e=>e _ _ (by simpa using nl) ((x7.trans x8).k hl)⟩
    let i0:∀G,Ext [t] I8 G->G J=Sa (.lst (nd.map V.int)):=λG e=>e _ _ (by simpa using b6) (X8.k a1);let x0:=yf g.length d5 b4;let i1:∃(il:Sf)(ms:List Int),(if nn=Sc then tv else .ref J)=.ref il/\il≠t/\ms.length<=40/\∀G,Ext [t] I8 G->G il=Sa (.lst (ms.map V.int)):=by
     cases hn:nn with
     |true=>
      let⟨l,row,e,nl,hl,Z⟩:=c8 hn;show⟨l,row,e,nl,∎,Z⟩
     |false=>show⟨J,nd,rfl,b6,∎,i0⟩
    let⟨il,ms,u7,nil_,u8,m1⟩:=i1;show⟨t,_,rfl,u4,∎,λd v J1 m2 i2 hd hf=>?_⟩;let hd:=hd.mono jP;let Xj:Ext [t] Hc J1:=X8.mo.trans i2;z_go;show⟨wb,g,rfl,.inl (O (Ec.trans Xj)),?_⟩;z_go;show⟨_,rfl,λlr u9=>?_⟩;z_go;show⟨lr,g.length,rfl,zB,∎,λW c6=>?_⟩;let y1:Ext [] J1 (upd J1 lr (.rng 0 g.length)):=.laid u9;generalize upd J1 lr (.rng 0 g.length)=J2 at y1 c6 ⊢;let y2:Ext [] J2 (upd J2 W (.lst ((List.range g.length).map λ(i:Nat)=>V.int (i:Int)))):=.laid c6;let k2:upd J2 W (.lst ((List.range g.length).map λ(i:Nat)=>V.int (i:Int))) W=Sa (.lst (((List.range g.length).map λ(i:Nat)=>(i:Int)).map V.int)):=by rw[zB,dC];rfl
    generalize upd J2 W (.lst ((List.range g.length).map λ(i:Nat)=>V.int (i:Int)))=J3 at y2 k2 ⊢;let Y3:=y1.trans y2;let n2:=(m2.ext (ts:=[]) y1 ∅).ne c6;z_go;show⟨len2 (by change 3<=1000;decide),λpd v0=>?_⟩;let y4:Ext [] J3 (upd J3 pd (.lst [v,.ref W,.ref J])):=.laid v0;let k4:upd J3 pd (.lst [v,.ref W,.ref J]) pd=Sa (.lst [v,.ref W,.ref J]):=zB;generalize upd J3 pd (.lst [v,.ref W,.ref J])=J4 at y4 k4 ⊢;let Y4:=Y3.trans y4;z_go;show⟨wb,g,rfl,.inl (O (Ec.trans (Xj.trans Y4.mo))),?_⟩;show⟨_,rfl,∎,∎,λlq d9=>?_⟩;let i3:=m2.ext (ts:=[]) Y4 ∅;let z9:=i3.ne d9;show wO (lo:=0) (n:=(g.length:Int).toNat) (λj B G=>∃(o0:Option V)(ds:List PyData)(qs:List V),B=[o0]/\Ext [lq] J4 G/\G lq=Sa (.lst qs)/\qs.length=j/\DenXs K (wo [t,lq] G) ds qs/\∀d∈ds,FewD d) ?_ ?_ ?_
    .exact⟨Sb,[],[],rfl,.laid d9,zB,rfl,.nil,∅⟩
    .rintro j B G R hj ⟨o0,ds,qs,rfl,eG,Z,m3,hD,hF⟩ hR;let TG:=i3.ext (ts:=[]) (eG.drop d9) ∅;z_go;k_in;show⟨len2 (by change 1<=1000;decide),λpb e9=>?_⟩;let z1:Ext [] G (upd G pb (.lst [.int (0+(j:Int))])):=.laid e9;let g1:upd G pb (.lst [.int (0+(j:Int))]) pb=Sa (.lst (([0+(j:Int)]:List Int).map V.int)):=zB;let v1:=TG.ne e9;let m4:pb≠lq:=λz=>by rw[z,Z]at e9;cases e9
     generalize upd G pb (.lst [.int (0+(j:Int))])=G1 at z1 g1 ⊢;let zf:Ext [lq] G (upd G1 lq (.lst (qs++[.ref pb]))):=z1.mo.trans .pt;show⟨qs,z1.k Z,zU ∎,hR _ _ ⟨_,ds++[intsD [0+(j:Int)]],qs++[.ref pb],rfl,eG.trans zf,zB,by rw[aF,m3];rfl,?_,λd hd=>?_⟩⟩
     .refine (hD.mono (zf.mono ∅).same).app (.cons (DenX.list (SqL.of ?_) (DenXs.ints _)) .nil);rw[yC (by simp[v1,m4]),zC m4];show g1
     .rcases aN.mp hd with z|z
      .exact hF d z
      .rw [aH.mp z];show uc (by change 1<=100;decide)
    .rintro B J5 ⟨o0,dq,qs,rfl,v2,v3,m3,v4,v5⟩;let a3:=v2.drop d9;let k5:=a3.k k4;show⟨pd,lq,_,_,rfl,rfl,SqL.of k5,SqL.of v3,len2 (by change 3+qs.length<=1000;lia),λC X=>?_⟩;let y6:Ext [] J5 (upd J5 C (.lst ([v,.ref W,.ref J]++qs))):=.laid X;let k6:upd J5 C (.lst ([v,.ref W,.ref J]++qs)) C=Sa (.lst ([v,.ref W,.ref J]++qs)):=zB;let m5:=i3.ext (ts:=[]) a3 ∅;let c9:=m5.ne X;let m6:W≠C:=λz=>by rw[<-z,(y4.trans a3).k k2]at X;cases X
     let f5:J5 J=Sa (.lst (nd.map V.int)):=(Xj.trans (Y4.trans a3).mo) _ _ (by simpa using b6) a1;let m7:J≠C:=λz=>by rw[<-z,f5]at X;cases X
     let young:∀{d':PyData}{v':V}{G0:Hp},Ext [] G0 J5->DenX K (wo [t] G0) d' v'->DenX K (wo [t,C] (upd J5 C (.lst ([v,.ref W,.ref J]++qs)))) d' v':=λ{d' v' G0}e h=>h.mono λb o hb=>by
      let b0:b∉[t]:=λz=>by rw[vc z]at hb;cases hb
      rw[yC b0]at hb;let b8:b≠C:=λz=>by rw[z]at hb;rw[e.k hb]at X;cases X
      rw[yC (by simp at b0;simp[b0,b8])];show(e.trans y6).k hb
     let f0:DenXs K (wo [t,C] (upd J5 C (.lst ([v,.ref W,.ref J]++qs)))) ([d,intsD ((List.range g.length).map λ(i:Nat)=>(i:Int)),intsD nd]++dq) ([v,.ref W,.ref J]++qs):=by
      show(DenXs.cons (young (Y4.trans a3) hd) (.cons (DenX.list (SqL.of ?_) (DenXs.ints _)) (.cons (DenX.list (SqL.of ?_) (DenXs.ints _)) .nil))).app (v4.mono λb o hb=>?_)
      .rw [yC (by simp[n2,m6])];show((y4.trans a3).trans y6).k k2
      .rw [yC (by simp[b6,m7])];show y6.k f5
      .let b0:b∉[t,lq]:=λz=>by rw[vc z]at hb;cases hb
       rw[yC b0]at hb;let b8:b≠C:=λz=>by rw[z,X]at hb;cases hb
       simp only[aM,bA,or_false,not_or]at b0;rw[yC (by simp[b0.1,b8])];show y6.k hb
     let m8:∀x∈[d,intsD ((List.range g.length).map λ(i:Nat)=>(i:Int)),intsD nd]++dq,FewD x:=λx hx=>by
      rcases aN.mp hx with z|z
      .simp only[aM,bA,or_false]at z;rcases z with rfl|rfl|rfl
       .exact hf
       .exact uc (by rw[aA,cL];lia)
       .exact uc (by let:=yf g.length d5 b4;lia)
      .exact v5 x z
     let m9:=m5.ext (ts:=[]) y6 ∅;let d0:I8 C=Sb:=(i2.trans (Y4.trans a3).mo).none (by simpa using c9) X;let XI:Ext [t] I8 (upd J5 C (.lst ([v,.ref W,.ref J]++qs))):=i2.trans ((Y4.trans a3).trans y6).mo;let v6:Ext [t] Hc (upd J5 C (.lst ([v,.ref W,.ref J]++qs))):=Xj.trans ((Y4.trans a3).trans y6).mo;let n0:([v,V.ref W,.ref J]++qs).length<=9:=by change qs.length+3<=9;lia
     generalize upd J5 C (.lst ([v,.ref W,.ref J]++qs))=J6 at y6 k6 f0 m9 v6 XI ⊢;generalize [v,V.ref W,.ref J]++qs=v7 at k6 f0 n0 ⊢;generalize [d,intsD ((List.range g.length).map λ(i:Nat)=>(i:Int)),intsD nd]++dq=v8 at f0 m8;z_go;show⟨6,rfl,⋯,⋯,xh (lo:=0) (n:=(6:Int).toNat) (λj B G=>∃(p5 p6 p7:Option V)(ds:List PyData)(L:List V),B=[Sa (.ref a),Sa (.int i),Sa (.ref t),Sa (.ref wa),Sa (.ref wb),Sa (.ref lb),Sa (.int y),Sa (.ref wl),Sa (.ref ca),Sa (.ref J),Sa (.ref lc),Sa (.bl nn),Sa (.int fw),Sa tv,Sa (.ref C),p5,p6,p7]/\Ext [t,C] J6 G/\Tape G t (20300+40*j)/\G C=Sa (.lst L)/\L.length<=9+2*j/\DenXs K (wo [t,C] G) ds L/\∀d∈ds,FewD d) ?_ ?_ ?_⟩
     .exact⟨_,_,_,v8,v7,rfl,.refl _ _,m9.mono ∎,k6,∎,f0,m8⟩
     .rintro j B G hj ⟨p5,p6,p7,ds,L,rfl,eG,TG,Z,n1,hD,hF⟩ N2_ B2_ C2_ R2_ hN2_ hC2_ hR2_;let A0:j<6:=hj;rw[eQ];z_go;let XG:Ext [t] I8 G:=((XI.mono (us:=[C,t]) ∅).trans (eG.mono ∅)).drop d0;let f6:C∉[t]:=by simpa using c9
      show yD Z ?_;z_go;show zi TG ∎ ⋯ ⋯ λc G1 c0 c1 T1 e1 k1=>?_;let n3:G1 C=Sa (.lst L):=e1 _ _ f6 Z;z_go;show⟨_,rfl,∎,∎,λlp a6=>?_⟩;let d1:=T1.ne a6;let d2:lp≠C:=λz=>by rw[z,n3]at a6;cases a6
      show wO (lo:=0) (n:=(1+c).toNat) (λu B M=>∃(o0:Option V)(ns:List Int),B=[o0,Sa (.ref t),Sa (.ref wb)]/\Ext [t,lp] G1 M/\Tape M t (20300+40*j+1+u)/\M lp=Sa (.lst (ns.map V.int))/\ns.length=u) ?_ ?_ ?_
      .exact⟨Sb,[],rfl,.laid a6,T1.ext (ts:=[]) (.laid a6) ∅,zB,rfl⟩
      .rintro u B M R hu ⟨o0,ns,rfl,e2,T2,h2,n4⟩ hR;let i4:Ext [t] I8 M:=(((XG.trans e1).mono (us:=[lp,t]) ∅).trans (e2.mono ∅)).drop ((XG.trans e1).none (by simpa using d1) a6);z_go;k_in;show⟨wb,g,rfl,.inl (O (Ec.trans (X8.mo.trans i4))),?_⟩;z_go;show zi T2 ∎ ∎ ∎ λr G3 r0 r1 T3 e3 k3=>?_;let h3:G3 lp=Sa (.lst (ns.map V.int)):=e3 _ _ (by simpa using d1) h2;show⟨_,h3,zU (by rw[aA];lia),hR _ _ ⟨_,ns++[r],rfl,(e2.trans (e3.mono ∅)).trans (.put ∅),(T3.ext (ts:=[lp]) .pt (by simpa using d1.symm)).mono ∎,by rw[zB,aG];rfl,by rw[aF,n4];rfl⟩⟩
      .rintro B M ⟨o0,ns,rfl,e2,T2,h2,n4⟩;let d7:M C=Sa (.lst L):=e2 _ _ (by simp[c9,d2.symm]) n3;let i4:Ext [t] I8 M:=(((XG.trans e1).mono (us:=[lp,t]) ∅).trans (e2.mono ∅)).drop ((XG.trans e1).none (by simpa using d1) a6);let v9:Ext [t] G M:=e1.trans ((e2.mono (us:=[lp,t]) ∅).drop a6);z_go;show yd d7 (zU ∎) ?_;z_go;let w3:Ext [t,C] G (upd M C (.lst (L++[.ref lp]))):=(v9.mono ∅).trans (.put ∅);let g3:upd M C (.lst (L++[.ref lp])) C=Sa (.lst (L++[.ref lp])):=zB;let T3:=T2.ext (ts:=[C]) (show Ext [C] M (upd M C (.lst (L++[.ref lp])))from .pt) (by simpa using c9.symm);let D3:DenXs K (wo [t,C] (upd M C (.lst (L++[.ref lp])))) (ds++[intsD ns]) (L++[.ref lp]):=by
        show(hD.mono w3.same).app (.cons (DenX.list (SqL.of ?_) (DenXs.ints ns)) .nil);rw[yC (by simp[d1,d2]),zC d2];show h2
       let n5:Ext [t] I8 (upd M C (.lst (L++[.ref lp]))):=((i4.mono (us:=[C,t]) ∅).trans (.put ∅)).drop d0;generalize upd M C (.lst (L++[.ref lp]))=G3 at w3 g3 T3 D3 n5 ⊢;show yD g3 ?_;z_go;show⟨nn,rfl,?_⟩;show qXm u7 (by with_unfolding_all rfl) (by with_unfolding_all rfl) ?_;z_go;show⟨t,il,_,ms,rfl,T3,∎,nil_,m1 _ n5,u8,λd v G4 T4 e4 hd hf=>?_⟩;let g4:G4 C=Sa (.lst (L++[.ref lp])):=e4 _ _ f6 g3;z_go;show yd g4 (zU (by rw[aF,bF];lia)) ?_;z_go;let w4:Ext [t,C] G3 (upd G4 C (.lst (L++[.ref lp]++[v]))):=(e4.mono ∅).trans (.put ∅);show⟨_,_,_,ds++[intsD ns]++[d],L++[.ref lp]++[v],rfl,eG.trans (w3.trans w4),(T4.ext (ts:=[C]) (show Ext [C] G4 (upd G4 C (.lst (L++[.ref lp]++[v])))from .pt) (by simpa using c9.symm)).mono ∎,zB,by rw[aF,aF];change L.length+1+1<=_;lia,(D3.mono w4.same).app (.cons (hd.mono λb o hb=>?_) .nil),λx hx=>?_⟩
       .let⟨h1,h2,h3⟩:=xT hb;let b8:b≠C:=λz=>by rw[z,g3]at h1;cases h1
        simp only[aM,bA,or_false]at h2;rw[yC (by simp[h2,b8]),zC b8];show h3
       .rcases aN.mp hx with z|z
        .rcases aN.mp z with z|z
         .exact hF x z
         .rw [aH.mp z];show uc ∎
        .rw [aH.mp z];show hf
     .rintro B G ⟨p5,p6,p7,ds,L,rfl,eG,TG,Z,n1,hD,hF⟩;let XG:Ext [t] I8 G:=((XI.mono (us:=[C,t]) ∅).trans (eG.mono ∅)).drop d0;z_go;show⟨len2 (by change 1<=1000;decide),λq1 h6=>?_⟩;let z1:Ext [] G (upd G q1 (.lst [tv])):=.laid h6;let g1:upd G q1 (.lst [tv]) q1=Sa (.lst [tv]):=zB;generalize upd G q1 (.lst [tv])=G1 at z1 g1 ⊢;z_go;show .inr ⟨_,rfl,?_⟩;show⟨q1,_,_,rfl,rfl,g1,by split<;>decide,by split<;>decide,by rw[bV];split<;>simp,λq2 h7=>?_⟩;obtain⟨rp,dr,w1,x9,n6,n7⟩:∃(rp:List V)(dr:List PyData),(List.replicate (if nn=Sc then (1:Int)else 0).toNat [tv]).flatten=rp/\rp.length<=1/\(∀G,Ext [t] I8 G->DenXs K G dr rp)/\∀d∈dr,FewD d:=by
       cases hn:nn with
       |true=>
        let⟨l,row,e,nl,hl,Z⟩:=c8 hn;show⟨[tv],[intsD row],rfl,aI _,λG e'=>.cons (e▸DenX.list (SqL.of (Z G e')) (DenXs.ints row)) .nil,λd hd=>by rw[aH.mp hd];show uc ∎⟩
       |false=>show⟨[],[],rfl,∅,λ_ _=>.nil,∅⟩
      rw[w1];let z2:Ext [] G1 (upd G1 q2 (.lst rp)):=.laid h7;let g2:upd G1 q2 (.lst rp) q2=Sa (.lst rp):=zB;generalize upd G1 q2 (.lst rp)=M at z2 g2 ⊢;let Z2:=z1.trans z2;show⟨C,q2,_,_,rfl,rfl,SqL.of (Z2.k Z),SqL.of g2,len2 ∎,λq3 l4=>?_⟩;let z3:Ext [] M (upd M q3 (.lst (L++rp))):=.laid l4;let g3:upd M q3 (.lst (L++rp)) q3=Sa (.lst (L++rp)):=zB;generalize upd M q3 (.lst (L++rp))=G3 at z3 g3 ⊢;let Z3:=Z2.trans z3;let XZ:Ext [t] I8 G3:=XG.trans Z3.mo;let D3:DenXs K G3 (ds++dr) (L++rp):=(hD.mono λb o hb=>Z3.k (xw _ _ _ _ hb)).app (n6 G3 XZ);let F3:∀d∈ds++dr,FewD d:=λd hd=>(aN.mp hd).elim (hF d) (n7 d);show⟨q3,rfl,⟨_,SqL.of g3⟩,xU (xs:=L++rp) (λj B G4=>∃(p5 p6 p7:Option V),B=[Sa (.ref a),Sa (.int i),Sa (.ref t),Sa (.ref wa),Sa (.ref wb),Sa (.ref lb),Sa (.int y),Sa (.ref wl),Sa (.ref ca),Sa (.ref J),Sa (.ref lc),Sa (.bl nn),Sa (.int fw),Sa tv,Sa (.ref C),p5,p6,p7]/\Ext [] G3 G4) ?_ ?_ ?_ ?_⟩
      .exact⟨_,_,_,rfl,.refl _ _⟩
      .rintro j B G4 hj ⟨p5,p6,p7,rfl,e4⟩;show SqL.of (e4.k g3)
      .rintro j v B G4 hv ⟨p5,p6,p7,rfl,e4⟩ N3_ B3_ C3_ R3_ hN3_ hC3_ hR3_;let⟨d,w2,n8⟩:=D3.get hv;let n9:=F3 d (aK w2);let X4:Ext [t] I8 G4:=XZ.trans e4.mo;let p2:=X8.mo.trans X4;z_go;show⟨wa,lc,0,y,ws,w0,S,v,d,rfl,hI p2,n8.mono e4.toSame,n9,λb1 G5 e5 w5=>?_⟩;let f1:Ext [t] Hc G5:=p2.trans e5.mo;z_go;show⟨_,.bool b1,_,rfl,DenX.bool,⋯,?_⟩;show⟨Sc,rfl,iteF ?_⟩;z_go;show⟨wb,lc,J,v,g,ts,S,nd,d,rfl,O (Ec.trans f1),∎,SqL.of (f1 _ _ (by simpa using d6) t8),U.overP (b7.trans f1) a0,SqL.of (f1 _ _ (by simpa using b6) a1),n8.mono (e4.trans e5).toSame,n9,λb2 G6 e6 p3=>?_⟩;let w6:b1=b2:=by
        rw[a7,b5]at p3;rw[cP,w5,p3]
       show jx ⟨_,rfl,?_⟩;rw[decide_eq_true w6];kt_k;show⟨_,_,_,rfl,e4.trans (e5.trans e6)⟩
      .rintro B G4 ⟨p5,p6,p7,rfl,e4⟩;z_go;show⟨_,_,_,_,_,_,_,_,_,_,_,_,_,_,_,_,_,rfl,r4 G4 ((Ec.trans X8.mo).trans (XZ.trans e4.mo))⟩
   .rcases c4 with ⟨rfl,_⟩|⟨ss,row,tt,l,rfl,A1,g5,I⟩
    .rw [u1]at a5;cases a5
    .let c7:=a8 I;let n1:=a9 c7;let w7:(row.length:Int)=fw:=by
      rcases d8 with ⟨_,h⟩|⟨_,h⟩
      .exact absurd h I.ls.way
      .rw [I.ls.one h]
     z_go;show⟨l,_,rfl,.inl (SqL.of g5),?_⟩;rw[aA];z_go;show jQ ⟨_,rfl,?_⟩;rw[decide_eq_true w7];kt_k;show⟨wb,lc,J,.ref l,g,ts,S,nd,intsD row,rfl,O t9,∎,SqL.of (X6.k Z),U.overP (b7.trans X6.mo) a0,SqL.of (X6.k a1),DenX.list (SqL.of g5) (DenXs.ints row),(λds z=>by cases z;rw[aA];lia),λb I7 x7 hb=>?_⟩;rw[hb.mpr ⟨row,rfl,c7⟩];show⟨Sc,rfl,?_⟩;show iteF (hB I7 x7)
 .rintro B G ⟨o1,o2,o3,o4,o5,o6,o7,o8,o9,oa,ob,oc,od,oe,og,oh,oi,rfl,e0⟩;z_go;show q G
theorem qZl{K:SJ}{st:Sr}{k:Nat}{g:Array (Option Se)}{kV doc i b ct:Se}(X:K.In h)(G:h.Ns Sq mg)(a:SK K Sq x=Sa (Sa (.ref f)))(l:K.lookup f=Sa ⟨n,o,.func (PySem.W.fnOf x x (xS st) (xB st) (za st) .none kV doc i e b ct),g⟩)(c:PySem.W.codeIn K b x=Sc)(j:PySem.W.keepIn K (.ref f)=Sc)(p:∀(kV doc i:Se)(e:Option Sf)(b ct:Se)(us:List Se),us.length=d.length->bindArgs (PySem.W.fnOf x x (xS st) (xB st) (za st) .none kV doc i e b ct) ⟨us,[]⟩=pure (d.zip us))(ok:∀m,Fun K x x st f m->FnOk P w K mg base CX0 k f m d sp):Has P w K mg base x k d sp:=by
 let F:=QF (st:=st) l c j;show⟨f,_,ok _ F,PySem.W.mg_of X G a,j,F.binds p⟩
theorem bA1{P:List Se->Prop}(h:∀a,P [a])(us:List Se)(l:us.length=1):P us:=by
 obtain _|⟨b,us⟩:=us
 .cases l
 obtain _|⟨y,us⟩:=us
 .exact h _
 .simp at l
theorem bA2{P:List Se->Prop}(h:∀a b,P [a,b])(us:List Se)(l:us.length=2):P us:=by
 obtain _|⟨c,us⟩:=us
 .cases l
 obtain _|⟨d,us⟩:=us
 .cases l
 obtain _|⟨y,us⟩:=us
 .exact h _ _
 .simp at l
theorem bA3{P:List Se->Prop}(h:∀a b c,P [a,b,c])(us:List Se)(l:us.length=3):P us:=by
 obtain _|⟨d,us⟩:=us
 .cases l
 obtain _|⟨e,us⟩:=us
 .cases l
 obtain _|⟨f,us⟩:=us
 .cases l
 obtain _|⟨y,us⟩:=us
 .exact h _ _ _
 .simp at l
theorem bA4{P:List Se->Prop}(h:∀a b c d,P [a,b,c,d])(us:List Se)(l:us.length=4):P us:=by
 obtain _|⟨e,us⟩:=us
 .cases l
 obtain _|⟨f,us⟩:=us
 .cases l
 obtain _|⟨g,us⟩:=us
 .cases l
 obtain _|⟨i,us⟩:=us
 .cases l
 obtain _|⟨y,us⟩:=us
 .exact h _ _ _ _
 .simp at l
theorem bA5{P:List Se->Prop}(h:∀a b c d e,P [a,b,c,d,e])(us:List Se)(l:us.length=5):P us:=by
 obtain _|⟨f,us⟩:=us
 .cases l
 obtain _|⟨g,us⟩:=us
 .cases l
 obtain _|⟨i,us⟩:=us
 .cases l
 obtain _|⟨j,us⟩:=us
 .cases l
 obtain _|⟨k,us⟩:=us
 .cases l
 obtain _|⟨y,us⟩:=us
 .exact h _ _ _ _ _
 .simp at l
def HasF(K:SJ)(x:Str)(st:Sr):Prop:=∃(f:Sf)(oc:Se)(od an:Option Sf)(osl:Array (Option Se))(kV doc pm cdv ct:Se),SK K Sq x=Sa (Sa (.ref f))/\K.lookup f=Sa ⟨oc,od,.func (PySem.W.fnOf x x (xS st) (xB st) (za st) .none kV doc pm an cdv ct),osl⟩/\PySem.W.codeIn K cdv x=Sc/\PySem.W.keepIn K (.ref f)=Sc
theorem hasF{K:SJ}{st:Sr}{g h:Option Sf}{kV doc i b ct:Se}(a:SK K Sq x=Sa (Sa (.ref f)))(l:K.lookup f=Sa ⟨e,g,.func (PySem.W.fnOf x x (xS st) (xB st) (za st) .none kV doc i h b ct),d⟩)(c:PySem.W.codeIn K b x=Sc)(k:PySem.W.keepIn K (.ref f)=Sc):HasF K x st:=⟨_,_,_,_,_,_,_,_,_,_,a,l,c,k⟩
theorem qZk{P:Sh}{w:Si}{K:SJ}{mg:Str->Option Se}{base h:Sk}{x:Str}{st:Sr}{k:Nat}{d:List Str}{sp:Sp}(X:K.In h)(G:h.Ns Sq mg)(z:HasF K x st)(ok:∀f e,Fun K x x st f e->FnOk P w K mg base CX0 k f e d sp)(j:∀(kV doc g:Se)(i:Option Sf)(b ct:Se)(us:List Se),us.length=d.length->bindArgs (PySem.W.fnOf x x (xS st) (xB st) (za st) .none kV doc g i b ct) ⟨us,[]⟩=pure (d.zip us)):Has P w K mg base x k d sp:=by
 let⟨f,o,p,i,m,kV,doc,g,b,ct,a,l,c,n⟩:=z;show qZl X G a l c n j λe=>ok f e
theorem qZu{l:PySem.W.OpenLaw}{w:Si}{K:SJ}{h:Sk}{mg:Str->Option Se}{fa b7 b8:Sf}(X:K.In h)(G:h.Ns Sq mg)(c0:mg "law" = Sa (.ref fa))
    (x1:HasF K "nexts_by" qMw) (x2:HasF K "turned" qQ3) (x3:HasF K "led_to" sLed) (x4:HasF K "shortest" iP) (x5:HasF K "is_number" iN) (x6:HasF K "is_number_from" iO) (x7:HasF K "nexts_of" sNx) (x8:HasF K "writes_box" qQ2) (x9:HasF K "reads_box" qV4) (x10:HasF K "till_write" sTill) (x11:HasF K "writers" qMt) (x12:HasF K "begins_met" qQb) (x13:HasF K "awaiting" qV6) (x14:HasF K "reached" iM) (x15:HasF K "awaited" qMx) (x16:HasF K "busy" sBusy) (x17:HasF K "outside" qMv) (x18:HasF K "why_none" qMu) (x19:HasF K "shows_none" iQ) (x20:HasF K "_law_begun" qV5) (x21:HasF K "_law_draw" sDraw) (x22:HasF K "_law_ends" ii) (x23:HasF K "_law_deed" iY) (x24:HasF K "_law_written" iS) (x25:HasF K "_law_works" ij) (x26:HasF K "_law_ways" iT) (x27:HasF K "_law_first" iU) (x28:HasF K "_law_awaits" iV) (x29:HasF K "_law_asking" iW) (x30:HasF K "_law_busy" iX) (x31:HasF K "_law_setting" ic) (x32:HasF K "_law_price" iZ) (x33:HasF K "_law_least" ia) (x34:HasF K "_law_is_whole" iR) (x35:HasF K "_law_odd" sLOdd) (x36:HasF K "_law_bent" ie) (x37:HasF K "_law_ties" ig) (x38:HasF K "_law_fewest" ib) (x39:HasF K "law" sLaw)
  (u0:SK K Sq "WRITING"=Sa (Sa (.ref b7))) (v0:qSs K b7)
  (u1:SK K Sq "READING"=Sa (Sa (.ref b8))) (v1:qSt K b8)
  (z1:SK K Sq "range"=Sa Sb) (z2:SK K Sq "len"=Sa Sb) (z3:SK K Sq "abs"=Sa Sb) (z4:SK K Sq "int"=Sa Sb) (z5:SK K Sq "min"=Sa Sb) (z6:SK K Sq "list"=Sa Sb) (z7:SK K Sq "enumerate"=Sa Sb) (z8:SK K Sq "any"=Sa Sb) (z9:SK K Sq "all"=Sa Sb) (z10:SK K Sq "sorted"=Sa Sb) (z11:SK K Sq "set"=Sa Sb) (z12:SK K Sq "zip"=Sa Sb) (z13:SK K Sq "dict"=Sa Sb) (z14:SK K Sq "isinstance"=Sa Sb) (z15:SK K Sq "bool"=Sa Sb) (z16:SK K Sq "tuple"=Sa Sb) :
  ∃fd:FuncData,(∀(s:Sg)(v:Se),BindsTo s fd ⟨[v],[]⟩ [("_law_script",v)])/\∀base:Sk,K.In base->base.Ns Sq mg->FnOk l.prog w K mg base CX0 8 fa fd ["_law_script"] (ko K):=by
 let⟨f,oc,od,an,c4,kV,doc,pm,c1,ct,a,lk,c,kk⟩:=x39;let e:=c0.symm.trans (PySem.W.mg_of X G a);cases e;let i:=bW X G z1;let g:=bW X G z2;let b9:=bW X G z3;let r:=bW X G z4;let a9:=bW X G z5;let m:=bW X G z6;let b:=bW X G z7;let z:=bW X G z8;let b0:=bW X G z9;let o:=bW X G z10;let Y:=bW X G z11;let Z:=bW X G z12;let b2:=bW X G z13;let d:=bW X G z14;let H:=bW X G z15;let R:=bW X G z16
 let c2:=PySem.W.mg_of X G u0;let c3:=PySem.W.mg_of X G u1;let FL:=QF (st:=sLaw) lk c kk;show⟨PySem.W.fnOf "law" "law" (xS sLaw) (xB sLaw) (za sLaw) .none kV doc pm an c1 ct,λs v=>.of_eq rfl,λbase _ _=>?_⟩;let M {x:Str} {st:Sr} {k:Nat} {ps:List Str} {sp:Sp}:=@qZk l.prog w K mg base h x st k ps sp X G;let I:=M x1 (λ_ _ F=>qOh F) λ_ _ _ _ _ _=>bA1 λ_=>rfl;let A:=M x2 (λ_ _ F=>qR4 F) λ_ _ _ _ _ _=>bA1 λ_=>rfl;let B:=M x3 (λ_ _ F=>qXd F m) λ_ _ _ _ _ _=>bA2 λ_ _=>rfl;let J:=M x4 (λ_ _ F=>qLz F g) λ_ _ _ _ _ _=>bA3 λ_ _ _=>rfl;let C:=M x5 (λ_ _ F=>qTx F d r H) λ_ _ _ _ _ _=>bA1 λ_=>rfl;let q:=M x6 (λ_ _ F=>qRa F C) λ_ _ _ _ _ _=>bA3 λ_ _ _=>rfl
 let L:=M x7 (λ_ _ F=>wA5 F m b) λ_ _ _ _ _ _=>bA1 λ_=>rfl;let j:=M x8 (λ_ _ F=>qR3 F c2 v0) λ_ _ _ _ _ _=>bA2 λ_ _=>rfl;let D:=M x9 (λ_ _ F=>qTs F c3 v1) λ_ _ _ _ _ _=>bA2 λ_ _=>rfl;let p:=M x10 (λ_ _ F=>qXb F b m j) λ_ _ _ _ _ _=>bA2 λ_ _=>rfl;let t:=M x11 (λ_ _ F=>qOc F b z j) λ_ _ _ _ _ _=>bA2 λ_ _=>rfl;let y:=M x12 (λ_ _ F=>qRc F z p j) λ_ _ _ _ _ _=>bA4 λ_ _ _ _=>rfl;let N:=M x13 (λ_ _ F=>qU0 F b z p D y B) λ_ _ _ _ _ _=>bA2 λ_ _=>rfl;let S:=M x14 (λ_ _ F=>qOf F o L t B) λ_ _ _ _ _ _=>bA3 λ_ _ _=>rfl
 let T:=M x15 (λ_ _ F=>qOl F i g N) λ_ _ _ _ _ _=>bA3 λ_ _ _=>rfl;let a0:=M x16 (λ_ _ F=>qXf F o Y T S t) λ_ _ _ _ _ _=>bA3 λ_ _ _=>rfl;let U:=M x17 (λ_ _ F=>qOg F g) λ_ _ _ _ _ _=>bA1 λ_=>rfl;let O:=M x18 (λ_ _ F=>qOd F a0 J I U A) λ_ _ _ _ _ _=>bA4 λ_ _ _ _=>rfl;let hshows_none:=M x19 (λ_ _ F=>qTr F b0 g Y Z m d q a0 A) λ_ _ _ _ _ _=>bA5 λ_ _ _ _ _=>rfl;let a3:=M x20 (λ_ _ F=>qTz F g b9 r) λ_ _ _ _ _ _=>bA2 λ_ _=>rfl;let n:=M x21 (λ_ _ F=>qXe F) λ_ _ _ _ _ _=>bA2 λ_ _=>rfl;let b3:=M x22 (λ_ _ F=>qTv F i g R n) λ_ _ _ _ _ _=>bA2 λ_ _=>rfl
 let b4:=M x23 (λ_ _ F=>qR8 F n) λ_ _ _ _ _ _=>bA3 λ_ _ _=>rfl;let u:=M x24 (λ_ _ F=>qOb F o Y) λ_ _ _ _ _ _=>bA1 λ_=>rfl;let a4:=M x25 (λ_ _ F=>qOi F i r n b3 b4 u) λ_ _ _ _ _ _=>bA2 λ_ _=>rfl;let P:=M x26 (λ_ _ F=>qTt F b g o) λ_ _ _ _ _ _=>bA1 λ_=>rfl;let a5:=M x27 (λ_ _ F=>qTy F) λ_ _ _ _ _ _=>bA3 λ_ _ _=>rfl;let E:=M x28 (λ_ _ F=>qRd F g a5 P) λ_ _ _ _ _ _=>bA3 λ_ _ _=>rfl;let a1:=M x29 (λ_ _ F=>qRe F i b E) λ_ _ _ _ _ _=>bA1 λ_=>rfl;let a6:=M x30 (λ_ _ F=>qR9 F i b g z a1 E P) λ_ _ _ _ _ _=>bA3 λ_ _ _=>rfl;let V:=M x31 (λ_ _ F=>qOe F r n) λ_ _ _ _ _ _=>bA2 λ_ _=>rfl
 let a7:=M x32 (λ_ _ F=>qR5 F Z r) λ_ _ _ _ _ _=>bA3 λ_ _ _=>rfl;let a8:=M x33 (λ_ _ F=>qOj F i g m a9 a7) λ_ _ _ _ _ _=>bA4 λ_ _ _ _=>rfl;let Q:=M x34 (λ_ _ F=>qOk F d r H) λ_ _ _ _ _ _=>bA1 λ_=>rfl;let b1:=M x35 (λ_ _ F=>qXc F g n) λ_ _ _ _ _ _=>bA1 λ_=>rfl;let b5:=M x36 (λ_ _ F=>qTw F g R n b1) λ_ _ _ _ _ _=>bA2 λ_ _=>rfl;let b6:=M x37 (λ_ _ F=>qTu F m b0 g b2 Z d Q) λ_ _ _ _ _ _=>bA4 λ_ _ _ _=>rfl;let a2:=M x38 (λ_ _ F=>qRb F i g m z) λ_ _ _ _ _ _=>bA3 λ_ _ _=>rfl;show qZa FL i g a9 r m H d a3 a4 u P V a6 a8 a2 O b6 hshows_none b1 b5 n
theorem walk{l:PySem.W.OpenLaw}{q:Sh}{b:List Str}{j:(Str->Option Se)->Sk->Prop}{e:Si->Sk->Prop}{d:DefRec}{K:Params->SJ}(m:l.most=Sa 63)(c:d.params.defaults = [])(o:∀(w:Si) (h:Sk),e w h->(K w.params).In h)(F:∀(w:Si) (mg:Str->Option Se) (g:Sf) (h:Sk),(K w.params).In h->h.Ns Sq mg->mg d.name=Sa (.ref g) ->
   ∃i:FuncData,(∀(s:Sg)(u:Se),BindsTo s i ⟨[u],[]⟩ [("_law_script",u)])/\∀base:Sk,(K w.params).In base->base.Ns Sq mg->FnOk l.prog w (K w.params) mg base CX0 8 g i ["_law_script"] (ko (K w.params))) :
  PySem.W.WalkO q b j e l.row.toRowW d [] (λf vs=>PySem.call f vs):=
 L2.qWe (n:=63) (k:=8) (x:="_law_script") (CX:=λ_=>CX0) (sp:=λw=>ko (K w.params)) m ⋯ c ⟨rfl,⋯,⋯,rfl⟩ o F (λ_ _ a p r _ t=>⟨a,p,rfl,t,r,λ_=>rfl⟩) λ_ _ _ _ _ z=>z
end Fs
end
open PySem PySem.W PyProof.Rows
namespace PySem.W.Fast
def tw18323407420068094367:=0
def tw5698983381342826470:=0
def tw4601628258044430515:=0
def tw794382193182539525:=0
def tw15595555159473415605:=0
def tw5006155108312298603:=0
def tw6363073091189707379:=0
def tw15227845627216613539:=0
def tw8353144290093909545:=0
def tw11765249111972685034:=0
def tw11246228681942102733:=0
def tw14767713283470877246:=0
def tw896277885183849354:=0
def tw13831581343352482769:=0
def tw5734831057536221465:=0
def tw10453337392323062008:=0
def tw4599287770977890000:=0
def tw437252031184035875:=0
def tw6744811346865807799:=0
def tw4947074207964313313:=0
def tw2794609036097098390:=0
def tw5116124286607802501:=0
def tw14666987011771931584:=0
def tw1754214684636575712:=0
def tw3174623501978213594:=0
def tw16326284768763537036:=0
def tw16467903069261830445:=0
def tw12986761000447184716:=0
def tw6920080641062267693:=0
def tw3628815857639334103:=0
def tw5054510487320530237:=0
def tw3385766598515224659:=0
def tw3888792789514781472:=0
def tw6591105297974953909:=0
def tw7617226303536634345:=0
def tw5536310066722990024:=0
def tw3926091261152502695:=0
def tw18316203305768578529:=0
def tw4125585518635261703:=0
def tw16448564030008548629:=0
def tw9514184512427783341:=0
def tw14093330219144494756:=0
def tw10823475112290698030:=0
def tw13367179923704344638:=0
def tw8402626998473659824:=0
def tw17298035778993696545:=0
def tw18329997999377125207:=0
def tw15609891919821616998:=0
def tw12158932783446889832:=0
def tw13257098681657782973:=0
def tw14814163152008301314:=0
def tw7481011636575868936:=0
def tw2373843223842534401:=0
def tw2886239366957109679:=0
def tw3803742698313334604:=0
def tw3171836434356294789:=0
def tw13224416928987453935:=0
def tw5950561320793589273:=0
def tw12044810999342404419:=0
def tw16635877216786003125:=0
def tw8260530293634320791:=0
def tw13103666278759053479:=0
def tw1884749726983332738:=0
def tw8669772573572988592:=0
def tw1504966024046242773:=0
def tw695780174164351484:=0
def tw5346376799030993685:=0
def tw18717686843852399:=0
def tw6248672918905817838:=0
def tw8504957640014856567:=0
def tw3272919517708992652:=0
def tw11916212747745466461:=0
def tw1970346877242727876:=0
def tw5936424997131579742:=0
def tw4409369499279995367:=0
def tw13094196487932681250:=0
def tw6598904572566994185:=0
def tw14228313845607034520:=0
def tw12266214780774232489:=0
def tw10490958373882522137:=0
def tw99384039698327677:=0
def tw11134027718106486742:=0
def tw8921366928887174713:=0
def tw17576120748405712071:=0
def tw14612587150335053058:=0
def tw16034048944224365302:=0
def tw8894309146414225027:=0
def tw10176963795584713862:=0
def tw12170675035039045512:=0
def tw6129144905974841956:=0
def tw3947909334532781465:=0
def tw9127985194413974071:=0
def tw6437698925848557962:=0
def tw9755749566022019148:=0
def tw15074022463378146415:=0
def tw14313750866264865263:=0
def tw13338664128815744783:=0
def tw3768177586721676241:=0
def tw14700646909967855803:=0
def tw17125306942670827165:=0
def tw14020938060780665078:=0
def tw5530999184152663946:=0
def tw2998810093027142088:=0
def tw16637789428615846556:=0
def tw14452308598186194911:=0
def tw2509023855564032228:=0
def tw1039159473449964496:=0
def tw4110417712977863011:=0
def tw11396135965040943491:=0
def tw15882323790381549068:=0
def tw10464953787985381742:=0
def tw3680800046447701298:=0
def tw17166773446447532690:=0
def tw8664719047875103309:=0
def tw18124789378418795256:=0
def tw733000946545879588:=0
def tw3954422679298163206:=0
def tw6142991014205691668:=0
def tw2223972185819979485:=0
def tw12403853034290707023:=0
def tw8663069126325279853:=0
def tw16404443297311796304:=0
def tw3611917736965261039:=0
def tw10238872542787783670:=0
def tw18097798959814427966:=0
def tw12657702006786474346:=0
def tw14376969515434769914:=0
def tw10311142323563628792:=0
def tw11292790451797462880:=0
def tw1416439519591711803:=0
def tw17284611020842019236:=0
def tw9130117410133745506:=0
def tw15723350857837280580:=0
def tw14447878315032382435:=0
def tw16651528936619405981:=0
def tw15945084078362312242:=0
def tw4491651873085101966:=0
def tw568199307622349153:=0
def tw1471243276916601992:=0
def tw8872017247445301331:=0
def tw11539081098188705746:=0
def tw15500594069158382104:=0
def tw9052716037062386286:=0
def tw784225709639972009:=0
def tw15483804051039910697:=0
def tw9442609323162113769:=0
def tw15634766954019201466:=0
def tw4222952179049634962:=0
def tw2991624666811246704:=0
def tw17282332984030484028:=0
def tw14864491819659704378:=0
def tw5446951325240616351:=0
def tw2312695204793894188:=0
def tw13620201878342491482:=0
def tw4080713853450362173:=0
def tw3180875811363532615:=0
def tw3312382437854778345:=0
def tw4542421406022248650:=0
def tw14784669252541666069:=0
def tw7169514980476007115:=0
def tw2474486787645820012:=0
def tw14680970487289849000:=0
def tw1558363358945491434:=0
def tw17544265050319521590:=0
def tw11547154842292651529:=0
def tw7176929381096949074:=0
def tw14389196210028137792:=0
def tw2814884870530467689:=0
def tw15908126745042719860:=0
def tw11122145946897798589:=0
def tw16392572927128904665:=0
def tw13550393171531677926:=0
def tw2194685412054412952:=0
def tw17882638313207673593:=0
def tw12424707023895348006:=0
def tw7012888919162560369:=0
def tw15960925490078771199:=0
def tw8481471719202274212:=0
def tw10146659424849536323:=0
def tw6716482127588837257:=0
def tw2812784517621192035:=0
def tw17294959215626978643:=0
def tw3704565402001956061:=0
def tw16924343436689599964:=0
def tw10781042472337007564:=0
def tw11630443458060019237:=0
def tw5550944009113173755:=0
def tw10871107156650150356:=0
def tw11076869458264016263:=0
def tw13245196742301720017:=0
def tw8620364709305235034:=0
def tw13652523199366522916:=0
def tw5856511225190184582:=0
def tw9953614956991254310:=0
def tw11632505161390133442:=0
def tw2185747027626970865:=0
def tw14595340538881665038:=0
def tw3009367199323439930:=0
def tw15298035714165668063:=0
def tw13817134776410690176:=0
def tw6888104779585547639:=0
def tw9307927547303030018:=0
def tw1418434547567068551:=0
def tw621679365030212132:=0
def tw317664968648396110:=0
def tw15071992576954579878:=0
def tw5587439357532286927:=0
def tw5024164673813894994:=0
def tw4188346045919492096:=0
def tw10107974311832446906:=0
end PySem.W.Fast
set_option maxRecDepth 100000 in
set_option maxHeartbeats 0 in
theorem PySem.Challenge.cw_fewsaves_k46_rows_that_show_none_holds : PySem.Challenge.rw_fewsaves_k46_rows_that_show_none.Holds := by
 w_on;o_law;k_head;(case hw=>w_witness2)
 k_fill
 refine Fs.walk (l:=PySem.Challenge.rw_fewsaves_k46_rows_that_show_none) rfl rfl (λw h Y=>PySem.W.kIn_of Y) ?F
 case F =>
  intro w mg fa h KX G hmg
  refine' Fs.qZu KX G hmg ?x1 ?x2 ?x3 ?x4 ?x5 ?x6 ?x7 ?x8 ?x9 ?x10 ?x11 ?x12 ?x13 ?x14 ?x15 ?x16 ?x17 ?x18 ?x19 ?x20 ?x21 ?x22 ?x23 ?x24 ?x25 ?x26 ?x27 ?x28 ?x29 ?x30 ?x31 ?x32 ?x33 ?x34 ?x35 ?x36 ?x37 ?x38 ?x39 ?u0 ?v0 ?u1 ?v1 ?z1 ?z2 ?z3 ?z4 ?z5 ?z6 ?z7 ?z8 ?z9 ?z10 ?z11 ?z12 ?z13 ?z14 ?z15 ?z16
  all_goals try (refine' Fs.hasF ?a ?l ?c ?k;(case a=>k_is);(case l=>k_is);(case c=>k_is);(case k=>k_is))
  (case u0=>k_is)
  (case v0=>exact⟨_,_,_,by k_is,rfl,rfl,by decide,.cons ⟨_,rfl⟩ (.cons ⟨_,rfl⟩ .nil)⟩)
  (case u1=>k_is)
  (case v1=>exact⟨_,_,_,by k_is,rfl,rfl,by decide,.cons ⟨_,rfl⟩ (.cons ⟨_,rfl⟩ .nil)⟩)
  all_goals k_is
