import PyProof.Rows.All
import Wide.All
import OpenK.AllK
import Wide.FinOn
import Lean
import PyProof.EqAt
import PyProof.EqKinds
import PyProof.TupleCall
import PySem.Challenge.RW_fewsaves_k42_what_the_cheapest_costs
import PyProof.CollectWalk
import PyProof.DictItems
import KE.KItemsList
import PyProof.ZipIter
import PyProof.Rows.ZipGen
import KE.KDictOf
import PyProof.FactsAll.zip_1
import PyProof.TupleOfSeq
import KE.KDictLaws
import PyProof.Rows.MinMaxN
import PyProof.StrCalls2
import PyProof.StrBlockH
import PyProof.CallStr
import PyProof.FitsReplace
import PyProof.StrWalks
import KE.KIntText
import KE.KTabLook
import KE.KUnpackStar
import PyProof.WalksMore
import PyProof.FactsAll.subtypes_4
import PyProof.SetRoads
import PyProof.TupleIter
import PyProof.P3In
set_option Elab.async false
set_option linter.all false
set_option maxRecDepth 100000
set_option compiler.extract_closed false
set_option genInjectivity false
set_option genSizeOfSpec false
section
local macro_rules|`(tactic|let $c:letConfig $d:letDecl)=>`(tactic|have $c:letConfig $d:letDecl)
local macro_rules|`(tactic|let ⟨$p,*⟩:=$v)=>do let q<-p.getElems.mapM fun x=>if x.raw.isIdent then `(Lean.Parser.Tactic.rcasesPatLo|$(⟨x.raw⟩):ident) else `(Lean.Parser.Tactic.rcasesPatLo|_);`(tactic|obtain ⟨$q,*⟩:=$v)
local macro_rules|`(∎)=>`(by lia)
local macro_rules|`(∅)=>`(by simp)
local macro_rules|`(⋯)=>`(by decide)
local macro_rules|`(tactic|z_go)=>`(tactic|walk_at "rd")
local macro_rules|`(tactic|k_go)=>`(tactic|walk_at "re")
local macro_rules|`(tactic|kd_p)=>`(tactic|walk_at "rf")
local macro_rules|`(tactic|k_ne)=>`(tactic|walk_at "rg")
local macro_rules|`(tactic|fin2)=>`(tactic|walk_at "rx")
local macro_rules|`(tactic|w_up)=>`(tactic|walk_at "ry")
local macro_rules|`(tactic|show $t)=>`(tactic|refine $t)
theorem eX1{A}{P:A→Prop}{G:Prop}(h:∃a,P a)(k:∀a,P a→G):G:=let⟨a,y⟩:=h;k a y
theorem eX2{A B}{P:A→B→Prop}{G:Prop}(h:∃a b,P a b)(k:∀a b,P a b→G):G:=let⟨a,b,y⟩:=h;k a b y
theorem eX3{A B C}{P:A→B→C→Prop}{G:Prop}(h:∃a b c,P a b c)(k:∀a b c,P a b c→G):G:=let⟨a,b,c,y⟩:=h;k a b c y
theorem eX4{A B C D}{P:A→B→C→D→Prop}{G:Prop}(h:∃a b c d,P a b c d)(k:∀a b c d,P a b c d→G):G:=let⟨a,b,c,d,y⟩:=h;k a b c d y
theorem eX5{A B C D E}{P:A→B→C→D→E→Prop}{G:Prop}(h:∃a b c d e,P a b c d e)(k:∀a b c d e,P a b c d e→G):G:=let⟨a,b,c,d,e,y⟩:=h;k a b c d e y
theorem eX6{A B C D E F}{P:A→B→C→D→E→F→Prop}{G:Prop}(h:∃a b c d e f,P a b c d e f)(k:∀a b c d e f,P a b c d e f→G):G:=let⟨a,b,c,d,e,f,y⟩:=h;k a b c d e f y
theorem eX7{A B C D E F I}{P:A→B→C→D→E→F→I→Prop}{G:Prop}(h:∃a b c d e f g,P a b c d e f g)(k:∀a b c d e f g,P a b c d e f g→G):G:=let⟨a,b,c,d,e,f,g,y⟩:=h;k a b c d e f g y
theorem eX8{A B C D E F I J}{P:A→B→C→D→E→F→I→J→Prop}{G:Prop}(h:∃a b c d e f g h,P a b c d e f g h)(k:∀a b c d e f g h,P a b c d e f g h→G):G:=let⟨a,b,c,d,e,f,g,h,y⟩:=h;k a b c d e f g h y
theorem eA2{A B G:Prop}(h:A∧B)(k:A→B→G):G:=let⟨a,b⟩:=h;k a b
theorem eA3{A B C G:Prop}(h:A∧B∧C)(k:A→B→C→G):G:=let⟨a,b,c⟩:=h;k a b c
theorem eA4{A B C D G:Prop}(h:A∧B∧C∧D)(k:A→B→C→D→G):G:=let⟨a,b,c,d⟩:=h;k a b c d
theorem eA5{A B C D E G:Prop}(h:A∧B∧C∧D∧E)(k:A→B→C→D→E→G):G:=let⟨a,b,c,d,e⟩:=h;k a b c d e
theorem eA6{A B C D E F G:Prop}(h:A∧B∧C∧D∧E∧F)(k:A→B→C→D→E→F→G):G:=let⟨a,b,c,d,e,f⟩:=h;k a b c d e f
theorem eA7{A B C D E F I G:Prop}(h:A∧B∧C∧D∧E∧F∧I)(k:A→B→C→D→E→F→I→G):G:=let⟨a,b,c,d,e,f,g⟩:=h;k a b c d e f g
theorem eA8{A B C D E F I J G:Prop}(h:A∧B∧C∧D∧E∧F∧I∧J)(k:A→B→C→D→E→F→I→J→G):G:=let⟨a,b,c,d,e,f,g,h⟩:=h;k a b c d e f g h
open Lean Parser.Tactic in
local macro_rules
|`(tactic|rintro $ps*)=>do
  let some i:=ps.findIdx? fun p=>p.raw.isOfKind ``rintroPat.one&&p.raw[0].isOfKind ``rcasesPat.tuple|Macro.throwUnsupported
  let a:=ps.extract 0 i
  let b:=ps.extract (i+1) ps.size
  let p:TSyntax ``rcasesPatMed:=⟨mkNode ``rcasesPatMed #[mkNullNode #[ps[i]!.raw[0]]]⟩
  let t←`(tactic|(intro q;obtain $p:rcasesPatMed:=q))
  let t←if b.size==0 then pure t else `(tactic|($t:tactic)<;>rintro $b*)
  if a.size==0 then pure t else `(tactic|(rintro $a*;($t:tactic)))
open Lean Parser.Tactic in
local macro_rules
|`(tactic|obtain ⟨$l,*⟩:=$v)=>do
  let l:=l.getElems
  let p←`(rcasesPatLo|⟨$l,*⟩)
  if l.size<3 then Macro.throwUnsupported else
  let X:List Term←l.toList.mapM fun s=>do
    let s:=s.raw
    if s[1].getNumArgs != 0||s[0][0].getNumArgs != 1 then Macro.throwUnsupported else
    let p:=s[0][0][0]
    if p.isOfKind ``rcasesPat.one then return ⟨p[0]⟩
    if p.isOfKind ``rcasesPat.ignore then `(_) else Macro.throwUnsupported
  let q(i:Nat):MacroM Ident:=do return mkIdent (←MonadQuotation.addMacroScope (.mkSimple s!"q{i}"))
  let rec go(n:Nat)(i:Nat)(v:Term)(x a:List Term):MacroM (Term×List Ident):=do
    match n with
    |0=>Macro.throwUnsupported
    |n+1=>
    let w←q i
    let e(s:String)(k:Nat):Term:=mkIdent (.mkSimple s!"{s}{k}")
    match x,a with
    |[],_=>
      if a.length≤8 then return(←`($(e "eA" a.length) $v fun $(a.toArray)* =>?_),[])
      let(t,r)←go n (i+1) w [] (a.drop 7)
      return(←`($(e "eA" 8) $v fun $((a.take 7).toArray)* $w=>$t),w::r)
    |_,_=>
      let k:=min x.length 8
      let b:=(x.take k).toArray
      if x.length==k&&a.length==1 then return(←`($(e "eX" k) $v fun $b* $(a[0]!)=>?_),[])
      if x.length==k&&a.length==0 then return(←`($(e "eX" k) $v fun $b* $w=>?_),[])
      let(t,r)←go n (i+1) w (x.drop k) a
      return(←`($(e "eX" k) $v fun $b* $w=>$t),w::r)
  let cl(r:List Ident):MacroM (TSyntax `tactic):=if r.length==0 then `(tactic|skip) else `(tactic|clear $(r.toArray)*)
  let w←q 90
  let rf:=mkIdent `rfl
  let w1←q 91
  let k:=(X.findIdx? (·.raw.getId==`rfl)).getD X.length
  let Z:=X.take k
  let V:=v.raw.isIdent&&Z.any (·.raw.getId==v.raw.getId)
  let L:List Term←if V then (List.range k).mapM fun i=>do return (←q (100+i)) else pure Z
  let N:List (TSyntax ``Lean.binderIdent)←(if k==X.length then Z else Z++[⟨(mkIdent `_).raw⟩]).mapM fun(x:Term)=>if x.raw.isIdent&&x.raw.getId != `_ then `(binderIdent|$(⟨x.raw⟩):ident) else `(binderIdent|_)
  let fin←if V then `(tactic|(clear $v;rename_i $(N.toArray)*)) else if v.raw.isIdent then `(tactic|try clear $v) else `(tactic|skip)
  let(E,F):List Term×TSyntax `tactic←(if k==X.length then return([],←`(tactic|skip)) else do
    let s:=l.extract (k+1) l.size
    if s.size==0 then Macro.throwUnsupported else
    if s.size==1 then return([(w:Term)],←`(tactic|rcases $w:ident with ⟨$rf:ident,$(s[0]!)⟩))
    return([(w:Term)],←`(tactic|(rcases $w:ident with ⟨$rf:ident,$w1:ident⟩;obtain ⟨$s,*⟩:=$w1))))
  let mut o:TSyntax `tactic←`(tactic|rcases $v:term with $p)
  for j in (List.range k).drop 1++[k,0] do
    let A:=L.drop j++E
    if A.length==0||j==0&&A.length==1 then continue
    let(t,r)←go 30 0 v (L.take j) A
    o←`(tactic|first|(refine $t;$(←cl r):tactic;$fin:tactic;$F:tactic)|$o:tactic)
  return o
open Option renaming some->Sa,none->Sb
open Bool renaming true->Sc,false->Sd
open PySem renaming Value->Se,Addr->Sf,Shared->Sg,Program->Sh,World->Si,Around->Sj,Heap->Sk,Expr->Sl,wpAny->Sm,sizeLine->Sn,model->So,mainGlobals->Sq,Stmt->Sr,Obj->Ss,Scope->Su,starEach->Sv,eval->Sw,behindInMarks->Sx,standAt->Sy,holding->Sz,binaryOp->SA,compareOp->SB,foldedSetIterable->SC,swapsWith->SD,bootBuiltins->SE,NameKind->SF,sysModules->SG
open PySem.W renaming Frag->SH,nsIn->SJ,findIn->SK,keepIn->SL
open PySem renaming wpAny_bind->aA,wpAny_pure->aC,wpAny_holding->bK,wpAny_newObj_type->bW,wpAny_call_entry->cB,sizeLine_eq->cK,wpAny_callSpecial?_slot->cU,boot_len->cV,codeAny_builtin->cY,tupleKind_room_in1->cZ,wpAny_rule->dF,wpAny_askSetting->dQ,wpAny_updateSeq->eI,plainId_quiet->eJ,wpAny_typeOf->eV,wpAny_isInstance->eW,mem_of_lookup->eZ,wpAny_field->fA,wpAny_setState_of->fB,wpAny_standAt->fF,wpAny_typeNameOfWhole_keyiter->fM,wpAny_seqItems->fO,wpAny_setField->fP,wpAny_mono->fQ,wpAny_Call_Name_kw->fX,wpAny_truthy_bool->gB,wpAny_passesOwn->gC,wpAny_typeNameOf_keyiter->gF,codeAny_mono->gQ,wpAny_specialOf->gW,am_miss_of_fast->gZ,wpAny_notOrdered_dict->hJ,fits_of_scanBound->iF,wpAny_attempt->iG,wpAny_fieldsOf->iM,wpAny_eqBool_int->iN,wpAny_setEntries_of->iQ
open List renaming length_map->aB,getElem?_eq_some_iff->aD,mem_singleton->aE,getElem?_eq_getElem->aF,map_append->aH,length_append->aJ,mem_of_getElem?->aK,mem_append->aL,mem_cons->aN,mem_cons_of_mem->aS,map_cons->aU,length_take->aV,mem_cons_self->aW,size_toArray->aX,mem_append_left->aY,take_length->aZ,getElem?_map->bA,mem_map->bC,length_singleton->bE,mem_range->bH,mem_append_right->bI,length_filter_le->bM,mem_filter->bN,getD_eq_getElem?_getD->bO,append_nil->bS,length_cons->bU,filter_append->cD,any_eq_true->cG,filterMap_cons->cI,zip_cons_cons->cM,getElem_of_mem->cO,length_range->cR,not_mem_nil->cS,nodup_append->cT,getElem?_eq_none->dA,getElem?_append_right->dC,nodup_cons->dE,getElem?_append_left->dI,pairwise_iff_getElem->dJ,getElem?_zip_eq_some->dL,take_of_length_le->dM,map_map->dO,filterMap_append->dP,mem_flatMap->dX,append_assoc->dY,flatMap_cons->eB,pairwise_cons->eD,take_add_one->eO,length_filterMap_le->eQ,length_zip->eU,filter_cons->eX,length_reverse->fD,range_succ->fH,filter_nil->fI,replicate_succ->fS,flatMap_append->fT,getElem_mem->fV,mem_filterMap->fW,getElem?_toArray->fY,getElem?_eq_none_iff->gA,length_eq_zero_iff->gI,sum_cons->gJ,nodup_nil->gK,pairwise_lt_range->gL,find?_cons_of_neg->gM,filterMap_map->gN,of_mem_zip->gR,map_nil->gU,find?_cons->gV,forIn_cons->gX,exists_mem_of_ne_nil->iL,lookup_cons->iO,getElem_map->iP
open PySem.Heap renaming get?_push_of_some->aG,lt_size->aO,get?_push_size->aT,get?_update_self->bQ,get?_update_other->bT,size_push->dH,get?_push_ne->gE
open Nat renaming le_refl->aI,ne_of_lt->aP,lt_of_lt_of_le->aR,zero_le->bG,le_trans->cA,ne_of_gt->cJ,le_add_right->cL,le_of_lt->cW,lt_succ_self->dD,lt_succ_of_lt->eN,le_succ->eY,lt_irrefl->fE,lt_of_le_of_lt->gO
open Bool renaming false_ne_true->aM,false_eq_true->bL,and_eq_true->bR,eq_iff_iff->eR,and_eq_true_iff->iI
open Array renaming length_toList->aQ,getElem?_toList->bF,getElem?_eq_getElem->bP,getD_eq_getD_getElem?->cH
open Option.some renaming inj->bB
open PySem.F renaming plainAttrs_list->bD,slot_list_append->bX,type_list_append->bY,slot_list_extend->fK,type_list_extend->fL,slot_dict_setdefault->fN,plainAttrs_dict->gH,slot_list_pop->iA,type_list_pop->iB,slot_dict_getitem->iJ,slot_dict_update->iS
open PySem.PassesOwn renaming never->bJ
open PySem.Heap.SameBut renaming update->bV,refl->fR
open PySem.W renaming mg_none_of->bZ,kia_one->eE
open Ne renaming symm->cC
open Int renaming toNat_natCast->cE,eq_ofNat_of_zero_le->dZ,mul_nonneg->fG,emod_lt_of_pos->fZ,emod_nonneg->hZ,zero_add->iD
open PySem.Around renaming under_plainId->cF
open PyProof.Rows renaming callWith_type1->cN,boot_list->cP,boot_sorted->cQ,slot_tuple_getitem->cX,boot_int->fJ,boot_any->iC,boot_set->iE
open PySem.Paired renaming length->dN
open PySem.Calls renaming spliced_cons->eC,callWith_builtin->fU,spliced_nil->gD,evalArgs_plain->iH,call_function_entry->iK
open Sum.inl renaming inj->gG
open Option renaming map_some->gP,isSome_iff_exists->iR
open Array.Perm renaming refl->gY
noncomputable section
namespace L2
open PySem PySem.Spec PyProof.Rows
abbrev Key:=Sum Int Str
noncomputable def keyIs:Key->Value->Bool
 | .inl k,v=>Value.isInt k v
 | .inr x,v=>Value.isStrOf x v
noncomputable def keyH(w:World):Key->Int
 | .inl k=>hashInt k
 | .inr x=>hashStr w x
theorem yz:∀ {k:Key} {v:Value},keyIs k v=true->(∃i t,k=Sum.inl i/\v=Value.int i t)\/(∃x t,k=Sum.inr x/\v=Value.str x t)
 | .inl i,v,h=>by
  let⟨t,e⟩:=Value.isInt_shape (k:=i) (v:=v) h;show .inl ⟨i,t,rfl,e⟩
 | .inr x,v,h=>by
  let⟨t,e⟩:=Value.isStrOf_shape (x:=x) (v:=v) h;show .inr ⟨x,t,rfl,e⟩
theorem qU0(i:Int)(t:Tok):keyIs (.inl i) (.int i t)=true:=by simp [keyIs,Value.isInt]
theorem qTz(x:Str)(t:Tok):keyIs (.inr x) (.str x t)=true:=by simp [keyIs,Value.isStrOf]
theorem wC4(a b:Int):decide ((Sum.inl a:Key)=Sum.inl b)=(a == b):=by
 grind
theorem wC1(a b:Str):decide ((Sum.inr a:Key)=Sum.inr b)=decide (a=b):=by
 simp
theorem wC3(a:Int)(b:Str):decide ((Sum.inl a:Key)=Sum.inr b)=false:=by simp
theorem wC2(a:Str)(b:Int):decide ((Sum.inr a:Key)=Sum.inl b)=false:=by simp
noncomputable def zb(prog:Program)(w:World):PySem.KeyKind prog w Key where
 is:=keyIs
 hash:=keyH w
 inj:=λv a b ha hb=>by
  rcases yz ha with ⟨i,t,rfl,rfl⟩ | ⟨x,t,rfl,rfl⟩
  .rcases yz hb with ⟨j,u,rfl,e⟩ | ⟨y,u,rfl,e⟩
   .injection e with e1 _;rw [e1]
   .exact nomatch e
  .rcases yz hb with ⟨j,u,rfl,e⟩ | ⟨y,u,rfl,e⟩
   .exact nomatch e
   .injection e with e1 _;rw [e1]
 byValue:=λk v h=>by
  rcases yz h with ⟨i,t,rfl,rfl⟩ | ⟨x,t,rfl,rfl⟩ <;> rfl
 pyHash:=λhv h=>by
  rcases yz hv with ⟨i,t,rfl,rfl⟩ | ⟨x,t,rfl,rfl⟩
  .exact wpAny_pyHash_int h
  .exact wpAny_pyHash_str h
 eqBool:=λhu hv h=>by
  rcases yz hu with ⟨i,t,rfl,rfl⟩ | ⟨x,t,rfl,rfl⟩
  .rcases yz hv with ⟨j,u,rfl,rfl⟩ | ⟨y,u,rfl,rfl⟩
   .rw [wC4] at h;show iN h
   .rw [wC3] at h;show SeqAt.EqAt.int_str i t y u _ _ _ _ h
  .rcases yz hv with ⟨j,u,rfl,rfl⟩ | ⟨y,u,rfl,rfl⟩
   .rw [wC2] at h;show SeqAt.EqAt.str_int x t j u _ _ _ _ h
   .rw [wC1] at h;show wpAny_eqBool_str h
 «strs» :=λk x t v h=>by
  rcases yz h with ⟨i,u,rfl,e⟩ | ⟨y,u,rfl,e⟩
  .exact nomatch e
  .injection e with e1 _
   subst e1;cases v <;> rfl
theorem kN(prog:Program)(w:World)(i:Int)(t:Tok):(zb prog w).is (.inl i) (.int i t)=true:=qU0 i t
theorem qMs(prog:Program)(w:World)(x:Str)(t:Tok):(zb prog w).is (.inr x) (.str x t)=true:=qTz x t
set_option genInjectivity true in
inductive V where
 |non|bl (b:Bool)|int (i:Int)|str (x:Str)|byt (b:Array UInt8)|flt (b:UInt64)|ref (a:Sf)|ty (n:String)
 deriving DecidableEq
def RelV:V->Se->Prop
 |.non,u=>u=Value.none
 |.bl b,u=>u=Value.bool b
 |.int i,u=>∃t,u=Value.int i t
 |.str x,u=>∃t,u=Value.str x t
 |.byt b,u=>∃t,u=Value.bytes b t
 |.flt b,u=>∃t,u=Value.float b t
 |.ref a,u=>u=Value.ref a
 |.ty n,u=>u=Value.type n
abbrev Vals:List V->List Se->Prop:=Paired RelV
theorem Vals.length(r:Vals xs us):xs.length=us.length:=dN r
theorem Vals.get:∀ {xs:List V} {us:List Se} {i:Nat} {x:V},Vals xs us->xs[i]? = Sa x -> ∃u,us[i]? = Sa u/\RelV x u
 |_,_,_,_,.nil,e=>by simp at e
 |_,_,0,_,.cons r _,e=>by simp at e;subst e;show⟨_,rfl,r⟩
 |_,_,i+1,x,.cons _ t,e=>by
  let⟨u,a,b⟩:=Vals.get (i:=i) (x:=x) t (by simpa using e);show⟨u,by simpa using a,b⟩
theorem Vals.set(r:RelV x u):∀ {xs:List V} {us:List Se} (i:Nat),Vals xs us->Vals (xs.set i x) (us.set i u)
 |_,_,_,.nil=>.nil
 |_,_,0,.cons _ t=>.cons r t
 |_,_,i+1,.cons q t=>.cons q (Vals.set r i t)
theorem Vals.append(h:Vals xs us)(s:Vals ys ws):Vals (xs++ys) (us++ws):=by
 induction h with
 |nil=>show s
 |cons r _ a=>show .cons r a
theorem Vals.take:∀ {xs:List V} {us:List Se} (n:Nat),Vals xs us->Vals (xs.take n) (us.take n)
 |_,_,0,_=>.nil
 |_,_,_+1,.nil=>.nil
 |_,_,n+1,.cons r t=>.cons r (Vals.take n t)
theorem Vals.drop:∀ {xs:List V} {us:List Se} (n:Nat),Vals xs us->Vals (xs.drop n) (us.drop n)
 |_,_,0,r=>r
 |_,_,_+1,.nil=>.nil
 |_,_,n+1,.cons _ t=>Vals.drop n t
theorem Vals.none_of:∀{xs:List V}{us:List Se}{i:Nat},Vals xs us->xs[i]? = Sb->us[i]? = Sb:=λ{xs us i}r e=>by
 let a:=r.length;let b:xs.length<=i:=gA.mp e;show gA.mpr ∎
def RelO:Option V->Option Se->Prop
 |some v,Sa u=>RelV v u
 |none,Sb=>True
 |_,_=>False
def KV{κ:Type}:List (κ×V)->List (κ×Se)->Prop:=Paired λ(p:κ×V)(q:κ×Se)=>p.1=q.1/\RelV p.2 q.2
noncomputable def kV:Key->V
 |.inl i=>.int i
 |.inr x=>.str x
inductive HO where
 |lst (xs:List V)
 |tup (xs:List V)
 |dK (kvs:List (Key×V))|dT (kvs:List (List Key×V))
 |set (S:Int->Bool) (n:Nat)
 |ins (C dx:Sf) (fs:List (Str×V))
 |own (x:Sf)
 |xd (fs:List (Str×V))
 |met (f x:Sf)
 |rng (lo hi:Int)
 |frz (o:Ss) (u:HO)
 |tbl (ps:Array Se)
 |ext (φ:Sf->Sk->Prop)
abbrev Hp:=Sf->Option HO
noncomputable def upd(H:Hp)(a:Sf)(o:HO):Hp:=λb=>if b=a then Sa o else H b
theorem zB:upd H a o a=Sa o:=by grind[upd]
theorem zD(h:b≠a):upd H a o b=H b:=by grind[upd]
theorem oR:upd (upd H a o) a u=upd H a u:=by
 grind[upd]
theorem yY{H:Hp}{a b:Sf}{o u:HO}(h:H a=Sa o)(h':H b=Sa u)(d:o≠u):a≠b:=by
 grind
theorem zG{H:Hp}{a b:Sf}{o:HO}(h:H a=Sa o)(h':H b=Sb):a≠b:=by
 grind
section
variable(P:Sh)(w:Si)
def ObjOk(H:Hp)(h:Sk)(a:Sf):HO->Prop
 |.lst xs=>xs.length<=Sn/\∃(its:List Se)(n:Nat),Vals xs its/\h.get? a=Sa {cls:=.type "list",data:=.seq its.toArray n}
 |.tup xs=>xs.length<=Sn/\∃its:List Se,Vals xs its/\IsTup h a its.toArray
 |.dK kvs=>kvs.length<=Sn/\(a == SG)=Sd/\∃vs,KV kvs vs/\h.DictOf (zb P w) a vs
 |.dT kvs=>kvs.length<=Sn/\(a == SG)=Sd/\∃xs:List (List Key×Sf×Se),
   Paired (λ(p:List Key×V)(q:List Key×Sf×Se)=>p.1=q.1/\H q.2.1=Sa (.tup (p.1.map kV))/\RelV p.2 q.2.2) kvs xs/\
   ∃o es ep,h.get? a=Sa o/\o.ExactDict/\o.data=.dict es ep/\es.toList=xs.map (entryOfKey (tupleKind (zb P w)))/\(xs.map (·.1)).Nodup
 |.set S n=>h.SetOf (intKind P w) a S n
 | .ins C dx fs=>H dx=Sa (.own a)/\fs.length<=1000/\dx≠a/\h.get? a=Sa (PySem.W.instObj C dx) /\
   ∃mA,h.Ns1 dx mA/\(∀f,RelO (fs.lookup f) (mA f))/\PySem.Within mA (fs.map (·.1))
 |.own _=>∃o,h.get? a=Sa o
 |.xd fs=>∃mA,h.Ns1 a mA/\∀f,RelO (fs.lookup f) (mA f)
 |.rng lo hi=>∃t u v,h.get? a=Sa {cls:=.type "range",data:=.fields #[.int lo t,.int hi u,.int 1 v]}
 |.frz o u=>h.get? a=Sa o/\ObjOk H h a u
 |.tbl ps=>h.get? a=Sa {cls:=.none,data:=.fields ps}
 |.met f x=>h.get? a=Sa (PySem.W.methodObj (.ref f) (.ref x))
 |.ext φ=>φ a h/\(∃o,h.get? a=Sa o)/\∀h1 h2:Sk,φ a h1->(∀o,h1.get? a=Sa o->h2.get? a=Sa o)->φ a h2
def HOk(H:Hp)(h:Sk):Prop:=∀a o,H a=Sa o->ObjOk P w H h a o
end
theorem ObjOk.lt(x:ObjOk P w H h a o):a<h.objs.size:=by
 cases o with
 |lst xs=>obtain⟨_,_,_,_,e⟩:=x;show aO e
 |tup xs=>obtain⟨_,_,_,p⟩:=x;show p.lt
 |dK b=>obtain⟨_,_,_,_,o,_,_,e,_⟩:=x;show aO e
 |dT b=>obtain⟨_,_,_,_,o,_,_,e,_⟩:=x;show aO e
 |set S n=>obtain⟨o,_,_,_,e,_⟩:=x;show aO e
 |ins C dx fs=>obtain⟨_,_,_,e,_⟩:=x;show aO e
 |own y=>obtain⟨_,e⟩:=x;show aO e
 |xd fs=>obtain⟨_,⟨_,_,_,e,_⟩,_⟩:=x;show aO e
 |rng lo hi=>obtain⟨_,_,_,e⟩:=x;show aO e
 |frz ob u=>obtain⟨e,_⟩:=x;show aO e
 |tbl c=>show aO (show h.get? a=Sa _ from x)
 |met f y=>show aO (show h.get? a=Sa _ from x)
 |ext φ=>obtain⟨_,⟨_,e⟩,_⟩:=x;show aO e
theorem Paired.mapP{α β:Type}{F G:α->β->Prop}{c:List α}{l₂:List β}(h:Paired F c l₂)(f:∀a b,F a b->G a b):Paired G c l₂:=by
 induction h with
 |nil=>show .nil
 |cons r _ d=>show .cons (f _ _ r) d
theorem ObjOk.stay(x:ObjOk P w H h a o)(k:∀b u,(b=a\/H b=Sa (.own a))->h.get? b=Sa u->h'.get? b=Sa u)(D:∀b,H b=Sa (.own a)->H' b=Sa (.own a))(E:∀b xs,H b=Sa (.tup xs)->H' b=Sa (.tup xs)):ObjOk P w H' h' a o:=by
 induction o with
 |lst xs=>obtain⟨z,l,n,r,e⟩:=x;show⟨z,l,n,r,k _ _ (.inl rfl) e⟩
 |tup xs=>obtain⟨z,l,r,g,e,c⟩:=x;show⟨z,l,r,g,k _ _ (.inl rfl) e,c⟩
 |dK m=>obtain⟨z,y,F,r,g,i,j,e,c⟩:=x;show⟨z,y,F,r,g,i,j,k _ _ (.inl rfl) e,c⟩
 |dT m=>
  let⟨z,y,xs,r,g,i,j,e,c⟩:=x;show⟨z,y,xs,Paired.mapP r λp q z=>⟨z.1,E _ _ z.2.1,z.2.2⟩,g,i,j,k _ _ (.inl rfl) e,c⟩
 |set S n=>obtain⟨g,i,j,t,e,c⟩:=x;show⟨g,i,j,t,k _ _ (.inl rfl) e,c⟩
 |ins C dx fs=>
  obtain⟨d,z,ne,e,s,⟨A,i,j,G,c⟩,r⟩:=x;show⟨D _ d,z,ne,k _ _ (.inl rfl) e,s,⟨A,i,j,k _ _ (.inr d) G,c⟩,r⟩
 |own y=>obtain⟨g,e⟩:=x;show⟨g,k _ _ (.inl rfl) e⟩
 |xd fs=>obtain⟨s,⟨A,i,j,e,c⟩,r⟩:=x;show⟨s,⟨A,i,j,k _ _ (.inl rfl) e,c⟩,r⟩
 |rng lo hi=>obtain⟨t,u,v,e⟩:=x;show⟨t,u,v,k _ _ (.inl rfl) e⟩
 |frz g u I=>obtain⟨e,q⟩:=x;show⟨k _ _ (.inl rfl) e,I q⟩
 |tbl B=>
  let e:h.get? a=Sa {cls:=.none,data:=.fields B}:=x;change h'.get? a=Sa {cls:=.none,data:=.fields B};show k a _ (.inl rfl) e
 |met f y=>
  let e:h.get? a=Sa (PySem.W.methodObj (.ref f) (.ref y)):=x;change h'.get? a=Sa (PySem.W.methodObj (.ref f) (.ref y));show k a _ (.inl rfl) e
 |ext φ=>obtain⟨p,⟨o,e⟩,st⟩:=x;show⟨st _ _ p λo q=>k _ _ (.inl rfl) q,⟨o,k _ _ (.inl rfl) e⟩,st⟩
theorem HOk.lt(x:HOk P w H h)(e:H a=Sa o):a<h.objs.size:=(x a o e).lt
theorem HOk.fresh(x:HOk P w H h)(e:h.objs.size<=a):H a=Sb:=by
 cases q:H a with
 |none=>rfl
 |some u=>show absurd (aR (x.lt q) e) (fE _)
theorem HOk.kept(x:HOk P w H h)(k:∀b u,h.get? b=Sa u->h'.get? b=Sa u):HOk P w H h':=λa o e=>
 (x a o e).stay (λb u _ q=>k b u q) (λ_ q=>q) λ_ _ q=>q
theorem HOk.laid(x:HOk P w H h)(k:∀b u,h.get? b=Sa u->h'.get? b=Sa u)(g:h.objs.size<=a)(new:ObjOk P w (upd H a o) h' a o):HOk P w (upd H a o) h':=λb u e=>by
 let d:=x.fresh g;by_cases f:b=a
 .grind[zB]
 .rw [zD f]at e;show(x b u e).stay (λc v _ q=>k c v q) (λc q=>by grind[zD]) λc i q=>by grind[zD]
def Rd(H:Hp)(a:Sf)(u:HO):Prop:=H a=Sa u\/∃o,H a=Sa (.frz o u)
theorem Rd.ok(r:Rd H a u)(x:HOk P w H h):ObjOk P w H h a u:=by
 rcases r with r|⟨o,r⟩
 .exact x a u r
 .let⟨_,q⟩:=x a _ r;show q
def Mut:Option HO->Prop
 |some (.lst _)=>True
 |some (.dK _)=>True
 |some (.dT _)=>True
 |some (.set _ _)=>True
 |some (.ins _ _ _)=>True
 |some (.ext _)=>True
 |_=>False
theorem HOk.write(ok:HOk P w H h)(mu:Mut (H x))(l:e=x\/H e=Sa (.own x))(k:∀b u,b≠e->h.get? b=Sa u->h'.get? b=Sa u)(j:∃u,h'.get? e=Sa u)(new:ObjOk P w (upd H x o') h' x o'):HOk P w (upd H x o') h':=λb u q=>by
 let d:∀c y,H c=Sa (.own y)->c≠x:=λc y r z=>by subst z;rw[r]at mu;show mu
 let f:∀c g,H c=Sa (.tup g)->c≠x:=λc g r z=>by subst z;rw[r]at mu;show mu
 by_cases i:b=x
 .grind[zB]
 .rw [zD i]at q;by_cases a:b=e
  .let m:H b=Sa (.own x):=by
    grind
   rw[q]at m;cases m;let⟨v,n⟩:=j;show⟨v,by grind⟩
  .refine (ok b u q).stay (λc v hc r=>k c v ?_ r) (λc r=>by grind[zD]) λc g r=>by grind[zD]
   rcases hc with rfl|hc
   .grind
   .rintro rfl;rcases l with z|z
    .grind
    .rw [hc]at z;cases z;grind
structure Un(fs ex:List Sf)(H H':Hp)(h h':Sk):Prop where
 keep:∀b o,h.get? b=Sa o->H b=Sb->b∉fs->b∉ex->h'.get? b=Sa o
 slot:∀b o,h.get? b=Sa o->H b=Sb->b∈fs->b∉ex->∃sl,h'.get? b=Sa {o with slots:=sl}
 free:∀b o,h.get? b=Sa o->H b=Sb->b∉ex->H' b=Sb
 there:∀b o,h.get? b=Sa o->b∉ex->∃o',h'.get? b=Sa o'
 tups:∀b xs,H b=Sa (.tup xs)->H' b=Sa (.tup xs)
 frzs:∀b o u,H b=Sa (.frz o u)->H' b=Sa (.frz o u)
 tbls:∀b ps,H b=Sa (.tbl ps)->∃more,H' b=Sa (.tbl (ps++more))
theorem Un.any(u:Un fs ex H H1 h h1)(q:h.get? b=Sa ob)(n:H b=Sb)(a:b∉ex):∃d,h1.get? b=Sa {ob with slots:=d}:=by
 by_cases c:b∈fs
 .exact u.slot b ob q n c a
 .exact⟨ob.slots,u.keep b ob q n c a⟩
theorem Un.kept(k:∀b u,h.get? b=Sa u->h'.get? b=Sa u):Un fs ex H H h h':=⟨λb a q _ _ _=>k b a q,λb a q _ _ _=>⟨a.slots,k b a q⟩,λ_ _ _ n _=>n,λb a q _=>⟨a,k b a q⟩,λ_ _ q=>q,λ_ _ _ q=>q,λ_ c q=>⟨#[],by rw[q];simp⟩⟩
theorem Un.refl:Un fs ex H H h h:=Un.kept λ_ _ q=>q
theorem Un.laid(k:∀b u,h.get? b=Sa u->h'.get? b=Sa u)(d:h.objs.size<=a)(c:H a=Sb):Un fs ex H (upd H a o) h h' where
 keep:=λb u q _ _ _=>k b u q
 slot:=λb u q _ _ _=>⟨u.slots,k b u q⟩
 free:=λb u q n _=>by rw[zD (aP (aR (aO q) d))];show n
 there:=λb u q _=>⟨u,k b u q⟩
 tups:=λb e q=>by rw[zD (zG q c)];show q
 frzs:=λb u e q=>by rw[zD (zG q c)];show q
 tbls:=λb f q=>⟨#[],by rw[zD (zG q c),q];simp⟩
theorem Un.write(mu:Mut (H x))(i:e=x\/H e=Sa (.own x))(k:∀b u,b≠e->h.get? b=Sa u->h'.get? b=Sa u)(c:∃u,h'.get? e=Sa u):Un fs ex H (upd H x o) h h':=by
 let f:∀b,H b=Sb->b≠x:=λb n z=>by subst z;rw[n]at mu;show mu
 let g:∀b,H b=Sb->b≠e:=λb n z=>by
  grind
 let d:∀b u,H b=Sa u->¬Mut (Sa u)->b≠x:=λb u q j z=>by grind
 show⟨λb u q n _ _=>k b u (g b n) q,λb u q n _ _=>⟨u.slots,k b u (g b n) q⟩,λb u q n _=>by grind[zD],λb u q _=>?_,
  λb l q=>by rw[zD (d b _ q λz=>z)];grind,λb u l q=>by rw[zD (d b _ q λz=>z)];grind,λb m q=>⟨#[],by rw[zD (d b _ q λz=>z),q];simp⟩⟩
 grind
noncomputable def trk(h:Sk)(H:Hp):List Sf:=(List.range h.objs.size).filter λa=>(H a).isSome
noncomputable def hidT(h:Sk)(H:Hp):Sk:=PySem.W.hideAll h (trk h H)
theorem qU8(h:Sk)(H:Hp):(hidT h H).objs.size=h.objs.size:=PySem.W.hideAll_size _ _
theorem qWv(e:h.get? b=Sa o)(n:H b=Sb):(hidT h H).get? b=Sa o:=
 PySem.W.hideAll_get _ e λa=>by
  let q:(H b).isSome=Sc:=(bN.mp a).2;grind
theorem wA6(e:(hidT h H).get? b=Sa o):h.get? b=Sa o/\H b=Sb:=by
 let a:h.get? b=Sa o:=PySem.W.of_hideAll (trk h H) e;show⟨a,?_⟩;cases q:H b<;>grind[trk,aO,hidT,PySem.W.hideAll_none]
noncomputable def wP(g h:Sk)(L:Sf):List (Sf×Ss):=(List.range h.objs.size).filterMap λa=>if a=L\/(g.get? a).isSome=Sc then Sb else (h.get? a).map λo=>(a,o)
theorem kO{g h:Sk}(c:a≠L)(d:g.get? a=Sb)(b:h.get? a=Sa o):(a,o)∈wP g h L:=fW.mpr ⟨a,bH.mpr (aO b),by simp[c,d,b]⟩
theorem qHj{g h:Sk}(c:p∈wP g h L):p.1≠L/\g.get? p.1=Sb/\h.get? p.1=Sa p.2:=by
 let⟨b,_,e⟩:=fW.mp c;split at e
 .grind
 .rename_i a;cases q:h.get? b with
  |none=>grind
  |some u=>
   rw[q]at e;simp only[gP,Option.some.injEq]at e;subst e;simp_all
theorem qWl{g h:Sk}:News g L h (wP g h L):=λp d=>let ⟨a,b,c⟩:=qHj d;⟨c,a,b⟩
structure Mod(K:SH)(mg:Str->Option Se)(base:Sk):Prop where
 kin:K.In base
 glob:base.Ns Sq mg
 blt:∃mb,base.Ns builtinsNs mb/\∀x:Str,x≠"__name__"->mb x=SE x
 nolimit:base.NoLimit
structure Cx where
 prog:Sh
 w:Si
 K:SH
 mg:Str->Option Se
 base:Sk
 A:Sj
 N:List Str
 s₀:Sg
 H₀:Hp
 env:Env
 outer:List Env
 stack:List Env
 ex:List Sf
 fn:Str->Bool
 calm:Bool
 pn:List (Sf×Ss)
 xe:Se->Sg->Prop
noncomputable def frs(l:List Env):List Sf:=l.filterMap (·.frame)
noncomputable abbrev Cx.fs(X:Cx):List Sf:=frs X.outer
def Vis(sc:Su)(x:Str):Prop:=sc.names.lookup x=Sa .local\/sc.names.lookup x=Sa .cell\/sc.names.lookup x=Sa .free
def Loc(sc:Su)(x:Str):Prop:=sc.names.lookup x=Sa .local\/sc.names.lookup x=Sa .cell
def Look(env:Env)(h:Sk)(m:Str->Option Se)(x:Str)(u:Se):Prop:=(env.kindOf x=Sa .local/\m x=Sa u)\/((env.kindOf x=Sa .cell\/env.kindOf x=Sa .free)/\∃c,env.cells.lookup x=Sa c/\h.IsCell c (Sa u))
structure Cx.Ok(X:Cx):Prop where
 mod:Mod X.K X.mg X.base
 kind:X.env.scope.kind=.function
 glob:X.env.globals=Sq
 blt:X.env.builtins=builtinsNs
 above:X.s₀.heap.objs.size<=X.env.locals
 inj:∀x y c,X.env.cells.lookup x=Sa c->X.env.cells.lookup y=Sa c->x=y
 has:∀x,(X.env.kindOf x=Sa .cell\/X.env.kindOf x=Sa .free)->∃c,X.env.cells.lookup x=Sa c
 cab:∀x c,X.fn x=Sc->X.env.cells.lookup x=Sa c->X.s₀.heap.objs.size<=c
 hd:X.calm=Sc->X.A.handled=Sb
 frames:X.A.frames=Sa X.stack
 stk:X.stack=X.outer\/(X.stack=X.env::X.outer/\X.env.frame=Sa X.env.locals)
 exf:∀b∈X.ex,b≠X.env.locals/\∀x c,X.env.cells.lookup x=Sa c->c≠b
 bs:∀b o,X.base.get? b=Sa o->X.s₀.heap.get? b=Sa o/\X.H₀ b=Sb
 bsz:X.base.objs.size<=X.s₀.heap.objs.size
 noex:∀b o,X.base.get? b=Sa o->b∉X.ex
 exfs:∀b∈X.ex,b∉X.fs
 funs:X.s₀.heap.FunFrames X.base X.outer
 frf:∀b∈X.fs,X.H₀ b=Sb
structure Inv(X:Cx)(pins:List (Sf×Ss))(σ:List (Option V))(H:Hp)(s:Sg):Prop where
 ok:X.Ok
 os:s.os=X.s₀.os
 bare:AllBare s.gens
 base:Un X.fs X.ex X.H₀ H X.s₀.heap s.heap
 loc:∃m,s.heap.Ns X.env.locals m/\∀(i:Nat)(x:Str)(v:V),X.N[i]? = Sa x->σ[i]? = Sa (Sa v)->Vis X.env.scope x->∃u,RelV v u/\Look X.env s.heap m x u
 cell:∀x c,X.env.cells.lookup x=Sa c->∃v,s.heap.IsCell c v
 free:H X.env.locals=Sb
 freeC:∀x c,X.env.cells.lookup x=Sa c->H c=Sb
 pin:∀p∈X.pn++pins,s.heap.get? p.1=Sa p.2/\H p.1=Sb/\p.1≠X.env.locals/\p.1∉X.fs/\∀v,p.2.data≠.cell v
 hok:HOk X.prog X.w H s.heap
 len:σ.length=X.N.length
section
variable{X:Cx}
theorem Cx.Ok.nofr(ok:X.Ok)(e:X.base.get? b=Sa o):b∉X.fs:=λa=>by
 let:=(ok.funs.mem a).1;grind
theorem Inv.bs(I:Inv X pins σ H s):∀b o,X.base.get? b=Sa o->s.heap.get? b=Sa o/\H b=Sb:=λb o e=>
 ⟨I.base.keep b o (I.ok.bs b o e).1 (I.ok.bs b o e).2 (I.ok.nofr e) (I.ok.noex b o e),I.base.free b o (I.ok.bs b o e).1 (I.ok.bs b o e).2 (I.ok.noex b o e)⟩
theorem Inv.bk(I:Inv X pins σ H s):∀b o,X.base.get? b=Sa o->s.heap.get? b=Sa o:=λb o e=>(I.bs b o e).1
theorem Inv.mod(I:Inv X pins σ H s):Mod X.K X.mg X.base:=I.ok.mod
theorem Inv.kIn(I:Inv X pins σ H s):X.K.In s.heap:=I.ok.mod.kin.keeps I.bk
theorem Inv.fr(I:Inv X pins σ H s):∃m,Fr X.base X.env.locals s.heap m:=
 let ⟨m,a,_⟩:=I.loc
 ⟨m,a,I.bk,cA I.ok.bsz I.ok.above⟩
theorem Inv.lt(I:Inv X pins σ H s):X.env.locals<s.heap.objs.size:=let ⟨_,a,_⟩:=I.loc;a.lt
theorem Inv.sz(I:Inv X pins σ H s):X.s₀.heap.objs.size<=s.heap.objs.size:=cA I.ok.above (cW I.lt)
theorem Inv.nofs(I:Inv X pins σ H s){a:Sf}(h:s.heap.objs.size<=a):a∉X.fs:=λb=>by
 let⟨_,o,c,_⟩:=I.ok.funs.mem b;show absurd (aR (aO c) (cA I.sz h)) (fE _)
theorem Inv.cne(I:Inv X pins σ H s):∀x c,X.env.cells.lookup x=Sa c->c≠X.env.locals:=λx c e z=>by
 let⟨v,o,d,f⟩:=I.cell x c e;obtain⟨m,⟨g,h,i,a,b,_⟩,_⟩:=I.loc;grind
theorem Inv.funs(I:Inv X pins σ H s):s.heap.FunFrames X.base X.outer:=by
 let all:∀(l:List Env),(∀b∈frs l,b∈X.fs)->X.s₀.heap.FunFrames X.base l->s.heap.FunFrames X.base l:=by
  intro l
  induction l with
  |nil=>intro _ _;trivial
  |cons env r g=>
   intro f h;obtain⟨i,⟨L,o,a,j,k,m⟩,n⟩:=h;let c:L∈X.fs:=f L (by unfold frs;rw[cI,a];show aW);let⟨p,e⟩:=I.base.slot L o k (I.ok.frf L c) c λz=>I.ok.exfs L z c;show⟨i,⟨L,_,a,j,e,m⟩,g (λb d=>f b (by unfold frs;rw[cI,a];show aS _ d)) n⟩
 show all X.outer (λ_ d=>d) I.ok.funs
theorem Inv.stack(I:Inv X pins σ H s):s.heap.FunFrames X.base X.stack:=by
 rcases I.ok.stk with e|⟨e,a⟩
 .rw [e];show I.funs
 .rw [e];let⟨m,b,_⟩:=I.loc;show .cons (by rw[I.ok.kind];decide) a b ?_ I.funs;show Heap.get?_none_of_le (cA I.ok.bsz I.ok.above)
theorem Inv.stkSub(I:Inv X pins σ H s):∀b∈frs X.stack,b∈X.env.locals::X.fs:=λb a=>by
 rcases I.ok.stk with e|⟨e,c⟩
 .grind
 grind[frs]
theorem Inv.stkFree(I:Inv X pins σ H s):∀b∈frs X.stack,H b=Sb:=λb hb=>by
 rcases aN.mp (I.stkSub b hb)with e|hb
 .rw [e];show I.free
 .let⟨_,o,a,_⟩:=I.ok.funs.mem hb;show I.base.free b o a (I.ok.frf b hb) λz=>I.ok.exfs b z hb
theorem Inv.step{g':Array GenState}{t':Nat}{d':Drawn}{ch:List Sf}(I:Inv X pins σ H s)(f:∀b∈ch,(b∈X.ex\/X.s₀.heap.objs.size<=b)/\b≠X.env.locals/\(∀x c,X.env.cells.lookup x=Sa c->c≠b)/\∀p∈X.pn++pins,p.1≠b)(keep:∀b o,b≠X.env.locals->b∉X.fs->b∉ch->s.heap.get? b=Sa o->H b=Sb->h'.get? b=Sa o)(slot:∀b o,b≠X.env.locals->b∈X.fs->b∉ch->s.heap.get? b=Sa o->H b=Sb->∃L,h'.get? b=Sa {o with slots:=L})(free:∀b o,b∉ch->s.heap.get? b=Sa o->H b=Sb->H' b=Sb)(A:∀b o,b∉ch->s.heap.get? b=Sa o->∃D,h'.get? b=Sa D)(tups:∀b y,H b=Sa (.tup y)->H' b=Sa (.tup y))(E:∀b o u,H b=Sa (.frz o u)->H' b=Sa (.frz o u))(F:∀b K,H b=Sa (.tbl K)->∃more,H' b=Sa (.tbl (K++more)))(R:∀m,s.heap.Ns X.env.locals m->h'.Ns X.env.locals m)(hok:HOk X.prog X.w H' h')(S:AllBare g'):Inv X pins σ H' {s with heap:=h',gens:=g',drawn:=d',toks:=t'}:=by
 let G:∀b o,X.s₀.heap.get? b=Sa o->b≠X.env.locals:=λb o e=>aP (aR (aO e) I.ok.above);let j:∀b o,X.s₀.heap.get? b=Sa o->b∉X.ex->b∉ch:=λb o e a B=>by
  rcases (f b B).1 with z|z
  .exact a z
  .exact absurd (aR (aO e) z) (fE _)
 let g:∀x c,X.env.cells.lookup x=Sa c->∀v,s.heap.IsCell c v->h'.IsCell c v:=λx c e v ⟨o,C,M⟩=>by
  let h:c∉ch:=λz=>(f c z).2.2.1 x c e rfl;by_cases O:c∈X.fs
  .let⟨L,q⟩:=slot c o (I.cne x c e) O h C (I.freeC x c e);show⟨_,q,M⟩
  .exact⟨o,keep c o (I.cne x c e) O h C (I.freeC x c e),M⟩
 show⟨I.ok,I.os,S,⟨λb o e n B a=>?_,λb o e n B a=>?_,λb o e n a=>?_,λb o e a=>?_,λb y e=>tups b y (I.base.tups b y e),λb o y e=>E b o y (I.base.frzs b o y e),λb K e=>?_⟩,?_,λx c e=>?_,?_,λx c e=>?_,λp P=>?_,hok,I.len⟩
 .exact keep b o (G b o e) B (j b o e a) (I.base.keep b o e n B a) (I.base.free b o e n a)
 .let⟨L,t⟩:=I.base.slot b o e n B a;let⟨N,J⟩:=slot b _ (G b o e) B (j b o e a) t (I.base.free b o e n a);show⟨N,J⟩
 .let⟨D,t⟩:=I.base.there b o e a;show free b D (j b o e a) t (I.base.free b o e n a)
 .let⟨D,t⟩:=I.base.there b o e a;show A b D (j b o e a) t
 .let⟨T,t⟩:=I.base.tbls b K e;let⟨m2,J⟩:=F b _ t;show⟨T++m2,by rw[J,Array.append_assoc]⟩
 .let⟨m,U,V⟩:=I.loc;show⟨m,R m U,λi x v t J W=>?_⟩;let⟨u,r,l⟩:=V i x v t J W;show⟨u,r,?_⟩;rcases l with l|⟨k,c,e,z⟩
  .exact .inl l
  .exact .inr ⟨k,c,e,g x c e _ z⟩
 .let⟨v,z⟩:=I.cell x c e;show⟨v,g x c e v z⟩
 .obtain⟨m,⟨o,_,_,C,_⟩,_⟩:=I.loc;show free _ o (λz=>(f _ z).2.1 rfl) C I.free
 .let⟨v,o,C,M⟩:=I.cell x c e;show free c o (λz=>(f c z).2.2.1 x c e rfl) C (I.freeC x c e)
 .let⟨e,n,ne,Q,d⟩:=I.pin p P;let h:p.1∉ch:=λz=>(f p.1 z).2.2.2 p P rfl;show⟨keep p.1 p.2 ne Q h e n,free p.1 p.2 h e n,ne,Q,d⟩
theorem Inv.un{t':Nat}(I:Inv X pins σ H s)(u:Un X.fs [] H H' s.heap h')(hok:HOk X.prog X.w H' h'):Inv X pins σ H' {s with heap:=h',toks:=t'}:=by
 obtain⟨m,⟨o,k,l,g,r⟩,_⟩:=id I.loc;let⟨p,h⟩:=u.any g I.free ∅
 show I.step (g':=s.gens) (d':=s.drawn) (ch:=[]) (λ_ z=>nomatch z) (λb o _ c _ e n=>u.keep b o e n c ∅) (λb o _ c _ e n=>u.slot b o e n c ∅) (λb o _ e n=>u.free b o e n ∅) (λb o _ e=>u.there b o e ∅) u.tups u.frzs u.tbls (λq i=>by
  let⟨t,d,f,a,j⟩:=i;rw[g]at a;cases a
  show⟨_,d,f,h,j⟩) hok I.bare
theorem Inv.call{t':Nat}(I:Inv X pins σ H s)(u:Un (frs X.stack) ch H H' s.heap h')(hok:HOk X.prog X.w H' h')(k:AllBare g')(d:∀b∈ch,(b∈X.ex\/X.s₀.heap.objs.size<=b)/\b≠X.env.locals/\(∀x c,X.env.cells.lookup x=Sa c->c≠b)/\∀p∈X.pn++pins,p.1≠b):Inv X pins σ H' {s with heap:=h',gens:=g',drawn:=d',toks:=t'}:=by
 obtain⟨m,⟨o,v,y,j,r⟩,_⟩:=id I.loc;let⟨A,g⟩:=u.any j I.free λz=>(d _ z).2.1 rfl
 show I.step (ch:=ch) d (λb o g l a e n=>u.keep b o e n (λz=>(aN.mp (I.stkSub b z)).elim g l) a) (λb o _ _ a e n=>u.any e n a) (λb o a e n=>u.free b o e n a) (λb o a e=>u.there b o e a) u.tups u.frzs u.tbls (λB q=>by
  let⟨C,h,i,f,t⟩:=q;rw[j]at f;cases f
  show⟨_,h,i,g,t⟩) hok k
theorem Inv.turned{t':Nat}(I:Inv X pins σ H s)(k:∀b o,b≠it->s.heap.get? b=Sa o->h'.get? b=Sa o)(g:H it=Sb)(f:it≠X.env.locals)(h:it∈X.ex\/X.s₀.heap.objs.size<=it)(i:∀x c,X.env.cells.lookup x=Sa c->c≠it)(j:∀p∈X.pn++pins,p.1≠it):Inv X pins σ H {s with heap:=h',toks:=t'}:=by
 let d:∀b u,H b=Sa u->b≠it:=λb u e z=>by rw[z,g]at e;cases e
 refine I.step (g':=s.gens) (d':=s.drawn) (ch :=[it]) (λb l=>?_) (λb o _ _ a e _=>k b o (λz=>a (by simp [z])) e) (λb o _ _ a e _=>⟨o.slots,k b o (λz=>a (by simp [z])) e⟩) (λ_ _ _ _ n=>n)
  (λb o a e=>⟨o,k b o (λz=>a (by simp[z])) e⟩) (λ_ _ e=>e) (λ_ _ _ e=>e) (λb B e=>⟨#[],by rw[e];simp⟩) (λm t=>?_) (λb u e=>?_) I.bare
 .let e:b=it:=by simpa using l
  subst e;show⟨h,f,i,j⟩
 .let⟨o,w,y,A,r⟩:=t;show⟨o,w,y,k _ o (cC f) A,r⟩
 .refine (I.hok b u e).stay (λc v a q=>k c v ?_ q) (λ_ q=>q) λ_ _ q=>q;rcases a with z|z
  .rw [z];show d b u e
  .exact d c _ z
theorem Inv.tok(I:Inv X pins σ H s)(t:Nat):Inv X pins σ H {s with toks:=t}:=I.un (h':=s.heap) (t':=t) Un.refl I.hok
theorem Inv.kept{t':Nat}(I:Inv X pins σ H s)(k:∀b u,s.heap.get? b=Sa u->h'.get? b=Sa u):Inv X pins σ H {s with heap:=h',toks:=t'}:=I.un (Un.kept k) (I.hok.kept k)
theorem Inv.laid{a:Sf}{o:HO}{t':Nat}(I:Inv X pins σ H s)(k:∀b u,s.heap.get? b=Sa u->h'.get? b=Sa u)(c:s.heap.objs.size<=a)(new:ObjOk X.prog X.w (upd H a o) h' a o):Inv X pins σ (upd H a o) {s with heap:=h',toks:=t'}:=I.un (Un.laid k c (I.hok.fresh c)) (I.hok.laid k c new)
theorem Inv.write{t':Nat}(I:Inv X pins σ H s)(mu:Mut (H x))(c:e=x\/H e=Sa (.own x))(k:∀b u,b≠e->s.heap.get? b=Sa u->h'.get? b=Sa u)(a:∃u,h'.get? e=Sa u)(new:ObjOk X.prog X.w (upd H x o) h' x o):Inv X pins σ (upd H x o) {s with heap:=h',toks:=t'}:=I.un (Un.write mu c k a) (I.hok.write mu c k a new)
theorem Inv.pins_of(I:Inv X pins σ H s)(h:∀p∈a,s.heap.get? p.1=Sa p.2/\H p.1=Sb/\p.1≠X.env.locals/\p.1∉X.fs/\∀v,p.2.data≠.cell v):Inv X a σ H s:=⟨I.ok,I.os,I.bare,I.base,I.loc,I.cell,I.free,I.freeC,λp b=>(aL.mp b).elim (λz=>I.pin p (aY _ z)) (h p),I.hok,I.len⟩
theorem oS{N:List Str}(c:N.Nodup){i j:Nat}{x:Str}(a:N[i]? = Sa x)(b:N[j]? = Sa x):i=j:=by
 let⟨f,d⟩:=aD.mp a;let⟨g,e⟩:=aD.mp b;show(List.getElem_inj c).mp (d.trans e.symm)
theorem oT{i:Nat}(I:Inv X pins σ H s)(hN:X.N.Nodup)(hi:X.N[i]? = Sa x)(t:Loc X.env.scope x)(r:RelV v u)(h:∀U,Inv X pins (σ.set i (Sa v)) H U->(∃a,Heap.SameBut a s.heap U.heap/\(a=X.env.locals\/X.env.cells.lookup x=Sa a))->Q () U)(hf:X.fn x=Sc\/X.env.scope.names.lookup x=Sa .local:=by first|show .inl rfl|show .inr rfl|assumption):Sm M A (storeName X.env x u) Q E s:=by
 let⟨m,W,hl⟩:=id I.loc;let K:(X.env.scope.kind == .class||(X.env.scope.kind == .module&&X.env.locals != X.env.globals))=Sd:=by rw[I.ok.kind];rfl
 let D:i < σ.length:=by rw[I.len];show(aD.mp hi).1
 let cne:=I.cne;let g:∀{a:Sf}{h':Sk},(∃o,s.heap.get? a=Sa o/\H a=Sb)->Heap.SameBut a s.heap h'->HOk X.prog X.w H h':=λ{a h'}ha f b ob e=>by
  let⟨_,_,B⟩:=ha;show(I.hok b ob e).stay (λc S hc q=>(f.2 c ?_).trans q) (λ_ q=>q) λ_ _ q=>q;rintro rfl;rcases hc with rfl|hc
  .rw [B]at e;cases e
  .rw [B]at hc;cases hc
 rcases t with hk|hk
 .refine wpAny_storeName_local hk W (λh' Y f=>?_) K;let⟨oL,_,_,Z,_⟩:=id W;show h _ ⟨I.ok,I.os,I.bare,⟨λb o e n F t=>?_,λb o e n F t=>?_,I.base.free,λb o e t=>?_,I.base.tups,I.base.frzs,I.base.tbls⟩,⟨_,Y,λj y v' l C e3=>?_⟩,λy c e=>?_,I.free,I.freeC,λp hp=>?_,g ⟨oL,Z,I.free⟩ f,by simpa using I.len⟩ ⟨_,f,.inl rfl⟩
  .exact (f.2 b (aP (aR (aO e) I.ok.above))).trans (I.base.keep b o e n F t)
  .let⟨sl,l⟩:=I.base.slot b o e n F t;show⟨sl,(f.2 b (aP (aR (aO e) I.ok.above))).trans l⟩
  .let⟨o',l⟩:=I.base.there b o e t;show⟨o',(f.2 b (aP (aR (aO e) I.ok.above))).trans l⟩
  .by_cases G:j=i
   .subst G;rw[hi]at l;cases l;rw[List.getElem?_set_self D]at C;cases C;show⟨u,r,.inl ⟨hk,∅⟩⟩
   .rw [List.getElem?_set_ne (cC G)]at C;let⟨u',r',q⟩:=hl j y v' l C e3;show⟨u',r',?_⟩;rcases q with ⟨k,e⟩|⟨k,c,e,z⟩
    .refine .inl ⟨k,?_⟩;let:y≠x:=λe=>G (oS hN l (e▸hi));simp[this,e]
    .exact .inr ⟨k,c,e,z.sameBut f (cne y c e)⟩
  .let⟨S,z⟩:=I.cell y c e;show⟨S,z.sameBut f (cne y c e)⟩
  .let⟨e,n,ne,nf,d⟩:=I.pin p hp;show⟨(f.2 p.1 ne).trans e,n,ne,nf,d⟩
 .let J:X.fn x=Sc:=by
   rcases hf with z|z
   .exact z
   .rw [z]at hk;cases hk
  let⟨c,hc⟩:=I.ok.has x (.inl hk);let⟨S,z⟩:=I.cell x c hc;show wpAny_storeName_cell I.ok.kind hk hc z (λh' L f=>?_);let⟨oc,O,P⟩:=id z;show h {s with heap:=h'} ⟨I.ok,I.os,I.bare,⟨λb o e n F t=>?_,λb o e n F t=>?_,I.base.free,λb o e t=>?_,I.base.tups,I.base.frzs,I.base.tbls⟩,⟨m,W.sameBut f (cC (cne x c hc)),λj y v' l C e3=>?_⟩,λy T e=>?_,I.free,I.freeC,λp hp=>?_,g ⟨oc,O,I.freeC x c hc⟩ f,by simpa using I.len⟩ ⟨c,f,.inr hc⟩
  .exact (f.2 b (aP (aR (aO e) (I.ok.cab x c J hc)))).trans (I.base.keep b o e n F t)
  .let⟨sl,l⟩:=I.base.slot b o e n F t;show⟨sl,(f.2 b (aP (aR (aO e) (I.ok.cab x c J hc)))).trans l⟩
  .let⟨o',l⟩:=I.base.there b o e t;show⟨o',(f.2 b (aP (aR (aO e) (I.ok.cab x c J hc)))).trans l⟩
  .by_cases G:j=i
   .subst G;rw[hi]at l;cases l;rw[List.getElem?_set_self D]at C;cases C;show⟨u,r,.inr ⟨.inl hk,c,hc,L⟩⟩
   .rw [List.getElem?_set_ne (cC G)]at C;let⟨u',r',q⟩:=hl j y v' l C e3;show⟨u',r',?_⟩;rcases q with q|⟨k,T,e,z'⟩
    .exact .inl q
    .refine .inr ⟨k,T,e,z'.sameBut f ?_⟩;rintro rfl;show G (oS hN l (I.ok.inj _ _ _ e hc▸hi))
  .by_cases R:T=c
   .subst R;show⟨_,L⟩
   .let⟨w2,z2⟩:=I.cell y T e;show⟨w2,z2.sameBut f R⟩
  .let⟨e,n,ne,nf,d⟩:=I.pin p hp;show⟨(f.2 p.1 ?_).trans e,n,ne,nf,d⟩;intro q;rw[q,O]at e;let q':oc=p.2:=bB e;show d S (by rw[<-q'];show P)
theorem vE{i:Nat}(I:Inv X pins σ H s)(b:X.N.Nodup)(hi:X.N[i]? = Sa x)(c:Loc X.env.scope x)(r:RelV v u)(h:∀a,Inv X pins (σ.set i (Sa v)) H a->Q () a)(d:X.fn x=Sc\/X.env.scope.names.lookup x=Sa .local:=by first|show .inl rfl|show .inr rfl|assumption):Sm M A (storeName X.env x u) Q E s:=oT I b hi c r (λa e _=>h a e) d
theorem Inv.call'(I:Inv X pins σ H s)(f:a.os=s.os)(u:Un (frs X.stack) ch H H' s.heap a.heap)(hok:HOk X.prog X.w H' a.heap)(g:AllBare a.gens)(d:∀b∈ch,(b∈X.ex\/X.s₀.heap.objs.size<=b)/\b≠X.env.locals/\(∀x c,X.env.cells.lookup x=Sa c->c≠b)/\∀p∈X.pn++pins,p.1≠b):Inv X pins σ H' a:=by
 let⟨h',g',d',t',h⟩:=a;let e:h=s.os:=f;subst e;show I.call (g':=g') (t':=t') (d':=d') u hok g d
end
abbrev XK:=Se->Option Sf->Hp->Prop
abbrev St:=List (Option V)
abbrev VK:=V->Hp->Prop
abbrev TE:=St->Hp->VK->Prop
abbrev TT:=St->Hp->(Bool->Hp->Prop)->Prop
abbrev TA:=St->Hp->(List V->Hp->Prop)->Prop
structure Ends where
 nx:St->Hp->Prop
 rt:VK
 bk:St->Hp->Prop:=λ_ _=>False
 ct:St->Hp->Prop:=λ_ _=>False
abbrev TS:=Ends->St->Hp->Prop
def EP(X:Cx)(pins:List (Sf×Ss))(σ:St)(Q:VK)(u:Se)(s':Sg):Prop:=∃v H',Inv X pins σ H' s'/\RelV v u/\Q v H'
def TP(X:Cx)(pins:List (Sf×Ss))(σ:St)(Q:Bool->Hp->Prop)(b:Bool)(s':Sg):Prop:=∃H',Inv X pins σ H' s'/\Q b H'
def AP(X:Cx)(pins:List (Sf×Ss))(σ:St)(Q:List V->Hp->Prop)(us:List Se)(s':Sg):Prop:=∃vs H',Inv X pins σ H' s'/\Vals vs us/\Q vs H'
def SP(X:Cx)(pins:List (Sf×Ss))(D:Ends)(f:Flow)(s':Sg):Prop:=
 match f with
 |.next=>∃σ' H',Inv X pins σ' H' s'/\D.nx σ' H'
 |.brk=>∃σ' H',Inv X pins σ' H' s'/\D.bk σ' H'
 |.cont=>∃σ' H',Inv X pins σ' H' s'/\D.ct σ' H'
 |.ret u=>∃v σ' H',Inv X pins σ' H' s'/\RelV v u/\D.rt v H'
def PE(X:Cx)(e:Sl)(t:TE):Prop:=
 ∀(pins:List (Sf×Ss))(s:Sg)(σ:St)(H:Hp)(Q:VK),Inv X pins σ H s->t σ H Q->Sm (So X.prog X.w) X.A (Sw e X.env) (EP X pins σ Q) X.xe s
def PT(X:Cx)(e:Sl)(t:TT):Prop:=
 ∀(pins:List (Sf×Ss))(s:Sg)(σ:St)(H:Hp)(Q:Bool->Hp->Prop),Inv X pins σ H s->t σ H Q->Sm (So X.prog X.w) X.A (isTrue e X.env (Sw e X.env)) (TP X pins σ Q) X.xe s
def PW(X:Cx)(e:Sl)(t:TT):Prop:=
 ∀(whole:Sem Se)(pins:List (Sf×Ss))(s:Sg)(σ:St)(H:Hp)(Q:Bool->Hp->Prop),Inv X pins σ H s->t σ H Q->Sm (So X.prog X.w) X.A (isTrue e X.env whole) (TP X pins σ Q) X.xe s
theorem PW.pt{t:TT}(h:PW X e t):PT X e t:=h _
def PA(X:Cx)(es:List Sl)(t:TA):Prop:=
 ∀(pos:Pos)(pins:List (Sf×Ss))(s:Sg)(σ:St)(H:Hp)(Q:List V->Hp->Prop),Inv X pins σ H s->t σ H Q->Sm (So X.prog X.w) X.A (spliced (backTo pos (Sv es X.env))) (AP X pins σ Q) X.xe s
def PS(X:Cx)(st:Sr)(t:TS):Prop:=
 ∀(pins:List (Sf×Ss))(s:Sg)(σ:St)(H:Hp)(D:Ends),Inv X pins σ H s->t D σ H->Sm (So X.prog X.w) X.A (exec st X.env) (SP X pins D) X.xe s
def PSs(X:Cx)(st:List Sr)(t:TS):Prop:=
 ∀(pins:List (Sf×Ss))(s:Sg)(σ:St)(H:Hp)(D:Ends),Inv X pins σ H s->t D σ H->Sm (So X.prog X.w) X.A (execs st X.env) (SP X pins D) X.xe s
theorem thn{α:Type}{t:Sem α}{Q b:α->Sg->Prop}{M:Model}{A:Sj}{E:Se->Sg->Prop}{s:Sg}(h:Sm M A t Q E s)(c:∀a s,Q a s->b a s):Sm M A t b E s:=fQ h c λ_ _ x=>x
def tVar(i:Nat):TE:=λσ H Q=>∃v,σ[i]? = Sa (Sa v)/\Q v H
def tC(v:V):TE:=λ_ H Q=>Q v H
theorem wBs{i:Nat}{x:Str}{f:Pos}(k:X.N[i]? = Sa x)(n:Vis X.env.scope x)(hd:(x == ("__debug__" : Str))=Sd:=by decide)(g:(x == ("__classdict__" : Str))=Sd:=by decide):PE X (.Name x f) (tVar i):=by
 intro d s σ H Q I h;let⟨v,e,h⟩:=h;let⟨m,o,p⟩:=I.loc;let⟨u,r,l⟩:=p i x v k e n;let b:EP X d σ Q u s:=⟨v,H,I,r,h⟩;rcases l with ⟨hk,q⟩|⟨hk,c,j,a⟩
 .exact wpAny_Name (wpAny_loadName_local I.ok.kind hk o q b) hd
 .rcases hk with hk|hk
  .exact wpAny_Name (wpAny_loadName_cell I.ok.kind hk j a b) hd
  .exact wpAny_Name (wpAny_loadName_free I.ok.kind hk j a b g) hd
theorem zE{i j pos}:PE X (.Constant (.int i) j pos) (tC (.int i)):=λ_ _ _ H _ I h=>wpAny_Constant_int ⟨.int i,H,I.tok _,⟨_,rfl⟩,h⟩
theorem yZ{b j pos}:PE X (.Constant (.bool b) j pos) (tC (.bl b)):=λ_ _ _ H _ I h=>Constant_bool ⟨.bl b,H,I,rfl,h⟩
theorem yD{j pos}:PE X (.Constant .none j pos) (tC .non):=λ_ _ _ H _ I h=>Constant_none ⟨.non,H,I,rfl,h⟩
theorem yI{x j pos}:PE X (.Constant (.str x) j pos) (tC (.str x)):=λ_ _ _ H _ I h=>Calls.Constant_str ⟨.str x,H,I.tok _,⟨_,rfl⟩,h⟩
def Gl(X:Cx)(x:Str):Prop:=X.env.kindOf x=Sa .globalImplicit
theorem kP{E:Se->Sg->Prop}{a:List (Sf×Ss)}{s:Sg}{σ : St}{H:Hp}{x:Str}{u:Se}{b:Pos}{Q:Se->Sg->Prop}(I:Inv X a σ H s)(c:Gl X x)(d:X.mg x=Sa u)(h:Q u s)
  (hd:(x == ("__debug__" : Str))=Sd:=by decide):Sm (So X.prog X.w) X.A (Sw (.Name x b) X.env) Q E s:=
 Calls.Name_function_global I.ok.kind c (Calls.loadGlobal_global (by rw[I.ok.glob];show I.mod.glob.keeps I.bk) d h) hd
theorem xN{E:Se->Sg->Prop}{a:List (Sf×Ss)}{s:Sg}{σ : St}{H:Hp}{x:Str}{u:Se}{b:Pos}{Q:Se->Sg->Prop}(I:Inv X a σ H s)(c:Gl X x)(d:X.mg x=Sb)(e:SE x=Sa u)(h:Q u s)
  (f:x≠"__name__":=by decide) (g:(x == ("__debug__" : Str))=Sd:=by decide):Sm (So X.prog X.w) X.A (Sw (.Name x b) X.env) Q E s:=by
 let⟨k,i,j⟩:=I.mod.blt;show Calls.Name_function_global I.ok.kind c (Calls.loadGlobal_builtin (by rw[I.ok.glob];show I.mod.glob.keeps I.bk) d (by rw[I.ok.blt];show i.keeps I.bk) ((j x f).trans e) h) g
theorem oU(b:Gl X x)(c:X.mg x=Sa u)(r:RelV v u)(hd:(x == ("__debug__" : Str))=Sd:=by decide):PE X (.Name x a) (tC v):=λ_ _ _ H _ I h=>kP I b c ⟨v,H,I,r,h⟩ hd
theorem qZo{x:Str}{v:V}{u:Se}{a:Pos}(b:Gl X x)(c:X.mg x=Sb)(d:SE x=Sa u)(r:RelV v u)(e:x≠"__name__":=by decide)(f:(x == ("__debug__" : Str))=Sd:=by decide):PE X (.Name x a) (tC v):=λ_ _ _ H _ I h=>xN I b c d ⟨v,H,I,r,h⟩ e f
def PC(X:Cx)(op:CmpOp)(a b:Sl)(t:TE):Prop:=
 ∀(pins:List (Sf×Ss)) (s:Sg) (σ : St) (H:Hp) (Q:VK),Inv X pins σ H s->t σ H Q ->
  Sm (So X.prog X.w) X.A (Sw a X.env) (λv s₁=>Sm (So X.prog X.w) X.A (Sw b X.env) (λu s₂=>Sm (So X.prog X.w) X.A (SB op v u) (EP X pins σ Q) X.xe s₂) X.xe s₁) X.xe s
theorem qWj(b:Sl)(h:op≠.In)(a:op≠.NotIn):Sx op b=Sd:=by
 let c:(op == CmpOp.In)=Sd:=by grind
 let d:(op == CmpOp.NotIn)=Sd:=by grind
 cases b<;>simp[Sx,c,d]
def tB(t:TE):TT:=λσ H Q=>t σ H λx H1=>∃c,x=.bl c/\Q c H1
theorem xr{t:TE}(h:PC X op a b t)(f:Sx op b=Sd:=by first|show qWj _ ⋯ ⋯|rfl):PT X (.Compare a [op] [b] pos) (tB t):=by
 intro e s σ H Q I g;show wpAny_isTrue_Compare1 (thn (h e s σ H _ I g) λv n f=>thn f λu o i=>thn i λc p hq_=>?_) f;let⟨x,j,k,l,m⟩:=hq_;let⟨d,rfl,q⟩:=m;cases l;show gB ⟨j,k,q⟩
def tAnd(t u:TT):TT:=λσ H Q=>t σ H λc H1=>if c=Sc then u σ H1 Q else Q Sd H1
def tOr(t u:TT):TT:=λσ H Q=>t σ H λc H1=>if c=Sc then Q Sc H1 else u σ H1 Q
def tNot(t:TT):TT:=λσ H Q=>t σ H λc H1=>Q (!c) H1
theorem yg(d:PT X a tA):PW X (.BoolOp .And [a] pos) tA:=by
 intro f b s σ H Q I h;show isTrue_and (thn (d b s σ H Q I h) λc g e=>?_);grind[isTrue_and_nil]
theorem uB(d:PT X a tA):PW X (.BoolOp .Or [a] pos) tA:=by
 intro f b s σ H Q I h;show isTrue_or (thn (d b s σ H Q I h) λc g e=>?_);grind[isTrue_or_nil]
theorem yb(i:PT X a tA)(j:PW X (.BoolOp .And (b::rest) pos) tB'):PW X (.BoolOp .And (a::b::rest) pos) (tAnd tA tB'):=by
 intro k d s σ H Q I h;show isTrue_and (thn (i d s σ H _ I h) λc l hq_=>?_);let⟨e,f,g⟩:=hq_;cases c with
 |true=>show j k d l σ e Q f g
 |false=>show⟨e,f,g⟩
theorem uC(i:PT X a tA)(j:PW X (.BoolOp .Or (b::rest) pos) tB'):PW X (.BoolOp .Or (a::b::rest) pos) (tOr tA tB'):=by
 intro k d s σ H Q I h;show isTrue_or (thn (i d s σ H _ I h) λc l hq_=>?_);let⟨e,f,g⟩:=hq_;cases c with
 |true=>show⟨e,f,g⟩
 |false=>show j k d l σ e Q f g
theorem wBp(d:PT X a tA):PT X (.UnaryOp .Not a pos) (tNot tA):=by
 intro b s σ H Q I h;show isTrue_not (d b s σ H (λc e=>Q (!c) e) I h)
def tAndV(ta tb:TE):TE:=λσ H Q=>ta σ H λx H1=>∃c,x=.bl c/\if c=Sc then tb σ H1 Q else Q (.bl Sd) H1
def tOrV(ta tb:TE):TE:=λσ H Q=>ta σ H λx H1=>∃c,x=.bl c/\if c=Sc then Q (.bl Sc) H1 else tb σ H1 Q
theorem wQ{op}{t:TE}(h:PE X a t):PE X (.BoolOp op [a] pos) t:=λb s σ H Q I c=>BoolOp_one (h b s σ H Q I c)
theorem vF(i:PE X a ta)(j:PE X (.BoolOp .And (b::rest) pos) tb):PE X (.BoolOp .And (a::b::rest) pos) (tAndV ta tb):=by
 intro d s σ H Q I h;show BoolOp_and (thn (i d s σ H _ I h) λv k hq_=>?_);let⟨x,f,g,l,e⟩:=hq_;let⟨c,rfl,e⟩:=e;cases l;show gB ?_;cases c with
 |true=>show j d k σ f Q g e
 |false=>show⟨.bl Sd,f,g,rfl,e⟩
theorem wCw(i:PE X a ta)(j:PE X (.BoolOp .Or (b::rest) pos) tb):PE X (.BoolOp .Or (a::b::rest) pos) (tOrV ta tb):=by
 intro d s σ H Q I h;show BoolOp_or (thn (i d s σ H _ I h) λv k hq_=>?_);let⟨x,f,g,l,e⟩:=hq_;let⟨c,rfl,e⟩:=e;cases l;show gB ?_;cases c with
 |false=>show j d k σ f Q g e
 |true=>show⟨.bl Sc,f,g,rfl,e⟩
def tIf(t:TT)(ta tb:TE):TE:=λσ H Q=>t σ H λc H1=>if c=Sc then ta σ H1 Q else tb σ H1 Q
theorem yh(k:PT X c tA)(l:PE X a ta)(m:PE X b tb):PE X (.IfExp c a b pos) (tIf tA ta tb):=by
 intro e s σ H Q I h;show wpAny_IfExp (thn (k e s σ H _ I h) λd f hq_=>?_);let⟨g,i,j⟩:=hq_;cases d with
 |true=>show l e f σ g Q i j
 |false=>show m e f σ g Q i j
def SqL(K:SH)(H:Hp)(a:Sf)(xs:List V):Prop:=
 Rd H a (.lst xs) \/
  ∃(o:Ss)(its:Array Se)(n:Nat),K.lookup a=Sa o/\o.cls=.type "list"/\o.dict=Sb/\o.data=.seq its n/\its.size<=Sn/\Vals xs its.toList
def SqT(K:SH)(H:Hp)(a:Sf)(xs:List V):Prop:=
 Rd H a (.tup xs) \/
  ∃(o:Ss)(its:Array Se)(n:Nat),K.lookup a=Sa o/\o.cls=.type "tuple"/\o.data=.seq its n/\its.size<=Sn/\Vals xs its.toList
noncomputable def absV:Se->Option V
 |.none=>Sa .non
 |.bool b=>Sa (.bl b)
 |.int i _=>Sa (.int i)
 |.str x _=>Sa (.str x)
 |.bytes b _=>Sa (.byt b)
 |.float b _=>Sa (.flt b)
 |.ref a=>Sa (.ref a)
 |.type n=>Sa (.ty n)
 |_=>Sb
theorem RelV.abs(r:RelV x u):absV u=Sa x:=by
 cases x with
 |non=>cases r;rfl
 |bl _=>cases r;rfl
 |int _=>obtain⟨t,rfl⟩:=r;rfl
 |str _=>obtain⟨t,rfl⟩:=r;rfl
 |byt _=>obtain⟨t,rfl⟩:=r;rfl
 |flt _=>obtain⟨t,rfl⟩:=r;rfl
 |ref _=>cases r;rfl
 |ty _=>cases r;rfl
theorem RelV.inj(r:RelV x u)(q:RelV y u):x=y:=bB (r.abs.symm.trans q.abs)
theorem Vals.inj(h:Vals xs us)(k:Vals ys us):xs=ys:=by
 induction h generalizing ys with
 |nil=>cases k;rfl
 |cons r _ a=>cases k with|cons b c=>rw[r.inj b,a c]
theorem SqL.of{K:SH}(h:H a=Sa (.lst xs)):SqL K H a xs:=.inl (.inl h)
theorem SqT.of{K:SH}(h:H a=Sa (.tup xs)):SqT K H a xs:=.inl (.inl h)
theorem Inv.list(I:Inv X pins σ H s)(h:SqL X.K H a xs):∃its:List Se,Vals xs its/\PlainL s.heap a its.toArray/\xs.length<=Sn:=by
 rcases h with h|⟨o,its,n,b,c,d,f,g,r⟩
 .let⟨z,its,n,r,e⟩:=h.ok I.hok;show⟨its,r,⟨_,n,e,rfl,rfl,rfl⟩,z⟩
 .refine⟨its.toList,r,⟨o,n,I.kIn a o b,c,d,by simp_all⟩,?_⟩;let e:=r.length;grind
theorem Inv.tuple(I:Inv X pins σ H s)(h:SqT X.K H a xs):∃its:List Se,Vals xs its/\IsTup s.heap a its.toArray/\xs.length<=Sn:=by
 rcases h with h|⟨o,its,n,b,c,d,f,r⟩
 .let⟨z,its,r,p⟩:=h.ok I.hok;show⟨its,r,p,z⟩
 .refine⟨its.toList,r,⟨o,I.kIn a o b,c,n,by simpa using d⟩,?_⟩;let e:=r.length;simp only[aQ]at e;lia
theorem Inv.list_inj(I:Inv X pins σ H s)(h:SqL X.K H a xs)(h':SqL X.K H a ys):xs=ys:=by
 obtain⟨c,r,⟨o,n,e,_,_,d⟩,_⟩:=I.list h;obtain⟨b,i,⟨k,l,f,_,_,g⟩,_⟩:=I.list h';rw[e]at f;cases f;rw[d]at g;injection g with j _
 let:c=b:=by grind
 subst this;show r.inj i
theorem Inv.tuple_inj(I:Inv X pins σ H s)(h:SqT X.K H a xs)(h':SqT X.K H a ys):xs=ys:=by
 obtain⟨c,r,⟨o,e,_,n,d⟩,_⟩:=I.tuple h;obtain⟨b,i,⟨k,f,_,l,g⟩,_⟩:=I.tuple h';rw[e]at f;cases f;rw[d]at g;injection g with j _
 let:c=b:=by grind
 subst this;show r.inj i
noncomputable abbrev Cx.wish(X:Cx)(E:Se->Sg->Prop):Cx:={X with xe:=E}
noncomputable abbrev Cx.nox(X:Cx):Cx:=X.wish λ_ _=>False
theorem Cx.Ok.wish{X:Cx}(ok:X.Ok)(E:Se->Sg->Prop):(X.wish E).Ok:=⟨ok.mod,ok.kind,ok.glob,ok.blt,ok.above,ok.inj,ok.has,ok.cab,ok.hd,ok.frames,ok.stk,ok.exf,ok.bs,ok.bsz,ok.noex,ok.exfs,ok.funs,ok.frf⟩
theorem Cx.Ok.unwish{X:Cx}{E:Se->Sg->Prop}(ok:(X.wish E).Ok):X.Ok:=⟨ok.mod,ok.kind,ok.glob,ok.blt,ok.above,ok.inj,ok.has,ok.cab,ok.hd,ok.frames,ok.stk,ok.exf,ok.bs,ok.bsz,ok.noex,ok.exfs,ok.funs,ok.frf⟩
theorem Inv.wish(I:Inv X pins σ H s)(E:Se->Sg->Prop):Inv (X.wish E) pins σ H s:=⟨I.ok.wish E,I.os,I.bare,I.base,I.loc,I.cell,I.free,I.freeC,I.pin,I.hok,I.len⟩
theorem Inv.unwish(I:Inv (X.wish E) pins σ H s):Inv X pins σ H s:=⟨I.ok.unwish,I.os,I.bare,I.base,I.loc,I.cell,I.free,I.freeC,I.pin,I.hok,I.len⟩
theorem SP.unwish(h:SP (X.wish E) pins D f c):SP X pins D f c:=by
 cases f with
 |next=>obtain⟨a,b,I,q⟩:=h;show⟨a,b,I.unwish,q⟩
 |brk=>obtain⟨a,b,I,q⟩:=h;show⟨a,b,I.unwish,q⟩
 |cont=>obtain⟨a,b,I,q⟩:=h;show⟨a,b,I.unwish,q⟩
 |ret u=>obtain⟨v,a,b,I,r,q⟩:=h;show⟨v,a,b,I.unwish,r,q⟩
theorem PSs.nox{st:List Sr}{t:TS}(h:PSs X.nox st t):PSs X st t:=λpins s σ H D I a=>
 fQ (h pins s σ H D (I.wish _) a) (λ_ _ q=>q.unwish) λ_ _ z=>False.elim z
section
variable{X:Cx}{st:Sr}{rest:List Sr}{t u:TS}{e:Sl}
def tNext:TS:=λD σ H=>D.nx σ H
def tSeq(t u:TS):TS:=λD σ H=>t {D with nx:=u D} σ H
theorem zx:PSs X [] tNext:=λ_ _ σ H _ I h=>wpAny_execs_nil ⟨σ,H,I,h⟩
theorem zF(c:PS X st t)(d:PSs X rest u):PSs X (st::rest) (tSeq t u):=by
 intro a s σ H D I h;show wpAny_execs_cons (thn (c a s σ H {D with nx:=u D} I h) λf e q=>?_);cases f with
 |next=>
  let⟨b,g,i,q⟩:=q;show d a e b g D i q
 |ret v=>show q
 |brk=>show q
 |cont=>show q
theorem zH(b:PS X st t):PSs X [st] t:=by
 intro a s σ H D I h;show wpAny_execs_cons (thn (b a s σ H D I h) λf c q=>?_);grind[wpAny_execs_nil]
theorem Inv.quiet{a:List (Sf×Ss)}{σ:St}{H:Hp}{s:Sg}(I:Inv X a σ H s):interactive X.env=Sd:=by simp[interactive,I.ok.kind]
def tDrop(te:TE):TS:=λD σ H=>te σ H λ_ H1=>D.nx σ H1
theorem yL(b:PE X e te)(c:SD e Sb pos.line X.env=pure Sd:=by rfl):PS X (.Expr e pos) (tDrop te):=by
 intro a s σ H D I h;show wpAny_Expr_any (thn (b a s σ H _ I h) λv i hq_=>?_) I.quiet c;let⟨x,d,f,j,g⟩:=hq_;show⟨σ,d,f,g⟩
def tRet(te:TE):TS:=λD σ H=>te σ H D.rt
theorem zN(b:PE X e te):PS X (.Return (Sa e) pos) (tRet te):=by
 intro a s σ H D I h;show wpAny_Return_some (thn (b a s σ H _ I h) λv i hq_=>?_);let⟨x,c,d,f,g⟩:=hq_;show⟨x,σ,c,d,f,g⟩
def tIfS(c:TT)(t u:TS):TS:=λD σ H=>c σ H λb H1=>if b=Sc then t D σ H1 else u D σ H1
theorem zm(l:PT X c f)(m:PSs X a t)(n:PSs X b u):PS X (.If c a b pos) (tIfS f t u):=by
 intro e s σ H D I h;show wpAny_If (thn (l e s σ H _ I h) λd g hq_=>?_);let⟨i,j,k⟩:=hq_;cases d with
 |true=>show m e g σ i D j k
 |false=>show n e g σ i D j k
end
abbrev TG:=V->St->Hp->(St->Hp->Prop)->Prop
abbrev TGs:=List V->St->Hp->(St->Hp->Prop)->Prop
def PG(X:Cx)(target:Sl)(t:TG):Prop:=
 ∀(pins:List (Sf×Ss)) (s:Sg) (σ : St) (H:Hp) (v:V) (u:Se) (Q:St->Hp->Prop),Inv X pins σ H s->RelV v u->t v σ H Q ->
  Sm (So X.prog X.w) X.A (assign target X.env u) (λ_ s'=>∃σ' H',Inv X pins σ' H' s'/\Q σ' H') X.xe s
def PGs(X:Cx)(ts:List Sl)(t:TGs):Prop:=
 ∀(pins:List (Sf×Ss)) (s:Sg) (σ : St) (H:Hp) (vs:List V) (us:List Se) (Q:St->Hp->Prop),Inv X pins σ H s->Vals vs us->t vs σ H Q ->
  Sm (So X.prog X.w) X.A (assignInOrder ((assignEach ts X.env).map (·.2)) us) (λ_ s'=>∃σ' H',Inv X pins σ' H' s'/\Q σ' H') X.xe s
abbrev TSet:=V->V->V->Hp->(Hp->Prop)->Prop
def PSet(X:Cx)(t:TSet):Prop:=
 ∀(pins:List (Sf×Ss)) (s:Sg) (σ : St) (H:Hp) (o i v:V) (ov iv u:Se) (Q:Hp->Prop),Inv X pins σ H s->RelV o ov->RelV i iv->RelV v u->t o i v H Q ->
  Sm (So X.prog X.w) X.A (setItem ov iv u) (λ_ s'=>∃H',Inv X pins σ H' s'/\Q H') X.xe s
abbrev TIp:=V->V->Hp->VK->Prop
def PIp(X:Cx)(op:Operator)(t:TIp):Prop:=
 ∀(pins:List (Sf×Ss)) (s:Sg) (σ : St) (H:Hp) (x y:V) (v u:Se) (Q:VK),Inv X pins σ H s->RelV x v->RelV y u->t x y H Q ->
  Sm (So X.prog X.w) X.A (inplaceOp op v u) (EP X pins σ Q) X.xe s
def gName(i:Nat):TG:=λv σ H Q=>Q (σ.set i (Sa v)) H
theorem qZh{i:Nat}(b:X.N.Nodup)(hi:X.N[i]? = Sa x)(c:Loc X.env.scope x)(d:X.fn x=Sc\/X.env.scope.names.lookup x=Sa .local:=by first|show .inl rfl|show .inr rfl|assumption):PG X (.Name x pos) (gName i):=by
 intro a s σ H v u Q I r h;show wpAny_assign_Name (vE I b hi c r (λf e=>⟨_,H,e,h⟩) d)
def gNil:TGs:=λvs σ H Q=>vs=[]/\Q σ H
def gCons(t:TG)(u:TGs):TGs:=λvs σ H Q=>∃v r,vs=v::r/\t v σ H λσ' H'=>u r σ' H' Q
theorem zp:PGs X [] gNil:=by
 intro a s σ H b c Q I r h;let⟨e,h⟩:=h;subst e;cases r;show assignInOrder_nil ⟨σ,H,I,h⟩
theorem zR{t:TG}(c:PG X e t)(d:PGs X es u)(f:(assignEach (e::es) X.env).map (·.2)=assign e X.env::(assignEach es X.env).map (·.2):=by rfl):PGs X (e::es) (gCons t u):=by
 intro a s σ H n o Q I r h;let⟨v,p,g,h⟩:=h;subst g;cases r with
 |cons r i=>
  rw[f];show assignInOrder_cons (thn (c a s σ H _ _ _ I r h) λ_ j hq_=>?_);let⟨b,k,l,m⟩:=hq_;show d a j b k _ _ Q l i m
def gTup(K:SH)(n:Nat)(t:TGs):TG:=λv σ H Q=>∃a xs,v=.ref a/\SqT K H a xs/\xs.length=n/\t xs σ H Q
theorem yM{k:Nat}{t:TGs}{n:Nat}(i:X.calm=Sc)(h:PGs X es t)(j:(assignEach es X.env).length=n:=by rfl)(d:(assignEach es X.env).findIdx? (·.1)=Sb:=by rfl):PG X (.Tuple es k pos) (gTup X.K n t):=by
 intro c s σ H v u Q I r f;let⟨a,l,m,p,q,f⟩:=f;subst m;cases r;let⟨w,g,x,B⟩:=I.tuple p;show assign_Tuple_tuple (I.ok.hd i) x (by simp[j,<-q,g.length]) d λy z=>?_;let A:Inv X c σ H {s with heap:=y}:=I.kept (t':=s.toks) λb o e=>z b o (aP (aO e)) e;show h c _ σ H l _ Q A (by simpa using g) f
def gSub(to ti:TE)(t:TSet):TG:=λv σ H Q=>to σ H λo H1=>ti σ H1 λi H2=>t o i v H2 λH3=>Q σ H3
theorem kQ{t:TSet}(f:PE X o d)(hi:PE X i e)(g:PSet X t)(j:∀v,assign (.Subscript o i pos) X.env v=(do
   let b <-Sz [v] (Sw o X.env)
   let c <-Sz [v,b] (Sw i X.env)
   Sy pos
   Sz [v,b,c] (setItem b c v)
   release [v,b,c] []):=by intro _;rfl):PG X (.Subscript o i pos) (gSub d e t):=by
 intro a s σ H v u Q I r h;rw[j];show aA (bK (thn (f a s σ H _ I h) λb k hq_=>?_));let⟨x,l,m,n,p⟩:=hq_;show aA (bK (thn (hi a k σ l _ m p) λc q hq_=>?_));let⟨y,w,z,A,B⟩:=hq_;show aA (fF (aA (bK (thn (g a q σ w x y v b c u _ z n A r B) λ_ F hq_=>?_))));let⟨C,D,E⟩:=hq_;show wpAny_release ⟨σ,C,D,E⟩
def tAsg(te:TE)(g:TG):TS:=λD σ H=>te σ H λx H1=>g x σ H1 D.nx
theorem xA{g:TG}(d:PE X e c)(f:PG X b g)(i:swapsWithSole [b] e pos.line X.env=pure Sd:=by rfl)(j:swappedStores [b] e X.env=pure Sb:=by rfl)(k:(assignEach [b] X.env).map (·.2)=[assign b X.env]:=by rfl):PS X (.Assign [b] e pos) (tAsg c g):=by
 intro a s σ H D I h;show wpAny_Assign_stores (thn (d a s σ H _ I h) λv l hq_=>?_) i j;let⟨x,m,n,o,p⟩:=hq_;rw[k];show thn (f a l σ m x v _ n o p) λ_ r q=>q
theorem wBq{i:Nat}(d:X.N.Nodup)(hi:X.N[i]? = Sa x)(f:Loc X.env.scope x)(g:PE X e c)(j:SD e (Sa (.Name x a)) pos.line X.env=pure Sd:=by rfl)(k:X.fn x=Sc\/X.env.scope.names.lookup x=Sa .local:=by first|show .inl rfl|show .inr rfl|assumption):PS X (.Assign [.Name x a] e pos) (tAsg c (gName i)):=by
 intro b s σ H D I h;show wpAny_Assign_Name (thn (g b s σ H _ I h) λv q hq_=>?_) j;let⟨y,l,m,n,o⟩:=hq_;show vE m d hi f n (λr p=>⟨_,l,p,o⟩) k
def tPar(i j:Nat)(ta:TA):TS:=λD σ H=>ta σ H λvs H1=>∃v w,vs=[v,w]/\D.nx ((σ.set i (Sa v)).set j (Sa w)) H1
theorem vG{i j:Nat}{l m pt:Pos}{kt k2 d}(J:X.calm=Sc)(B:X.N.Nodup)(hi:X.N[i]? = Sa x)(K:X.N[j]? = Sa y)(n:i≠j)(C:X.env.scope.names.lookup x=Sa .local)(E:X.env.scope.names.lookup y=Sa .local)(L:PA X [a,b] z)(hw:swappedStores [.Tuple [.Name x l,.Name y m] kt pt] (.Tuple [a,b] k2 d) X.env=pure (Sa [x,y]))(M:swapsWithSole [.Tuple [.Name x l,.Name y m] kt pt] (.Tuple [a,b] k2 d) pos.line X.env=pure Sd:=by rfl):PS X (.Assign [.Tuple [.Name x l,.Name y m] kt pt] (.Tuple [a,b] k2 d) pos) (tPar i j z):=by
 intro c s σ H D I h;rw[exec_Assign_arm];show aA (fF ?_);rw[M];show aA (aC ?_);rw[if_neg ⋯];show aA (Tuple_ (thn (L _ c s σ H _ I h) λO f hq_=>?_));let⟨Z,F,P,Q,r⟩:=hq_;let⟨v,w,R,r⟩:=r;subst R;obtain⟨g,k,rfl,S,t⟩:∃g k,O=[g,k]/\RelV v g/\RelV w k:=by
  cases Q with
  |cons p q=>
   cases q with
   |cons T U=>
    cases U;show⟨_,_,rfl,p,T⟩
 show bW ?_ (by change 2<=Sn;decide);let V:Inv X c σ F {f with heap:=f.heap.push {cls:=.type "tuple",data:=.seq [g,k].toArray}}:=P.kept (t':=f.toks) λb o e=>aG _ e;rw[hw];show aA (aC ?_);change Sm (So X.prog X.w) X.A (do rule "assign.swapped-stores";let items <-unpackItems (.ref f.heap.objs.size) 2 Sb;assignInOrder [λv=>bindName X.env y v,λv=>bindName X.env x v] items.reverse;pure Flow.next) _ _ _;show aA (dF (aA (unpackItems_tuple (items:=#[g,k]) (I.ok.hd J) (IsTup.new f.heap _) λh' u=>?_)));let W:=V.kept (h':=h') (t':=f.toks) λb o e=>u b o (aP (aO e)) e
 change Sm _ _ (assignInOrder [λv=>bindName X.env y v,λv=>bindName X.env x v] [k,g] >>=λ_=>pure Flow.next) _ _ _;show aA (assignInOrder_cons (wpAny_bindName (vE W B K (.inl E) t (λs2 Y=>?_) (.inr E))));show assignInOrder_cons (wpAny_bindName (vE Y B hi (.inl C) S (λs3 G=>assignInOrder_nil (aC ?_)) (.inr C)));rw[List.set_comm _ _ (cC n)]at G;show⟨_,F,G,r⟩
def tAug(i:Nat)(te:TE)(ti:TIp):TS:=λD σ H=>∃x,σ[i]? = Sa (Sa x)/\te σ H λy H1=>ti x y H1 λz H2=>D.nx (σ.set i (Sa z)) H2
theorem wBr{i:Nat}(q:X.N.Nodup)(hi:X.N[i]? = Sa x)(j:Loc X.env.scope x)(t:PE X e o)(B:PIp X op p)(C:X.fn x=Sc\/X.env.scope.names.lookup x=Sa .local:=by first|show .inl rfl|show .inr rfl|assumption):PS X (.AugAssign (.Name x d) op e pos) (tAug i o p):=by
 intro a s σ H D I h;let⟨v,E,h⟩:=h;let⟨m,F,G⟩:=I.loc;let n:Vis X.env.scope x:=by rcases j with k|k;show .inl k;show .inr (.inl k)
 let⟨u,r,l⟩:=G i x v hi E n;show wpAny_AugAssign_Name ?_;let go:Sm (So X.prog X.w) X.A (Sw e X.env) (λw f=>Sm (So X.prog X.w) X.A (inplaceOp op u w) (λr g=>Sm (So X.prog X.w) X.A (storeName X.env x r) (λ_=>SP X a D .next) X.xe g) X.xe f) X.xe s:=by
  show thn (t a s σ H _ I h) λw J hq_=>?_;let⟨y,K,L,M,O⟩:=hq_;show thn (B a J σ K v y u w _ L r M O) λz W hq_=>?_;let⟨Y,P,Q,R,S⟩:=hq_;show vE Q q hi j R (λZ T=>⟨_,P,T,S⟩) C
 rcases l with ⟨hk,U⟩|⟨hk,c,V,b⟩
 .exact wpAny_loadName_local I.ok.kind hk F U go
 .rcases hk with hk|hk
  .exact wpAny_loadName_cell I.ok.kind hk V b go
  .rcases j with k|k
   .let:X.env.scope.names.lookup x=Sa .free:=hk;rw[k]at this;cases this
   .let:X.env.scope.names.lookup x=Sa .free:=hk;rw[k]at this;cases this
def tAugS(to ti te:TE)(tget:V->V->Hp->VK->Prop)(tip:TIp)(tset:TSet):TS:=λD σ H=>to σ H λo H1=>ti σ H1 λi H2=>tget o i H2 λx H3=>te σ H3 λy H4=>tip x y H4 λz H5=>tset o i z H5 λH6=>D.nx σ H6
def PGet(X:Cx)(t:V->V->Hp->VK->Prop):Prop:=
 ∀(pins:List (Sf×Ss)) (s:Sg) (σ : St) (H:Hp) (o i:V) (ov iv:Se) (Q:VK),Inv X pins σ H s->RelV o ov->RelV i iv->t o i H Q ->
  Sm (So X.prog X.w) X.A (getItem ov iv) (EP X pins σ Q) X.xe s
theorem qZg{g:TIp}(u:PE X o l)(hi:PE X i m)(w:PGet X b)(x:PE X e n)(y:PIp X op g)(z:PSet X c)(A:∀d f new,augStore i d f new=(do Sz [new,d,f] (setItem d f new);release [new,d,f] [];pure .next):=by intros;rfl):PS X (.AugAssign (.Subscript o i j) op e pos) (tAugS l m n b g c):=by
 intro a s σ H D I h;show wpAny_AugAssign_SubscriptAny (thn (u a s σ H _ I h) λd B hq_=>?_) A;let⟨p,C,E,q,F⟩:=hq_;show thn (hi a B σ C _ E F) λf G hq_=>?_;let⟨r,J,K,t,L⟩:=hq_;show thn (w a G σ J p r d f _ K q t L) λk M hq_=>?_;let⟨N,O,P,Q,R⟩:=hq_;show thn (x a M σ O _ P R) λv S hq_=>?_;let⟨T,U,W,Y,Z⟩:=hq_;show thn (y a S σ U N T k v _ W Q Y Z) λnew s5 hq_=>?_;let⟨x5,H5,I5,r5,q5⟩:=hq_;show thn (z a s5 σ H5 p r x5 d f new _ I5 q t r5 q5) λ_ s6 hq_=>?_;let⟨H6,I6,q6⟩:=hq_;show⟨σ,H6,I6,q6⟩
def ipI(f:Int->Int->Int):TIp:=λx y H Q=>∃i j,x=.int i/\y=.int j/\Q (.int (f i j)) H
theorem oV:PIp X .Add (ipI λi j=>i+j):=by
 intro a s σ H x y v u Q I b c h;let⟨i,j,d,e,q⟩:=h;subst d;subst e;let⟨t,rfl⟩:=b;let⟨f,rfl⟩:=c;show iadd_int ⟨.int _,H,I.tok _,⟨_,rfl⟩,q⟩
def wAy(c:TT)(tb:TS):TS:=λD σ H => ∃W:Nat->St->Hp->Prop,(∃m,W m σ H) /\ ∀m σ H,W m σ H ->
 c σ H λb H1=>if b=Sc then ∃N:St->Hp->Prop,(∀σ' H',N σ' H'->∃m',m'<m/\W m' σ' H')/\tb {D with nx:=N,ct:=N,bk:=D.nx} σ H1 else D.nx σ H1
theorem vH{g:List Sr}(y:PassesOwn (So X.prog X.w) X.A X.env X.xe)(G:PT X c u)(J:PSs X g x):PS X (.While c g [] pos) (wAy u x):=by
 intro a s σ H D I h;obtain⟨W,⟨K,L⟩,i⟩:=h;show wpAny_While (codeAny_whileLoop (λn M=>∃j z,Inv X a j z M/\W n j z) ?_ K ⟨σ,H,I,L⟩);rintro n O ⟨e,B,P,Q⟩;show gC y (thn (G a O e B _ P (i n e B Q)) λb R hq_=>?_);let⟨C,E,l⟩:=hq_;cases b with
 |true=>
  let⟨N,F,l⟩:=l;rw[if_pos rfl];show gC y (thn (J a R e C _ E l) λf S m=>?_);cases f with
  |next=>
   let⟨d,k,o,p⟩:=m;let⟨q,r,t⟩:=F d k p;show⟨q,r,d,k,o,t⟩
  |cont=>
   let⟨d,k,o,p⟩:=m;let⟨q,r,t⟩:=F d k p;show⟨q,r,d,k,o,t⟩
  |brk=>show m
  |ret v=>show m
 |false=>
  rw[if_neg aM];show wpAny_execs_nil ⟨e,C,E,l⟩
structure It where
 go:Nat->Hp->Prop
 yld:Nat->Hp->V->Hp->Prop
 stop:Nat->Hp->Prop
def FpOk(X:Cx)(pins:List (Sf×Ss))(H:Hp)(b:Sf):Prop:=H b=Sb/\b≠X.env.locals/\b∉X.fs/\(b∈X.ex\/X.s₀.heap.objs.size<=b)/\(∀x c,X.env.cells.lookup x=Sa c->c≠b)/\∀p∈X.pn++pins,p.1≠b
theorem Inv.fpOk{X:Cx}{a:List (Sf×Ss)}{σ:St}{H f:Hp}{s:Sg}{b:Sf}(I:Inv X a σ H s)(d:s.heap.objs.size<=b)(g:f b=Sb):FpOk X a f b:=by
 show⟨g,cJ (aR I.lt d),I.nofs d,.inr (cA I.sz d),λx c e z=>?_,λp h z=>?_⟩
 .let⟨v,q⟩:=I.cell x c e;show absurd (aR q.lt (by rw[z];show d)) (fE _)
 .exact absurd (aR (aO (I.pin p h).1) (by rw[z];show d)) (fE _)
structure Turn(P:Sh)(w:Si)(K:SH)(tg:Sl)(J:It)(fp:List Sf)(it:Sf)(tn:Nat->Sk->Prop):Prop where
 mem:it∈fp
 obj:∀i h,tn i h->∀b∈fp,∃o,h.get? b=Sa o/\∀v,o.data≠.cell v
 keep:∀i h h',tn i h->(∀b∈fp,∀o,h.get? b=Sa o->h'.get? b=Sa o)->tn i h'
 item:∀(X:Cx),X.prog=P->X.w=w->X.K=K->X.calm=Sc -> ∀(i:Nat) (pins:List (Sf×Ss)) (s:Sg) (σ : St) (H:Hp) (E:Se->Sg->Prop),Inv X pins σ H s->(∀b∈fp,FpOk X pins H b)->tn i s.heap->J.go i H ->
  Sm (So P w) X.A (pyNext (.ref it)) (λr s1 => ∃u,r=Sa u /\
   Sm (So P w) X.A (letOwnedTupleGo tg (.ref it) u) (λ_ s2=>∃x H',Inv X pins σ H' s2/\RelV x u/\J.yld i H x H'/\tn (i+1) s2.heap/\∀b∈fp,H' b=Sb) E s1) E s
 done:∀(X:Cx),X.prog=P->X.w=w->X.K=K->X.calm=Sc -> ∀(i:Nat) (pins:List (Sf×Ss)) (s:Sg) (σ : St) (H:Hp) (E:Se->Sg->Prop),Inv X pins σ H s->(∀b∈fp,FpOk X pins H b)->tn i s.heap->J.stop i H ->
  Sm (So P w) X.A (pyNext (.ref it)) (λr s1=>r=Sb/\Inv X pins σ H s1) E s
 self:∀(A:Sj)(i:Nat)(s:Sg)(Q:Se->Sg->Prop)(E:Se->Sg->Prop),tn i s.heap->Q (.ref it) s->Sm (So P w) A (pyIter (.ref it)) Q E s
abbrev TI:=St->Hp->(It->Hp->Prop)->Prop
def PIE(X:Cx)(pins:List (Sf×Ss))(σ:St)(tg:Sl)(R:It->Hp->Prop)(itv:Se)(s2:Sg):Prop:=
 ∃(it:Sf)(fp:List Sf)(tn:Nat->Sk->Prop)(J:It)(H':Hp),itv=.ref it/\Inv X pins σ H' s2/\Turn X.prog X.w X.K tg J fp it tn/\tn 0 s2.heap/\(∀b∈fp,FpOk X pins H' b)/\R J H'
def PI(X:Cx)(tg iter:Sl)(wi:TI):Prop:=
 ∀(pins:List (Sf×Ss)) (s:Sg) (σ : St) (H:Hp) (R:It->Hp->Prop),Inv X pins σ H s->wi σ H R ->
  Sm (So X.prog X.w) X.A (Sw iter X.env) (λv s1=>Sm (So X.prog X.w) X.A (pyIter v) (PIE X pins σ tg R) X.xe s1) X.xe s
theorem uD(c:s.heap.get? it=Sa o)(d:o.cls = .type n)(hd:o.data = .fields vs)
  (e:["enumerate","zip","dict_itemiterator","dict_reverseitemiterator","odict_iterator","itertools.zip_longest","itertools.pairwise"].contains n=Sd) (a:Q () s):Sm M A (letOwnedTupleGo b (.ref it) u) Q E s:=by
 unfold letOwnedTupleGo;grind[aC,aA,wpAny_load]
noncomputable def Itl(K:SH)(a:Sf):It:=⟨λi H=>∃xs x,SqL K H a xs/\xs[i]? = Sa x,λi H x H'=>H'=H/\∀xs,SqL K H a xs->xs[i]? = Sa x,λi H=>∃xs,SqL K H a xs/\xs.length<=i⟩
noncomputable def Itt(K:SH)(a:Sf):It:=⟨λi H=>∃xs x,SqT K H a xs/\xs[i]? = Sa x,λi H x H'=>H'=H/\∀xs,SqT K H a xs->xs[i]? = Sa x,λi H=>∃xs,SqT K H a xs/\xs.length<=i⟩
noncomputable def Itr(lo:Int)(n:Nat):It:=⟨λi _=>i<n,λi H x H'=>H'=H/\x=.int (lo+i),λi _=>n<=i⟩
theorem qQg{K:SH}(a it:Sf):Turn P w K N (Itl K a) [it] it (λi h=>h.IsListIter it a i) where
 mem:=by simp
 obj:=λi h st b g=>by
  let e:b=it:=by simpa using g
  subst e;let⟨o,e,c,d⟩:=st;show⟨o,e,λv z=>by rw[d]at z;cases z⟩
 keep:=λi h l st k=>st.at λo e=>k it ∅ o e
 item:=by
  intro X q r t M i f s σ H E I m st y;subst q r t;let⟨O,x,n,A⟩:=y;let⟨B,C,p,Q⟩:=I.list n;let⟨u,R,S⟩:=C.get A;let⟨D,F,T,G,J,L⟩:=m it ∅;show wpAny_pyNext_list_item st p.isList (x:=u) (by simpa using R) λl j U=>?_;let V:Inv X f σ H {s with heap:=l}:=I.turned (t':=s.toks) (λb o g e=>(U.2 b g).trans e) D F G J L;let⟨o,e,c,d⟩:=id j;show⟨u,rfl,uD (s:={s with heap:=l}) e c d ⋯ ⟨x,H,V,S,⟨rfl,λys Y=>by rw[I.list_inj Y n];show A⟩,j,λb g=>(m b g).1⟩⟩
 done:=by
  intro X q r t M i f s σ H E I m st y;subst q r t;let⟨O,n,A⟩:=y;let⟨B,C,p,Q⟩:=I.list n;let⟨D,F,T,G,J,L⟩:=m it ∅;let hl:=C.length;show wpAny_pyNext_list_end (I.ok.hd M) st p.isList (by simp;lia) λl Z=>⟨rfl,I.turned (t':=s.toks) (λb o g e=>Z b o g e) D F G J L⟩
 self:=λ_ _ _ _ _ st h=>wpAny_pyIter_listiter st h
theorem qP8{K:SH}(a it:Sf):Turn P w K N (Itt K a) [it] it (λi h=>h.IsTupleIter it a i) where
 mem:=by simp
 obj:=λi h st b g=>by
  let e:b=it:=by grind
  subst e;let⟨o,e,c,d⟩:=st;grind
 keep:=λi h m st k=>st.at λo e=>k it ∅ o e
 item:=by
  intro X r t y M i f s σ H E I n st A;subst r t y;let⟨O,x,q,B⟩:=A;let⟨j,C,p,Q⟩:=I.tuple q;let⟨u,R,S⟩:=C.get B;let⟨D,F,T,G,J,L⟩:=n it ∅;show wpAny_pyNext_tuple_item st (show s.heap.IsTuple a j.toArray from p) (x:=u) (by grind) λm l U=>?_;let V:Inv X f σ H {s with heap:=m}:=I.turned (t':=s.toks) (λb o g e=>(U.2 b g).trans e) D F G J L;let⟨o,e,c,d⟩:=id l;show⟨u,rfl,uD (s:={s with heap:=m}) e c d ⋯ ⟨x,H,V,S,⟨rfl,λys Y=>by rw[I.tuple_inj Y q];grind⟩,l,λb g=>(n b g).1⟩⟩
 done:=by
  intro X r t y M i f s σ H E I n st A;subst r t y;let⟨O,q,B⟩:=A;let⟨j,C,p,Q⟩:=I.tuple q;let⟨D,F,T,G,J,L⟩:=n it ∅;let hl:=C.length;show wpAny_pyNext_tuple_end (I.ok.hd M) st (show s.heap.IsTuple a j.toArray from p) (by grind) λm Z=>⟨rfl,I.turned (t':=s.toks) (λb o g e=>Z b o g e) D F G J L⟩
 self:=λ_ _ _ _ _ st h=>wpAny_pyIter_tupleiter st h
theorem qP9{K:SH}(it:Sf)(lo:Int)(n:Nat):Turn P w K B (Itr lo n) [it] it (λi h=>IsRangeIter h it (lo+(i:Nat)*1) ((n:Int)-(i:Nat)) 1) where
 mem:=by simp
 obj:=λi h st b c=>by
  grind
 keep:=λi h f st k=>k it ∅ _ st
 item:=by
  intro X j l m p i a s σ H E I g st q;subst j l m;let⟨r,u,D,x,y,A⟩:=g it ∅;let W:=Walks.range (prog:=X.prog) (w:=X.w) (I.ok.hd p) it lo 1 n;show W.item i s _ _ q st λv f tk F d G=>?_;let⟨t,rfl⟩:=F;let J:Inv X a σ H {s with heap:=f,toks:=tk}:=I.turned (λb o c e=>G b o (by grind) e) r u x y A;show⟨_,rfl,uD (s:={s with heap:=f,toks:=tk}) (n:="range_iterator") d rfl rfl ⋯ ⟨.int (lo+i),H,J,⟨t,?_⟩,⟨rfl,rfl⟩,d,λb c=>(g b c).1⟩⟩;simp
 done:=by
  intro X j l m p i a s σ H E I g st q;subst j l m;let⟨r,u,D,x,y,A⟩:=g it ∅;show wpAny_pyNext_range_end (I.ok.hd p) st (by let:n<=i:=q;lia) λf L=>⟨rfl,I.turned (t':=s.toks) (λb o c e=>L b o c e) r u x y A⟩
 self:=λ_ _ _ _ _ st h=>wpAny_pyIter_rangeiter st h
def iList(K:SH)(tl:TE):TI:=λσ H R=>tl σ H λx H1=>∃a,x=.ref a/\(∃xs,SqL K H1 a xs)/\R (Itl K a) H1
def iTup(K:SH)(tl:TE):TI:=λσ H R=>tl σ H λx H1=>∃a,x=.ref a/\(∃xs,SqT K H1 a xs)/\R (Itt K a) H1
theorem ze{g:TE}(i:PE X l g):PI X tg l (iList X.K g):=by
 intro c s σ H R I h;show thn (i c s σ H _ I h) λv d hq_=>?_;let⟨x,j,f,k,m⟩:=hq_;obtain⟨a,e,⟨u,n⟩,q⟩:=m;subst e;cases k;let⟨r,w,p,y⟩:=f.list n;show wpAny_pyIter_list p.isList ?_;show⟨d.heap.objs.size,[d.heap.objs.size],_,_,j,rfl,f.kept (t':=d.toks) λb o e=>aG _ e,qQg a _,⟨_,aT _ rfl,rfl,rfl⟩,λb t=>?_,q⟩;let e:b=d.heap.objs.size:=by simpa using t
 subst e;show f.fpOk (aI _) (f.hok.fresh (aI _))
theorem kR(j:PE X l i):PI X tg l (iTup X.K i):=by
 intro c s σ H R I h;show thn (j c s σ H _ I h) λv d hq_=>?_;let⟨x,k,f,m,n⟩:=hq_;obtain⟨a,e,⟨u,r⟩,q⟩:=n;subst e;cases m;let⟨g,w,p,y⟩:=f.tuple r;show wpAny_pyIter_tuple (show d.heap.IsTuple a g.toArray from p) ?_;show⟨d.heap.objs.size,[d.heap.objs.size],_,_,k,rfl,f.kept (t':=d.toks) λb o e=>aG _ e,qP8 a _,⟨_,aT _ rfl,rfl,rfl⟩,λb t=>?_,q⟩;let e:b=d.heap.objs.size:=by simpa using t
 subst e;show f.fpOk (aI _) (f.hok.fresh (aI _))
theorem qVr{a:List (Sf×Ss)}{σ : St}{H:Hp}{s:Sg}{R:It->Hp->Prop}{E:Se->Sg->Prop}{lo hi:Int}{t u v:Tok}{tk:Nat}(I:Inv X a σ H s)(d : -(2^62)<=lo)(f:lo<2^62)(g : -(2^62)<=hi)(h:hi<2^62)
  (q:R (Itr lo (hi-lo).toNat) H):Sm (So X.prog X.w) X.A (pyIter (.ref s.heap.objs.size)) (PIE X a σ tg R) E {s with heap:=s.heap.push {cls:=.type "range",data:=.fields #[.int lo t,.int hi u,.int 1 v]},toks:=tk}:=by
 show wpAny_pyIter_range (IsRange.new ..) (small_one d f g h) ?_;let c:Inv X a σ H {s with heap:=s.heap.push {cls:=.type "range",data:=.fields #[.int lo t,.int hi u,.int 1 v]},toks:=tk}:=I.kept λb o e=>aG _ e
 show⟨(s.heap.push {cls:=.type "range",data:=.fields #[.int lo t,.int hi u,.int 1 v]}).objs.size,[(s.heap.push {cls:=.type "range",data:=.fields #[.int lo t,.int hi u,.int 1 v]}).objs.size],_,_,H,rfl,
  c.kept (t':=tk) λb o e=>aG _ e,qP9 _ lo (hi-lo).toNat,?_,λb i=>?_,q⟩
 .let j:lo+((0:Nat):Int)*1=lo:=by simp
  let k:(((hi-lo).toNat:Nat):Int)-((0:Nat):Int)=Builtin.Range.rangeSize lo hi 1:=by grind[rangeSize_one]
  change IsRangeIter _ _ (lo+((0:Nat):Int)*1) ((((hi-lo).toNat:Nat):Int)-((0:Nat):Int)) 1;rw[j,k];show aT _ rfl
 .let e:b=(s.heap.push {cls:=.type "range",data:=.fields #[.int lo t,.int hi u,.int 1 v]}).objs.size:=by grind
  subst e;show c.fpOk (aI _) (c.hok.fresh (aI _))
def iRng1(ta:TA):TI:=λσ H R=>ta σ H λvs H1=>∃j:Int,vs=[.int j]/\-(2^62)<=j/\j<2^62/\R (Itr 0 j.toNat) H1
theorem xO(g:Gl X "range")(i:X.mg "range"=Sb)(k:PA X [a] f)(l:Sv [a] X.env=[(Sd,Sw a X.env)]:=by rfl):PI X tg (.Call (.Name "range" p) [a] [] b) (iRng1 f):=by
 intro c s σ H R I h;show Call_ (xN I g i boot_range (cN (thn (k b c s σ H _ I h) λv w hq_=>?_) l rfl));let⟨x,y,m,n,d⟩:=hq_;let⟨j,e,d,o,q⟩:=d;subst e;cases n with
 |cons r u=>
  cases u;let⟨t,rfl⟩:=r;show call_range_1 (qVr m ∎ ∎ d o (by simpa using q))
def tFor(wi:TI)(g:TG)(tb:TS):TS:=λD σ H=>wi σ H λJ H1 => ∃W:Nat->Nat->St->Hp->Prop,(∃m,W 0 m σ H1) /\ ∀i m σ H,W i m σ H ->
 (J.stop i H/\D.nx σ H)\/(J.go i H/\∃N:St->Hp->Prop,(∀σ' H',N σ' H'->∃m',m'<m/\W (i+1) m' σ' H')/\∀x H',J.yld i H x H'->g x σ H' λσ2 H2=>tb {D with nx:=N,ct:=N,bk:=D.nx} σ2 H2)
noncomputable def vI(fp:List Sf)(h:Sk):List (Sf×Ss):=fp.filterMap λb=>(h.get? b).map λo=>(b,o)
theorem uE(c:b∈a)(e:h.get? b=Sa o):(b,o)∈vI a h:=fW.mpr ⟨b,c,by rw[e];rfl⟩
theorem qTe(c:p∈vI a h):p.1∈a/\h.get? p.1=Sa p.2:=by
 let⟨b,d,e⟩:=fW.mp c;cases q:h.get? b<;>grind
theorem Inv.pinned{a:List (Sf×Ss)}{σ:St}{H:Hp}{s:Sg}{c:List Sf}(I:Inv X a σ H s)(h:∀b∈c,FpOk X a H b)(i:∀b∈c,∃o,s.heap.get? b=Sa o/\∀v,o.data≠.cell v):Inv X (a++vI c s.heap) σ H s:=
 I.pins_of λp j=>(aL.mp j).elim (λz=>I.pin p (bI _ z)) λz=>by
  let⟨f,e⟩:=qTe z;let⟨k,l,m,_⟩:=h p.1 f;grind
theorem Inv.unpinned{a pl:List (Sf×Ss)}{σ:St}{H:Hp}{s:Sg}(I:Inv X (a++pl) σ H s):Inv X a σ H s:=I.pins_of λp b=>I.pin p (bI _ (aY _ b))
theorem zy{g:TG}(F:PassesOwn (So X.prog X.w) X.A X.env X.xe)(hc:X.calm=Sc)(hi:PI X tg j wi)(hg:PG X tg g)(k:PSs X B tb)(hs:∀x,SC j X.env x=pure x:=by intro _;rfl):PS X (.For tg j B [] Q) (tFor wi g tb):=by
 intro a s σ H D I h;show wpAny_For (thn (hi a s σ H _ I h) λv s1 h1=>thn h1 λa0 s2 h2=>?_) hs;obtain⟨it,G,tn,J,H2,e,I2,T,R,f2,W,⟨m0,w0⟩,K⟩:=h2;subst e;let l:∀{z:Hp},(∀b∈G,z b=Sb)->∀b∈G,FpOk X a z b:=λhn b k=>⟨hn b k,(f2 b k).2⟩;show codeAny_forLoop_any (λn s'=>∃i p z,Inv X a p z s'/\tn i s'.heap/\(∀b∈G,z b=Sb)/\W i n p z) ?_ m0 ⟨0,σ,H2,I2,R,λb k=>(f2 b k).1,w0⟩;rintro n s3 ⟨i,q,P,I3,L,M,w3⟩;rcases K i n q P w3 with ⟨stop,qn⟩|⟨go,N,hN,step⟩
 .refine gC F (thn (T.done X rfl rfl rfl hc i a s3 q P X.xe I3 (l M) L stop) λr s4 hq_=>?_);let⟨S,I4⟩:=hq_;subst S;show wpAny_execs_nil ⟨q,P,I4,qn⟩
 .refine gC F (thn (T.item X rfl rfl rfl hc i a s3 q P X.xe I3 (l M) L go) λr s4 hq_=>?_);let⟨u,S,h4⟩:=hq_;subst S;show gC F (thn h4 λ_ s5 hq_=>?_);let⟨x,H5,I5,r5,y5,E,U⟩:=hq_;let V:=I5.pinned (l U) (T.obj _ _ E);show gC F (thn (hg _ s5 q H5 x u _ V r5 (step x H5 y5)) λ_ s6 hq_=>?_);let⟨Y,H6,I6,q6⟩:=hq_;show gC F (thn (k _ s6 Y H6 _ I6 q6) λf Z C=>?_);let again:∀{c:St}{t:Hp},Inv X (a++vI G s5.heap) c t Z->N c t->∃m,m<n/\∃i p z,Inv X a p z Z/\tn i Z.heap/\(∀b∈G,z b=Sb)/\W i m p z:=λ{c t}y O=>by
   let⟨m',hm,w7⟩:=hN c t O;show⟨m',hm,i+1,c,t,y.unpinned,T.keep _ _ _ E λb k o e=>(y.pin (b,o) (bI _ (bI _ (uE k e)))).1,λb k=>?_,w7⟩;let⟨o,e,d⟩:=T.obj _ _ E b k;show(y.pin (b,o) (bI _ (bI _ (uE k e)))).2.1
  cases f with
  |next=>obtain⟨c,t,y,O⟩:=C;show again y O
  |cont=>obtain⟨c,t,y,O⟩:=C;show again y O
  |brk=>obtain⟨c,t,y,C⟩:=C;show⟨c,t,y.unpinned,C⟩
  |ret v=>obtain⟨x7,c,t,y,r7,C⟩:=C;show⟨x7,c,t,y.unpinned,r7,C⟩
theorem qX0{K:SH}{a:Sf}{xs:List V}{g:TG}{j:TS}{D:Ends}{σ : St}{H:Hp}(Pv:Nat->St->Hp->Prop)(h0:Pv 0 σ H)(l:∀i σ H,i<=xs.length->Pv i σ H->SqL K H a xs)(n:∀i x σ H,xs[i]? = Sa x->Pv i σ H->g x σ H λb h=>j { D with nx:=Pv (i+1),ct:=Pv (i+1),bk:=D.nx } b h)(o:∀ σ H,Pv xs.length σ H->D.nx σ H):∃W:Nat->Nat->St->Hp->Prop,(∃m,W 0 m σ H) /\ ∀i m σ H,W i m σ H ->
   ((Itl K a).stop i H/\D.nx σ H)\/((Itl K a).go i H/\∃N:St->Hp->Prop,(∀c d,N c d->∃k,k<m/\W (i+1) k c d)/\∀x d,(Itl K a).yld i H x d->g x σ d λb h=>j {D with nx:=N,ct:=N,bk:=D.nx} b h):=by
 show⟨λi m σ H=>m=xs.length-i/\i<=xs.length/\Pv i σ H,⟨xs.length,∅,bG _,h0⟩,?_⟩;rintro i m σ H ⟨rfl,r,p⟩;let q:=l i σ H r p;by_cases f:i<xs.length
 .refine .inr ⟨⟨xs,xs[i],q,by simp[f]⟩,Pv (i+1),λc d s=>⟨xs.length-(i+1),∎,rfl,f,s⟩,λx d y=>?_⟩;let⟨e,y⟩:=y;subst e;show n i x σ _ (y xs q) p
 .let e:i=xs.length:=by lia
  subst e;show .inl ⟨⟨xs,q,aI _⟩,o σ H p⟩
theorem qUc{lo:Int}{n:Nat}{g:TG}{h:TS}{D:Ends}{σ : St}{H:Hp}(Pv:Nat->St->Hp->Prop)(h0:Pv 0 σ H)(k:∀i σ H,i<n->Pv i σ H->g (.int (lo+i)) σ H λa f=>h { D with nx:=Pv (i+1),ct:=Pv (i+1),bk:=D.nx } a f)(l:∀ σ H,Pv n σ H->D.nx σ H):∃W:Nat->Nat->St->Hp->Prop,(∃m,W 0 m σ H) /\ ∀i m σ H,W i m σ H ->
   ((Itr lo n).stop i H/\D.nx σ H)\/((Itr lo n).go i H/\∃N:St->Hp->Prop,(∀b c,N b c->∃j,j<m/\W (i+1) j b c)/\∀x c,(Itr lo n).yld i H x c->g x σ c λa f=>h {D with nx:=N,ct:=N,bk:=D.nx} a f):=by
 show⟨λi m σ H=>m=n-i/\i<=n/\Pv i σ H,⟨n,∅,bG _,h0⟩,?_⟩;rintro i m σ H ⟨rfl,q,p⟩;by_cases d:i<n
 .refine .inr ⟨d,Pv (i+1),λb c o=>⟨n-(i+1),∎,rfl,d,o⟩,λx c y=>?_⟩;let⟨e,y⟩:=y;subst e y;show k i σ _ d p
 .let e:i=n:=by lia
  subst e;show .inl ⟨aI _,l σ H p⟩
abbrev R2:=V->V->Hp->VK->Prop
def OpR(X:Cx)(f:Se->Se->Sem Se)(r:R2):Prop:=
 ∀(pins:List (Sf×Ss)) (s:Sg) (σ : St) (H:Hp) (x y:V) (v u:Se) (Q:VK),Inv X pins σ H s->RelV x v->RelV y u->r x y H Q ->
  Sm (So X.prog X.w) X.A (f v u) (EP X pins σ Q) X.xe s
def UnR(X:Cx)(f:Se->Sem Se)(r:V->Hp->VK->Prop):Prop:=
 ∀(pins:List (Sf×Ss)) (s:Sg) (σ : St) (H:Hp) (x:V) (v:Se) (Q:VK),Inv X pins σ H s->RelV x v->r x H Q ->
  Sm (So X.prog X.w) X.A (f v) (EP X pins σ Q) X.xe s
def CallR(X:Cx)(f:Se)(r:List V->Hp->VK->Prop):Prop:=
 ∀(pins:List (Sf×Ss)) (s:Sg) (σ : St) (H:Hp) (xs:List V) (us:List Se) (Q:VK),Inv X pins σ H s->Vals xs us->r xs H Q ->
  Sm (So X.prog X.w) X.A (call f us) (EP X pins σ Q) X.xe s
def TruR(X:Cx)(r:V->Hp->(Bool->Hp->Prop)->Prop):Prop:=
 ∀(pins:List (Sf×Ss)) (s:Sg) (σ : St) (H:Hp) (x:V) (v:Se) (Q:Bool->Hp->Prop),Inv X pins σ H s->RelV x v->r x H Q ->
  Sm (So X.prog X.w) X.A (truthy v) (TP X pins σ Q) X.xe s
def tOp(r:R2)(ta tb:TE):TE:=λσ H Q=>ta σ H λx H1=>tb σ H1 λy H2=>r x y H2 Q
def tUn(r:V->Hp->VK->Prop)(ta:TE):TE:=λσ H Q=>ta σ H λx H1=>r x H1 Q
def rI(C:Int->Int->Prop)(g:Int->Int->V):R2:=λx y H Q=>∃i j,x=.int i/\y=.int j/\C i j/\Q (g i j) H
def rI0(g:Int->Int->V):R2:=λx y H Q=>∃i j,x=.int i/\y=.int j/\Q (g i j) H
def rU(g:Int->V):V->Hp->VK->Prop:=λx H Q=>∃i,x=.int i/\Q (g i) H
theorem binT(k:PE X a ta)(l:PE X b tb){c:List (Sf×Ss)}{s:Sg}{σ:St}{H:Hp}{R:V->V->Hp->Prop}(I:Inv X c σ H s)(h:ta σ H λx j=>tb σ j λy d=>R x y d){Q:Se->Sg->Prop}{f:Se->Se->Sem Se}(m:∀v u i x y d,Inv X c σ d i->RelV x v->RelV y u->R x y d->Sm (So X.prog X.w) X.A (f v u) Q X.xe i):Sm (So X.prog X.w) X.A (Sw a X.env) (λv e=>Sm (So X.prog X.w) X.A (Sw b X.env) (λu g=>Sm (So X.prog X.w) X.A (f v u) Q X.xe g) X.xe e) X.xe s:=by
 show thn (k c s σ H _ I h) λv n hq_=>?_;let⟨x,j,o,p,q⟩:=hq_;show thn (l c n σ j _ o q) λu i hq_=>?_;let⟨y,d,r,t,z⟩:=hq_;show m v u i x y d r p t z
theorem zK(d:OpR X (SA op) r)(e:PE X a ta)(f:PE X b tb):PE X (.BinOp a op b pos) (tOp r ta tb):=by
 intro c s σ H Q I h;show wpAny_BinOp (binT e f I h λv u g x y i j k l q=>d c g σ i x y v u Q j k l q)
theorem xB(c:UnR X (unaryOp op) r)(d:PE X a ta):PE X (.UnaryOp op a pos) (tUn r ta):=by
 intro b s σ H Q I h;show UnaryOp_ (thn (d b s σ H _ I h) λv e hq_=>?_);let⟨x,f,g,i,j⟩:=hq_;show c b e σ f x v Q g i j
theorem opI{g:Int->Int->Int}(rule:∀(i j:Int)(t u:Tok)(s:Sg)(Q:Se->Sg->Prop)(E:Se->Sg->Prop),C i j->Q (.int (g i j) s.toks) {s with toks:=s.toks+1}->Sm (So X.prog X.w) X.A (f (.int i t) (.int j u)) Q E s):OpR X f (rI C λi j=>.int (g i j)):=by
 intro a s σ H x y v u Q I b c h;let⟨i,j,rfl,rfl,d,q⟩:=h;let⟨t,rfl⟩:=b;let⟨e,rfl⟩:=c;show rule i j t e s _ _ d ⟨.int (g i j),H,I.tok _,⟨_,rfl⟩,q⟩
theorem opI0{g:Int->Int->Int}(rule:∀(i j:Int)(t u:Tok)(s:Sg)(Q:Se->Sg->Prop)(E:Se->Sg->Prop),Q (.int (g i j) s.toks) {s with toks:=s.toks+1}->Sm (So X.prog X.w) X.A (f (.int i t) (.int j u)) Q E s):OpR X f (rI0 λi j=>.int (g i j)):=by
 intro a s σ H x y v u Q I b c h;let⟨i,j,rfl,rfl,q⟩:=h;let⟨t,rfl⟩:=b;let⟨d,rfl⟩:=c;show rule i j t d s _ _ ⟨.int (g i j),H,I.tok _,⟨_,rfl⟩,q⟩
theorem opB0{g:Int->Int->Bool}(rule:∀(i j:Int)(t u:Tok)(s:Sg)(Q:Se->Sg->Prop)(E:Se->Sg->Prop),Q (.bool (g i j)) s->Sm (So X.prog X.w) X.A (f (.int i t) (.int j u)) Q E s):OpR X f (rI0 λi j=>.bl (g i j)):=by
 intro a s σ H x y v u Q I b c h;let⟨i,j,rfl,rfl,q⟩:=h;let⟨t,rfl⟩:=b;let⟨d,rfl⟩:=c;show rule i j t d s _ _ ⟨.bl (g i j),H,I,rfl,q⟩
def CDiv(i j:Int):Prop:=0<j/\j<1073741824
def CPow(i j:Int):Prop:=0<=j/\j<=1000000/\i.natAbs<2^64
def CMul(i j:Int):Prop:=(-(2^64)<i/\i<2^64)\/(-(2^64)<j/\j<2^64)
theorem CMul.ok{i j:Int}(h:CMul i j):IntMulOk i j:=by
 rcases h with ⟨a,b⟩|⟨a,b⟩
 .exact .of_left (intBits_le_64 a b)
 .exact .of_right (intBits_le_64 a b)
theorem zu:OpR X (SA .Add) (rI0 λi j=>.int (i+j)):=opI0 λ_ _ _ _ _ _ _ q=>add_int q
theorem vJ:OpR X (SA .Sub) (rI0 λi j=>.int (i-j)):=opI0 λ_ _ _ _ _ _ _ q=>sub_int q
theorem xC:OpR X (SA .Mult) (rI CMul λi j=>.int (i*j)):=opI λ_ _ _ _ _ _ _ a q=>mul_int q a.ok
theorem oW:OpR X (SA .FloorDiv) (rI CDiv λi j=>.int (i / j)):=opI λi j _ _ _ _ _ a q=>by
 let b:(0:Int)<j:=a.1;let c:j<1073741824:=a.2;show floordiv_int ∎ (by rw[Int.fdiv_eq_ediv_of_nonneg i ∎];show q) (.inl (PyProof.noPylong_small ∎))
theorem xU:OpR X (SA .Mod) (rI (λ_ j=>0<j) λi j=>.int (i%j)):=opI λi j _ _ _ _ _ a q=>by
 let b:(0:Int)<j:=a;show mod_int' ∎ (by rw[Int.fmod_eq_emod_of_nonneg i ∎];show q)
theorem xV:OpR X (SA .Pow) (rI CPow λi j=>.int (i^j.toNat)):=opI λ_ _ _ _ _ _ _ a q=>pow_int_small a.1 a.2.1 a.2.2 q
theorem unI{g:Int->Int}(rule:∀(i:Int)(t:Tok)(s:Sg)(Q:Se->Sg->Prop)(E:Se->Sg->Prop),Q (.int (g i) s.toks) {s with toks:=s.toks+1}->Sm (So X.prog X.w) X.A (f (.int i t)) Q E s):UnR X f (rU λi=>.int (g i)):=by
 intro a s σ H x v Q I b h;let⟨i,rfl,q⟩:=h;let⟨t,rfl⟩:=b;show rule i t s _ _ ⟨.int (g i),H,I.tok _,⟨_,rfl⟩,q⟩
theorem xD:UnR X (unaryOp .USub) (rU λi=>.int (-i)):=unI λ_ _ _ _ _ q=>neg_int q
noncomputable def scal:V->V->Bool
 |.non,.non=>Sc|.non,.int _=>Sc|.int _,.non=>Sc|.non,.bl _=>Sc|.bl _,.non=>Sc|.non,.str _=>Sc|.str _,.non=>Sc
 |.int _,.int _=>Sc|.bl _,.bl _=>Sc|.str _,.str _=>Sc|.byt _,.byt _=>Sc
 |.int _,.str _=>Sc|.str _,.int _=>Sc|.bl _,.str _=>Sc|.str _,.bl _=>Sc
 |_,_=>Sd
def rEq:R2:=λx y H Q=>scal x y=Sc/\Q (.bl (decide (x=y))) H
def rNe:R2:=λx y H Q=>scal x y=Sc/\Q (.bl (!decide (x=y))) H
theorem oX{i j:Int}:decide (V.int i=V.int j)=(i == j):=by
 rw[eR];simp
theorem oY{i j:Bool}:decide (V.bl i=V.bl j)=(i == j):=by
 rw[eR];simp
theorem oZ:decide (V.str i=V.str j)=(i == j):=by
 rw[eR];simp
theorem oa:decide (V.byt i=V.byt j)=(i.toList == j.toList):=by
 rw[eR];simp
theorem zh{a:List (Sf×Ss)}{σ:St}{H:Hp}{s:Sg}{Q:VK}{k b:Bool}(I:Inv X a σ H s)(q:Q (.bl k) H)(e:k=b):EP X a σ Q (.bool b) s:=by
 subst e;show⟨.bl k,H,I,rfl,q⟩
theorem yA:OpR X (SB .Eq) rEq:=by
 intro e s σ H x y v u Q I d a h;let⟨c,q⟩:=h;cases x with
 |non=>
  cases d;cases y with
  |non=>cases a;show PySem.EqNone.eq_none_none (zh I q ∅)
  |bl j=>cases a;show PySem.EqNone.eq_none_bool (zh I q ∅)
  |int j=>obtain⟨b,rfl⟩:=a;show PySem.EqNone.eq_none_int (zh I q ∅)
  |str j=>obtain⟨b,rfl⟩:=a;show PySem.EqNone.eq_none_str (zh I q ∅)
  |_=>show absurd (show Sd=Sc from c) aM
 |bl i=>
  cases d;cases y with
  |non=>cases a;show PySem.EqNone.eq_bool_none (zh I q ∅)
  |bl j=>cases a;show eq_bool (zh I q oY)
  |str j=>obtain⟨b,rfl⟩:=a;show PySem.EqMixed.eq_bool_str (zh I q ∅)
  |_=>show absurd (show Sd=Sc from c) aM
 |int i=>
  let⟨t,rfl⟩:=d;cases y with
  |non=>cases a;show PySem.EqNone.eq_int_none (zh I q ∅)
  |int j=>obtain⟨b,rfl⟩:=a;show eq_int (zh I q oX)
  |str j=>obtain⟨b,rfl⟩:=a;show PySem.EqMixed.eq_int_str (zh I q ∅)
  |_=>show absurd (show Sd=Sc from c) aM
 |str i=>
  let⟨t,rfl⟩:=d;cases y with
  |non=>cases a;show PySem.EqNone.eq_str_none (zh I q ∅)
  |bl j=>cases a;show PySem.EqMixed.eq_str_bool (zh I q ∅)
  |int j=>obtain⟨b,rfl⟩:=a;show PySem.EqMixed.eq_str_int (zh I q ∅)
  |str j=>obtain⟨b,rfl⟩:=a;show eq_str (zh I q oZ)
  |_=>show absurd (show Sd=Sc from c) aM
 |byt i=>
  let⟨t,rfl⟩:=d;cases y with
  |byt j=>obtain⟨b,rfl⟩:=a;show PySem.W.eq_bytes (zh I q oa)
  |_=>show absurd (show Sd=Sc from c) aM
 |_=>cases y<;>show absurd (show Sd=Sc from c) aM
theorem wBx:OpR X (SB .NotEq) rNe:=by
 intro e s σ H x y v u Q I d a h;let⟨c,q⟩:=h;cases x with
 |non=>
  cases d;cases y with
  |non=>cases a;show PySem.EqNone.ne_none_none (zh I q ∅)
  |bl j=>cases a;show PySem.EqNone.ne_none_bool (zh I q ∅)
  |int j=>obtain⟨b,rfl⟩:=a;show PySem.EqNone.ne_none_int (zh I q ∅)
  |str j=>obtain⟨b,rfl⟩:=a;show PySem.EqNone.ne_none_str (zh I q ∅)
  |_=>show absurd (show Sd=Sc from c) aM
 |bl i=>
  cases d;cases y with
  |non=>cases a;show PySem.EqNone.ne_bool_none (zh I q ∅)
  |bl j=>cases a;show ne_bool (zh I q (congrArg not oY))
  |str j=>obtain⟨b,rfl⟩:=a;show PySem.EqMixed.ne_bool_str (zh I q ∅)
  |_=>show absurd (show Sd=Sc from c) aM
 |int i=>
  let⟨t,rfl⟩:=d;cases y with
  |non=>cases a;show PySem.EqNone.ne_int_none (zh I q ∅)
  |int j=>obtain⟨b,rfl⟩:=a;show ne_int (zh I q (congrArg not oX))
  |str j=>obtain⟨b,rfl⟩:=a;show PySem.EqMixed.ne_int_str (zh I q ∅)
  |_=>show absurd (show Sd=Sc from c) aM
 |str i=>
  let⟨t,rfl⟩:=d;cases y with
  |non=>cases a;show PySem.EqNone.ne_str_none (zh I q ∅)
  |bl j=>cases a;show PySem.EqMixed.ne_str_bool (zh I q ∅)
  |int j=>obtain⟨b,rfl⟩:=a;show PySem.EqMixed.ne_str_int (zh I q ∅)
  |str j=>obtain⟨b,rfl⟩:=a;show ne_str (zh I q (congrArg not oZ))
  |_=>show absurd (show Sd=Sc from c) aM
 |byt i=>
  let⟨t,rfl⟩:=d;cases y with
  |byt j=>obtain⟨b,rfl⟩:=a;show PySem.W.ne_bytes (zh I q (congrArg not oa))
  |_=>show absurd (show Sd=Sc from c) aM
 |_=>cases y<;>show absurd (show Sd=Sc from c) aM
theorem xj:OpR X (SB .Lt) (rI0 λi j=>.bl (decide (i<j))):=opB0 λ_ _ _ _ _ _ _ q=>lt_int q
theorem kS:OpR X (SB .Gt) (rI0 λi j=>.bl (decide (j<i))):=opB0 λ_ _ _ _ _ _ _ q=>gt_int q
theorem wD1:OpR X (SB .GtE) (rI0 λi j=>.bl (decide (j<=i))):=opB0 λ_ _ _ _ _ _ _ q=>ge_int q
theorem vK:OpR X (SB .Is) (λx y H Q=>y=.non/\Q (.bl (decide (x=.non))) H):=by
 intro a s σ H x y v u Q I b c h;let⟨rfl,q⟩:=h;cases c;refine is_none_gen (zh I q ?_);cases x <;> first
  |(cases b;rfl)
  |(obtain⟨t,rfl⟩:=b;rfl)
theorem xW:OpR X (SB .IsNot) (λx y H Q=>y=.non/\Q (.bl (!decide (x=.non))) H):=by
 intro a s σ H x y v u Q I b c h;let⟨rfl,q⟩:=h;cases c;refine isnot_none_gen (zh I q ?_);cases x <;> first
  |(cases b;rfl)
  |(obtain⟨t,rfl⟩:=b;rfl)
theorem zO(b:Sl)(h:op≠.In:=by decide)(a:op≠.NotIn:=by decide):Sx op b=Sd:=by
 let c:(op == CmpOp.In)=Sd:=by grind
 let d:(op == CmpOp.NotIn)=Sd:=by grind
 cases b<;>simp[Sx,c,d]
theorem yJ(d:OpR X (SB op) r)(e:PE X a ta)(f:PE X b tb)(g:Sx op b=Sd):PE X (.Compare a [op] [b] pos) (tOp r ta tb):=by
 intro c s σ H Q I h;show wpAny_Compare1 (binT e f I h λv u i x y j k l m q=>d c i σ j x y v u Q k l m q) g
def tTest(t:TE):TT:=λσ H Q=>t σ H λx H'=>∃k,x=.bl k/\Q k H'
theorem zQ(f:OpR X (SB op) r)(g:PE X a ta)(i:PE X b tb)(j:Sx op b=Sd):PT X (.Compare a [op] [b] pos) (tTest (tOp r ta tb)):=by
 intro d s σ H Q I h;show wpAny_isTrue_Compare1 (thn (g d s σ H _ I h) λv l hq_=>?_) j;let⟨x,m,n,o,p⟩:=hq_;show thn (i d l σ m _ n p) λu q hq_=>?_;let⟨y,t,w,A,B⟩:=hq_;show thn (f d q σ t x y v u _ w o A B) λc G hq_=>?_;let⟨z,C,D,E,k,e,F⟩:=hq_;subst e;cases E;show gB ⟨C,D,F⟩
def TruV(K:SH)(x:V)(H:Hp)(k:Bool):Prop:=
 match x with
 |.non=>k=Sd
 |.bl b=>k=b
 |.int i=>k=(i != 0)
 |.str y=>y.length<=Sn/\k=((y.length:Int) != 0)
 |.byt y=>y.size<=Sn/\k=((y.size:Int) != 0)
 |.ref p=>(∃xs,SqL K H p xs/\k=!xs.isEmpty)\/(∃xs,SqT K H p xs/\k=!xs.isEmpty)\/∃kvs,H p=Sa (.dK kvs)/\k=!kvs.isEmpty
 |_=>False
theorem qPx{κ:Type}{kvs:List (κ×V)}{vs:List (κ×Se)}(r:KV kvs vs):(!vs.isEmpty)=!kvs.isEmpty:=by
 cases r<;>rfl
theorem oe(r:Vals xs its):(!its.toArray.isEmpty)=!xs.isEmpty:=by
 cases r<;>simp
theorem vL:(Sn:Nat)<2^63:=by rw[cK];decide
theorem wAw:TruR X (λx H Q=>∃k,TruV X.K x H k/\Q k H):=by
 intro u s σ H x v Q I g h;let⟨k,e,q⟩:=h;let C:=vL;let D:Sn=16777216:=cK;cases x with
 |non=>
  cases g;let a:k=Sd:=e;subst a;show truthy_none ⟨H,I,q⟩
 |bl b=>
  cases g;let a:k=b:=e;subst a;show gB ⟨H,I,q⟩
 |int i=>
  let⟨t,rfl⟩:=g;let a:k=(i != 0):=e;subst a;show PySem.P.truthy_int ⟨H,I,q⟩
 |str y=>
  let⟨t,rfl⟩:=g;obtain⟨A,a⟩:y.length<=Sn/\k=((y.length:Int) != 0):=e;subst a;show PySem.P.truthy_str ∎ ⟨H,I.tok _,q⟩
 |byt y=>
  let⟨t,rfl⟩:=g;obtain⟨A,a⟩:y.size<=Sn/\k=((y.size:Int) != 0):=e;subst a;show PySem.W.truthy_bytes ∎ ⟨H,I.tok _,q⟩
 |ref p=>
  cases g;let a:(∃f,SqL X.K H p f/\k=!f.isEmpty)\/(∃f,SqT X.K H p f/\k=!f.isEmpty)\/∃c,H p=Sa (.dK c)/\k=!c.isEmpty:=e;rcases a with ⟨f,j,a⟩|⟨f,j,a⟩|⟨c,j,a⟩
  .subst a;let⟨n,r,o,z⟩:=I.list j;let d:=r.length;show wpAny_truthy_list o.isList (by simp only[aX];lia) ⟨H,I.tok _,by rw[oe r];show q⟩
  .subst a;let⟨n,r,o,z⟩:=I.tuple j;let d:=r.length;show truthy_tuple o (by simp only[aX];lia) ⟨H,I.tok _,by rw[oe r];show q⟩
  .subst a;obtain⟨z,B,l,r,m⟩:c.length<=Sn/\(p == SG)=Sd/\∃l,KV c l/\s.heap.DictOf (zb X.prog X.w) p l:=I.hok p _ j;let d:c.length=l.length:=dN r;show wpAny_truthy_dict B m ∎ ⟨H,I.tok _,by rw[qPx r];show q⟩
 |_=>show(show False from e).elim
theorem og(e:PE X a ta)(f:∀b,isTrue a X.env b=(do let v <-b;Sy a.pos;Sz [v] (truthy v))):PT X a (λσ H Q=>ta σ H λx d=>∃k,TruV X.K x d k/\Q k d):=by
 intro c s σ H Q I h;show isTrue_plain (thn (e c s σ H _ I h) λv g hq_=>?_) (f _);let⟨x,i,j,l,m⟩:=hq_;show wAw c g σ i x v Q j l m
theorem vals1(r:Vals [x] us):∃u,us=[u]/\RelV x u:=by
 cases r with
 |cons a b=>cases b;show⟨_,rfl,a⟩
theorem vals2(r:Vals [x,y] us):∃u a,us=[u,a]/\RelV x u/\RelV y a:=by
 cases r with
 |cons b c=>
  cases c with
  |cons d e=>cases e;show⟨_,_,rfl,b,d⟩
theorem oh:CallR X (.builtin "abs") (λxs H Q=>∃i,xs=[.int i]/\Q (.int (if i<0 then -i else i)) H):=by
 intro a s σ H xs b Q I r h;let⟨i,rfl,q⟩:=h;let⟨u,rfl,t,rfl⟩:=vals1 r;show call_abs_int λu tk=>⟨.int (if i<0 then -i else i),H,I.tok _,⟨_,rfl⟩,q⟩
theorem oj(c:X.calm=Sc):CallR X (.builtin "max") (λxs H Q=>∃i j,xs=[.int i,.int j]/\Q (.int (if j>i then j else i)) H):=by
 intro b s σ H xs d Q I r h;let⟨i,j,rfl,q⟩:=h;obtain⟨u,e,rfl,⟨t,rfl⟩,⟨f,rfl⟩⟩:=vals2 r;show max_two_ints (I.ok.hd c) λg tk k=>⟨_,H,I.kept k,?_,q⟩;by_cases a:j>i
 .rw [if_pos a,if_pos a];show⟨_,rfl⟩
 .rw [if_neg a,if_neg a];show⟨_,rfl⟩
theorem qUu(c:X.calm=Sc):CallR X (.builtin "min") (λxs H Q=>∃i j,xs=[.int i,.int j]/\Q (.int (if j<i then j else i)) H):=by
 intro b s σ H xs d Q I r h;let⟨i,j,rfl,q⟩:=h;obtain⟨u,e,rfl,⟨t,rfl⟩,⟨f,rfl⟩⟩:=vals2 r;show min_two_ints (I.ok.hd c) λg tk k=>⟨_,H,I.kept k,?_,q⟩;by_cases a:j<i
 .rw [if_pos a,if_pos a];show⟨_,rfl⟩
 .rw [if_neg a,if_neg a];show⟨_,rfl⟩
theorem wR:CallR X (.type "int") (λxs H Q=>(∃i,xs=[.int i]/\Q (.int i) H)\/∃k,xs=[.bl k]/\Q (.int (if k then 1 else 0)) H):=by
 intro a s σ H xs c Q I r h;rcases h with ⟨i,rfl,q⟩|⟨k,rfl,q⟩
 .let⟨u,rfl,t,rfl⟩:=vals1 r;show call_int_int ⟨.int i,H,I,⟨_,rfl⟩,q⟩
 .let⟨u,rfl,b⟩:=vals1 r;cases b;show call_int_bool ⟨.int (if k then 1 else 0),H,I.tok _,⟨_,rfl⟩,q⟩
structure ObjM(h:Sk)(x dx C:Sf)(mA:Str->Option Se):Prop where
 obj:h.get? x=Sa (PySem.W.instObj C dx)
 ns:h.Ns1 dx mA
 ne:dx≠x
theorem qTn{h:Sk}{c:Sf}{d:Str->Option Se}(n:h.Ns1 c d):∃f,h.get? c=Sa f/\∀name,PySem.W.lookIn name f=Sa (d name):=by
 let⟨o,g,r,i,j,k,_,l⟩:=n;show⟨o,i,λname=>?_⟩;let e:=l name;unfold nsFind findBy at e;rw[<-Array.find?_toList]at e;unfold PySem.W.lookIn;rw[j];dsimp only;split
 .grind
 .rename_i q;rw[q]at e;let a:g.toList.any (·.refKey)=Sd:=by
   rw[List.any_eq_false];intro y m;let⟨z,t,b⟩:=k y (Array.mem_toList_iff.mp m);grind[DictEntry.refKey]
  grind
theorem ObjM.look(I:ObjM h x b C c):∃a,PySem.W.InstAt h x (PySem.W.instObj C b) C (Sa a)/\∀name,PySem.W.lookIn name a=Sa (c name):=
 let ⟨a,d,e⟩:=qTn I.ns
 ⟨a,⟨I.obj,rfl,rfl,d⟩,e⟩
section
variable{prog:Sh}{w:Si}{A:Sj}{E:Se->Sg->Prop}{s:Sg}{K:SH}{x dx C f:Sf}{mA:Str->Option Se}{name:Str}{v:Se}
theorem wAj{a:Bool}(X:K.In s.heap)(I:ObjM s.heap x dx C mA)(c:PySem.W.plainGet K C name=Sc)(d:PySem.W.hasDictIn K C=Sc)(e:SK K (.ref C) name=Sa Sb)(f:mA name=Sa v)(b:PySem.W.handedIn v=Sc)(h:Q v {s with toks:=s.toks+1}):Sm (So prog w) A (getAttr (.ref x) name a) Q E s:=by
 let⟨i,J,g⟩:=I.look;show PySem.W.get_value X J (PySem.W.plainGet_of c).1 (PySem.W.findObj_own d e rfl (by rw[g,f])) b h
theorem qWy(X:K.In s.heap)(I:ObjM s.heap x dx C mA)(a:PySem.W.plainGet K C name=Sc)(b:SK K (.ref C) name=Sa (Sa (.ref f)))(c:PySem.W.isFn K (.ref f)=Sc)(d:mA name=Sb)(h:Q (.ref f,[.ref x]) s):Sm (So prog w) A (getMethod (.ref x) name pl) Q E s:=by
 let⟨e,J,g⟩:=I.look;show PySem.W.method_fn X J (PySem.W.plainGet_of a).1 (PySem.W.plainGet_of a).2 b (beq_iff_eq.mp c) (by change(PySem.W.lookIn name e).map (·.isSome)=Sa Sd;rw[g,d];rfl) h
theorem qZ0(X:K.In s.heap)(I:ObjM s.heap x dx C mA)
  (j:SK K (.ref C) "__setattr__"=Sa (Sa (.builtin "object.__setattr__"))) (k:PySem.W.plainOver K C=Sc) (l:PySem.W.takerIn K C name=Sa Sb) (m:PySem.W.hasDictIn K C=Sc)
  (hw:PySem.Within mA ns) (hsz:ns.length<=Sn)
  (h:∀h',ObjM h' x dx C (λy=>if y=name then Sa v else mA y)->Heap.SameBut dx s.heap h'->Q () {s with heap:=h',toks:=s.toks+2}) :
  Sm (So prog w) A (setAttr (.ref x) name v) Q E s:=by
 let⟨t,J,u⟩:=I.look;show PySem.W.set_plain X J j (PySem.W.osa_open (s:={s with toks:=s.toks+1}) (r:=Sb) X J k l λb=>?_);let⟨z,n,e⟩:=PySem.W.any_some m;let o:s.heap.get? x=Sa ⟨.ref C,Sa dx,.plain,#[]⟩:=I.obj;show aA (aC (aA (aA (wpAny_loadPart o (aA (PySem.W.Looks.here (s:={s with toks:=s.toks+1}) (PySem.W.looks_clsIn X n) ?_))))));rw[e];show aC (a:=Sa dx) (aA (aC (aA ?_)));show wpAny_nsSet1 (s:={s with toks:=s.toks+1}) I.ns λh' c d=>?_;let⟨B,p,q,f,g,i⟩:=c.count (PySem.Within.cons name v hw);show aA (wpAny_lookBehind f (by grind[pastItsLine_dict]) ?_)
 show aC (h _ ⟨(d.2 _ (cC I.ne)).trans I.obj,c,I.ne⟩ d)
theorem qWo(X:K.In s.heap)(c:PySem.W.makesIn K C=Sc)
  (hi:SK K (.ref C) "__init__"=Sa (Sa (.ref f))) (e:PySem.W.typeIn K (.ref f)=Sa (.type "function"))
  (h:codeAny (So prog w) (A.under (.builtin "type.__call__" ⟨.ref C::vs,b⟩)) (.call (.ref f) ⟨.ref (s.heap.objs.size+1)::vs,b⟩) (PySem.W.InitBack (s.heap.objs.size+1) R)
   {s with heap:=(s.heap.push PySem.W.emptyDict).push (PySem.W.instObj C s.heap.objs.size)}) :
  codeAny (So prog w) A (.call (.ref C) ⟨vs,b⟩) R s:=by
 let⟨i,g,d,t,os⟩:=s;show PySem.W.make_core (PySem.W.makes_of X c) (PySem.W.looks_findIn X hi) (λa=>PySem.W.bind_fn X a e) (.inl rfl) h
end
noncomputable def putF(f:Str)(v:V):List (Str×V)->List (Str×V)
 |[]=>[(f,v)]
 |(g,x)::r=>if g=f then (g,v)::r else (g,x)::putF f v r
theorem om(f g:Str)(v:V):∀fs:List (Str×V),(putF f v fs).lookup g=if g=f then Sa v else fs.lookup g
 :=by intro x;induction x<;>grind[putF]
theorem kT(f:Str)(v:V):∀fs:List (Str×V),f∈(putF f v fs).map (·.1) /\ ∀g,g∈fs.map (·.1)->g∈(putF f v fs).map (·.1)
 :=by intro x;induction x<;>grind[putF]
theorem on(f:Str)(v:V):∀fs:List (Str×V),(putF f v fs).length<=fs.length+1
 :=by intro x;induction x<;>grind[putF]
theorem RelO.some_of(r:RelO (Sa v) o):∃u,o=Sa u/\RelV v u:=by
 cases o with
 |none=>show(show False from r).elim
 |some u=>show⟨u,rfl,r⟩
theorem RelO.none_of(r:RelO Sb o):o=Sb:=by
 cases o with
 |none=>rfl
 |some u=>show(show False from r).elim
theorem qUa(r:RelV v u):PySem.W.handedIn u=Sc:=by
 cases v with
 |non=>cases (show u=Value.none from r);rfl
 |bl b=>cases (show u=Value.bool b from r);rfl
 |int i=>obtain⟨t,e⟩:=(show ∃t,u=Value.int i t from r);cases e;rfl
 |str x=>obtain⟨t,e⟩:=(show ∃t,u=Value.str x t from r);cases e;rfl
 |byt b=>obtain⟨t,e⟩:=(show ∃t,u=Value.bytes b t from r);cases e;rfl
 |flt b=>obtain⟨t,e⟩:=(show ∃t,u=Value.float b t from r);cases e;rfl
 |ref a=>cases (show u=Value.ref a from r);rfl
 |ty n=>cases (show u=Value.type n from r);rfl
theorem uF(c:HOk P w H h)(e:H a=Sa (.ins C dx fs)):∃b,ObjM h a dx C b/\(∀f,RelO (fs.lookup f) (b f))/\PySem.Within b (fs.map (·.1))/\fs.length<=1000/\H dx=Sa (.own a):=by
 let⟨d,z,ne,g,b,n,r,q⟩:=(show ObjOk P w H h a (.ins C dx fs)from c a _ e);show⟨b,⟨g,n,ne⟩,r,q,z,d⟩
structure Cls(K:SH)(C:Sf):Prop where
 pg:PySem.W.plainGet K C Str.empty=Sc
 hd:PySem.W.hasDictIn K C=Sc
 po:PySem.W.plainOver K C=Sc
 sa:SK K (.ref C) "__setattr__"=Sa (Sa (.builtin "object.__setattr__"))
theorem Cls.get{K:SH}(c:Cls K C)(f:Str):PySem.W.plainGet K C f=Sc:=c.pg
def NoAttr(K:SH)(C:Sf)(f:Str):Prop:=SK K (.ref C) f=Sa Sb
theorem NoAttr.taker{K:SH}(n:NoAttr K C f):PySem.W.takerIn K C f=Sa Sb:=by
 unfold PySem.W.takerIn;rw[show SK K (.ref C) f=Sa Sb from n];rfl
structure Meth(K:SH)(C:Sf)(m:Str)(f:Sf):Prop where
 at_:SK K (.ref C) m=Sa (Sa (.ref f))
 fn:PySem.W.isFn K (.ref f)=Sc
 kp:SL K (.ref f)=Sc
theorem qPz{b:Bool}(I:Inv X pins σ H s)(e:H a=Sa (.ins C dx fs))(c:Cls X.K C)(n:NoAttr X.K C f)(l:fs.lookup f=Sa v)(h:∀u d,Inv X pins σ H d->RelV v u->Q u d):Sm (So X.prog X.w) A (getAttr (.ref a) f b) Q E s:=by
 let⟨i,O,r,_,_,_⟩:=uF I.hok e;let⟨u,j,g⟩:=RelO.some_of (v:=v) (o:=i f) (by rw[<-l];show r f);show wAj I.kIn O (c.get f) c.hd n j (qUa g) (h u _ (I.tok _) g)
theorem kU{g:Sf}(I:Inv X pins σ H s)(e:H a=Sa (.ins C dx fs))(c:Cls X.K C)(k:Meth X.K C m g)(l:fs.lookup m=Sb)(h:Q (.ref g,[.ref a]) s):Sm (So X.prog X.w) A (getMethod (.ref a) m pl) Q E s:=by
 let⟨b,O,r,_,_,_⟩:=uF I.hok e;let d:b m=Sb:=RelO.none_of (by rw[<-l];show r m);show qWy I.kIn O (c.get m) k.at_ k.fn d h
theorem qPb(I:Inv X pins σ H s)(e:H a=Sa (.ins C dx fs))(c:Cls X.K C)(n:NoAttr X.K C f)(J:fs.length<1000)(m:RelV y u)(h:∀i,Inv X pins σ (upd H a (.ins C dx (putF f y fs))) i->Q () i):Sm (So X.prog X.w) A (setAttr (.ref a) f u) Q E s:=by
 let⟨j,O,r,k,_,l⟩:=uF I.hok e;let p:(fs.map (·.1)).length<=Sn:=by grind[cK]
 show qZ0 I.kIn O c.sa c.po n.taker c.hd k p λt d v=>h _ ?_;let B:∃o,t.get? dx=Sa o:=let ⟨o,_,_,D,_⟩:=d.ns;⟨o,D⟩
 show I.write (x:=a) (e:=dx) (by rw[e];show True.intro) (.inr l) (λb q F z=>(v.2 b F).trans z) B ?_;show⟨by grind[zD],?_,O.ne,d.obj,_,d.ns,λg=>?_,λg G=>?_⟩
 .grind[on]
 .grind[RelO,om]
 .by_cases q:g=f
  .grind[kT]
  .refine (kT f y fs).2 g (k g λz=>G ?_);grind
theorem Inv.made(I:Inv X pins σ H s):Inv X pins σ (upd (upd H s.heap.objs.size (.own (s.heap.objs.size+1))) (s.heap.objs.size+1) (.ins C s.heap.objs.size []))
  {s with heap:=(s.heap.push PySem.W.emptyDict).push (PySem.W.instObj C s.heap.objs.size)}:=by
 let c:(s.heap.push PySem.W.emptyDict).get? s.heap.objs.size=Sa PySem.W.emptyDict:=aT s.heap rfl;let d:((s.heap.push PySem.W.emptyDict).push (PySem.W.instObj C s.heap.objs.size)).get? (s.heap.objs.size+1)=Sa (PySem.W.instObj C s.heap.objs.size):=by
  let:=aT (s.heap.push PySem.W.emptyDict) (o:=PySem.W.instObj C s.heap.objs.size) rfl
  rwa[dH]at this
 let f:(s.heap.push PySem.W.emptyDict).Ns s.heap.objs.size (λ_=>Sb):=⟨PySem.W.emptyDict,#[],_,c,rfl,(λe g=>absurd g ∅),λ_=>rfl⟩;let h:=I.laid (a:=s.heap.objs.size) (o:=.own (s.heap.objs.size+1)) (h':=s.heap.push PySem.W.emptyDict) (t':=s.toks) (λb u q=>aG _ q) (aI _) ⟨_,c⟩;show h.laid (a:=s.heap.objs.size+1) (o:=.ins C s.heap.objs.size []) (t':=s.toks) (λb u q=>aG _ q) (Nat.le_of_eq (dH _ _)) ?_;let ne:s.heap.objs.size≠s.heap.objs.size+1:=aP (dD _);show⟨by rw[zD ne,zB],bG _,ne,d,λ_=>Sb,(Heap.Ns1.of_empty f).at λo q=>aG _ q,λ_=>True.intro,λy i=>absurd rfl i⟩
theorem wAq(c:attributeBase e f env (Sw e env)=Sw e env)(h:Sm (So prog w) A (Sw e env) (λo a=>Sm (So prog w) A (getAttr o f Sc) Q E a) E s):Sm (So prog w) A (Sw (.Attribute e f b) env) Q E s:=Attribute_any_ h (by rw[arm_eval_Attribute,c])
def tFld(K:SH)(ta:TE)(f:Str):TE:=λσ H Q=>ta σ H λx H1=>∃a C dx fs v,x=.ref a/\H1 a=Sa (.ins C dx fs)/\Cls K C/\NoAttr K C f/\fs.lookup f=Sa v/\Q v H1
def sFld(K:SH)(ta tv:TE)(f:Str):TS:=λD σ H=>tv σ H λy H1=>ta σ H1 λx H2 => ∃a C dx fs,x = .ref a/\H2 a=Sa (.ins C dx fs)/\Cls K C/\NoAttr K C f/\fs.length<1000 /\
 D.nx σ (upd H2 a (.ins C dx (putF f y fs)))
theorem xt(d:PE X e ta)(g:attributeBase e f X.env (Sw e X.env)=Sw e X.env):PE X (.Attribute e f pos) (tFld X.K ta f):=by
 intro b s σ H Q I h;show wAq g (thn (d b s σ H _ I h) λu t hq_=>?_);let⟨x,i,j,k,a,C,w,fs,v,m,o,c,n,l,q⟩:=hq_;subst m;obtain rfl:u=Value.ref a:=k;show qPz j o c n l λy z p r=>⟨v,i,p,r,q⟩
theorem oq(d:PE X o ta)(e:PE X value tv)(g:SD value (Sa (.Attribute o f pos')) pos.line X.env=pure Sd):PS X (.Assign [.Attribute o f pos'] value pos) (sFld X.K ta tv f):=by
 intro b s σ H D I h;show plainObj_wpAny_Assign_Attribute (thn (e b s σ H _ I h) λu i hq_=>?_) g;let⟨y,j,k,m,q⟩:=hq_;show thn (d b i σ j _ k q) λp B hq_=>?_;let⟨x,E,r,t,a,C,F,fs,v,w,c,n,l,z⟩:=hq_;subst v;obtain rfl:p=Value.ref a:=t;show qPb r w c n l m λG A=>⟨σ,_,A,z⟩
inductive TyOf(K:SH)(H:Hp):V->Se->Prop where
 |non:TyOf K H .non (.type "NoneType")
 |bl (x:Bool):TyOf K H (.bl x) (.type "bool")
 |int (i:Int):TyOf K H (.int i) (.type "int")
 |str (x:Str):TyOf K H (.str x) (.type "str")
 |flt (x:UInt64):TyOf K H (.flt x) (.type "float")
 |lst {a:Sf} {xs:List V} (e:H a=Sa (.lst xs)):TyOf K H (.ref a) (.type "list")
 |frz {a:Sf} {o:Ss} {xs:List V} (e:H a=Sa (.frz o (.lst xs))):TyOf K H (.ref a) (.type "list")
 |tup {a:Sf} {xs:List V} (e:H a=Sa (.tup xs)):TyOf K H (.ref a) (.type "tuple")
 |dK {a:Sf} {kvs:List (Key×V)} (e:H a=Sa (.dK kvs)):TyOf K H (.ref a) (.type "dict")
 |dT {a:Sf} {kvs:List (List Key×V)} (e:H a=Sa (.dT kvs)):TyOf K H (.ref a) (.type "dict")
 | ins {a C dx:Sf} {fs:List (Str×V)} (e:H a=Sa (.ins C dx fs)) (cl:Cls K C) (ha:SK K (.ref C) "__class__" = Sa (Sa (.builtin "object.__class__")))
   (hn:PySem.W.specialIn K (.builtin "object.__class__") "__get__"=Sa (Sa (.builtin "getset_descriptor.__get__"))) (htk:PySem.W.takesIn K (.builtin "object.__class__")=Sa Sc)
   (hm:PySem.W.mroIn K C (.type "object")=Sa Sc):TyOf K H (.ref a) (.ref C)
theorem qU3{u t:Se}(I:Inv X pins σ H s)(d:RelV x u)(ty:TyOf X.K H x t)(e:PySem.W.kitOne X.K t c=Sa b)(h:∀tk,Q (.bool b) {s with toks:=tk}):Sm (So X.prog X.w) A (call (.builtin "isinstance") [u,c]) Q E s:=by
 cases ty with
 |non=>cases (show u=Value.none from d);show eE PySem.W.kitx_none I.kIn True.intro e (λz=>nomatch z) h
 |bl y=>cases (show u=Value.bool y from d);show eE PySem.W.kitx_bool I.kIn True.intro e (λz=>nomatch z) h
 |int i=>obtain⟨t,q⟩:=(show ∃t,u=Value.int i t from d);cases q;show eE PySem.W.kitx_int I.kIn True.intro e (λz=>nomatch z) h
 |str y=>obtain⟨t,q⟩:=(show ∃t,u=Value.str y t from d);cases q;show eE PySem.W.kitx_str I.kIn True.intro e (λz=>nomatch z) h
 |flt y=>obtain⟨t,q⟩:=(show ∃t,u=Value.float y t from d);cases q;show eE PySem.W.kitx_float I.kIn True.intro e (λz=>nomatch z) h
 |@lst a k f=>
  cases (show u=Value.ref a from d);let⟨_,_,n,_,g⟩:=(show ObjOk X.prog X.w H s.heap a (.lst k)from I.hok a _ f);show eE PySem.W.kitx_list I.kIn ⟨_,g,rfl⟩ e (λz=>nomatch z) h
 |@frz a ob k f=>
  cases (show u=Value.ref a from d);let⟨_,_,_,n,_,g⟩:=(show ObjOk X.prog X.w H s.heap a (.frz ob (.lst k))from I.hok a _ f);show eE PySem.W.kitx_list I.kIn ⟨_,g,rfl⟩ e (λz=>nomatch z) h
 |@tup a k f=>
  cases (show u=Value.ref a from d);let⟨_,_,_,p⟩:=(show ObjOk X.prog X.w H s.heap a (.tup k)from I.hok a _ f);let⟨o,g,l,_⟩:=p;show eE PySem.W.kitx_tuple I.kIn ⟨o,g,l⟩ e (λz=>nomatch z) h
 |@dK a j f=>
  cases (show u=Value.ref a from d);let⟨_,_,F,_,p⟩:=(show ObjOk X.prog X.w H s.heap a (.dK j)from I.hok a _ f);let⟨o,r,v,g,l,_⟩:=p;show eE PySem.W.kitx_dict I.kIn ⟨o,g,l.1⟩ e (λz=>nomatch z) h
 |@dT a j f=>
  cases (show u=Value.ref a from d);let⟨_,_,k,_,o,r,v,g,l,_⟩:=(show ObjOk X.prog X.w H s.heap a (.dT j)from I.hok a _ f);show eE PySem.W.kitx_dict I.kIn ⟨o,g,l.1⟩ e (λz=>nomatch z) h
 |@ins a C dx fs f cl B D m hm=>
  cases (show u=Value.ref a from d);let⟨G,O,_⟩:=uF I.hok f;let⟨L,J,_⟩:=O.look;show eE (PySem.W.kitx_own (cl.get _) cl.hd B D m hm) I.kIn J e (λz=>nomatch z) h
structure Room(k:Nat)(A:Sj):Prop where
 hd:A.handled=Sb
 dp:A.depth+3*k+5<recursionLimit
 un:A.units+16*k+200<cLine
 gd:A.guards=Sa []:=by rfl
theorem Room.mono{j k:Nat}(r:Room k A)(h:j<=k):Room j A:=⟨r.hd,by let:=r.dp;lia,by let:=r.un;lia,r.gd⟩
theorem Room.deeper{k:Nat}(r:Room (k+1) A)(env:Env):Room k (A.deeper env):=⟨r.hd,by let:=r.dp;change A.depth+1+3*k+5<_;lia,by let:=r.un;change A.units+3+16*k+200<_;lia,r.gd⟩
theorem qPv{A:Sj}{C:Sf}{us:List Se}{a:List (Str×Se)}:(A.under (.builtin "type.__call__" ⟨.ref C::us,a⟩)).depth=A.depth+1:=by
 first|rfl|simp[Around.under,Code.weight,Code.isCreation,Code.isGuard,Code.isCaller,Code.frames,Code.isFrame,guardIds]
theorem qPu{A:Sj}{C:Sf}{us:List Se}{a:List (Str×Se)}:(A.under (.builtin "type.__call__" ⟨.ref C::us,a⟩)).units=A.units+1:=by
 first|rfl|simp[Around.under,Code.cUnits,Code.frames,Code.isFrame]
theorem Room.make{k:Nat}(r:Room (k+1) A)(C:Sf)(us:List Se)(a:List (Str×Se)):Room k (A.under (.builtin "type.__call__" ⟨.ref C::us,a⟩)):=⟨r.hd,by let:=r.dp;rw[qPv];lia,by let:=r.un;rw[qPu];lia,by first|show r.gd|(simpa[Around.under,Code.guards,Code.isGuard,pushGuards,guardIds]using r.gd)⟩
theorem Room.depth{k:Nat}(r:Room k A):A.depth<recursionLimit:=by let:=r.dp;lia
theorem Room.units{k:Nat}(r:Room k A):A.units+64<cLine:=by let:=r.un;lia
def tNil:TA:=λ_ H Q=>Q [] H
def tCons(ta:TE)(tr:TA):TA:=λσ H Q=>ta σ H λx H1=>tr σ H1 λxs H2=>Q (x::xs) H2
theorem zC:PA X [] tNil:=λ_ _ _ _ H Q I h=>gD ⟨[],H,I,.nil,h⟩
theorem zA(b:PE X e te)(c:PA X es t)(d:Sv (e::es) X.env=(Sd,Sw e X.env)::Sv es X.env:=by rfl):PA X (e::es) (tCons te t):=by
 intro pos a s σ H Q I h;rw[d];change Sm _ _ (spliced ((Sd,Sw e X.env)::backTo pos (Sv es X.env))) _ _ s;show eC (thn (b a s σ H _ I h) λu f hq_=>?_);let⟨x,g,i,j,k⟩:=hq_;show thn (c pos a f σ g _ i k) λq r hq_=>?_;let⟨l,m,n,o,p⟩:=hq_;show⟨x::l,m,n,.cons j o,p⟩
def tTup(t:TA):TE:=λσ H Q=>t σ H λxs H1=>xs.length<=Sn/\∀p,H1 p=Sb->Q (.ref p) (upd H1 p (.tup xs))
def tLst(t:TA):TE:=λσ H Q=>t σ H λxs H1=>xs.length<=Sn/\∀p,H1 p=Sb->Q (.ref p) (upd H1 p (.lst xs))
theorem zg{x1}(h:PA X es t):PE X (.Tuple es x1 pos) (tTup t):=by
 intro a s σ H Q I g;show wpAny_Tuple_spliced (thn (h pos a s σ H _ I g) λi c hq_=>?_);let⟨j,d,f,r,z,q⟩:=hq_;show⟨by rw[<-r.length];show z,?_⟩;let k:d c.heap.objs.size=Sb:=f.hok.fresh (aI _);show⟨.ref c.heap.objs.size,upd d c.heap.objs.size (.tup j),f.laid (t':=c.toks) (λb u e=>aG _ e) (aI _) ?_,rfl,q _ k⟩;show⟨z,i,r,⟨_,aT _ rfl,rfl,_,rfl⟩⟩
theorem zW(h:PA X es t):PE X (.List es pos) (tLst t):=by
 intro a s σ H Q I g;show wpAny_List_spliced (thn (h pos a s σ H _ I g) λi c hq_=>?_);let⟨j,d,f,r,z,q⟩:=hq_;show⟨by rw[<-r.length];grind,?_⟩;let k:d c.heap.objs.size=Sb:=f.hok.fresh (aI _);show⟨.ref c.heap.objs.size,upd d c.heap.objs.size (.lst j),f.laid (t':=c.toks) (λb u e=>aG _ e) (aI _) ?_,rfl,q _ k⟩;show⟨z,i,0,r,aT _ rfl⟩
abbrev Sp:=List V->Hp->VK->XK->Prop
abbrev CXT:=List Env->Hp->Sg->XK->Se->Sg->Prop
structure Env0(P:Sh)(w:Si)(K:SH)(mg:Str->Option Se)(base:Sk)(A:Sj)(outer:List Env)(s:Sg)(H:Hp):Prop where
 frames:A.frames=Sa outer
 mod:Mod K mg base
 bs:∀b o,base.get? b=Sa o->s.heap.get? b=Sa o/\H b=Sb
 bsz:base.objs.size<=s.heap.objs.size
 funs:s.heap.FunFrames base outer
 frf:∀b∈frs outer,H b=Sb
 hok:HOk P w H s.heap
 bare:AllBare s.gens
def CE(outer:List Env)(P:Sh)(w:Si)(H:Hp)(s:Sg)(Q:VK)(u:Se)(s':Sg):Prop:=
 ∃v H',s'.os=s.os/\AllBare s'.gens/\Un (frs outer) [] H H' s.heap s'.heap/\HOk P w H' s'.heap/\RelV v u/\Q v H'
def CR(CX:CXT)(outer:List Env)(P:Sh)(w:Si)(H:Hp)(s:Sg)(Q:VK)(E:XK)(r:Result)(s':Sg):Prop:=
 match r with
 |.ok (.ret u)=>CE outer P w H s Q u s'
 |.ok _=>False
 |.error e=>CX outer H s E e s'
structure FnOk(P:Sh)(w:Si)(K:SH)(mg:Str->Option Se)(base:Sk)(CX:CXT)(k:Nat)(f:Sf)(fd:FuncData)(ps:List Str)(sp:Sp):Prop where
 len:∀vs H Q E,sp vs H Q E->vs.length=ps.length
 run:∀(A:Sj) (outer:List Env) (s:Sg) (H:Hp) (args:Args) (us:List Se) (vs:List V) (Q:VK) (E:XK),Room k A->Env0 P w K mg base A outer s H->BindsTo s fd args (ps.zip us)->Vals vs us->sp vs H Q E ->
  codeAny (So P w) A (.call (.ref f) args) (CR CX outer P w H s Q E) s
theorem Env0.make{K:SH}(e:Env0 P w K mg base A outer s H)(C:Sf)(us:List Se)(a:List (Str×Se)):Env0 P w K mg base (A.under (.builtin "type.__call__" ⟨.ref C::us,a⟩)) outer s H:=⟨by first|show e.frames|(simpa[Around.under,Code.envs,Code.isFrame,pushEnvs]using e.frames),e.mod,e.bs,e.bsz,e.funs,e.frf,e.hok,e.bare⟩
theorem Inv.env0(I:Inv X pins σ H s):Env0 X.prog X.w X.K X.mg X.base X.A X.stack s H:=⟨I.ok.frames,I.ok.mod,I.bs,cA I.ok.bsz I.sz,I.stack,I.stkFree,I.hok,I.bare⟩
theorem Inv.after(I:Inv X pins σ H s)(h:CE X.stack X.prog X.w H s Q u s'):EP X pins σ Q u s':=by
 let⟨v,c,os,bare,un,hok,r,q⟩:=h;let⟨e,g,d,t,a⟩:=s';obtain rfl:a=s.os:=os;show⟨v,c,I.call (h':=e) (g':=g) (d':=d) (t':=t) (ch:=[]) un hok bare (λb z=>absurd z ∅),r,q⟩
def tCall(sp:Sp)(dvs:List V)(E:XK)(t:TA):TE:=λσ H Q=>t σ H λvs H1=>sp (vs++dvs) H1 Q E
def tMeth(C:Sf)(m:Str)(sp:Sp)(dvs:List V)(E:XK)(ta:TE)(t:TA):TE:=λσ H Q=>ta σ H λx H1 => ∃a dx fs,x = .ref a/\H1 a=Sa (.ins C dx fs)/\fs.lookup m=Sb /\
 t σ H1 λvs H2=>sp (x::(vs++dvs)) H2 Q E
def tMake(C:Sf)(sp:Sp)(dvs:List V)(E:XK)(t:TA):TE:=λσ H Q=>t σ H λvs H1 => ∀x dx,H1 x=Sb->H1 dx=Sb->dx≠x ->
 sp (.ref x::(vs++dvs)) (upd (upd H1 dx (.own x)) x (.ins C dx [])) (λv H2=>v=.non/\Q (.ref x) H2) E
def Binds(K:SH)(fd:FuncData)(ps:List Str)(ds:List Se):Prop:=
 ∀(s:Sg)(us:List Se),K.In s.heap->(us++ds).length=ps.length->BindsTo s fd ⟨us,[]⟩ (ps.zip (us++ds))
theorem Binds.all{K:SH}(h:∀us:List Se,us.length=ps.length->bindArgs a ⟨us,[]⟩=pure (ps.zip us)):Binds K a ps []:=λs us _ b=>by
 rw[bS]at b ⊢;show .of_eq (h us b)
def xu(CX:CXT)(X:Cx)(E:XK):Prop:=∀(pins:List (Sf×Ss))(σ:St)(H:Hp)(s:Sg)(e:Se)(s':Sg),Inv X pins σ H s->CX X.stack H s E e s'->X.xe e s'
theorem kW{a:List (Sf×Ss)}{σ:St}{H:Hp}{s:Sg}{Q:VK}{us:List Se}{vs:List V}(F:FnOk X.prog X.w X.K X.mg X.base CX k f fd ps sp)(d:Room k X.A)(g:Binds X.K fd ps ds)(hd:Vals dvs ds)(i:xu CX X E)(I:Inv X a σ H s)(r:Vals vs us)(h:sp (vs++dvs) H Q E):Sm (So X.prog X.w) X.A (call (.ref f) us) (EP X a σ Q) X.xe s:=by
 let c:Vals (vs++dvs) (us++ds):=r.append hd;let j:(us++ds).length=ps.length:=by rw[<-c.length];show F.len _ _ _ _ h
 show wpAny_call (gQ (F.run X.A X.stack s H ⟨us,[]⟩ (us++ds) (vs++dvs) Q E d I.env0 (g s us I.kIn j) c h) λr l b=>?_);cases r with
 |error e=>show i a σ H s e l I b
 |ok fl=>
  cases fl with
  |ret u=>show I.after b
  |next=>show False.elim b
  |brk=>show False.elim b
  |cont=>show False.elim b
theorem qZn(F:FnOk X.prog X.w X.K X.mg X.base CX k f fd ps sp)(g:Room k X.A)(i:Gl X x)(j:X.mg x=Sa (.ref f))(l:SL X.K (.ref f)=Sc)(m:Binds X.K fd ps ds)(hd:Vals dvs ds)(n:xu CX X E)
  (o:PA X (e::es) t) (b:(x == ("__debug__" : Str))=Sd:=by decide) (u:Sv (e::es) X.env=(Sd,Sw e X.env)::Sv es X.env:=by rfl) (c:(backTo pos (Sv es X.env)).any (·.1)=Sd:=by rfl) :
  PE X (.Call (.Name x p) (e::es) [] pos) (tCall sp dvs E t):=by
 intro a s σ H Q I h;show fX (kP I i j ?_ b);show PySem.W.callWith_K (h₀:=X.base) I.ok.mod.kin l (thn (o pos a s σ H _ I h) λv y hq_=>?_) u c;let⟨z,B,d,r,q⟩:=hq_;show⟨d.kIn,?_⟩;show kW F g m hd n d r q
theorem qZk{pl:Sem Bool}(v:PE X o ta)(c:Cls X.K C)(i:Meth X.K C m f)(F:FnOk X.prog X.w X.K X.mg X.base CX k f fd ps sp)(y:Room k X.A)(z:Binds X.K fd ps ds)(hd:Vals dvs ds)(B:xu CX X E)(D:PA X (e::es) t)(d:Sv (e::es) X.env=(Sd,Sw e X.env)::Sv es X.env:=by rfl)(g:(backTo pos (Sv es X.env)).any (·.1)=Sd:=by rfl)(G:Sw (.Call (.Attribute o m apos) (e::es) [] pos) X.env=(do
   let j <-Sw o X.env
   Sy apos.atName
   let (f,first) <-Sz [j] (getMethod j m pl)
   callWith pos f first (backTo pos (Sv (e::es) X.env)) (backToKw pos (keywordEach [] X.env))):=by rfl) :
  PE X (.Call (.Attribute o m apos) (e::es) [] pos) (tMeth C m sp dvs E ta t):=by
 intro b s σ H Q I h;show PySem.W.methodCall_KW (pl:=pl) (thn (v b s σ H _ I h) λu J hq_=>?_) G;let⟨x,L,n,M,a,R,fs,N,O,l,q⟩:=hq_;subst N;obtain rfl:u=Value.ref a:=M;show kU n O c i l ?_;show PySem.W.callWith_K (first:=[.ref a]) (h₀:=X.base) I.ok.mod.kin i.kp (thn (D pos b J σ L _ n q) λus S hq_=>?_) d g;let⟨vs,T,p,r,P⟩:=hq_;show⟨p.kIn,?_⟩;show kW (us:=.ref a::us) (vs:=.ref a::vs) F y z hd B p (.cons rfl r) P
theorem qW3(i:PE X o ta)(c:Cls X.K C)(e:Meth X.K C m f)(F:FnOk X.prog X.w X.K X.mg X.base CX k f fd ps sp)(j:Room k X.A)(n:Binds X.K fd ps ds)(hd:Vals dvs ds)(p:xu CX X E)(r:Sw (.Call (.Attribute o m apos) [] [] pos) X.env=(do
   let g <-Sw o X.env
   Sy apos.atName
   let (f,first) <-Sz [g] (getMethod g m pl)
   callWith pos f first (backTo pos (Sv [] X.env)) (backToKw pos (keywordEach [] X.env))):=by rfl) :
  PE X (.Call (.Attribute o m apos) [] [] pos) (tMeth C m sp dvs E ta tNil):=by
 intro b s σ H Q I h;show PySem.W.methodCall_KW (pl:=pl) (thn (i b s σ H _ I h) λu z hq_=>?_) r;let⟨x,B,d,t,a,D,fs,v,y,l,q⟩:=hq_;subst v;obtain rfl:u=Value.ref a:=t;show kU d y c e l ?_;show PySem.W.callWith_K0 (first:=[.ref a]) d.kIn e.kp (kW (us:=[.ref a]) (vs:=[.ref a]) F j n hd p d (.cons rfl .nil) q)
structure Mk(K:SH)(C f:Sf):Prop where
 makes:PySem.W.makesIn K C=Sc
 init:SK K (.ref C) "__init__"=Sa (Sa (.ref f))
 fn:PySem.W.isFn K (.ref f)=Sc
 kp:SL K (.ref C)=Sc
theorem qVn{a:List (Sf×Ss)}{σ:St}{H:Hp}{s:Sg}{Q:VK}{us:List Se}{vs:List V}(M:Mk X.K C f)(F:FnOk X.prog X.w X.K X.mg X.base CX k f fd ps sp)(j:Room (k+1) X.A)(l:Binds X.K fd ps ds)(hd:Vals dvs ds)(m:xu CX X E)(I:Inv X a σ H s)(r:Vals vs us)(h:∀x c,H x=Sb->H c=Sb->c≠x->sp (.ref x::(vs++dvs)) (upd (upd H c (.own x)) x (.ins C c [])) (λv n=>v=.non/\Q (.ref x) n) E):Sm (So X.prog X.w) X.A (call (.ref C) us) (EP X a σ Q) X.xe s:=by
 let g:=h (s.heap.objs.size+1) s.heap.objs.size (I.hok.fresh (eY _)) (I.hok.fresh (aI _)) (aP (dD _));let d:=Inv.made (C:=C) I;let i:Vals (V.ref (s.heap.objs.size+1)::(vs++dvs)) (Value.ref (s.heap.objs.size+1)::(us++ds)):=.cons rfl (r.append hd);let o:(Value.ref (s.heap.objs.size+1)::us++ds).length=ps.length:=by
  let e:=i.length;rw[F.len _ _ _ _ g]at e;show e.symm
 refine wpAny_call (qWo (f:=f) I.kIn M.makes M.init (beq_iff_eq.mp M.fn) (gQ (F.run _ X.stack _ _ ⟨Value.ref (s.heap.objs.size+1)::us,[]⟩ (Value.ref (s.heap.objs.size+1)::(us++ds)) _ _ E (j.make C us [])
  (d.env0.make C us []) (l _ (Value.ref (s.heap.objs.size+1)::us) d.kIn o) i g) λr p b=>?_))
 cases r with
 |error e=>show m a σ _ _ e p d b
 |ok fl=>
  cases fl with
  |ret u=>
   let⟨v,q,t,y,z,B⟩:=d.after b;subst z;show⟨y,⟨V.ref (s.heap.objs.size+1),q,t,rfl,B⟩⟩
  |next=>show False.elim b
  |brk=>show False.elim b
  |cont=>show False.elim b
theorem qZl(M:Mk X.K C f)(F:FnOk X.prog X.w X.K X.mg X.base CX k f fd ps sp)(g:Room (k+1) X.A)(i:Gl X x)(j:X.mg x=Sa (.ref C))(l:Binds X.K fd ps ds)(hd:Vals dvs ds)(m:xu CX X E)
  (n:PA X (e::es) t) (b:(x == ("__debug__" : Str))=Sd:=by decide) (o:Sv (e::es) X.env=(Sd,Sw e X.env)::Sv es X.env:=by rfl) (c:(backTo pos (Sv es X.env)).any (·.1)=Sd:=by rfl) :
  PE X (.Call (.Name x p) (e::es) [] pos) (tMake C sp dvs E t):=by
 intro a s σ H Q I h;show fX (kP I i j ?_ b);show PySem.W.callWith_K (h₀:=X.base) I.ok.mod.kin M.kp (thn (n pos a s σ H _ I h) λu v hq_=>?_) o c;let⟨y,z,d,r,q⟩:=hq_;show⟨d.kIn,?_⟩;show qVn M F g l hd m d r q
structure FnScope(N P:List Str)(sc:Su):Prop where
 kind:sc.kind=.function
 co:sc.isCoroutine=Sd
 gen:sc.isGenerator=Sd
 nd:N.Nodup
 pre:N.take P.length=P
 par:∀x∈P,sc.names.lookup x=Sa .local\/sc.names.lookup x=Sa .cell
 nofree:∀y∈sc.names,y.2≠.free
theorem ot{kindOf:Str->Option SF}:∀ {binds:List (Str×Se)} {m:Str->Option Se},(∀v,(x,v)∉binds)->bindL kindOf binds m x=m x
 |[],_,_=>rfl
 |(n,v)::r,m,h=>by
  unfold bindL;rw[ot λw a=>h w (aS _ a)];split
  .grind
  .rfl
theorem ou{kindOf:Str->Option SF}:∀ {binds:List (Str×Se)} {m:Str->Option Se},(∀v,(x,v)∉binds)->bindC kindOf binds m x=m x
 |[],_,_=>rfl
 |(n,v)::r,m,h=>by
  unfold bindC;rw[ou λw a=>h w (aS _ a)];split
  .rfl
  grind
theorem ow{kindOf:Str->Option SF}:∀ {P:List Str} {vs:List Se} {i:Nat} {m:Str->Option Se},P.Nodup->P[i]? = Sa x->vs[i]? = Sa v->kindOf x=Sa .local ->
  bindL kindOf (P.zip vs) m x=Sa v
 |[],_,_,_,_,h,_,_=>by simp at h
 |_::_,[],_,_,_,_,h,_=>by simp at h
 |p::P,w::vs,0,m,nd,a,b,c=>by
  simp at a b;subst a;subst b;change bindL kindOf ((p,w)::P.zip vs) m p=_;unfold bindL;rw[ot λv d=>(dE.mp nd).1 (gR d).1,if_pos c];simp
 |p::P,w::vs,i+1,m,nd,a,b,c=>by
  change bindL kindOf ((p,w)::P.zip vs) m x=_;unfold bindL;show ow (i:=i) (dE.mp nd).2 (by simpa using a) (by simpa using b) c
theorem oy{kindOf:Str->Option SF}:∀ {P:List Str} {vs:List Se} {i:Nat} {m:Str->Option Se},P.Nodup->P[i]? = Sa x->vs[i]? = Sa v->kindOf x≠Sa .local ->
  bindC kindOf (P.zip vs) m x=Sa v
 |[],_,_,_,_,h,_,_=>by simp at h
 |_::_,[],_,_,_,_,h,_=>by simp at h
 |p::P,w::vs,0,m,nd,a,b,c=>by
  simp at a b;subst a;subst b;change bindC kindOf ((p,w)::P.zip vs) m p=_;unfold bindC;rw[ou λv d=>(dE.mp nd).1 (gR d).1,if_neg c];simp
 |p::P,w::vs,i+1,m,nd,a,b,c=>by
  change bindC kindOf ((p,w)::P.zip vs) m x=_;unfold bindC;show oy (i:=i) (dE.mp nd).2 (by simpa using a) (by simpa using b) c
noncomputable def start(N:List Str)(vs:List V):St:=vs.map Sa++List.replicate (N.length-vs.length) Sb
noncomputable def cxOf(CX:CXT)(P:Sh)(w:Si)(K:SH)(mg:Str->Option Se)(base:Sk)(N:List Str)(qual:Str)(scope:Su)(f:Sf)(cd:Se)(A:Sj)(outer:List Env)(s:Sg)(H:Hp)(E:XK):Cx where
 prog:=P
 w:=w
 K:=K
 mg:=mg
 base:=base
 A:=A.deeper (envOfC qual scope s.heap.objs.size f cd)
 N:=N
 s₀:=s
 H₀:=H
 env:=envOfC qual scope s.heap.objs.size f cd
 outer:=outer
 stack:=envOfC qual scope s.heap.objs.size f cd::outer
 ex:=[]
 calm:=Sc
 fn:=λ_=>Sc
 pn:=[]
 xe:=λe s'=>Sm (So P w) (A.deeper (envOfC qual scope s.heap.objs.size f cd)) (leaving (envOfC qual scope s.heap.objs.size f cd) e) (λ_ s''=>CX outer H s E e s'') (λe' s''=>CX outer H s E e' s'') s'
theorem oz{a:Su}{n:Nat}{x:Str}(h:a.names.lookup x=Sa .cell):∃c,(cellsFrom n a.names []).lookup x=Sa c:=by
 let q:=PySem.W.cellsFrom_some a.names n [] (.inl h);show iR.mp q
theorem qU6{K:SH}{t:Se}(S:FnScope N ps scope)(hd:A.handled=Sb)(j:Env0 P w K mg base A outer s H)(M:vs.length=ps.length)(r:Vals vs us)(x:InCallC s s.heap.objs.size (bindL (envOfC d scope s.heap.objs.size f t).kindOf (ps.zip us) λ_=>Sb) (cellsFrom (s.heap.objs.size+1) scope.names []) (bindC (envOfC d scope s.heap.objs.size f t).kindOf (ps.zip us) λ_=>Sb) D):Inv (cxOf CX P w K mg base N d scope f t A outer s H E) [] (start N vs) H D:=by
 let I:ps.length<=N.length:=by let:=congrArg List.length S.pre;rw[aV]at this;lia
 let⟨B,tk,rfl,F⟩:=x.done;let l:∀b:Sf,b∉(cxOf CX P w K mg base N d scope f t A outer s H E).ex:=λb z=>absurd (show b∈([]:List Sf)from z) ∅
 show⟨⟨j.mod,S.kind,rfl,rfl,aI _,λy z c B g=>?_,λy hy=>?_,λy c _ h=>?_,λ_=>hd,Around.frames_deeper j.frames,.inr ⟨rfl,rfl⟩,λb z=>absurd z (l b),j.bs,j.bsz,λb _ _=>l b,λb z=>absurd z (l b),j.funs,j.frf⟩,
  rfl,j.bare,Un.kept F,⟨_,x.toInCall.ns,λi y v B g O=>?_⟩,λy c h=>⟨_,x.cell y c h⟩,j.hok.fresh (aI _),λy c h=>?_,λp m=>absurd (show p∈([]:List (Sf×Ss))from m) ∅,j.hok.kept F,?_⟩
 .exact name_of_addr x.apart (eZ B) (eZ g)
 .let hy:scope.names.lookup y=Sa .cell\/scope.names.lookup y=Sa .free:=hy;rcases hy with hy|hy
  .exact oz hy
  .exact absurd rfl (S.nofree _ (eZ hy))
 .exact cW (x.above y c (eZ h))
 .let C:i<vs.length:=by
   unfold start at g;by_cases C:i<vs.length
   .exact C
   .rw [dC (by simpa using C)]at g;rw[List.getElem?_replicate]at g;split at g<;>cases g
  let J:vs[i]? = Sa v:=by
   unfold start at g;rw[dI (by simpa using C),bA]at g;cases e:vs[i]? with
   |none=>rw[e]at g;cases g
   |some a=>rw[e]at g;cases g;rfl
  let⟨u,G,L⟩:=r.get J;let m:ps[i]? = Sa y:=by
   rw[<-S.pre,List.getElem?_take_of_lt ∎];show B
  let o:ps.Nodup:=by rw[<-S.pre];show S.nd.sublist (List.take_sublist _ _)
  show⟨u,L,?_⟩;rcases S.par y (aK m)with k|k
  .exact .inl ⟨k,ow o m G k⟩
  .let⟨c,e⟩:=oz (n:=s.heap.objs.size+1) k;show .inr ⟨.inl k,c,e,?_⟩;let q:=x.cell y c e;rw[oy o m G (by change scope.names.lookup y≠_;rw[k];decide)]at q;show q
 .exact j.hok.fresh (cW (x.above y c (eZ h)))
 .unfold start;change _=N.length;rw[aJ,aB,List.length_replicate];lia
theorem wD4{K:SH}{k:Nat}{g:List Sr}{M kV doc O c ct Y:Se}(lk:K.lookup f=Sa ⟨Y,Z,.func (PySem.W.fnOf name a d g scope M kV doc O R c ct),C⟩)(D:PySem.W.codeIn K c a=Sc)(S:FnScope N ps scope)(len:∀vs H Q E,sp vs H Q E->vs.length=ps.length)(j:∀(A:Sj) (outer:List Env) (s:Sg) (H:Hp) (vs:List V) (Q:VK) (E:XK),Room k (A.deeper (envOfC a scope s.heap.objs.size f c))->sp vs H Q E ->
   ∃t,PSs (cxOf CX P w K mg base N a scope f c A outer s H E) g t/\t {nx:=λ_ i=>Q .non i,rt:=Q} (start N vs) H) :
  FnOk P w K mg base CX (k+1) f (PySem.W.fnOf name a d g scope M kV doc O R c ct) ps sp:=by
 show⟨len,λA outer s H T us vs Q E F p hb r z=>?_⟩;let hl:=len _ _ _ _ z;let U:K.In s.heap:=p.mod.kin.keeps λb o e=>(p.bs b o e).1;let lim:s.heap.NoLimit:=p.mod.nolimit.keeps λb o e=>(p.bs b o e).1;let l:∀y∈ps.zip us,scope.names.lookup y.1=Sa .local\/(scope.names.lookup y.1=Sa .cell/\((cellsFrom (s.heap.objs.size+1) scope.names []).lookup y.1).isSome=Sc):=λ⟨n,v⟩ hy=>by
  rcases S.par n (gR hy).1 with q|q
  .exact .inl q
  .exact .inr ⟨q,PySem.W.cellsFrom_some _ _ _ (.inl q)⟩
 show codeAny_call_function F.depth (U _ _ lk) rfl S.co S.gen rfl (PySem.W.codeRec_of U D) (hb _ _ _ _ ?_);show wpAny_newFunctionEnv_cells S.kind l λa0 he X x=>?_;subst he;show⟨lim.keeps x.toInCall.keep,codeAny_func ?_⟩;let⟨t,ht,hq⟩:=j A outer s H vs Q E (F.deeper _) z;let I:Inv (cxOf CX P w K mg base N a scope f c A outer s H E) [] (start N vs) H X:=qU6 S F.hd p hl r x;show fQ (ht [] X (start N vs) H _ I hq) (λfl G m=>?_) λe G m=>m;let B:∀{h:St}{i:Hp}{v:V}{u:Se},Inv (cxOf CX P w K mg base N a scope f c A outer s H E) [] h i G->RelV v u->Q v i->CE outer P w H s Q u G:=
  λ{h i v u}J L q=>⟨v,i,J.os,J.bare,J.base,J.hok,L,q⟩
 cases fl with
 |ret u=>
  let⟨v,h,i,J,L,q⟩:=m;show B J L q
 |next=>
  let⟨h,i,J,q⟩:=m;show B (v:=V.non) (u:=Value.none) J rfl q
 |brk=>
  let⟨_,_,_,q⟩:=m;show False.elim q
 |cont=>
  let⟨_,_,_,q⟩:=m;show False.elim q
section
variable{X:Cx}{x:Str}{p pos:Pos}{e:Sl}{es:List Sl}{t:TA}{id T:String}{r:List V->Hp->VK->Prop}
def tCB(r:List V->Hp->VK->Prop)(t:TA):TE:=λσ H Q=>t σ H λvs H1=>r vs H1 Q
theorem zd(d:CallR X (.builtin id) r)(f:Gl X x)(g:X.mg x=Sb)(i:SE x=Sa (.builtin id))(j:PA X (e::es) t)(k:x ≠ "__name__" :=by decide)(b:(x == ("__debug__" : Str))=Sd:=by decide)
  (l:Sv (e::es) X.env=(Sd,Sw e X.env)::Sv es X.env:=by rfl) (c:(backTo pos (Sv es X.env)).any (·.1)=Sd:=by rfl):PE X (.Call (.Name x p) (e::es) [] pos) (tCB r t):=by
 intro a s σ H Q I h;show fX (xN I f g i ?_ k b);show PyProof.Rows.callWith_builtin1 (thn (j pos a s σ H _ I h) λm n hq_=>?_) l c;let⟨o,q,u,v,w⟩:=hq_;show d a n σ q o m Q u v w
theorem yK(d:CallR X (.type T) r)(f:Gl X x)(g:X.mg x=Sb)(i:SE x=Sa (.type T))(j:PA X (e::es) t)(k:x ≠ "__name__" :=by decide)(b:(x == ("__debug__" : Str))=Sd:=by decide)
  (l:Sv (e::es) X.env=(Sd,Sw e X.env)::Sv es X.env:=by rfl) (c:(backTo pos (Sv es X.env)).any (·.1)=Sd:=by rfl):PE X (.Call (.Name x p) (e::es) [] pos) (tCB r t):=by
 intro a s σ H Q I h;show fX (xN I f g i ?_ k b);show cN (thn (j pos a s σ H _ I h) λm n hq_=>?_) l c;let⟨o,q,u,v,w⟩:=hq_;show d a n σ q o m Q u v w
end
end L2
namespace HT
open PySem PyProof.Rows
def lexLt:List Int->List Int->Bool
 |[],[]=>Sd
 |[],_::_=>Sc
 |_::_,[]=>Sd
 |x::xs,y::ys=>if x=y then lexLt xs ys else decide (x<y)
theorem lexLt_cons(x y:Int)(xs ys:List Int):lexLt (x::xs) (y::ys)=if x=y then lexLt xs ys else decide (x<y):=rfl
section
open PySem.SeqAt
open PySem.AutoSeq1 (wpAny_loadPart')
open PySem.MeetsSeq PySem.MeetsSeq2 PySem.MeetsSeq3
end
def sIx(n d:Nat):Option Int->Nat
 |none=>d
 |some v=>if v<0 then (v+(n:Int)).toNat else min v.toNat n
theorem sIx_none(n d:Nat):sIx n d Sb=d:=rfl
theorem sIx_nat(n d k:Nat):sIx n d (Sa (k:Int))=min k n:=by
 change(if (k:Int)<0 then ((k:Int)+(n:Int)).toNat else min (k:Int).toNat n)=min k n;grind
theorem wB6(n d:Nat)(hd:d<=n)(o:Option Int):sIx n d o<=n:=by
 cases o with
 |none=>show hd
 |some v=>
  change(if v<0 then (v+(n:Int)).toNat else min v.toNat n)<=n;grind
theorem QA(v:Int)(n d:Nat):(if v<0 then max (v+(n:Int)) 0 else min v (n:Int))=((sIx n d (Sa v):Nat):Int):=by
 change(if v<0 then max (v+(n:Int)) 0 else min v (n:Int))=(((if v<0 then (v+(n:Int)).toNat else min v.toNat n):Nat):Int);grind
theorem qQ7(lo hi:Option Int)(n:Nat):Builtin.Slice.sliceAdjust lo hi 1 (n:Int)=(((sIx n 0 lo:Nat):Int),((sIx n n hi:Nat):Int)):=by
 let a:¬((1:Int)<0):=by lia
 unfold Builtin.Slice.sliceAdjust;simp only[a,if_false];show Prod.ext ?_ ?_
 .cases lo with
  |none=>rfl
  |some v=>grind[QA]
 .cases hi with
  |none=>rfl
  |some v=>grind[QA]
theorem qPe(i j:Nat):Builtin.Slice.slicePlaces (i:Int) (j:Int) 1=j-i:=by
 grind[Builtin.Slice.slicePlaces]
theorem slicePart_(p:IsPart v o)(h:Q o s):Sm (So prog w) A (Builtin.Slice.slicePartIndex v) Q E s:=by
 cases p with
 |none=>grind[slicePart_none]
 |int i t=>grind[slicePart_int]
theorem qG0{lo hi:Option Int}{n:Nat}(f:s.heap.IsSliceOf e c d .none)(pl:IsPart c lo)(g:IsPart d hi)(h:Q (((sIx n 0 lo:Nat):Int),1,sIx n n hi-sIx n 0 lo) s):Sm (So prog w) A (Builtin.Slice.sliceApplied (.ref e) (pure (n:Int))) Q E s:=by
 let⟨os,a,i,b⟩:=id f;unfold Builtin.Slice.sliceApplied Builtin.Slice.sliceFields;show aA (aA (fA a b (x:=c) rfl (aA (fA a b (x:=d) rfl (aA (fA a b (x:=.none) rfl (aC ?_)))))));grind[aA,slicePart_none,slicePart_,aC,qQ7,qPe]
theorem qW1(xs:Array Se)(i k:Nat):((List.range k).filterMap λ(m:Nat)=>xs[((i:Int)+(m:Int)*1).toNat]?).toArray=((xs.toList.drop i).take k).toArray:=by
 let e:(λ(m:Nat)=>xs[((i:Int)+(m:Int)*1).toNat]?)=λm=>xs[i+m]?:=by
  grind
 rw[e];let:=pick_run xs i k;rw[gN]at this;let a:((λx=>xs[x]?)∘λx=>i+x)=λm=>xs[i+m]?:=rfl;grind
theorem getItem_tuple_cut{t c:Sf}{lo hi:Option Int}(b:IsTup s.heap t items)(k:s.heap.IsSliceOf c i j .none)(pl:IsPart i lo)(l:IsPart j hi)(hw : ¬(sIx items.size 0 lo=0/\sIx items.size items.size hi=items.size))
  (h:Q (.ref s.heap.objs.size) {s with heap:=s.heap.push {cls:=.type "tuple",data:=.seq ((items.toList.drop (sIx items.size 0 lo)).take (sIx items.size items.size hi-sIx items.size 0 lo)).toArray}})
  (n:items.size<=Sn):Sm (So prog w) A (getItem (.ref t) (.ref c)) Q E s:=by
 let a:sizeOk (.seq ((items.toList.drop (sIx items.size 0 lo)).take (sIx items.size items.size hi-sIx items.size 0 lo)).toArray):=by
  change((items.toList.drop (sIx items.size 0 lo)).take (sIx items.size items.size hi-sIx items.size 0 lo)).toArray.size<=Sn;grind
 let p:sIx items.size items.size hi<=items.size:=wB6 _ _ (aI _) hi;let⟨os,d,e,o⟩:=id k;let f:s.TypeIs (.ref c) "slice":=⟨os,d,e⟩;unfold getItem
 try with_reducible refine bK ?_
 first|show aA (aC ?_)|skip
 show aA (wpAny_sequenceKey b.typeIs ⋯ ?_)
 refine aA (cU (name:=Str.ofString "__getitem__") b.typeIs cX
  (cB cX b.typeIs entry_tuple_getitem ?_ (args_tuple_getitem _ _)))
 change Sm _ _ (Builtin.Tuple.tupleItemsOf (.ref t) >>=_) _ _ s;show aA (tupleItemsOf_ b ?_);show aA (eV f ?_);rw[if_pos ⋯];show aA (qG0 k pl l ?_);let g:¬((((sIx items.size 0 lo:Nat):Int) == 0&&(1:Int) == 1&&(sIx items.size items.size hi-sIx items.size 0 lo) == items.size)=Sc):=by
  grind
 change Sm _ _ (if (((sIx items.size 0 lo:Nat):Int) == 0&&(1:Int) == 1&&(sIx items.size items.size hi-sIx items.size 0 lo) == items.size)=Sc then _ else _) _ _ s;rw[if_neg g,qW1]
 first
  |show aA (m:=Builtin.Tuple.tupleExact _) (bW (aC ⟨_,rfl,aC h⟩) a)
  |show aA (m:=Builtin.Tuple.tupleExact _) (bW (aA (aC (aC ⟨_,rfl,aC h⟩))) a)
  |show aA (aA (m:=Builtin.Tuple.tupleExact _) (bW (aC (aC ⟨_,rfl,aC h⟩)) a))
  |show aA (aA (m:=Builtin.Tuple.tupleExact _) (bW (aC ⟨_,rfl,aC h⟩) a))
end HT
namespace L2
open PySem PySem.Spec PyProof.Rows
abbrev TO:=St->Hp->(Option Int->Hp->Prop)->Prop
def PO(X:Cx)(e:Option Sl)(t:TO):Prop:=
 ∀(pins:List (Sf×Ss)) (s:Sg) (σ : St) (H:Hp) (Q:Option Int->Hp->Prop),Inv X pins σ H s->t σ H Q ->
  Sm (So X.prog X.w) X.A (evalPart e X.env) (λu s'=>∃o H',Inv X pins σ H' s'/\IsPart u o/\Q o H') X.xe s
def QB:TO:=λ_ H Q=>Q Sb H
def tPart(t:TE):TO:=λσ H Q=>t σ H λx H1=>∃i,x=.int i/\Q (Sa i) H1
theorem xw:∀{us:List Se},Vals (ns.map V.int) us->IntsAre us ns:=by
 induction ns with
 |nil=>intro us r;rw[gU]at r;cases r;show .nil
 |cons n ns a=>
  intro us r;rw[aU]at r;cases r with
  |cons b c=>
   let⟨t,e⟩:=b;subst e;show .cons n t (a c)
section
variable{X:Cx}{e:Sl}{te:TE}{lo hi:Option Sl}{tl th:TO}{pos p2:Pos}
theorem xE:PO X Sb QB:=by
 intro a s σ H Q I h;rw[evalPart_none];show aC ⟨Sb,H,I,.none,h⟩
theorem xG(h:PE X e te):PO X (Sa e) (tPart te):=by
 intro a s σ H Q I b;rw[evalPart_some];show thn (h a s σ H _ I b) λu j hq_=>?_;let⟨x,c,d,f,g⟩:=hq_;let⟨i,rfl,q⟩:=g;let⟨t,rfl⟩:=f;show⟨Sa i,c,d,.int i t,q⟩
def SlR(X:Cx)(r:V->Option Int->Option Int->Hp->VK->Prop):Prop:=
 ∀(pins:List (Sf×Ss)) (s:Sg) (σ : St) (H:Hp) (x:V) (v vl vu:Se) (lo hi:Option Int) (sl:Sf) (Q:VK),Inv X pins σ H s->RelV x v->s.heap.IsSliceOf sl vl vu .none->IsPart vl lo->IsPart vu hi->r x lo hi H Q ->
  ∃T id,typeLookup (.type T) "__getitem__"=pure (Sa (.builtin id))/\s.TypeIs v T/\Sm (So X.prog X.w) X.A (getItem v (.ref sl)) (EP X pins σ Q) X.xe s
def tSl(r:V->Option Int->Option Int->Hp->VK->Prop)(te:TE)(tl th:TO):TE:=λσ H Q=>te σ H λx H1=>tl σ H1 λl H2=>th σ H2 λu H3=>r x l u H3 Q
theorem xH(i:SlR X r)(j:PE X e te)(k:PO X lo tl)(m:PO X hi th):PE X (.Subscript e (.Slice lo hi Sb p2) pos) (tSl r te tl th):=by
 intro a s σ H Q I h;show Subscript_ (thn (j a s σ H _ I h) λv n hq_=>?_);let⟨x,o,p,t,y⟩:=hq_;show wpAny_Slice (thn (k a n σ o _ p y) λd z hq_=>?_);let⟨l,B,C,D,E⟩:=hq_;show thn (m a z σ B _ C E) λf c hq_=>?_;let⟨u,g,F,G,J⟩:=hq_;rw[evalPart_none];show aC ?_;let K:Inv X a σ g {c with heap:=c.heap.push {cls:=.type "slice",data:=.fields #[d,f,.none]}}:=F.kept (t':=c.toks) λb N q=>aG _ q;let⟨T,id,hT,L,M⟩:=i a {c with heap:=c.heap.push {cls:=.type "slice",data:=.fields #[d,f,.none]}} σ g x v d f l u c.heap.objs.size Q K t (Heap.IsSliceOf.new ..) D G J;change Sm (So X.prog X.w) X.A (subscriptTail e (.Slice lo hi Sb p2) v (.ref c.heap.objs.size)) (EP X a σ Q) X.xe {c with heap:=c.heap.push {cls:=.type "slice",data:=.fields #[d,f,.none]}}
 show tail_any (ops:=[.ref c.heap.objs.size,v]) L hT M (by with_unfolding_all rfl)
noncomputable def cutV(xs:List V)(lo hi:Option Int):List V:=(xs.drop (HT.sIx xs.length 0 lo)).take (HT.sIx xs.length xs.length hi-HT.sIx xs.length 0 lo)
theorem QC(xs:List V)(lo hi:Option Int):(cutV xs lo hi).length<=xs.length:=by
 unfold cutV;rw[aV,List.length_drop];lia
def rSlT(K:SH):V->Option Int->Option Int->Hp->VK->Prop:=λx lo hi H Q => ∃a xs,x = .ref a/\SqT K H a xs /\
 ¬(HT.sIx xs.length 0 lo=0/\HT.sIx xs.length xs.length hi=xs.length)/\∀p,H p=Sb->Q (.ref p) (upd H p (.tup (cutV xs lo hi)))
theorem wS:SlR X (rSlT X.K):=by
 intro f s σ H x v t u lo hi w Q I j k l m h;let⟨a,d,rfl,n,p,q⟩:=h;cases j;let⟨e,r,g,i⟩:=I.tuple n;let c:e.toArray.size=d.length:=by rw[aX];show r.length.symm
 show⟨"tuple",_,cX.lookup,g.typeIs,?_⟩;show HT.getItem_tuple_cut g k l m (by rw[c];show p) ?_ (by rw[c];show i);rw[c];show⟨.ref s.heap.objs.size,_,I.laid (t':=s.toks) (o:=.tup (cutV d lo hi)) (λb y q=>aG _ q) (aI _) ?_,rfl,q _ (I.hok.fresh (aI _))⟩;show⟨cA (QC d lo hi) i,_,(r.drop (HT.sIx d.length 0 lo)).take (HT.sIx d.length d.length hi-HT.sIx d.length 0 lo),IsTup.new _ _⟩
end
noncomputable def ixN(n:Nat)(i:Int):Option Nat:=if 0<=i then (if i<n then Sa i.toNat else Sb)else if -(n:Int)<=i then Sa (i+n).toNat else Sb
noncomputable def atI{α:Type}(xs:List α)(i:Int):Option α:=(ixN xs.length i).bind λj=>xs[j]?
theorem QD{n:Nat}{i:Int}{j:Nat}(h:ixN n i=Sa j):seqIndex? i n=Sa j/\j<n/\-(n:Int)<=i/\i<n:=by
 grind[ixN,seqIndex_of,seqIndex_neg]
theorem QE{α:Type}{xs:List α}{i:Int}{v:α}(h:atI xs i=Sa v):∃j,seqIndex? i xs.length=Sa j/\xs[j]? = Sa v/\j<xs.length/\-(xs.length:Int)<=i/\i<xs.length:=by
 unfold atI at h;cases e:ixN xs.length i with
 |none=>rw[e]at h;cases h
 |some j=>
  rw[e]at h;let⟨a,b,c,d⟩:=QD e;show⟨j,a,h,b,c,d⟩
theorem zf{α:Type}{xs:List α}{j:Nat}{v:α}(h:xs[j]? = Sa v):atI xs (j:Int)=Sa v:=by
 let a:j<xs.length:=(aD.mp h).1;let e:ixN xs.length (j:Int)=Sa j:=by
  unfold ixN;rw[if_pos ∎,if_pos ∎];simp
 unfold atI;rw[e];show h
theorem qX9{α:Type}(xs:List α)(v:α):atI (xs++[v]) (-1)=Sa v:=by
 let a:(xs++[v]).length=xs.length+1:=by simp
 let e:ixN (xs++[v]).length (-1)=Sa xs.length:=by
  unfold ixN;rw[a,if_neg ⋯,if_pos ∎]
  congr 1
  lia
 unfold atI;rw[e];change(xs++[v])[xs.length]? = Sa v;simp
def wAr(b:Sl):Prop:=∀o i,subscripted b Sd o i=operate [o,i] (getItem o i)
def IxR(X:Cx)(r:R2):Prop:=
 ∀(value slice:Sl) (pins:List (Sf×Ss)) (s:Sg) (σ : St) (H:Hp) (x y:V) (v u:Se) (Q:VK),Inv X pins σ H s->RelV x v->RelV y u->r x y H Q ->
  subscripted slice Sd v u=operate [v,u] (getItem v u)->Sm (So X.prog X.w) X.A (subscriptTail value slice v u) (EP X pins σ Q) X.xe s
def MtR(X:Cx)(id:String)(r:V->List V->Hp->VK->Prop):Prop:=
 ∀(pins:List (Sf×Ss)) (s:Sg) (σ : St) (H:Hp) (x:V) (xs:List V) (v:Se) (us:List Se) (Q:VK),Inv X pins σ H s->RelV x v->Vals xs us->r x xs H Q ->
  Sm (So X.prog X.w) X.A (call (.builtin id) (v::us)) (EP X pins σ Q) X.xe s
section
variable{X:Cx}{a b:Sl}
theorem zM(d:IxR X r)(e:PE X a ta)(f:PE X b tb)(g:wAr b):PE X (.Subscript a b pos) (tOp r ta tb):=by
 intro c s σ H Q I h;show Subscript_ (binT e f I h λv u i x y j k l m q=>d a b c i σ j x y v u Q k l m q (g _ _))
def rIxL(K:SH):R2:=λx y H Q=>∃p xs i v,x=.ref p/\y=.int i/\SqL K H p xs/\atI xs i=Sa v/\Q v H
def rIxT(K:SH):R2:=λx y H Q=>∃p xs i v,x=.ref p/\y=.int i/\SqT K H p xs/\atI xs i=Sa v/\Q v H
theorem zZ:IxR X (rIxL X.K):=by
 intro d slice a s σ H x y v u Q I o A h l;let⟨p,L,i,z,rfl,rfl,B,C,q⟩:=h;cases o;let⟨t,rfl⟩:=A;let⟨e,r,f,M⟩:=I.list B;let⟨j,c,D,N,E,F⟩:=QE C;let⟨w,m,g⟩:=r.get D;let G:=r.length;let O:=vL;let b:EP X a σ Q w s:=⟨z,H,I,g,q⟩;by_cases n:0<=i
 .let k:i.toNat=j:=by
   rw[seqIndex_of n F]at c;show bB c
  show item_listR f.isList n ∎ (by rw[k];simpa using m) b l
 .let k:(i+(e.toArray.size:Int)).toNat=j:=by
   rw[seqIndex_neg ∎ E]at c;rw[aX,<-G];show bB c
  exact subscriptTail_builtinR (x:=w) f.isList.typeIs slot_list_getitem.lookup
   (wpAny_getItem_list_neg (Q:=λr J=>r=w/\EP X a σ Q r J) f.isList ∎ (by rw[aX]<;>lia) ∎ (by rw[k];simpa using m) ⟨rfl,b⟩) l
theorem yF:IxR X (rIxT X.K):=by
 intro b slice a s σ H x y v u Q I f g h k;let⟨p,E,i,z,rfl,rfl,l,m,q⟩:=h;cases f;let⟨t,rfl⟩:=g;let⟨n,r,e,F⟩:=I.tuple l;let⟨j,o,A,G,J,L⟩:=QE m;let⟨w,B,c⟩:=r.get A;let C:=r.length;let M:=vL;let d:EP X a σ Q w s:=⟨z,H,I,c,q⟩;exact subscriptTail_builtinR (x:=w) e.typeIs slot_tuple_getitem.lookup
  (getItem_tuple (j:=j) (Q:=λr D=>r=w/\EP X a σ Q r D) e ∎ ∎ (by rw[aX,<-C];show o) (by simpa using B) ⟨rfl,d⟩) k
theorem qPt(its:List Se)(n j:Nat)(u:Se):Obj.mapSeq (·.setIfInBounds j u) {cls:=.type "list",data:=.seq its.toArray n}={cls:=.type "list",data:=.seq (its.set j u).toArray n}:=by
 simp[Obj.mapSeq]
theorem Inv.lst{a:List (Sf×Ss)}{σ:St}{H:Hp}{s:Sg}{p:Sf}{xs:List V}(I:Inv X a σ H s)(h:H p=Sa (.lst xs)):∃(its:List Se)(n:Nat),Vals xs its/\s.heap.get? p=Sa {cls:=.type "list",data:=.seq its.toArray n}/\xs.length<=Sn:=by
 let⟨z,its,n,r,e⟩:=I.hok p _ h;show⟨its,n,r,e,z⟩
theorem Inv.lstUpd{a:List (Sf×Ss)}{σ : St}{H:Hp}{s:Sg}{p:Sf}{xs ys:List V}{its its':List Se}{n c:Nat}{f:Ss->Ss}(I:Inv X a σ H s)(h:H p=Sa (.lst xs))
  (g:s.heap.get? p=Sa {cls:=.type "list",data:=.seq its.toArray n}) (d:f {cls:=.type "list",data:=.seq its.toArray n}={cls:=.type "list",data:=.seq its'.toArray c}) (r:Vals ys its') (i:ys.length<=Sn) (t:Nat) :
  Inv X a σ (upd H p (.lst ys)) {s with heap:=s.heap.update p f,toks:=t}:=by
 let e:(s.heap.update p f).get? p=Sa {cls:=.type "list",data:=.seq its'.toArray c}:=by
  rw[bQ f g (by rw[d]<;>rfl),d]
 show I.write (x:=p) (e:=p) (by rw[h];trivial) (.inl rfl) (λb u j q=>(bT _ _ (cC j)).trans q) ⟨_,e⟩ ?_;show⟨i,its',c,r,e⟩
def rSetL:V->V->V->Hp->(Hp->Prop)->Prop:=λo i v H Q=>∃p xs k j,o=.ref p/\i=.int k/\H p=Sa (.lst xs)/\ixN xs.length k=Sa j/\Q (upd H p (.lst (xs.set j v)))
theorem QF:PSet X rSetL:=by
 intro a s σ H o i v E F u Q I y z A h;let⟨p,B,k,j,rfl,rfl,g,C,q⟩:=h;cases y;let⟨t,rfl⟩:=z;let⟨b,n,r,d,D⟩:=I.lst g;let⟨c,G,l,m⟩:=QD C;let e:=r.length;let J:=vL;let w:Inv X a σ (upd H p (.lst (B.set j v))) {s with heap:=s.heap.update p (Obj.mapSeq (·.setIfInBounds j u))}:=
  I.lstUpd g d (qPt b n j u) (r.set A j) (by grind) s.toks
 grind[seqIndex_of,PySem.W.ki_setAt,seqIndex_neg,PySem.W.ki_setBack]
theorem qKg(lo hi:Option Int)(n:Nat):(sliceBounds lo hi Sb n).1=((HT.sIx n 0 lo:Nat):Int)/\(sliceBounds lo hi Sb n).2.1=((HT.sIx n n hi:Nat):Int)/\(sliceBounds lo hi Sb n).2.2=1:=by
 show⟨?_,?_,rfl⟩
 .cases lo with
  |none=>simp[sliceBounds,HT.sIx]
  |some i=>
   simp only[sliceBounds,HT.sIx,Option.getD_none,show(1:Int)>0 by decide,if_true];by_cases h:i<0
   .simp only[h,if_true]<;>lia
   .simp only[h,if_false]<;>lia
 .cases hi with
  |none=>simp[sliceBounds,HT.sIx]
  |some i=>
   simp only[sliceBounds,HT.sIx,Option.getD_none,show(1:Int)>0 by decide,if_true];by_cases h:i<0
   .simp only[h,if_true]<;>lia
   .simp only[h,if_false]<;>lia
theorem qIo(its:List Se)(lo hi:Option Int):slicePick its.toArray lo hi Sb=((its.drop (HT.sIx its.length 0 lo)).take (HT.sIx its.length its.length hi-HT.sIx its.length 0 lo)).toArray:=by
 let⟨a,b,c⟩:=qKg lo hi its.toArray.size;unfold slicePick;rw[a,b,c];simp only[sliceRange_one,pick_run,aX]<;>rfl
def rSlL(K:SH):V->Option Int->Option Int->Hp->VK->Prop:=λx lo hi H Q=>∃a xs,x=.ref a/\SqL K H a xs/\∀p,H p=Sb->Q (.ref p) (upd H p (.lst (cutV xs lo hi)))
theorem uG:SlR X (rSlL X.K):=by
 intro f s σ H x v t u lo e w Q I i j k l h;let⟨a,c,rfl,m,q⟩:=h;cases i;let⟨n,r,g,p⟩:=I.list m;let d:=r.length;show⟨"list",_,slot_list_getitem.lookup,g.isList.typeIs,?_⟩;show wpAny_getItem_list_slice g.isList j k l .none ∅ ?_ (by grind);rw[qIo,<-d];show⟨.ref s.heap.objs.size,_,I.laid (t':=s.toks) (o:=.lst (cutV c lo e)) (λb y q=>aG _ q) (aI _) ?_,rfl,q _ (I.hok.fresh (aI _))⟩;show⟨cA (QC c lo e) p,_,0,(r.drop (HT.sIx c.length 0 lo)).take (HT.sIx c.length c.length e-HT.sIx c.length 0 lo),aT _ rfl⟩
noncomputable def flatV:V->Bool
 |.non=>Sc
 |.bl _=>Sc
 |.int _=>Sc
 |.str _=>Sc
 |_=>Sd
noncomputable def eqV:V->V->Bool
 |.non,.non=>Sc
 |.bl a,.bl b=>a == b
 |.bl a,.int b=>(if a then 1 else 0) == b
 |.int a,.bl b=>a == (if b then 1 else 0)
 |.int a,.int b=>a == b
 |.str a,.str b=>a == b
 |_,_=>Sd
theorem wC9(e:RelV y u)(c:RelV x v)(g:flatV y=Sc)(f:flatV x=Sc):SeqAt.EqAt A s u v (eqV y x):=by
 cases y with
 |non=>
  cases e;cases x with
  |non=>cases c;show SeqAt.EqAt.same _
  |bl b=>cases c;show SeqAt.EqAt.none_bool b
  |int b=>obtain⟨t,rfl⟩:=c;show SeqAt.EqAt.none_int b t
  |str b=>obtain⟨t,rfl⟩:=c;show SeqAt.EqAt.none_str b t
  |_=>show absurd (show Sd=Sc from f) aM
 |bl a=>
  cases e;cases x with
  |non=>cases c;show SeqAt.EqAt.bool_none a
  |bl b=>cases c;show SeqAt.EqAt.bool_bool a b
  |int b=>obtain⟨t,rfl⟩:=c;show SeqAt.EqAt.bool_int a b t
  |str b=>obtain⟨t,rfl⟩:=c;show SeqAt.EqAt.bool_str a b t
  |_=>show absurd (show Sd=Sc from f) aM
 |int a=>
  let⟨d,rfl⟩:=e;cases x with
  |non=>cases c;show SeqAt.EqAt.int_none a d
  |bl b=>cases c;show SeqAt.EqAt.int_bool a d b
  |int b=>obtain⟨t,rfl⟩:=c;show SeqAt.EqAt.int_int a d b t
  |str b=>obtain⟨t,rfl⟩:=c;show SeqAt.EqAt.int_str a d b t
  |_=>show absurd (show Sd=Sc from f) aM
 |str a=>
  let⟨d,rfl⟩:=e;cases x with
  |non=>cases c;show SeqAt.EqAt.str_none a d
  |bl b=>cases c;show SeqAt.EqAt.str_bool a d b
  |int b=>obtain⟨t,rfl⟩:=c;show SeqAt.EqAt.str_int a d b t
  |str b=>obtain⟨t,rfl⟩:=c;show SeqAt.EqAt.str_str a d b t
  |_=>show absurd (show Sd=Sc from f) aM
 |_=>show absurd (show Sd=Sc from g) aM
noncomputable def eqU(x:V)(u:Se):Bool:=match u with
 |.none=>eqV .non x
 |.bool b=>eqV (.bl b) x
 |.int i _=>eqV (.int i) x
 |.str z _=>eqV (.str z) x
 |_=>Sd
theorem QG(r:RelV y u)(f:flatV y=Sc):eqU x u=eqV y x:=by
 cases y with
 |non=>cases r;rfl
 |bl b=>cases r;rfl
 |int i=>obtain⟨t,rfl⟩:=r;rfl
 |str z=>obtain⟨t,rfl⟩:=r;rfl
 |_=>show absurd (show Sd=Sc from f) aM
theorem uH(h:Vals xs us)(f:xs.all flatV=Sc):us.any (eqU x)=xs.any λy=>eqV y x:=by
 induction h<;>grind[QG]
theorem uI(a:RelV x v)(b:flatV x=Sc)(h:Vals xs us)(f:xs.all flatV=Sc):∀u∈us,SeqAt.EqAt A s u v (eqU x u):=by
 induction h with
 |nil=>intro u hu;cases hu
 |cons r t c=>
  intro d hu;rw[List.all_cons,bR]at f;rcases aN.mp hu with rfl|hu
  .rw [QG r f.1];show wC9 r a f.1 b
  .exact c f.2 d hu
noncomputable def inV(x:V)(xs:List V):Bool:=xs.any λy=>eqV y x
def rIn(K:SH)(neg:Bool):R2:=λx y H Q=>∃p xs,y=.ref p/\(SqL K H p xs\/SqT K H p xs)/\flatV x=Sc/\xs.all flatV=Sc/\Q (.bl (if neg then !inV x xs else inV x xs)) H
theorem xI:OpR X (SB .In) (rIn X.K Sd):=by
 intro d s σ H x y v u Q I e g h;let⟨p,j,rfl,hq,f,fs,q⟩:=h;cases g;rcases hq with hq|hq
 .let⟨a,r,b,i⟩:=I.list hq;show SeqAt.in_listAt (eqU x) b.isList (λw c=>uI e f r fs w (by grind)) ⟨.bl _,H,I,rfl,?_⟩;rw[show a.toArray.any (eqU x)=a.any (eqU x)by simp,uH r fs];show q
 .let⟨a,r,b,i⟩:=I.tuple hq;show SeqAt.in_tupleAt (eqU x) b (λw c=>uI e f r fs w (by grind)) ⟨.bl _,H,I,rfl,?_⟩;rw[show a.toArray.any (eqU x)=a.any (eqU x)by simp,uH r fs];show q
theorem qKx:OpR X (SB .NotIn) (rIn X.K Sc):=by
 intro d s σ H x y v u Q I e g h;let⟨p,j,rfl,hq,f,fs,q⟩:=h;cases g;rcases hq with hq|hq
 .let⟨a,r,b,i⟩:=I.list hq;show SeqAt.notIn_listAt (eqU x) b.isList (λw c=>uI e f r fs w (by grind)) ⟨.bl _,H,I,rfl,?_⟩;rw[show a.toArray.any (eqU x)=a.any (eqU x)by simp,uH r fs];show q
 .let⟨a,r,b,i⟩:=I.tuple hq;show SeqAt.notIn_tupleAt (eqU x) b (λw c=>uI e f r fs w (by grind)) ⟨.bl _,H,I,rfl,?_⟩;rw[show a.toArray.any (eqU x)=a.any (eqU x)by simp,uH r fs];show q
theorem yV:CallR X (.builtin "len") (λxs H Q=>∃p ys,xs=[.ref p]/\(SqL X.K H p ys\/SqT X.K H p ys)/\Q (.int ys.length) H):=by
 intro e s σ H xs i Q I r h;let⟨p,ys,rfl,hq,q⟩:=h;let⟨u,rfl,f⟩:=vals1 r;cases f;let j:=vL;rcases hq with hq|hq
 .let⟨b,c,d,g⟩:=I.list hq;let a:=c.length;show Calls.call_len_list d.isList (by grind) ⟨.int ys.length,H,I.tok _,⟨s.toks+1,by grind⟩,q⟩
 .let⟨b,c,d,g⟩:=I.tuple hq;let a:=c.length;show len_tuple d (by grind) ⟨.int ys.length,H,I.tok _,⟨s.toks+1,by grind⟩,q⟩
theorem wT:CallR X (.type "list") (λxs H Q=>∃p ys,xs=[.ref p]/\(SqL X.K H p ys\/SqT X.K H p ys)/\∀l,H l=Sb->Q (.ref l) (upd H l (.lst ys))):=by
 intro g s σ H xs B Q I r h;let⟨p,ys,rfl,hq,q⟩:=h;let⟨u,rfl,A⟩:=vals1 r;cases A;let i:∀(a:List Se),Vals ys a->ys.length<=Sn -> ∀(c:Sk) (d:Nat),(∀b z,s.heap.get? b=Sa z->c.get? b=Sa z) ->
   c.get? s.heap.objs.size=Sa {cls:=.type "list",dict:=Sb,data:=.seq a.toArray d,slots:=#[]}->EP X g σ Q (.ref s.heap.objs.size) {s with heap:=c}:=λa f j c d k e=>
  ⟨.ref s.heap.objs.size,_,I.laid (t':=s.toks) k (aI _) (show ObjOk X.prog X.w _ c _ (.lst ys)from⟨j,a,d,f,e⟩),rfl,q _ (I.hok.fresh (aI _))⟩
 rcases hq with hq|hq
 .let⟨a,f,t,j⟩:=I.list hq;let m:=f.length;let⟨o,v,x,n,y⟩:=t.isList;show call_list_seq p (.inl rfl) v x y (λc d k e=>i a f j c d k e) (by simp only[aX]<;>lia)
 .let⟨a,f,t,j⟩:=I.tuple hq;let m:=f.length;let⟨o,v,x,n,y⟩:=t;show call_list_seq p (.inr rfl) v x y (λc d k e=>i a f j c d k e) (by simp only[aX]<;>lia)
def tyV(K:SH)(T:String)(x:V)(H:Hp):Prop:=match x with
 |.str _=>T="str"
 |.int _=>T="int"
 | .ref p=>(T = "list" /\ ∃xs,SqL K H p xs)\/(T = "tuple" /\ ∃o,K.lookup p=Sa o/\o.cls = .type "tuple" /\ o.dict=Sb) \/
   (T="dict"/\((∃kvs,H p=Sa (.dK kvs))\/∃kvs,H p=Sa (.dT kvs)))\/(T="set"/\∃S n,H p=Sa (.set S n))
 |_=>False
theorem QH{f:List (Sf×Ss)}{σ:St}{H:Hp}{s:Sg}{T:String}{x:V}{v:Se}(I:Inv X f σ H s)(r:RelV x v)(ty:tyV X.K T x H):s.TypeIs v T/\∀a,v=.ref a->∃ob,s.heap.get? a=Sa ob/\ob.dict=Sb:=by
 cases x with
 |str z=>
  let⟨t,rfl⟩:=r;cases (show T="str" from ty);show⟨typeIs_str s z t,λ_ e=>nomatch e⟩
 |int i=>
  let⟨t,rfl⟩:=r;cases (show T="int" from ty);show⟨typeIs_int s i t,λ_ e=>nomatch e⟩
 |ref p=>
  cases r;rcases ty with ⟨rfl,u,l⟩|⟨rfl,o,b,m,g⟩|⟨rfl,b⟩|⟨rfl,S,n,b⟩
  .let⟨q,_,k,_⟩:=I.list l;show⟨k.isList.typeIs,λa e=>?_⟩;cases e;let⟨o,n,e,c,g,_⟩:=k;show⟨o,e,g⟩
  .refine⟨⟨o,I.kIn p o b,m⟩,λa e=>?_⟩;cases e;show⟨o,I.kIn _ o b,g⟩
  .let z:∃o,s.heap.get? p=Sa o/\o.ExactDict:=by
    rcases b with ⟨h,b⟩|⟨h,b⟩
    .let⟨_,_,_,_,o,_,_,e,d,_⟩:=I.hok p _ b;show⟨o,e,d⟩
    .let⟨_,_,_,_,o,_,_,e,d,_⟩:=I.hok p _ b;show⟨o,e,d⟩
   let⟨o,e,d⟩:=z;show⟨⟨o,e,d.1⟩,λa j=>?_⟩;cases j;show⟨o,e,d.2.1⟩
  .let⟨o,_,_,_,e,d,_⟩:=I.hok p _ b;show⟨⟨o,e,d.1⟩,λa j=>?_⟩;cases j;show⟨o,e,d.2.1⟩
 |_=>show False.elim ty
def tBM0(K:SH)(T:String)(r:V->List V->Hp->VK->Prop)(to:TE):TE:=λσ H Q=>to σ H λx H1=>tyV K T x H1/\r x [] H1 Q
def tBM(K:SH)(T:String)(r:V->List V->Hp->VK->Prop)(to:TE)(t:TA):TE:=λσ H Q=>to σ H λx H1=>tyV K T x H1/\t σ H1 λxs H2=>r x xs H2 Q
variable{o e:Sl}{es:List Sl}{to:TE}{t:TA}{name:Str}{apos cpos:Pos}{T id:String}{r:V->List V->Hp->VK->Prop}
theorem kX(g:PlainAttrs T)(slot:Slot T name id)(d:typeOf (.builtin id)=pure (.type "method_descriptor"))(i:MtR X id r)(j:PE X o to)
  (b:attributeBase o name X.env (Sw o X.env)=Sw o X.env:=by rfl) (c:(apos.endLine == cpos.line)=Sc:=by rfl):PE X (.Call (.Attribute o name apos) [] [] cpos) (tBM0 X.K T r to):=by
 intro a s σ H Q I h;show wpAny_Call_method0_late b c (thn (j a s σ H _ I h) λv k hq_=>?_);let⟨x,l,e,f,ty,m⟩:=hq_;let⟨n,p⟩:=QH e f ty;show⟨T,id,g,slot,d,n,p,fU rfl (PySem.evalArgs_none (i a k σ l x [] v [] Q e f .nil m))⟩
theorem yN(l:PlainAttrs T)(slot:Slot T name id)(g:typeOf (.builtin id)=pure (.type "method_descriptor"))(m:MtR X id r)(n:PE X o to)(p:PA X (e::es) t)
  (c:attributeBase o name X.env (Sw o X.env)=Sw o X.env:=by rfl)
  (f:((backTo cpos (Sv (e::es) X.env)).all (λx => !x.1)&&(backToKw cpos (keywordEach [] X.env)).all (λx=>x.1.isSome)
   && decide ((e::es).length+([]:List Keyword).length+(if ([]:List Keyword).isEmpty then 0 else 1)<30))=Sc:=by rfl)
  (d:(apos.endLine == cpos.line)=Sc:=by rfl) (q:Sv (e::es) X.env=(Sd,Sw e X.env)::Sv es X.env:=by rfl) (b:(backTo cpos (Sv es X.env)).any (·.1)=Sd:=by rfl) :
  PE X (.Call (.Attribute o name apos) (e::es) [] cpos) (tBM X.K T r to t):=by
 intro a s σ H Q I h;show wpAny_Call_method_late c f d rfl (thn (n a s σ H _ I h) λv u hq_=>?_);let⟨x,w,i,j,ty,y⟩:=hq_;let⟨z,A⟩:=QH i j ty;show⟨T,id,l,slot,g,z,A,?_⟩;let k:=p cpos a u σ w _ i y;rw[q]at k ⊢;show fU (by change(Sd||(backTo cpos (Sv es X.env)).any (·.1))=Sd;rw[b]<;>rfl) (iH ?_);show thn k λB C hq_=>?_;let⟨D,E,F,G,J⟩:=hq_;show m a C σ E x D v B Q F j G J
end
def MtM(X:Cx)(id:String)(r:V->List V->Hp->VK->Prop):Prop:=
 ∀(pins:List (Sf×Ss)) (s:Sg) (σ : St) (H:Hp) (x:V) (xs:List V) (v:Se) (us:List Se) (Q:VK),Inv X pins σ H s->RelV x v->Vals xs us->r x xs H Q ->
  Sm (So X.prog X.w) X.A (call (.builtin id) (v::us)) (EP X pins σ Q) X.xe s
theorem Vals.one(h:Vals [x] us):∃u,us=[u]/\RelV x u:=by
 cases h with|cons r t=>cases t;show⟨_,rfl,r⟩
theorem Vals.zero:∀ {us:List Se},Vals [] us->us = []
 |_,.nil=>rfl
theorem Vals.dropLast(h:Vals xs us):Vals xs.dropLast us.dropLast:=by
 induction h with
 |nil=>show .nil
 |cons r t a=>
  cases t with
  |nil=>show .nil
  |cons q b=>show .cons r a
theorem Vals.eraseIdx:∀ {xs:List V} {us:List Se} (i:Nat),Vals xs us->Vals (xs.eraseIdx i) (us.eraseIdx i)
 |_,_,_,.nil=>.nil
 |_,_,0,.cons _ t=>t
 |_,_,i+1,.cons r t=>.cons r (Vals.eraseIdx i t)
theorem Vals.reverse(h:Vals xs us):Vals xs.reverse us.reverse:=by
 induction h with
 |nil=>show .nil
 |cons r t a=>rw[List.reverse_cons,List.reverse_cons];show Vals.append a (.cons r .nil)
theorem Vals.rep(h:Vals xs us):∀k:Nat,Vals (List.replicate k xs).flatten (List.replicate k us).flatten
 |0=>.nil
 |k+1=>by
  rw[fS,fS,List.flatten_cons,List.flatten_cons];show Vals.append h (Vals.rep h k)
theorem qQ0{α:Type}(l:List α):l.eraseIdx (l.length-1)=l.dropLast:=by
 simp
theorem QI{α : Type}:∀(l:List α) (i:Nat),(l.eraseIdx i).length<=l.length
 |[],_=>aI _
 |_::_,0=>eY _
 |_::r,i+1=>Nat.succ_le_succ (QI r i)
theorem QJ(its:List Se):∀(k:Nat)(a:List Se),
  List.foldl (λx1 x2=>x1++x2) a.toArray (List.replicate k its.toArray)=(a++(List.replicate k its).flatten).toArray
 :=by intro x;induction x<;>grind
theorem Inv.lset{its its':List Se}{n:Nat}{f:Array Se->Array Se}{t':Nat}(I:Inv X pins σ H s)(a:H l=Sa (.lst xs))
  (e:s.heap.get? l=Sa {cls:=.type "list",data:=.seq its.toArray n}) (b:f its.toArray=its'.toArray) (c:Vals ys its') (d:ys.length<=Sn) :
  Inv X pins σ (upd H l (.lst ys)) {s with heap:=s.heap.update l (Obj.mapSeq f),toks:=t'}:=by
 let q:=PySem.IsL.update e f;rw[b]at q;show I.write (x:=l) (e:=l) (by rw[a];show trivial) (.inl rfl) (λi u g h=>(bT s.heap (Obj.mapSeq f) (cC g)).trans h) ⟨_,q⟩ ?_;show⟨d,its',_,c,q⟩
theorem Inv.lnew{t':Nat}(I:Inv X pins σ H s)(a:Vals ys its)(hz:ys.length<=Sn):Inv X pins σ (upd H s.heap.objs.size (.lst ys)) {s with heap:=s.heap.push {cls:=.type "list",data:=.seq its.toArray},toks:=t'}:=
 I.laid (λ_ _ q=>aG _ q) (aI _) ⟨hz,its,0,a,aT _ rfl⟩
theorem Inv.fresh(I:Inv X pins σ H s):H s.heap.objs.size=Sb:=I.hok.fresh (aI _)
theorem Inv.lstM(I:Inv X pins σ H s)(a:H l=Sa (.lst xs)):xs.length<=Sn/\∃(its:List Se)(n:Nat),Vals xs its/\xs.length=its.length/\s.heap.get? l=Sa {cls:=.type "list",data:=.seq its.toArray n}:=by
 let⟨z,its,n,r,e⟩:=I.hok l _ a;show⟨z,its,n,r,r.length,e⟩
theorem QK{n:Nat}(h:n<=Sn):Builtin.List.listTooLong n=Sd:=by
 grind[Builtin.List.listTooLong]
def uJ:V->List V->Hp->VK->Prop:=λx vs H Q=>∃l xs y,x=.ref l/\vs=[y]/\H l=Sa (.lst xs)/\xs.length<Sn/\Q .non (upd H l (.lst (xs++[y])))
theorem yi:MtM X "list.append" uJ:=by
 intro b s σ H x i v j Q I d f h;let⟨l,k,y,rfl,rfl,c,m,q⟩:=h;cases d;let⟨u,rfl,g⟩:=f.one;let⟨z,a,n,r,o,e⟩:=I.lstM c;show call_meets F.slot_list_append ⟨_,e,rfl⟩ F.entry_list_append (F.args_list_append_2 _ _) (PySem.list_append l a.toArray n u (by rw[aX];lia)) ⟨e,?_⟩;show⟨.non,_,I.lset (its':=a++[u]) c e ∅ (r.append (.cons g .nil)) ?_,rfl,q⟩;rw[aJ,bE];lia
def QL:V->List V->Hp->VK->Prop:=λx vs H Q=>∃l b xs zs,x=.ref l/\vs=[.ref b]/\H l=Sa (.lst xs)/\H b=Sa (.lst zs)/\xs.length+zs.length<=Sn/\Q .non (upd H l (.lst (xs++zs)))
theorem vM:MtM X "list.extend" QL:=by
 intro f s σ H x y v A Q I i j h;let⟨l,b,B,C,rfl,rfl,g,k,D,q⟩:=h;cases i;let⟨u,rfl,m⟩:=j.one;cases m;let⟨z,a,n,r,E,e⟩:=I.lstM g;let⟨G,its2,o,p,t,w⟩:=I.lstM k;let d:a.toArray.size+its2.toArray.size<=Sn:=by grind
 let c:¬(!a.toArray.isEmpty&&Builtin.List.listTooLong (a.toArray.size+its2.toArray.size))=Sc:=by
  grind[QK]
 refine call_meets F.slot_list_extend ⟨_,e,rfl⟩ F.entry_list_extend (F.args_list_extend_2 _ _)
  (AutoSeq1.list_extend_list_list_0 l a.toArray n b its2.toArray o c (by grind) ∎) ⟨e,w,?_⟩
 show⟨.non,_,I.lset (its':=a++its2) g e ∅ (r.append p) ?_,rfl,q⟩;grind
def rPop:V->List V->Hp->VK->Prop:=λx vs H Q=>∃l xs y,x=.ref l/\vs=[]/\H l=Sa (.lst xs)/\xs[xs.length-1]? = Sa y/\Q y (upd H l (.lst xs.dropLast))
theorem kY:MtM X "list.pop" rPop:=by
 intro d s σ H x p v t Q I g i h;let⟨l,w,y,rfl,rfl,f,j,q⟩:=h;cases g;let b:=i.zero;subst b;let⟨z,a,n,r,k,e⟩:=I.lstM f;let⟨u,m,o⟩:=r.get j;let c:a.toArray[a.toArray.size-1]? = Sa u:=by
  change a.toArray[a.length-1]? = Sa u;rw[<-bF,<-k];show m
 show call_meets F.slot_list_pop ⟨_,e,rfl⟩ F.entry_list_pop (F.args_list_pop_1 _) (MeetsSeq.list_pop_last l a.toArray n u c (by rw[aX];lia)) ⟨e,?_⟩;show⟨y,_,I.lset (its':=a.dropLast) f e ?_ r.dropLast ?_,o,q⟩
 .show a.toArray.eraseIdxIfInBounds (a.toArray.size-1)=a.dropLast.toArray;rw[aX,List.eraseIdxIfInBounds_toArray,qQ0]
 .rw [List.length_dropLast];lia
def wBn:V->List V->Hp->VK->Prop:=λx vs H Q=>∃l xs i k y,x=.ref l/\vs=[.int i]/\H l=Sa (.lst xs)/\-(2^63)<=i/\i<2^63/\seqIndex? i xs.length=Sa k/\xs[k]? = Sa y/\Q y (upd H l (.lst (xs.eraseIdx k)))
theorem qWm:MtM X "list.pop" wBn:=by
 intro c s σ H x E v G Q I f g h;let⟨l,j,i,k,y,rfl,rfl,d,m,o,p,A,q⟩:=h;cases f;let⟨u,rfl,B⟩:=g.one;let⟨t,rfl⟩:=B;let⟨z,a,n,r,C,e⟩:=I.lstM d;let⟨w,D,b⟩:=r.get A;refine call_meets F.slot_list_pop ⟨_,e,rfl⟩ F.entry_list_pop (F.args_list_pop_2 _ _)
  (MeetsSeq.list_pop_at l a.toArray n i t k w (fitsIndex_both m o) (by rw[aX,<-C];show p) (by rw[<-bF];show D) (by rw[aX];lia)) ⟨e,?_⟩
 show⟨y,_,I.lset (its':=a.eraseIdx k) d e ?_ (r.eraseIdx k) ?_,b,q⟩
 .show a.toArray.eraseIdxIfInBounds k=(a.eraseIdx k).toArray;rw[List.eraseIdxIfInBounds_toArray]
 .let:=QI j k;lia
def rCat:R2:=λx y H Q=>∃l b xs zs,x=.ref l/\y=.ref b/\H l=Sa (.lst xs)/\H b=Sa (.lst zs)/\xs.length+zs.length<=Sn/\∀p,H p=Sb->Q (.ref p) (upd H p (.lst (xs++zs)))
theorem yu:OpR X (SA .Add) rCat:=by
 intro c s σ H x y v u Q I d f h;let⟨l,b,p,t,rfl,rfl,g,i,w,q⟩:=h;cases d;cases f;let⟨z,a,n,r,A,e⟩:=I.lstM g;let⟨B,its2,C,j,k,m⟩:=I.lstM i;show PySem.P.add_list e m ?_ (by grind);let o:a.toArray++its2.toArray=(a++its2).toArray:=by simp
 rw[o];show⟨.ref _,_,I.lnew (t':=s.toks) (r.append j) (by grind),rfl,q _ I.fresh⟩
def rRep:R2:=λx y H Q => ∃l k xs,x = .ref l/\y = .int k/\H l=Sa (.lst xs) /\ -(2^63)<=k/\k<2^63/\xs.length*k.toNat<=Sn /\
 ∀p,H p=Sb->Q (.ref p) (upd H p (.lst (List.replicate k.toNat xs).flatten))
theorem wAg{α:Type}(xs:List α)(k:Nat):(List.replicate k xs).flatten.length=k*xs.length:=by
 simp
theorem wBv:OpR X (SA .Mult) rRep:=by
 intro o s σ H x y v u Q I w A h;let⟨l,k,K,rfl,rfl,B,C,D,p,q⟩:=h;cases w;let⟨t,rfl⟩:=A;let⟨z,b,n,r,E,e⟩:=I.lstM B;let d:b.toArray.size*k.toNat<=Sn:=by rw[aX,<-E];show p
 let f:¬b.toArray.size*k.toNat>(2^63-1) / 8:=by
  let:(Sn:Nat)<=(2^63-1) / 8:=by decide
  lia
 let g:¬(!Builtin.List.listFitsIndex k)=Sc:=by
  rw[fitsIndex_both C D];show aM
 let c:¬Builtin.List.listTooLong (b.toArray.size*k.toNat)=Sc:=by
  rw[QK d];show aM
 let i:List.foldl (λj x2=>j++x2) #[] (List.replicate (if b.toArray.isEmpty=Sc then 0 else k.toNat) b.toArray)=(List.replicate k.toNat b).flatten.toArray:=by
  let G:∀m:Nat,List.foldl (λj x2=>j++x2) #[] (List.replicate m b.toArray)=(List.replicate m b).flatten.toArray:=λm=>by
   let:=QJ b m [];rw[List.nil_append]at this;show this
  rw[G];cases b with
  |nil=>simp
  |cons a L=>rw[if_neg ∅]
 refine wpAny_binaryOp_repeat_ref (T := "list") (U := "int") ⋯ ⟨_,e,rfl⟩ (λJ=>typeIs_int J k t) noFill_list_mul F.fills_int_mul F.slot_int_rmul repeat_list F.slot_int_index.lookup
  (call_meets F.slot_int_rmul (typeIs_int s k t) F.entry_int_rmul (F.args_int_rmul_2 _ _) (int___rmul___int_list k t l b.toArray n)
   ⟨e,rfl,⟨_,e,rfl⟩,call_meets F.slot_list_mul ⟨_,e,rfl⟩ F.entry_list_mul (F.args_list_mul_2 _ _) (AutoListH.list___mul___list_int_3 l b.toArray n k t g f c) ⟨e,?_⟩⟩)
 rw[i];show⟨.ref _,_,I.lnew (t':=s.toks) (r.rep k.toNat) (by rw[wAg,Nat.mul_comm];show p),rfl,q _ I.fresh⟩
section
variable[DecidableEq κ]
noncomputable def valV(kvs:List (κ×V))(k:κ):Option V:=(kvs.find? λkv=>decide (kv.1=k)).map (·.2)
noncomputable def putK(kvs:List (κ×V))(k:κ)(v:V):List (κ×V):=if (kvs.any λkv=>decide (kv.1=k))=Sc then kvs.map (λkv=>if kv.1=k then (kv.1,v)else kv)else kvs++[(k,v)]
theorem yj{k:κ}(e:p.1=k):valV (p::r) k=Sa p.2:=by simp[valV,gV,e]
theorem yk{k:κ}(e:¬p.1=k):valV (p::r) k=valV r k:=by simp[valV,gV,e]
theorem vN(k : κ):∀kvs:List (κ × V),(kvs.any λa=>decide (a.1=k))=(valV kvs k).isSome
 |[]=>rfl
 |p::r=>by
  rw[List.any_cons];by_cases e:p.1=k
  .grind[yj]
  .rw [yk e,decide_eq_false e,Bool.false_or];show vN k r
theorem QM(k j : κ)(y:V):∀kvs:List (κ × V),valV (kvs.map λa=>if a.1=k then (a.1,y) else a) j=(valV kvs j).map λx=>if j=k then y else x
 |[]=>rfl
 |p::r=>by
  let b:=QM k j y r;rw[aU];by_cases h:p.1=k
  .rw [if_pos h];by_cases e:p.1=j
   .rw [yj (p:=(p.1,y)) e,yj e,gP,if_pos (e.symm.trans h)]
   .rw [yk (p:=(p.1,y)) e,yk e,b]
  .rw [if_neg h];by_cases e:p.1=j
   .rw [yj (p:=p) e,yj e,gP,if_neg (λz=>h (e.trans z))]
   .rw [yk (p:=p) e,yk e,b]
theorem QN(k j : κ)(y:V):∀kvs:List (κ × V),valV kvs k=Sb->valV (kvs ++ [(k,y)]) j=if j=k then Sa y else valV kvs j
 |[],_=>by
  by_cases e:k=j
  .rw [if_pos e.symm];show yj (p:=(k,y)) e
  .rw [if_neg (λz=>e z.symm)];show yk (p:=(k,y)) e
 |p::r,a=>by
  rw[List.cons_append];let b:¬p.1=k:=λz=>by rw[yj z]at a;cases a
  rw[yk b]at a;let c:=QN k j y r a;by_cases e:p.1=j
  .rw [yj e,yj e,if_neg (λz=>b (e.trans z))]
  .rw [yk e,yk e,c]
theorem xx(kvs:List (κ×V))(k j:κ)(y:V):valV (putK kvs k y) j=if j=k then Sa y else valV kvs j:=by
 unfold putK;by_cases a:(kvs.any λb=>decide (b.1=k))=Sc
 .rw [if_pos a,QM];rw[vN]at a;by_cases e:j=k
  .let⟨x,c⟩:=iR.mp a;rw[if_pos e,e,c,gP,if_pos rfl]
  .rw [if_neg e];cases valV kvs j with
   |none=>rfl
   |some x=>rw[gP,if_neg e]
 .rw [if_neg a];show QN k j y kvs ?_;rw[vN]at a;cases q:valV kvs k with
  |none=>rfl
  |some x=>rw[q]at a;show(a rfl).elim
theorem xP(kvs:List (κ×V))(k:κ)(v:V):(putK kvs k v).length<=kvs.length+1:=by
 grind[putK]
theorem vO{k:κ}(v:V)(h:valV kvs k=Sb):putK kvs k v=kvs++[(k,v)]:=by
 grind[putK,vN]
theorem RelO.isSome_eq(r:RelO o u):o.isSome=u.isSome:=by
 cases o with
 |none=>cases u with
  |none=>rfl
  |some _=>show(show False from r).elim
 |some _=>cases u with
  |none=>show(show False from r).elim
  |some _=>rfl
theorem RelO.getD(r:RelO o u)(a:RelV d d'):RelV (o.getD d) (u.getD d'):=by
 cases o with
 |none=>cases u with
  |none=>show a
  |some _=>show(show False from r).elim
 |some _=>cases u with
  |none=>show(show False from r).elim
  |some _=>show r
theorem KV.val(r:KV kvs vs)(k:κ):RelO (valV kvs k) (valueAt vs k):=by
 unfold KV at r
 induction r with
 |nil=>show True.intro
 |@cons p q i a h t f=>
  let⟨d,g⟩:=h;by_cases e:p.1=k
  .let c:q.1=k:=d.symm.trans e;let b:valueAt (q::a) k=Sa q.2:=by grind[valueAt]
   rw[yj e,b];show g
  grind[valueAt,yk]
theorem KV.any(r:KV kvs vs)(k:κ):(kvs.any λa=>decide (a.1=k))=vs.any λa=>decide (a.1=k):=by
 unfold KV at r
 induction r with
 |nil=>rfl
 |cons h t b=>rw[List.any_cons,List.any_cons,b,h.1]
theorem KV.repl(r:KV kvs vs)(k:κ)(c:RelV y u):KV (kvs.map λa=>if a.1=k then (a.1,y)else a) (vs.map λa=>if a.1=k then (a.1,u)else a):=by
 unfold KV at r ⊢
 induction r with
 |nil=>show .nil
 |@cons p q g i h t d=>
  rw[aU,aU];show .cons ?_ d;grind
theorem KV.put(r:KV kvs vs)(k:κ)(a:RelV y u):KV (putK kvs k y) (stored vs k u):=by
 unfold putK stored;rw[r.any k];by_cases e:(vs.any λb=>decide (b.1=k))=Sc
 .rw [if_pos e,if_pos e];show r.repl k a
 .rw [if_neg e,if_neg e];show Paired.snoc r ⟨rfl,a⟩
theorem KV.keys{kvs:List (κ×V)}{vs:List (κ×Se)}(r:KV kvs vs):kvs.map (·.1)=vs.map (·.1):=by
 unfold KV at r
 induction r with
 |nil=>rfl
 |cons h t a=>rw[aU,aU,a,h.1]
theorem KV.length{kvs:List (κ×V)}{vs:List (κ×Se)}(r:KV kvs vs):kvs.length=vs.length:=dN r
end
theorem xQ{k:Key}(r:RelV (kV k) u):(zb P w).is k u=Sc:=by
 cases k with
 |inl i=>obtain⟨t,e⟩:=(show ∃t,u=Value.int i t from r);subst e;show kN P w i t
 |inr x=>obtain⟨t,e⟩:=(show ∃t,u=Value.str x t from r);subst e;show qMs P w x t
theorem kZ:∀ {ks:List Key} {us:List Se},Vals (ks.map kV) us->ItemsAre (zb P w) ks us
 |[],_,r=>by rw[gU]at r;cases r;show .nil
 |k::ks,_,r=>by
  rw[aU]at r;cases r with
  |cons h t=>show .cons (xQ h) (kZ t)
abbrev KT(H:Hp):List (List Key×V)->List (List Key×Sf×Se)->Prop:=Paired λp q=>p.1=q.1/\H q.2.1=Sa (.tup (p.1.map kV))/\RelV p.2 q.2.2
theorem KT.val(r:KT H kvs xs)(k:List Key):RelO (valV kvs k) ((atKey xs k).map (·.2)):=by
 induction r with
 |nil=>show True.intro
 |@cons p q i a h t f=>
  let⟨d,_,g⟩:=h;by_cases e:p.1=k
  .let c:q.1=k:=d.symm.trans e;let b:atKey (q::a) k=Sa q.2:=by grind[atKey]
   rw[yj e,b];show g
  grind[atKey,yk]
theorem KT.repl(r:KT H kvs xs)(k:List Key)(d:RelV y u):KT H (kvs.map λb=>if b.1=k then (b.1,y)else b) (xs.map (putAt k u)):=by
 induction r with
 |nil=>show .nil
 |@cons p q i j h t f=>
  rw[aU,aU];show .cons ?_ f;grind[putAt]
theorem KT.put(r:KT H kvs xs)(k:List Key)(c:H b=Sa (.tup (k.map kV)))(a:RelV y u):KT H (putK kvs k y) (storedH xs k b u):=by
 let e:(kvs.any λd=>decide (d.1=k))=(atKey xs k).isSome:=by
  rw[vN,(r.val k).isSome_eq,Option.isSome_map]
 unfold putK storedH;rw[e];by_cases q:(atKey xs k).isSome=Sc
 .rw [if_pos q,if_pos q];show r.repl k a
 .rw [if_neg q,if_neg q];show Paired.snoc r ⟨rfl,c,a⟩
theorem KT.keeps(r:KT H kvs xs)(c:∀b ys,H b=Sa (.tup ys)->a b=Sa (.tup ys)):KT a kvs xs:=Paired.mapP r λ_ _ z=>⟨z.1,c _ _ z.2.1,z.2.2⟩
theorem wB9(ok:HOk P w H h)(e:Rd H a u):ObjOk P w H h a u:=e.ok ok
theorem xy(ok:HOk P w H h)(e:Rd H a (.dK kvs)):kvs.length<=Sn/\(a == SG)=Sd/\∃vs,KV kvs vs/\h.DictOf (zb P w) a vs:=show ObjOk P w H h a (.dK kvs)from wB9 ok e
theorem xk(ok:HOk P w H h)(e:H a=Sa (.dK kvs)):kvs.length<=Sn/\(a == SG)=Sd/\∃vs,KV kvs vs/\h.DictOf (zb P w) a vs:=xy ok (.inl e)
theorem xz(ok:HOk P w H h)(e:H a=Sa (.tup (ks.map kV))):(tupleKind (zb P w)).is h ks a:=by
 let⟨_,b,r,o,c,d,n,f⟩:=(show ObjOk P w H h a (.tup (ks.map kV))from ok a _ e);show⟨o,b.toArray,n,c,d,f,by simpa using kZ r⟩
theorem wA(ok:HOk P w H h)(e:Rd H a (.dT kvs)):kvs.length<=Sn/\(a == SG)=Sd /\
  ∃xs,KT H kvs xs/\h.DictOfH (tupleKind (zb P w)) a xs:=by
 let⟨z,y,xs,r,o,c,d,f,g,i,j,k⟩:=(show ObjOk P w H h a (.dT kvs)from wB9 ok e);show⟨z,y,xs,r,o,c,d,f,g,i,j,λx hx=>?_,k⟩;let all:∀{l:List (List Key×V)}{m:List (List Key×Sf×Se)},KT H l m->∀x∈m,(tupleKind (zb P w)).is h x.1 x.2.1:=by
  intro l m q
  induction q<;>grind[xz]
 grind
theorem wCa(ok:HOk P w H h)(e:H a=Sa (.dT kvs)):kvs.length<=Sn/\(a == SG)=Sd /\
  ∃xs,KT H kvs xs/\h.DictOfH (tupleKind (zb P w)) a xs:=wA ok (.inl e)
def DGet(H:Hp)(a:Sf)(y:V)(r:Option V):Prop:=(∃kvs k,Rd H a (.dK kvs)/\y=kV k/\r=valV kvs k)\/∃kvs k b,Rd H a (.dT kvs)/\y=.ref b/\H b=Sa (.tup (k.map kV))/\r=valV kvs k
def DPut(H:Hp)(a:Sf)(y v:V)(H':Hp):Prop:=
 (∃kvs k,H a=Sa (.dK kvs)/\y=kV k/\kvs.length<Sn/\H'=upd H a (.dK (putK kvs k v)))\/
 ∃kvs k b,H a=Sa (.dT kvs)/\y=.ref b/\H b=Sa (.tup (k.map kV))/\kvs.length<Sn/\H'=upd H a (.dT (putK kvs k v))
theorem DGet.k{k:Key}(e:H a=Sa (.dK kvs)):DGet H a (kV k) (valV kvs k):=.inl ⟨kvs,k,.inl e,rfl,rfl⟩
theorem DGet.t{k:List Key}(e:H a=Sa (.dT kvs))(c:H b=Sa (.tup (k.map kV))):DGet H a (.ref b) (valV kvs k):=.inr ⟨kvs,k,b,.inl e,rfl,c,rfl⟩
theorem DPut.k{k:Key}(e:H a=Sa (.dK kvs))(b:kvs.length<Sn):DPut H a (kV k) v (upd H a (.dK (putK kvs k v))):=.inl ⟨kvs,k,e,rfl,b,rfl⟩
theorem DPut.t{k:List Key}(e:H a=Sa (.dT kvs))(c:H b=Sa (.tup (k.map kV)))(d:kvs.length<Sn):DPut H a (.ref b) v (upd H a (.dT (putK kvs k v))):=.inr ⟨kvs,k,b,e,rfl,c,d,rfl⟩
theorem Inv.big(I:Inv X pins σ H s):SG<s.heap.objs.size:=by
 let h:Sq<s.heap.objs.size:=(I.mod.glob.keeps I.bk).lt;show Nat.lt_trans ⋯ h
theorem qUn(x:A.units+1<cLine)(I:Inv X pins σ H s)(g:DGet H a y (Sa v))(r:RelV y u)(h:∀f t,Inv X pins σ H t->RelV v f->Q f t):Sm (So X.prog X.w) A (getItem (.ref a) u) Q E s:=by
 rcases g with ⟨i,k,e,j,l⟩|⟨i,k,b,e,j,B,l⟩
 .subst j;let⟨z,C,D,c,m⟩:=xy I.hok e;let⟨f,n,d⟩:=RelO.some_of (v:=v) (o:=valueAt D k) (by rw[l];show c.val k);show wpAny_getItem_of (xQ r) m.mapOf n (h f _ (I.tok _) d)
 .subst j;cases (show u=Value.ref b from r);let⟨z,C,F,c,m⟩:=wA I.hok e;let⟨f,n,d⟩:=RelO.some_of (v:=v) (o:=(atKey F k).map (·.2)) (by rw[l];show c.val k);let⟨p,G,q⟩:=Option.map_eq_some_iff.mp n;show wpAny_getItem_heap (cZ x) (xz I.hok B) m G ?_;rw[q];show h f _ (I.tok _) d
theorem d_in(p:A.units+1<cLine)(I:Inv X pins σ H s)(g:DGet H a y o)(m:RelV y u)(h:∀n,Inv X pins σ H n->Q (.bool o.isSome) n):Sm (So X.prog X.w) A (SB .In u (.ref a)) Q E s:=by
 rcases g with ⟨d,k,e,f,l⟩|⟨d,k,b,e,f,r,l⟩
 .subst f;let⟨z,i,t,c,j⟩:=xy I.hok e;show wpAny_in_of (xQ m) i j.mapOf ?_;rw[<-(c.val k).isSome_eq,<-l];show h _ (I.tok _)
 .subst f;cases (show u=Value.ref b from m);let⟨z,i,v,c,j⟩:=wA I.hok e;show wpAny_in_heap (cZ p) (xz I.hok r) i j ?_;let q:=(c.val k).isSome_eq;rw[Option.isSome_map]at q;rw[<-q,<-l];show h _ (I.tok _)
theorem wAm(p:A.units+1<cLine)(I:Inv X pins σ H s)(g:DGet H a y o)(m:RelV y u)(h:∀n,Inv X pins σ H n->Q (.bool (!o.isSome)) n):Sm (So X.prog X.w) A (SB .NotIn u (.ref a)) Q E s:=by
 rcases g with ⟨d,k,e,f,l⟩|⟨d,k,b,e,f,r,l⟩
 .subst f;let⟨z,i,t,c,j⟩:=xy I.hok e;show wpAny_notIn_of (xQ m) i j.mapOf ?_;rw[<-(c.val k).isSome_eq,<-l];show h _ (I.tok _)
 .subst f;cases (show u=Value.ref b from m);let⟨z,i,v,c,j⟩:=wA I.hok e;show wpAny_notIn_heap (cZ p) (xz I.hok r) i j ?_;let q:=(c.val k).isSome_eq;rw[Option.isSome_map]at q;rw[<-q,<-l];show h _ (I.tok _)
theorem xX{t':Nat}(I:Inv X pins σ H s)(mu:Mut (H a))(c:Heap.SameBut a s.heap h')(d:∃q,h'.get? a=Sa q)(new:ObjOk X.prog X.w (upd H a ob) h' a ob):Inv X pins σ (upd H a ob) {s with heap:=h',toks:=t'}:=
 I.write (x:=a) (e:=a) mu (.inl rfl) (λb q f z=>(c.2 b f).trans z) d new
theorem vP(z:kvs.length<=Sn)(hd:(a == SG)=Sd)(b:KV kvs vs)(d:h'.DictOf (zb P w) a vs):ObjOk P w c h' a (.dK kvs):=⟨z,hd,vs,b,d⟩
theorem qUm(M:A.units+1<cLine)(I:Inv X pins σ H s)(g:DPut H a y v C)(D:RelV y u)(F:RelV v r)(h:∀G,Inv X pins σ C G->Q () G):Sm (So X.prog X.w) A (setItem (.ref a) u r) Q E s:=by
 rcases g with ⟨d,k,e,m,l,n⟩|⟨d,k,b,e,m,J,l,n⟩
 .subst m n;let⟨z,o,N,f,p⟩:=xk I.hok e;let t:N.length<=Sn:=by rw[<-f.length];show z
  let x:(putK d k v).length<=Sn:=by let:=xP d k v;lia
  show wpAny_setItem_pairs (hsz:=t) (xQ D) p λK i B=>h _ ?_;let O:∃q,K.get? a=Sa q:=let ⟨q,_,_,j,_⟩:=i;⟨q,j⟩
  show xX I (by rw[e];show True.intro) B O (vP x o (f.put k F) i)
 .subst m n;cases (show u=Value.ref b from D);let⟨z,o,P,f,p⟩:=wCa I.hok e;let t:P.length<=Sn:=by rw[<-dN f];show z
  let x:(putK d k v).length<=Sn:=by let:=xP d k v;lia
  show wpAny_setItem_heap (hsz:=t) (cZ M) (xz I.hok J) p λK i B=>h _ ?_;let⟨q,R,S,j,T,U,V,_,W⟩:=i;show xX I (by rw[e];show True.intro) B ⟨q,j⟩ ⟨x,o,_,(f.put k J F).keeps λc Y L=>?_,q,R,S,j,T,U,V,W⟩;rw[zD (yY L e (λz=>nomatch z))];show L
def NoSl(i:Sl):Prop:=∀ov iv,subscripted i Sd ov iv=operate [ov,iv] (getItem ov iv)
theorem ka{k:Pos}{T id:String}
  (l:typeLookup (.type T) "__getitem__"=pure (Sa (.builtin id))) (m:NoSl slice)
  (h:Sm (So prog w) A (Sw a env) (λo d=>Sm (So prog w) A (Sw slice env) (λi b=>b.TypeIs o T/\Sm (So prog w) A (getItem o i) Q E b) E d) E s) :
  Sm (So prog w) A (Sw (.Subscript a slice k) env) Q E s:=by
 show Subscript_ (fQ h (λo d g=>fQ g (λi b c=>?_) λ_ _ x=>x) λ_ _ x=>x);let⟨hT,c⟩:=c;unfold subscriptTail;show aA ?_;rw[getitemInPython_of_ne hT.not_modules];show aA (gW hT l ?_);let f:Sm (So prog w) A (subscripted slice Sd o i) (λr e=>Sm (So prog w) A (letTemporaryGo a o r >>=λ_=>pure r) Q E e) E b:=by
  rw[m o i];show wpAny_operating (fQ c (λr e j=>aA (wpAny_letTemporaryGo (aC j))) λ_ _ x=>x)
 first
  |show aC (aA f)
  |show aA (aC (aA f))
  |show aA f
theorem qN0{X:Cx}{c:List (Sf×Ss)}{σ:St}{H:Hp}{s:Sg}{a:Sf}{y:V}{o:Option V}(I:Inv X c σ H s)(g:DGet H a y o):s.TypeIs (.ref a) "dict":=by
 rcases g with ⟨d,k,e,_,_⟩|⟨d,k,b,e,_,_,_⟩
 .let⟨_,_,h,_,f⟩:=xy I.hok e;show f.typeIs
 .let⟨_,_,i,_,f⟩:=wA I.hok e;show f.typeIs
def tDGet(td ty:TE):TE:=λσ H Q=>td σ H λx H1=>ty σ H1 λy H2=>∃a v,x=.ref a/\DGet H2 a y (Sa v)/\Q v H2
def tDIn(ty td:TE):TE:=λσ H Q=>ty σ H λy H1=>td σ H1 λx H2=>∃a o,x=.ref a/\DGet H2 a y o/\Q (.bl o.isSome) H2
def QO(ty td:TE):TE:=λσ H Q=>ty σ H λy H1=>td σ H1 λx H2=>∃a o,x=.ref a/\DGet H2 a y o/\Q (.bl (!o.isSome)) H2
def sDPut(td ty tv:TE):TS:=λD σ H=>tv σ H λv H1=>td σ H1 λx H2=>ty σ H2 λy H3=>∃a H4,x=.ref a/\DPut H3 a y v H4/\D.nx σ H4
theorem kb(e:X.A.units+1<cLine)(f:PE X o td)(hi:PE X i ty)(j:NoSl i):PE X (.Subscript o i pos) (tDGet td ty):=by
 intro b s σ H Q I h;show ka iJ.lookup j (thn (f b s σ H _ I h) λu k hq_=>?_);let⟨x,l,m,n,p⟩:=hq_;show thn (hi b k σ l _ m p) λB C hq_=>?_;let⟨y,q,d,r,a,v,t,g,w⟩:=hq_;subst t;obtain rfl:u=Value.ref a:=n;show⟨qN0 d g,qUn e d g r λD E z c=>⟨v,q,z,c,w⟩⟩
theorem QP(c:X.A.units+1<cLine)(hi:PE X i ty)(d:PE X o td):PC X .In i o (tDIn ty td):=by
 intro b s σ H Q I h;show thn (hi b s σ H _ I h) λw e hq_=>?_;let⟨y,f,j,k,l⟩:=hq_;show thn (d b e σ f _ j l) λu z hq_=>?_;let⟨x,m,n,p,a,q,r,g,t⟩:=hq_;subst r;obtain rfl:u=Value.ref a:=p;show d_in c n g k λB v=>⟨.bl q.isSome,m,v,rfl,t⟩
theorem uK(c:X.A.units+1<cLine)(hi:PE X i ty)(d:PE X o td):PC X .NotIn i o (QO ty td):=by
 intro b s σ H Q I h;show thn (hi b s σ H _ I h) λw e hq_=>?_;let⟨y,f,j,k,l⟩:=hq_;show thn (d b e σ f _ j l) λu z hq_=>?_;let⟨x,m,n,p,a,q,r,g,t⟩:=hq_;subst r;obtain rfl:u=Value.ref a:=p;show wAm c n g k λB v=>⟨.bl (!q.isSome),m,v,rfl,t⟩
theorem uL(c:X.A.units+1<cLine)(d:PE X o td)(hi:PE X i ty)(e:PE X value tv)(f:SD value (Sa (.Subscript o i pos')) pos.line X.env=pure Sd):PS X (.Assign [.Subscript o i pos'] value pos) (sDPut td ty tv):=by
 intro b s σ H D I h;show wpAny_Assign_Subscript (thn (e b s σ H _ I h) λr j hq_=>?_) f;let⟨v,k,l,m,n⟩:=hq_;show thn (d b j σ k _ l n) λu p hq_=>?_;let⟨x,q,t,w,z⟩:=hq_;show thn (hi b p σ q _ t z) λK L hq_=>?_;let⟨y,M,B,C,a,E,F,g,G⟩:=hq_;subst F;obtain rfl:u=Value.ref a:=w;show qUm c B g C m λN J=>⟨σ,E,J,G⟩
theorem kf(h:Sk)(a:SG<h.objs.size):ObjOk P w H (h.push {cls:=.type "dict",data:=.dict #[]}) h.objs.size (.dK []):=⟨bG _,beq_eq_false_iff_ne.mpr (cC (aP a)),[],.nil,Heap.DictOf.new h⟩
theorem qX1(h:Sk)(a:SG<h.objs.size):ObjOk P w H (h.push {cls:=.type "dict",data:=.dict #[]}) h.objs.size (.dT []):=⟨bG _,beq_eq_false_iff_ne.mpr (cC (aP a)),[],.nil,_,#[],0,aT _ rfl,⟨rfl,rfl,rfl⟩,rfl,rfl,gK⟩
def QQ:TE:=λ_ H Q=>∀p,H p=Sb->Q (.ref p) (upd H p (.dK []))
def wAz:TE:=λ_ H Q=>∀p,H p=Sb->Q (.ref p) (upd H p (.dT []))
theorem kg:PE X (.Dict [] [] pos) QQ:=λb s σ H Q I h=>
 wpAny_Dict_empty ⟨.ref s.heap.objs.size,_,I.laid (a:=s.heap.objs.size) (o:=.dK []) (t':=s.toks) (λ_ _ q=>aG _ q) (aI _) (kf s.heap I.big),rfl,h _ (I.hok.fresh (aI _))⟩
theorem kh:PE X (.Dict [] [] pos) wAz:=λb s σ H Q I h=>
 wpAny_Dict_empty ⟨.ref s.heap.objs.size,_,I.laid (a:=s.heap.objs.size) (o:=.dT []) (t':=s.toks) (λ_ _ q=>aG _ q) (aI _) (qX1 s.heap I.big),rfl,h _ (I.hok.fresh (aI _))⟩
def xJ:List (TE×TE)->St->Hp->(List (V×V)->Hp->Prop)->Prop
 |[],_,H,Q=>Q [] H
 |(tk,tv)::r,σ,H,Q=>tk σ H λx H1=>tv σ H1 λy H2=>xJ r σ H2 λps H3=>Q ((x,y)::ps) H3
abbrev VV:List (V×V)->List (Se×Se)->Prop:=Paired λp q=>RelV p.1 q.1/\RelV p.2 q.2
def PPs(X:Cx)(pos:Pos)(keys:List (Option Sl))(values:List Sl)(trs:List (TE×TE)):Prop:=
 ∀(pins:List (Sf×Ss)) (s:Sg) (σ : St) (H:Hp) (Q:List (V×V)->Hp->Prop),Inv X pins σ H s->xJ trs σ H Q ->
  Sm (So X.prog X.w) X.A (evalPairs (pairTrees keys values X.env pos)) (λvs s'=>∃ps H',Inv X pins σ H' s'/\VV ps vs/\Q ps H') X.xe s
theorem QR:PPs X a [] [] []:=λb s σ H Q I h=>pairTrees_nil_walk ⟨[],H,I,.nil,h⟩
theorem ki{k v:Sl}{tk e:TE}(f:PE X k tk)(g:PE X v e)(i:PPs X b ks vs c):PPs X b (Sa k::ks) (v::vs) ((tk,e)::c):=λa s σ H Q I h=>
 pairTrees_cons_walk (thn (f a s σ H _ I h) λu j ⟨x,l,m,n,o⟩=>thn (g a j σ l _ m o) λD p ⟨y,q,r,t,w⟩=>
  thn (i a p σ q _ r w) λE F ⟨z,A,B,d,C⟩=>⟨(x,y)::z,A,B,.cons ⟨n,t⟩ d,C⟩)
noncomputable def yX(kvs more:List (Key×V)):List (Key×V):=more.foldl (λacc kv=>putK acc kv.1 kv.2) kvs
theorem KV.merge:∀{more:List (Key×V)}{a:List (Key×Se)}{kvs:List (Key×V)}{vs:List (Key×Se)},KV more a->KV kvs vs->KV (yX kvs more) (merged vs a):=by
 intro more a kvs vs r;unfold KV at r
 induction r generalizing kvs vs with
 |nil=>intro q;show q
 |@cons p q d f h t b=>
  intro c;let e:KV (putK kvs p.1 p.2) (stored vs q.1 q.2):=by
   let:=c.put p.1 h.2;rw[<-h.1];show this
  show b e
theorem kj:∀(more kvs:List (Key×V)),(yX kvs more).length<=kvs.length+more.length
 :=by intro x;induction x<;>grind[xP,yX]
theorem QS:∀ {kvs:List (Key×V)} {e:List (Se×Se)},VV (kvs.map λf=>(kV f.1,f.2)) e -> ∃d,Carries (zb P w) e d/\KV kvs d
 |[],_,r=>by rw[gU]at r;cases r;show⟨[],True.intro,.nil⟩
 |p::kvs,_,r=>by
  rw[aU]at r;cases r with
  |@cons a b as bs h t=>
   let⟨d,c,q⟩:=QS (P:=P) (w:=w) t;let⟨i,g⟩:=b;show⟨(p.1,g)::d,⟨xQ h.1,rfl,c⟩,.cons ⟨rfl,h.2⟩ q⟩
def tDisp(trs:List (TE×TE)):TE:=λσ H Q=>∀p,H p=Sb->xJ trs σ (upd H p (.dK [])) λps H2=>H2 p=Sa (.dK [])/\∃kvs:List (Key×V),ps=kvs.map (λkv=>(kV kv.1,kv.2))/\kvs.length<=15/\Q (.ref p) (upd H2 p (.dK (yX [] kvs)))
theorem QT{keys:List (Option Sl)}(h:PPs X d keys b f)(g:keys.all (·.isSome)=Sc)(p:keys.length=b.length)(h0:keys≠[])(l:keys.length<=15):PE X (.Dict keys b d) (tDisp f):=by
 intro i s σ H Q I q;let r:=I.hok.fresh (aI s.heap.objs.size);let t:=I.laid (a:=s.heap.objs.size) (o:=.dK []) (h':=s.heap.push {cls:=.type "dict",data:=.dict #[]}) (t':=s.toks) (λ_ _ q=>aG _ q) (aI _) (kf s.heap I.big);show wpAny_Dict_walk (knd:=zb X.prog X.w) g p h0 l (thn (h i _ σ _ _ t (q _ r)) λL M hq_=>?_);let⟨N,O,n,m,e,j,u,R,v⟩:=hq_;subst u;let⟨x,c,y⟩:=QS (P:=X.prog) (w:=X.w) m;let⟨z,A,B,C,D⟩:=xk n.hok e;cases C;show⟨x,c,D,λh' k E=>⟨.ref s.heap.objs.size,_,?_,rfl,v⟩⟩;let F:(yX [] j).length<=Sn:=by
  grind[kj,cK]
 let J:∃q,h'.get? s.heap.objs.size=Sa q:=let ⟨q,_,_,K,_⟩:=k;⟨q,K⟩
 show xX n (by rw[e];show True.intro) E J (vP F A (y.merge .nil) k)
structure M2(X:Cx)(o:Sl)(m:Str)(apos:Pos)(e f:Sl)(cpos:Pos):Prop where
 base:attributeBase o m X.env (Sw o X.env)=Sw o X.env
 few:((backTo cpos (Sv [e,f] X.env)).all (λx => !x.1)&&(backToKw cpos (keywordEach [] X.env)).all (λx=>x.1.isSome)
  && decide (([e,f]:List Sl).length+([]:List Keyword).length+(if ([]:List Keyword).isEmpty then 0 else 1)<30))=Sc
 line:(apos.endLine == cpos.line)=Sc
 trees:backTo cpos (Sv [e,f] X.env)=[(Sd,Sw e X.env),(Sd,Sw f X.env)]
def IsD(H:Hp)(a:Sf):Prop:=(∃kvs,Rd H a (.dK kvs))\/∃kvs,Rd H a (.dT kvs)
theorem km{X:Cx}{c:List (Sf×Ss)}{σ:St}{H:Hp}{s:Sg}{a:Sf}(I:Inv X c σ H s)(d:IsD H a):s.TypeIs (.ref a) "dict"/\(∀b,Value.ref a=.ref b->∃ob,s.heap.get? b=Sa ob/\ob.dict=Sb)/\(a == SG)=Sd:=by
 rcases d with ⟨g,e⟩|⟨g,e⟩
 .let⟨_,h,k,_,f⟩:=xy I.hok e;show⟨f.typeIs,λb q=>?_,h⟩;cases q;let⟨ob,_,_,i,j,_⟩:=f;show⟨ob,i,j.2.1⟩
 .let⟨_,h,l,_,f⟩:=wA I.hok e;show⟨f.typeIs,λb q=>?_,h⟩;cases q;let⟨ob,_,_,i,j,_⟩:=f;show⟨ob,i,j.2.1⟩
theorem wCb(v:A.units+1<cLine)(I:Inv X pins σ H s)(g:DGet H a y o)(n:RelV y u)(p:RelV d r)(h:∀q t,Inv X pins σ H t->RelV (o.getD d) q->Q q t):Sm (So X.prog X.w) A (call (.builtin "dict.get") [.ref a,u,r]) Q E s:=by
 rcases g with ⟨i,k,e,j,l⟩|⟨i,k,b,e,j,x,l⟩
 .subst j;let⟨z,m,C,c,f⟩:=xy I.hok e;show call_meetsIn PySem.F.slot_dict_get f.typeIs PySem.F.entry_dict_get (PySem.F.args_dict_get_3 _ _ _) (meets_dict_get_default (zb X.prog X.w) a (xQ n) m r) ⟨_,f.mapOf,h _ _ (I.tok _) ?_⟩;rw[l];show(c.val k).getD p
 .subst j;cases (show u=Value.ref b from n);let⟨z,m,B,c,f⟩:=wA I.hok e;show call_meetsIn PySem.F.slot_dict_get f.typeIs PySem.F.entry_dict_get (PySem.F.args_dict_get_3 _ _ _) (meetsH_dict_get_default (tupleKind (zb X.prog X.w)) a b m r) ⟨cZ v,k,B,xz I.hok x,f,h _ _ (I.tok _) ?_⟩;rw[l];show(c.val k).getD p
def QU(td ty tx:TE):TE:=λσ H Q=>td σ H λx H1=>∃a,x=.ref a/\IsD H1 a/\ty σ H1 λy H2=>tx σ H2 λz H3=>∃o,DGet H3 a y o/\Q (o.getD z) H3
theorem kn(j:X.A.units+1<cLine)(k:PE X o td)(l:PE X e ty)(n:PE X f tx)(m:M2 X o "get" apos e f cpos):PE X (.Call (.Attribute o "get" apos) [e,f] [] cpos) (QU td ty tx):=by
 intro b s σ H Q I h;show wpAny_Call_method m.base m.few m.line gH PySem.F.slot_dict_get PySem.F.type_dict_get (thn (k b s σ H _ I h) λu p hq_=>?_);let⟨x,q,i,r,a,t,d,v⟩:=hq_;subst t;obtain rfl:u=Value.ref a:=r;let⟨w,B,_⟩:=km i d;show⟨w,B,?_⟩;rw[m.trees];show fU rfl (iH (eC (thn (l b p σ q _ i v) λP C hq_=>?_)));let⟨y,D,E,G,J⟩:=hq_;show eC (thn (n b C σ D _ E J) λR S hq_=>?_);let⟨z,K,L,M,T,g,N⟩:=hq_;show gD ?_;show wCb j L g G M λU V O c=>⟨_,K,O,c,N⟩
end L2
namespace Att
open PySem PySem.W PySem.Calls PyProof.Rows
theorem qH4:∀(ns:List Int)(vs:List Se),WellAll P h vs (ns.map WData.int)->IntsAre vs ns:=by
 intro ns
 induction ns with
 |nil=>
  intro vs w;rw[gU]at w;cases w;show .nil
 |cons n ns c=>
  intro vs w;rw[aU]at w;cases w with
  |cons a b=>
   cases a;show .cons _ _ (c _ b)
theorem qR9{l:OpenLaw}{n:Nat}(o:l.most=Sa n){P:Params}{h:Sk}{args:List WData}{b:List Se}(c:l.row.toRowW.claim.pre args=Sc)(j:WellAll P h b args):∃a vs ns,b=[Value.ref a]/\args=[WData.list (ns.map WData.int)]/\h.get? a=Sa {cls:=.type "list",data:=.seq vs.toArray}/\IntsAre vs ns/\ns.length<=n:=by
 let k:WShape.hasAll [] args [.list .int]=Sc:=(pre_splitW c).1;let m:l.pre.holds [] {args:=args}=Sc:=(pre_splitW c).2;let⟨d,r,rfl,p,s⟩:=hasAllW_cons k;obtain rfl:=hasAllW_nil s;let⟨x,rfl,t⟩:=hasW_list p;let⟨ns,rfl⟩:=items_int t;let e:ns.length<=n:=by
  unfold OpenLaw.pre at m;let g:(WTm.not (.lt (.lit (.int (n:Int))) (.len (.arg 0)))).holds [] {args:=[.list (ns.map .int)]}=Sc:=by
   let g:=(holds_andW m).1;grind
  let i:=condW_of g (w_not (w_lt w_lit (w_len_list (w_arg rfl))));grind
 cases j with
 |cons w1 v=>
  cases v;cases w1<;>grind[qH4]
theorem qSj(l:OpenLaw)(args:List WData):l.row.toRowW.claim.post args (.bool Sc) args=Sc:=
 postW_of (r:=l.row.toRowW) (X:=(Sc == Sc))
  (show WShape.has [] (.bool Sc) .bool=Sc by grind[WShape.has,WShape.arms])
  (show(WTm.eq .res (.lit (.bool Sc))).value [] {args:=args,res:=Sa (.bool Sc),after:=args}=Sa (.bool (Sc == Sc))from w_eq_bool (w_res rfl) w_lit) rfl
theorem attach_call{l:OpenLaw}{n:Nat}{q:Sh}{c:List Str}{y:(Str->Option Se)->Sk->Prop}{z:Si->Sk->Prop}{d:DefRec}(E:l.most=Sa n)(p:d.params.defaults=[])(call:∀(w:Si)(s₀ b:Sg)(mg s:Str->Option Se)(g:Sf)(o:Ss)(t k doc:Se)(a:Sf)(vs:List Se)(ns:List Int),
   Ground q c [] y w s₀ mg s b.heap->z w b.heap->
   b.heap.get? g=Sa o->o.data=.func (docDef d.name d.params d.body d.scope t k doc)->b.heap.CodeRec k d.name->mg d.name=Sa (.ref g)->
   b.heap.get? a=Sa {cls:=.type "list",data:=.seq vs.toArray}->IntsAre vs ns->ns.length<=n->b.gens=#[]->
   codeAny (So l.prog w) callerA (.call (.ref g) ⟨[.ref a],[]⟩) (λr m=>r=.ok (.ret (.bool Sc))/\OldK b.heap m.heap/\m.os=b.os/\AllBare m.gens) b) :
  WalkO q c y z l.row.toRowW d [] (λf vs=>PySem.call f vs):=by
 intro w s₀ b mg s G Y g o t k doc F kV H I u A v J B C R h D K x L;obtain rfl:F=.none:=Dflts.none A p;obtain rfl:kV=.none:=Dflts.noKw A;let⟨a,vs,ns,rfl,rfl,i,e,j⟩:=qR9 E h x;show enter_call (gQ (call w s₀ b mg s g o t k doc a vs ns G Y H (fd_plain I) u v i e j J) λr m M=>?_);let⟨rfl,N,O,P⟩:=M;show⟨.inl ⟨.bool Sc,.bool Sc,[],rfl,λ_=>rfl,.bool Sc,qSj l _,λ_=>⟨List.Pairwise.nil,λ_ Q=>(nomatch Q)⟩⟩,N,O,P⟩
end Att
namespace L2
open PySem PySem.Spec PyProof.Rows
theorem uM(h:IntsAre vs ns):Vals (ns.map V.int) vs:=by
 induction h with
 |nil=>show .nil
 |cons n t _ a=>show .cons ⟨t,rfl⟩ a
def Only(H:Hp):Prop:=∀b,H b=Sb\/∃o xs,H b=Sa (.frz o (.lst xs))
theorem qWt{K:SH}{k:Nat}
  (X:K.In c.heap) (t:c.heap.Ns Sq mg) (f:c.heap.Ns builtinsNs L) (N:∀x:Str,x≠"__name__"->L x=SE x) (y:c.heap.NoLimit) (hg:c.gens=#[])
  (J:c.heap.get? a=Sa {cls:=.type "list",data:=.seq vs.toArray}) (Y:IntsAre vs ns) (Z:ns.length<=Sn) (hr:Room k callerA)
  (F:∀g:Sk,K.In g->g.Ns Sq mg->FnOk P w K mg g CX k M U [x] sp) (p:∀(s:Sg)(u:Se),BindsTo s U ⟨[u],[]⟩ [(x,u)])
  (O:∀H:Hp,Only H->SqL K H a (ns.map V.int)->sp [.ref a] H (λv _=>v=.bl Sc) λ_ _ _=>False)
  (Q:∀H e i,CX [] H c (λ_ _ _=>False) e i->False) :
  codeAny (So P w) callerA (.call (.ref M) ⟨[.ref a],[]⟩) (λr i=>r=.ok (.ret (.bool Sc))/\OldK c.heap i.heap/\i.os=c.os/\AllBare i.gens) c:=by
 let rv:=uM Y;let A:=Y.length;let l:∀H:Hp,Only H->SqL K H a (ns.map V.int)->HOk P w H c.heap->(∀b,H b≠Sb->b=a)->(H a≠Sb->K.lookup a=Sb) ->
   codeAny (So P w) callerA (.call (.ref M) ⟨[.ref a],[]⟩) (λr i=>r=.ok (.ret (.bool Sc))/\OldK c.heap i.heap/\i.os=c.os/\AllBare i.gens) c:=by
  intro H hO hS B hA hK;let base_of:∀{b:Sf}{o:Ss},c.heap.get? b=Sa o->H b=Sb->(hidT c.heap H).get? b=Sa o:=λe n=>qWv e n;let R:∀{b:Sf}{o:Ss}{C:Array DictEntry}{D:Nat},c.heap.get? b=Sa o->o.data=.dict C D->H b=Sb:=λ{b o C D}e d=>by
   grind
  let j:∀{b:Sf}{m:Str->Option Se},c.heap.Ns b m->(hidT c.heap H).Ns b m:=λ{b m} ⟨o,C,D,e,d,r⟩=>⟨o,C,D,base_of e (R e d),d,r⟩
  let E:K.In (hidT c.heap H):=λb o e=>base_of (X b o e) (by
   grind)
  let hM:Mod K mg (hidT c.heap H):=⟨E,j t,⟨L,j f,N⟩,let ⟨mc,h1,h2⟩:=y;⟨mc,j h1,h2⟩⟩;let e0:Env0 P w K mg (hidT c.heap H) callerA [] c H:=⟨rfl,hM,λb o e=>wA6 e,Nat.le_of_eq (qU8 _ _),trivial,λb f=>absurd (show b∈([]:List Sf)from f) ∅,B,.of_eq hg⟩;show gQ ((F _ E (j t)).run callerA [] c H ⟨[.ref a],[]⟩ [.ref a] [.ref a] _ _ hr e0 (p c (.ref a)) (.cons rfl .nil) (O H hO hS)) λr i h=>?_;cases r with
  |error e=>show(Q H e i h).elim
  |ok fl=>
   cases fl with
   |next=>show False.elim h
   |brk=>show False.elim h
   |cont=>show False.elim h
   |ret u=>
    let⟨v,H',os,bare,un,G,r',q⟩:=h;let q':v=.bl Sc:=q;subst q';obtain rfl:u=Value.bool Sc:=r';show⟨rfl,OldK.of_keep λb o e=>?_,os,bare⟩;cases q:H b with
    |none=>show un.keep b o e q (by intro z;show absurd (show b∈([]:List Sf)from z) ∅) ∅
    |some u=>
     rcases hO b with z|⟨ob,xs,z⟩
     .grind
     .let z2:=un.frzs b ob _ z;let⟨e1,_⟩:=B b _ z;let⟨e2,_⟩:=G b _ z2;grind
 cases T:K.lookup a with
 |some o=>
  let e:=X a o T;rw[J]at e;cases e;show l (λ_=>Sb) (λ_=>.inl rfl) (.inr ⟨_,vs.toArray,_,T,rfl,rfl,rfl,by grind,by grind⟩) (λb u z=>by grind) (λb z=>absurd rfl z) λz=>absurd rfl z
 |none=>
  show l (λb=>if b=a then Sa (.frz {cls:=.type "list",data:=.seq vs.toArray} (.lst (ns.map V.int)))else Sb) (λb=>?_) (.inl (.inr ⟨{cls:=.type "list",data:=.seq vs.toArray},if_pos rfl⟩)) (λb u z=>?_) (λb z=>?_) λ_=>T
  .grind
  .by_cases f:b=a
   .let I:=(if_pos f).symm.trans z;cases I;subst f;show⟨J,by grind,vs,_,rv,J⟩
   grind
  grind
theorem qYq{l:PySem.W.OpenLaw}{n k:Nat}{q:Sh}{i:List Str}{L:(Str->Option Se)->Sk->Prop}{E:Si->Sk->Prop}{d:DefRec}{K:Params->SH}{CX:Si->CXT}{sp:Si->Sp}{x:Str}(M:l.most=Sa n)(t:n<=Sn)(y:d.params.defaults = [])(N:Room k callerA)(O:∀(w:Si) (h:Sk),E w h->(K w.params).In h)(F:∀(w:Si) (mg:Str->Option Se) (r:Sf) (h:Sk),(K w.params).In h->h.Ns Sq mg->mg d.name=Sa (.ref r) ->
   ∃z:FuncData,(∀(s:Sg) (u:Se),BindsTo s z ⟨[u],[]⟩ [(x,u)]) /\
    ∀base:Sk,(K w.params).In base->base.Ns Sq mg->FnOk l.prog w (K w.params) mg base (CX w) k r z [x] (sp w))
  (A:∀(w:Si)(H:Hp)(a:Sf)(ns:List Int),ns.length<=n->Only H->SqL (K w.params) H a (ns.map V.int)->sp w [.ref a] H (λv _=>v=.bl Sc) λ_ _ _=>False)
  (B:∀(w:Si)(H:Hp)(s:Sg)(e:Se)(C:Sg),CX w [] H s (λ_ _ _=>False) e C->False) :
  PySem.W.WalkO q i L E l.row.toRowW d [] (λf vs=>PySem.call f vs):=by
 show Att.attach_call M y λw I m mg Z r o pm cd doc a vs ns G Y ho hd P D p j c Q=>?_;let J:=O w _ Y;let⟨z,R,S⟩:=F w mg r _ J G.T.g D;show qWt J G.T.g G.T.b G.T.builtins G.T.nolimit Q p j (cA c t) N S R (λH U X=>A w H a ns c U X) λH e C=>B w H m e C
noncomputable def vQ(s:Sr)(j:Nat):Sr:=match s with
 |.ClassDef _ _ _ body _ _ _ _ _ _ _=>body.getD j (.Pass ⟨0,0,0,0⟩)
 |_=>.Pass ⟨0,0,0,0⟩
noncomputable def yv(s:Sr):Arguments:=match s with
 |.FunctionDef _ a _ _ _ _ _ _ _ _=>a
 |_=>{posonlyargs:=[],args:=[],vararg:=Sb,kwonlyargs:=[],kw_defaults:=[],kwarg:=Sb,defaults:=[]}
noncomputable def yc(s:Sr):List Sr:=match s with
 |.FunctionDef _ _ b _ _ _ _ _ _ _=>b
 |_=>[]
noncomputable def zq(s:Sr):Su:=match s with
 |.FunctionDef _ _ _ _ _ _ sc _ _ _=>sc
 |_=>{kind:=.function,names:=[],isGenerator:=Sd,isCoroutine:=Sd}
abbrev CX0:CXT:=λ_ _ _ _ _ _=>False
abbrev E0:XK:=λ_ _ _=>False
theorem pass0:xu CX0 X E0:=λ_ _ _ _ _ _ _ h=>h.elim
structure Fun(K:SH)(x qual:Str)(st:Sr)(f:Sf)(fd:FuncData):Prop where
 ex:∃(oc:Se)(od:Option Sf)(kV doc pm:Se)(an:Option Sf)(cdv ct:Se)(osl:Array (Option Se)),
  fd=PySem.W.fnOf x qual (yv st) (yc st) (zq st) .none kV doc pm an cdv ct/\K.lookup f=Sa ⟨oc,od,.func fd,osl⟩/\PySem.W.codeIn K cdv qual=Sc
 kp:SL K (.ref f)=Sc
section
variable{P:Sh}{w:Si}{K:SH}{mg:Str->Option Se}{base:Sk}
theorem Fun.ok{st:Sr}{g:FuncData}{k:Nat}(F:Fun K x a st f g)(S:FnScope N ps (zq st))(len:∀vs H Q E,sp vs H Q E->vs.length=ps.length)(c:∀(b:Se) (A:Sj) (outer:List Env) (s:Sg) (H:Hp) (vs:List V) (Q:VK) (E:XK),Room k (A.deeper (envOfC a (zq st) s.heap.objs.size f b))->sp vs H Q E ->
   ∃t,PSs (cxOf CX0 P w K mg base N a (zq st) f b A outer s H E).nox (yc st) t/\t {nx:=λ_ i=>Q .non i,rt:=Q} (start N vs) H):FnOk P w K mg base CX0 (k+1) f g ps sp:=by
 let⟨n,o,kV,doc,p,r,b,u,j,rfl,l,d⟩:=F.ex;show wD4 l d S len λA outer s H vs Q E m e=>?_;let⟨t,h,q⟩:=c b A outer s H vs Q E m e;show⟨t,h.nox,q⟩
theorem Fun.binds{st:Sr}(F:Fun K x a st f e)(h:∀(kV doc c:Se)(d:Option Sf)(b ct:Se)(us:List Se),us.length=ps.length->bindArgs (PySem.W.fnOf x a (yv st) (yc st) (zq st) .none kV doc c d b ct) ⟨us,[]⟩=pure (ps.zip us)):Binds K e ps []:=by
 let⟨j,k,kV,doc,c,d,b,ct,g,rfl,l,i⟩:=F.ex;show .all (h kV doc c d b ct)
theorem wB{st:Sr}{kV doc g b ct:Se}(l:K.lookup f=Sa ⟨h,i,.func (PySem.W.fnOf x a (yv st) (yc st) (zq st) .none kV doc g e b ct),d⟩)(c:PySem.W.codeIn K b a=Sc)(k:SL K (.ref f)=Sc):Fun K x a st f (PySem.W.fnOf x a (yv st) (yc st) (zq st) .none kV doc g e b ct):=⟨⟨h,i,kV,doc,g,e,b,ct,d,rfl,l,c⟩,k⟩
end
theorem zn{k:Nat}(a:Room k A):A.units+1<cLine:=gO (Nat.add_le_add_left (by decide:1<=64) _) a.units
theorem zV{n:Nat}(h:n<=1000):n<Sn:=gO h ⋯
theorem pv(i:Nat){x:Str}{a:Pos}(c:X.N[i]? = Sa x:=by rfl)(d:Vis X.env.scope x:=by first | show Or.inl rfl | show Or.inr (Or.inl rfl) | show Or.inr (Or.inr rfl))(e:(x == ("__debug__" : Str))=Sd:=by decide)
  (b:(x == ("__classdict__" : Str))=Sd:=by decide):PE X (.Name x a) (tVar i):=wBs c d e b
theorem iteF{A B:Prop}(h:B):if Sd=Sc then A else B:=by
 grind
theorem iteT{A B:Prop}(h:A):if Sc=Sc then A else B:=by
 grind
theorem ite2{c A B:Prop} [Decidable c] (a:c->A)(b:¬c->B):if c then A else B:=by
 grind
def Same(H H':Hp):Prop:=∀b o,H b=Sa o->H' b=Sa o
theorem Same.seq{K:SH}(e:Same H b)(h:SqL K H a xs):SqL K b a xs:=by
 rcases h with(h|⟨o,h⟩)|h
 .exact .inl (.inl (e _ _ h))
 .exact .inl (.inr ⟨o,e _ _ h⟩)
 .exact .inr h
end L2
set_option maxHeartbeats 4000000
namespace L2
open PySem PySem.Spec PyProof.Rows
abbrev TB:=St->Hp->(St->Hp->Prop)->Prop
def PB(X:Cx)(m:Sem Unit)(B:TB):Prop:=
 ∀(pins:List (Sf×Ss)) (s:Sg) (σ : St) (H:Hp) (Q:St->Hp->Prop),Inv X pins σ H s->B σ H Q ->
  Sm (So X.prog X.w) X.A m (λ_ s'=>∃σ' H',Inv X pins σ' H' s'/\Q σ' H') X.xe s
def tAll:List TT->TT
 |[]=>λ_ H Q=>Q Sc H
 |t::r=>λσ H Q=>t σ H λb H1=>if b=Sc then tAll r σ H1 Q else Q Sd H1
inductive PTs(X:Cx):List Sl->List TT->Prop
 |nil:PTs X [] []
 |cons {e es t ts}:PT X e t->PTs X es ts->PTs X (e::es) (t::ts)
noncomputable def wU(ifs:List Sl)(env:Env)(b:Bool):Sem Bool:=forIn ifs b λc r=>if r=Sc then do let ok <-isTrue c env (Sw c env);pure (ForInStep.yield ok)else pure (ForInStep.yield r)
theorem QV(h:Q Sd s):∀a:List Sl,Sm M A (wU a env Sd) Q E s
 :=by intro x;induction x<;>grind[aC,wU]
theorem QW:∀ {c:List Sl} {ts:List TT},PTs X c ts -> ∀(a:List (Sf×Ss)) (s:Sg) (σ : St) (H:Hp) (Q:Bool->Hp->Prop),Inv X a σ H s->tAll ts σ H Q ->
  Sm (So X.prog X.w) X.A (wU c X.env Sc) (TP X a σ Q) X.xe s
 |_,_,.nil,a,s,σ,H,Q,I,h=>aC ⟨H,I,h⟩
 |_,_,.cons (es:=es) i j,a,s,σ,H,Q,I,h=>by
  unfold wU;simp only[gX,if_true];show aA (aA (thn (i a s σ H _ I h) λb d hq_=>?_));let⟨e,f,g⟩:=hq_;show aC ?_;cases b with
  |true=>show QW j a d σ e Q f g
  |false=>show QV (show TP X a σ Q Sd d from⟨e,f,g⟩) es
def LoopT(J:It)(g:TG)(tt:TT)(B:TB):TB:=λσ H Q => ∃W:Nat->Nat->St->Hp->Prop,(∃m,W 0 m σ H) /\ ∀i m σ H,W i m σ H ->
 (J.stop i H/\Q σ H)\/(J.go i H/\∀x H',J.yld i H x H'->g x σ H' λσ2 H2=>tt σ2 H2 λb H3=>
  if b=Sc then B σ2 H3 (λσ3 H4=>∃m',m'<m/\W (i+1) m' σ3 H4)else ∃m',m'<m/\W (i+1) m' σ2 H3)
def CompR(X:Cx)(pins:List (Sf×Ss))(Q:St->Hp->Prop):Result->Sg->Prop
 |.ok _,s'=>∃σ' H',Inv X pins σ' H' s'/\Q σ' H'
 |.error _,_=>False
structure ClauseAt(X:Cx)(e:Sl)(d:Nat)(acc:Se)(tg iter:Sl)(ifs:List Sl)(beh:Sem Unit):Prop where
 quiet:∀it,(Code.compLoop e d it acc X.env).quiet=Sc
 under:∀it,X.A.under (Code.compLoop e d it acc X.env)=X.A
 den:∀it,(So X.prog X.w).den (.compLoop e d it acc X.env)=(compTurn e d it acc X.env).onRaise (λx=>do noteFrame x X.env;theTreesLotGoes x)
 turn:∀it,compTurn e d it acc X.env=(do
   Sy iter.pos
   match <-pyNext it with
   |none=>pure (.done .next)
   |some v=>
    letOwnedTupleGo tg it v
    assign tg X.env v
    let ok <-wU ifs X.env Sc
    if ok then beh
    again (.compLoop e d it acc X.env))
 start:∀(it:Se) (R:Result->Sg->Prop) (s:Sg),codeAny (So X.prog X.w) X.A (.compLoop e d it acc X.env) R s ->
  Sm (So X.prog X.w) X.A (pyIter it) (λit' s'=>codeAny (So X.prog X.w) X.A (.compLoop e d it' acc X.env) R s') (λ_ _=>False) s->codeAny (So X.prog X.w) X.A (.compStart e d it acc X.env) R s
theorem QX{X:Cx}{e:Sl}{d:Nat}{L:Se}{tg M:Sl}{N:List Sl}{O:Sem Unit}{J:It}{y:List Sf}{it:Sf}{Z:Nat->Sk->Prop}{g:TG}{P:List TT}{B:TB}(a0:X.xe=λ_ _=>False)(hc:X.calm=Sc)(C:ClauseAt X e d L tg M N O)(T:Turn X.prog X.w X.K tg J y it Z)(hg:PG X tg g)(ht:PTs X N P)(c:PB X O B){a:List (Sf×Ss)}{σ:St}{H:Hp}{s:Sg}{Q:St->Hp->Prop}(I:Inv X a σ H s)(st:Z 0 s.heap)(f:∀b∈y,FpOk X a H b)(q:LoopT J g (tAll P) B σ H Q):codeAny (So X.prog X.w) X.A (.compLoop e d (.ref it) L X.env) (CompR X a Q) s:=by
 obtain⟨W,⟨m0,w0⟩,S⟩:=q;let j:∀{p:Hp},(∀b∈y,p b=Sb)->∀b∈y,FpOk X a p b:=λhn b c=>⟨hn b c,(f b c).2⟩;show codeAny_loop (C.quiet _) (λn s'=>∃i k p,Inv X a k p s'/\Z i s'.heap/\(∀b∈y,p b=Sb)/\W i n k p) ?_ m0 ⟨0,σ,H,I,st,λb c=>(f b c).1,w0⟩;rintro n s3 ⟨i,l,H3,I3,U,V,w3⟩;rw[C.under,C.den];show wpAny_noted ?_;rw[C.turn];show aA (fF ?_);let lift:∀{α:Type}{t:Sem α}{R:α->Sg->Prop}{s:Sg},Sm (So X.prog X.w) X.A t R X.xe s->Sm (So X.prog X.w) X.A t R (notedBy (So X.prog X.w) X.A X.env λx s'=>CompR X a Q (.error x) s') s:=by
  intro α t R s h;rw[a0]at h;show fQ h (λ_ _ z=>z) λ_ _ z=>z.elim
 rcases S i n l H3 w3 with ⟨stop,qn⟩|⟨go,step⟩
 .refine aA (lift (thn (T.done X rfl rfl rfl hc i a s3 l H3 X.xe I3 (j V) U stop) λr s4 hq_=>?_));let⟨hr,I4⟩:=hq_;subst hr;show aC ⟨l,H3,I4,qn⟩
 .refine aA (lift (thn (T.item X rfl rfl rfl hc i a s3 l H3 X.xe I3 (j V) U go) λr s4 hq_=>?_));let⟨u,hr,h4⟩:=hq_;subst hr;show aA (lift (thn h4 λ_ s5 hq_=>?_));let⟨x,H5,I5,r5,y5,D,a1⟩:=hq_;let a2:=I5.pinned (j a1) (T.obj _ _ D);show aA (lift (thn (hg _ s5 l H5 x u _ a2 r5 (step x H5 y5)) λ_ s6 hq_=>?_));let⟨Y,H6,I6,q6⟩:=hq_;let again:∀{v:St}{E:Hp}{F:Sg},Inv X (a++vI y s5.heap) v E F->(∃m',m'<n/\W (i+1) m' v E)->∃m,m<n/\∃i k p,Inv X a k p F/\Z i F.heap/\(∀b∈y,p b=Sb)/\W i m k p:=λ{v E F} G ⟨m',hm,w7⟩=>by
   show⟨m',hm,i+1,v,E,G.unpinned,T.keep _ _ _ D λb c o e=>(G.pin (b,o) (bI _ (bI _ (uE c e)))).1,λb c=>?_,w7⟩;let⟨o,e,_⟩:=T.obj _ _ D b c;show(G.pin (b,o) (bI _ (bI _ (uE c e)))).2.1
  show aA (lift (thn (QW ht _ s6 Y H6 _ I6 q6) λok F hq_=>?_));let⟨E,G,q7⟩:=hq_;cases ok with
  |false=>
   show aC ⟨rfl,again G q7⟩
  |true=>
   show aA (lift (thn (c _ F Y E _ G q7) λ_ s8 hq_=>?_));let⟨a3,H8,I8,q8⟩:=hq_;show aC ⟨rfl,again I8 q8⟩
theorem ko(env:Env):∀(names:List (Str×SF)) (cs:List (Str×Sf)),(∀x∈names,x.2 = .free -> ∃c,env.cells.lookup x.1=Sa c) ->
  (∀x c,cs.lookup x=Sa c->env.cells.lookup x=Sa c)->
  ∃g,(forIn names cs λ(x:Str×SF) (r:List (Str×Sf))=>(if (x.2 == NameKind.free)=Sc then do let c <-cellOf env x.1;pure (ForInStep.yield ((x.1,c)::r)) else pure (ForInStep.yield r):Sem (ForInStep (List (Str×Sf)))))=pure g /\
   (∀x c,g.lookup x=Sa c->env.cells.lookup x=Sa c)/\(∀x,(x,NameKind.free)∈names\/(∃c,cs.lookup x=Sa c)->∃c,g.lookup x=Sa c)
 |[],cs,_,j=>⟨cs,rfl,j,λx h=>h.elim (λz=>nomatch z) id⟩
 |(n,k)::r,cs,m,j=>by
  rw[gX];let o:∀x∈r,x.2=.free->∃c,env.cells.lookup x.1=Sa c:=λx hx=>m x (aS _ hx);by_cases l:k=.free
  .subst l;let⟨c,p⟩:=m (n,.free) aW rfl;let i:cellOf env n=pure c:=by grind[cellOf]
   let⟨g,e,a,b⟩:=ko env r ((n,c)::cs) o (λx d hx=>by
    grind)
   grind
  .let q:(k == NameKind.free)=Sd:=by grind
   let⟨g,e,a,b⟩:=ko env r cs o j;grind
theorem QY(h:∀x∈scope.names,x.2=.free->∃c,env.cells.lookup x.1=Sa c):∃d,closureFor scope env=pure d/\(∀x c,d.lookup x=Sa c->env.cells.lookup x=Sa c)/\∀x,(x,NameKind.free)∈scope.names->∃c,d.lookup x=Sa c:=by
 let⟨d,e,a,b⟩:=ko env scope.names [] h (λx c f=>nomatch f);grind[closureFor]
noncomputable def relK(env:Env)(x:Str)(k:SF):SF:=if (k == .free&&env.scope.kind == .function&&env.kindOf x == Sa .cell)=Sc then .cell else k
theorem QZ(env:Env)(x:Str):∀names:List (Str×SF),
  (names.map λ(n,k)=>if (k == NameKind.free&&env.scope.kind == .function&&env.kindOf n == Sa .cell)then (n,NameKind.cell)else (n,k)).lookup x=(names.lookup x).map (relK env x)
 :=by intro x;induction x<;>grind[relK]
theorem Qa(scope:Su)(env:Env)(x:Str):(relabel scope env).names.lookup x=(scope.names.lookup x).map (relK env x):=QZ env x scope.names
noncomputable def zP(X:Cx)(own:List Str)(cap:List Nat)(scope:Su)(cl:List (Str×Sf))(s:Sg)(H:Hp)(ex:List Sf):Cx:=
 {X with N:=own++cap.map (λj=>X.N.getD j ""),env:=compEnvC scope cl s.heap.objs.size X.env,s₀:=s,H₀:=H,outer:=X.stack,ex:=ex,fn:=λ_=>Sd,pn:=[],xe:=λ_ _=>False}
noncomputable def vR(own:List Str)(cap:List Nat)(σ:St):St:=own.map (λ_=>Sb)++cap.map (λj=>(σ[j]?).join)
structure CompScope(X:Cx)(own:List Str)(cap:List Nat)(scope:Su):Prop where
 kind:scope.kind=.function
 nocell:∀x∈scope.names,x.2≠.cell
 names:∀x∈scope.names,x.2=.local->scope.names.lookup x.1=Sa .local
 free:∀x∈scope.names,x.2=.free->X.env.kindOf x.1=Sa .cell\/X.env.kindOf x.1=Sa .free
 own:∀x∈own,scope.names.lookup x=Sa .local
 caps:∀j∈cap,scope.names.lookup (X.N.getD j "")=Sa .free/\j<X.N.length
theorem qX7{X:Cx}{a:List Str}{cap:List Nat}{scope:Su}{J:List (Str×Sf)}{t:List (Sf×Ss)}{σ:St}{H:Hp}{s:Sg}{K:List Sf}{h':Sk}{tk:Nat}(S:CompScope X a cap scope)(I:Inv X t σ H s)(f:∀x c,J.lookup x=Sa c->X.env.cells.lookup x=Sa c)(A:∀x,(x,NameKind.free)∈scope.names->∃c,J.lookup x=Sa c)(L:∀b∈K,FpOk X t H b)(P:∀b∈K,b<s.heap.objs.size)(Q:h'.Ns s.heap.objs.size (λx=>([]:List (Str×Se)).reverse.lookup x))(C:∀b u,s.heap.get? b=Sa u->h'.get? b=Sa u):Inv (zP X a cap scope J s H K) [] (vR a cap σ) H {s with heap:=h',toks:=tk}:=by
 let kc:∀x k,(relabel scope X.env).names.lookup x=Sa k->(k=.cell\/k=.free)->(x,NameKind.free)∈scope.names:=by
  intro x k e C;rw[Qa]at e;cases q:scope.names.lookup x with
  |none=>rw[q]at e;cases e
  |some M=>
   rw[q]at e;let O:relK X.env x M=k:=bB e;let w:=eZ q;let h0:M≠.cell:=S.nocell _ w;let:M=.free:=by
    unfold relK at O;by_cases g:(M == NameKind.free&&X.env.scope.kind == .function&&X.env.kindOf x == Sa .cell)=Sc
    .simp only[bR,beq_iff_eq]at g;show g.1.1
    .rw [if_neg g]at O;rcases C with z|z
     .exact absurd (O.trans z) h0
     .exact O.trans z
   rw[this]at w;show w
 let ok:(zP X a cap scope J s H K).Ok :={
  mod:=I.ok.mod
  kind:=S.kind
  glob:=I.ok.glob
  blt:=I.ok.blt
  above:=aI _
  inj:=λx y c B d=>I.ok.inj x y c (f x c B) (f y c d)
  has:=λx hx=>by
   rcases hx with hx|hx
   .exact A x (kc x _ hx (.inl rfl))
   .exact A x (kc x _ hx (.inr rfl))
  cab:=λx c h=>absurd h (show ¬(Sd=Sc)from aM)
  hd:=I.ok.hd
  frames:=I.ok.frames
  stk:=.inl rfl
  exf:=λb g=>⟨aP (P b g),λx c e=>(L b g).2.2.2.2.1 x c (f x c e)⟩
  bs:=I.bs
  bsz:=cA I.ok.bsz I.sz
  noex:=λb o e g=>by
   rcases (L b g).2.2.2.1 with z|z
   .exact I.ok.noex b o e z
   .exact absurd (aR (aO e) (cA I.ok.bsz z)) (fE _)
  exfs:=λb g w=>by
   rcases aN.mp (I.stkSub b w)with z|z
   .exact (L b g).2.1 z
   .exact (L b g).2.2.1 z
  funs:=I.stack
  frf:=I.stkFree}
 show⟨ok,rfl,I.bare,Un.kept C,⟨_,Q,λi x v B d e3=>?_⟩,λx c e=>?_,I.hok.fresh (aI _),λx c e=>I.freeC x c (f x c e),λp hp=>absurd (show p∈([]:List (Sf×Ss))from hp) ∅,I.hok.kept C,?_⟩
 .let B:(a++cap.map (λj=>X.N.getD j ""))[i]? = Sa x:=B;let d:(a.map (λ_=>(Sb:Option V))++cap.map (λj=>(σ[j]?).join))[i]? = Sa (Sa v):=d;by_cases R:i<a.length
  .rw [dI (by simpa using R),bA]at d;cases q:a[i]? with
   |none=>rw[q]at d;cases d
   |some y=>rw[q]at d;cases d
  .rw [dC (by simpa using R),bA]at B;rw[dC (by simpa using R),bA,aB]at d;cases q:cap[i-a.length]? with
   |none=>rw[q]at d;cases d
   |some j=>
    rw[q]at B d;let D:X.N.getD j ""=x:=bB B;let n:(σ[j]?).join=Sa v:=bB d;let⟨T,E⟩:=S.caps j (aK q);rw[D]at T;let U:X.N[j]? = Sa x:=by
     rw[aF E,<-D,bO,aF E];rfl
    let W:σ[j]? = Sa (Sa v):=by
     cases z:σ[j]? with
     |none=>rw[z]at n;cases n
     |some o=>rw[z]at n;rw[show o=Sa v from n]
    let⟨m,hn,hl⟩:=I.loc;let w:=eZ T;let F:=S.free _ w rfl;let Y:Vis X.env.scope x:=by
     rcases F with z|z
     .exact .inr (.inl z)
     .exact .inr (.inr z)
    let⟨u,r,l⟩:=hl j x v U W Y;show⟨u,r,.inr ?_⟩;rcases l with ⟨kl,_⟩|⟨_,c,hc,z⟩
    .rcases F with z|z
     .rw [kl]at z;cases z
     .rw [kl]at z;cases z
    .let⟨c',G⟩:=A x w;let:=f x c' G;rw[hc]at this;cases this;show⟨?_,c,G,?_⟩
     .let q:(relabel scope X.env).names.lookup x=Sa (relK X.env x .free):=by rw[Qa,T];rfl
      change(relabel scope X.env).names.lookup x=Sa .cell\/(relabel scope X.env).names.lookup x=Sa .free;rw[q];unfold relK;split
      .exact .inl rfl
      .exact .inr rfl
     .let⟨o,Z,hd⟩:=z;show⟨o,C c o Z,hd⟩
 .let⟨v,o,Z,hd⟩:=I.cell x c (f x c e);show⟨v,o,C c o Z,hd⟩
 .show (a.map (λ_=>(Sb:Option V))++cap.map (λj=>(σ[j]?).join)).length=(a++cap.map (λj=>X.N.getD j "")).length;simp only[aJ,aB]
def wV(X:Cx)(m:Sem Se)(o:HO):Prop:=
 ∀(pins:List (Sf×Ss)) (s:Sg) (σ : St) (H:Hp) (E:Se->Sg->Prop) (Q:Se->Sg->Prop),Inv X pins σ H s ->
  (∀l s',s.heap.objs.size<=l->H l=Sb->Inv X pins σ (upd H l o) s'->(∀b u,s.heap.get? b=Sa u->s'.heap.get? b=Sa u)->Q (.ref l) s')->Sm (So X.prog X.w) X.A m Q E s
theorem kq:wV X (newList []) (.lst []):=by
 intro a s σ H E Q I h;show wpAny_newList (h _ _ (aI _) I.fresh (I.lnew (its:=[]) (t':=s.toks) .nil (bG _)) λb u e=>aG _ e)
theorem Qb{X:Cx}{e:Sl}{tg N:Sl}{O:List Sl}{scope:Su}{a:List Str}{d:List Nat}{v:Sem Se}{o:HO}{k:List (Str×Sf)}{behOf:Se->Env->Sem Unit}{g:TG}{P:List TT}{U:Sf->TB}(hc:X.calm=Sc)(S:CompScope X a d scope)(V:∀x c,k.lookup x=Sa c->X.env.cells.lookup x=Sa c)(a9:∀x,(x,NameKind.free)∈scope.names->∃c,k.lookup x=Sa c)(W:wV X v o)(hC:∀s H ex l,ClauseAt (zP X a d scope k s H ex) e 0 (.ref l) tg N O (behOf (.ref l) (zP X a d scope k s H ex).env))(hg:∀s H ex,PG (zP X a d scope k s H ex) tg g)(ht:∀s H ex,PTs (zP X a d scope k s H ex) O P)(j:∀s H ex l,PB (zP X a d scope k s H ex) (behOf (.ref l) (zP X a d scope k s H ex).env) (U l)){i:List (Sf×Ss)}{σ:St}{s2:Sg}{Y:Se}{Q:Sf->Hp->Prop}{E:Se->Sg->Prop}{R:Se->Sf->Result->Sg->Prop}(h:PIE X i σ tg (λJ H1=>∀l,H1 l=Sb->LoopT J g (tAll P) (U l) (vR a d σ) (upd H1 l o) λ_ n=>Q l n) Y s2)(hR:∀l C B L,Inv X i σ L B->FpOk X i L C->(∃m,B.heap.Ns C m)->Q l L->R (.ref l) C (.ok .next) B)(b0:∀F C f B,R F C (.ok .next) B->R F C (.ok f) B):Sm (So X.prog X.w) X.A v (λF Z=>Sm (So X.prog X.w) X.A (newFunctionEnv scope X.env.globals k [] X.env.qual Sb .none (Sa X.env)) (λG a6=>
   codeAny (So X.prog X.w) X.A (.compStart e 0 Y F {G with scope:=relabel scope X.env}) (R F G.locals) a6) E Z) E s2:=by
 let⟨it,D,tn,J,n,rfl,I2,T,K,f2,q⟩:=h;let b1:∀b∈D,b<s2.heap.objs.size:=λb j=>by
  let⟨ob,e,_⟩:=T.obj _ _ K b j;show aO e
 show W i s2 σ n E _ I2 λl t hl hn I3 k3=>?_;let q':=q l hn;let f3:∀b∈D,FpOk X i (upd n l o) b:=λb j=>by
  let⟨a1,a2⟩:=f2 b j;show⟨?_,a2⟩;rw[zD (aP (aR (b1 b j) hl))];show a1
 let a7:∀b∈D,b<t.heap.objs.size:=λb j=>by
  let⟨ob,e,_⟩:=T.obj _ _ K b j;show aO (k3 b ob e)
 show wpAny_newFunctionEnv S.nocell (by intro y hy;simp at hy) (λh1 b2 b3=>?_) S.kind;let k4:∀b u,t.heap.get? b=Sa u->h1.get? b=Sa u:=λb u e=>by
  show b3.extBut b u (aP (aO e)) (aG _ e)
 let I4:Inv (zP X a d scope k t (upd n l o) D) [] (vR a d σ) (upd n l o) {t with heap:=h1,toks:=t.toks+([]:List (Str×Se)).length}:=qX7 S I3 V a9 f3 a7 b2 k4;let a8:tn 0 h1:=T.keep _ _ _ K λb j ob e=>k4 b ob (k3 b ob e);let f4:∀b∈D,FpOk (zP X a d scope k t (upd n l o) D) [] (upd n l o) b:=λb j=>by
  let⟨a0,a1,a2,a3,a4,a5⟩:=f3 b j;show⟨a0,aP (a7 b j),λhm=>?_,.inl j,λx c ex=>a4 x c (V x c ex),λp hp=>absurd (show p∈([]:List (Sf×Ss))from hp) ∅⟩;rcases aN.mp (I3.stkSub b hm)with z|z
  .exact a1 z
  .exact a2 z
 let b4:∀(r:Result)(B:Sg),CompR (zP X a d scope k t (upd n l o) D) [] (λ_ n=>Q l n) r B->R (.ref l) t.heap.objs.size r B:=by
  intro r B hr;cases r with
  |error x=>show(show False from hr).elim
  |ok f=>
   let⟨b6,H5,M,q5⟩:=(show ∃b5 L,Inv (zP X a d scope k t (upd n l o) D) [] b5 L B/\Q l L from hr);let I6:Inv X i σ H5 B:=I3.call' (ch:=D) M.os M.base M.hok M.bare λb j=>(f3 b j).2.2.2 |> λ⟨z1,z2,z3⟩=>⟨z1,(f3 b j).2.1,z2,z3⟩
   show b0 _ _ _ _ (hR l _ B H5 I6 (I3.fpOk (aI _) M.free) ?_ q5);let⟨m,hm,_⟩:=M.loc;show⟨m,hm⟩
 let I:∀s4:Sg,s4 = { t with heap:=h1,toks:=t.toks+([]:List (Str×Se)).length } ->
   codeAny (So X.prog X.w) X.A (.compLoop e 0 (.ref it) (.ref l) (zP X a d scope k t (upd n l o) D).env) (R (.ref l) t.heap.objs.size) s4:=by
  rintro s4 rfl;show gQ (QX (X:=zP X a d scope k t (upd n l o) D) rfl hc (hC _ _ _ _) T (hg _ _ _) (ht _ _ _) (j _ _ _ l) I4 a8 f4 q') b4
 show(hC t (upd n l o) D l).start (.ref it) _ _ (I _ rfl) (T.self _ 0 _ _ _ a8 (I _ rfl))
section
variable{X:Cx}{e:Sl}{tg iter:Sl}{ifs:List Sl}{gs:List Comprehension}{scope:Su}{own:List Str}{cap:List Nat}{newAcc:Sem Se}{o:HO}{behOf:Se->Env->Sem Unit}{wi:TI}{g:TG}{tts:List TT}{Bof:Sf->TB}{cpos:Pos}
def tComp(own:List Str)(cap:List Nat)(o:HO)(wi:TI)(g:TG)(tts:List TT)(Bof:Sf->TB):TE:=λσ H Q=>wi σ H λJ H1=>∀l,H1 l=Sb->LoopT J g (tAll tts) (Bof l) (vR own cap σ) (upd H1 l o) λ_ H2=>Q (.ref l) H2
theorem kr(u:X.calm=Sc)(S:CompScope X own cap scope)(n:clausesOf e=⟨tg,iter,ifs,0⟩::gs)(hi:PI X tg iter wi)(i:wV X newAcc o)(y:∀c s H ex l,ClauseAt (zP X own cap scope c s H ex) e 0 (.ref l) tg iter ifs (behOf (.ref l) (zP X own cap scope c s H ex).env))(B:∀c s H ex,PG (zP X own cap scope c s H ex) tg g)(D:∀c s H ex,PTs (zP X own cap scope c s H ex) ifs tts)(p:∀c s H ex l,PB (zP X own cap scope c s H ex) (behOf (.ref l) (zP X own cap scope c s H ex).env) (Bof l))(E:∀x,SC iter X.env x=pure x):∀(a:List (Sf×Ss)) (s:Sg) (σ : St) (H:Hp) (Q:VK),Inv X a σ H s->tComp own cap o wi g tts Bof σ H Q ->
   Sm (So X.prog X.w) X.A (comprehension e scope X.env cpos newAcc Sd (Sw iter X.env)) (EP X a σ Q) X.xe s:=by
 intro a s σ H Q I h;let⟨c,d,F,G⟩:=QY (scope:=scope) (env:=X.env) λx J K=>I.ok.has x.1 (S.free x J K);show wpAny_comprehension_free (use:=Sb) n E d S.kind S.names (thn (hi a s σ H _ I h) λv U L=>thn L λM V N=>?_);show Qb (R:=λj C=>compPost (So X.prog X.w) X.A X.xe Sb (EP X a σ Q) j C) u S F G i (y c) (B c) (D c) (p c) N (λl C t O P k r q=>?_) (λj C f t z=>z);let⟨m,r⟩:=r;show⟨m,r,λW T=>⟨.ref l,O,P.turned (t':=t.toks) (λb o p e=>(T.2 b p).trans e) k.1 k.2.1 k.2.2.2.1 k.2.2.2.2.1 k.2.2.2.2.2,rfl,q⟩⟩
theorem ku{i:Nat}{t:Pos}(M:X.calm=Sc)(S:CompScope X own cap scope)(u:clausesOf e=⟨tg,iter,ifs,0⟩::gs)(hi:PI X tg iter wi)(p:wV X newAcc o)(O:∀d s H ex l,ClauseAt (zP X own cap scope d s H ex) e 0 (.ref l) tg iter ifs (behOf (.ref l) (zP X own cap scope d s H ex).env))(P:∀d s H ex,PG (zP X own cap scope d s H ex) tg g)(Q:∀d s H ex,PTs (zP X own cap scope d s H ex) ifs tts)(y:∀d s H ex l,PB (zP X own cap scope d s H ex) (behOf (.ref l) (zP X own cap scope d s H ex).env) (Bof l))(T:∀x,SC iter X.env x=pure x)(U:X.N.Nodup)(B:X.N[i]? = Sa x)(E:Loc X.env.scope x)(F:X.fn x=Sc\/X.env.scope.names.lookup x=Sa .local):∀(c:List (Sf×Ss)) (s:Sg) (σ : St) (H:Hp) (D:Ends),Inv X c σ H s->tComp own cap o wi g tts Bof σ H (λv V=>D.nx (σ.set i (Sa v)) V) ->
   Sm (So X.prog X.w) X.A (comprehension e scope X.env cpos newAcc Sd (Sw iter X.env) (Sa (assign (.Name x t) X.env))) (λ_ n=>SP X c D .next n) X.xe s:=by
 intro c s σ H D I h;let⟨d,j,W,Y⟩:=QY (scope:=scope) (env:=X.env) λx E F=>I.ok.has x.1 (S.free x E F);show wpAny_comprehension_free (use:=Sa (assign (.Name x t) X.env)) u T j S.kind S.names (thn (hi c s σ H _ I h) λv s1 Z=>thn Z λa0 s2 q2=>?_);show Qb (R:=λr C=>compPost (So X.prog X.w) X.A X.xe (Sa (assign (.Name x t) X.env)) (λ_ n=>SP X c D .next n) r C) M S W Y p (O d) (P d) (Q d) (y d) q2 (λl C n H' I' k G q=>?_) (λr C f n z=>z);let⟨m,G⟩:=G;change Sm (So X.prog X.w) X.A (assign (.Name x t) X.env (.ref l)) _ X.xe n;show wpAny_assign_Name (oT (v:=.ref l) I' U B E rfl (λJ K hq_=>?_) F);let⟨a,sa,ha⟩:=hq_
 let L:C≠a:=by
  rcases ha with z|z
  .rw [z];show k.2.1
  .exact cC (k.2.2.2.2.1 x a z)
 show⟨m,G.sameBut sa L,λh' sb=>⟨_,H',K.turned (t':=J.toks) (λb o y e=>(sb.2 b y).trans e) k.1 k.2.1 k.2.2.2.1 k.2.2.2.2.1 k.2.2.2.2.2,q⟩⟩
end
def eApp(te:TE)(l:Sf):TB:=λσ H Q=>te σ H λv H1=>∃vs,H1 l=Sa (.lst vs)/\vs.length<Sn/\Q σ (upd H1 l (.lst (vs++[v])))
noncomputable def vS(elt:Sl)(acc:Se)(env:Env):Sem Unit:=do let _ <-call (.builtin "list.append") [acc,<-Sw elt env]
theorem kw(f:PE X b d):PB X (vS b (.ref l) X.env) (eApp d l):=by
 intro a s σ H Q I h;show aA (thn (f a s σ H _ I h) λv g hq_=>?_);let⟨x,i,j,k,m,e,n,q⟩:=hq_;show aA (thn (yi a g σ i (.ref l) [x] (.ref l) [v] (λ_ c=>Q σ c) j rfl (.cons k .nil) ⟨l,m,x,rfl,rfl,e,n,q⟩) λu r hq_=>?_);let⟨z,c,o,_,p⟩:=hq_;show aC ⟨σ,c,o,p⟩
theorem Qc:ClauseAt X (.ListComp b [⟨f,a,c,0⟩] scope e) 0 d f a c (vS b d X.env) where
 quiet:=λ_=>rfl
 under:=λ_=>rfl
 den:=λ_=>rfl
 turn:=λ_=>rfl
 start:=λi R s g h=>codeAny_compStart_list g (fQ h (λ_ _ z=>z) λ_ _ z=>z.elim)
theorem Inv.turnLaid{X:Cx}{a:List (Sf×Ss)}{σ:St}{H:Hp}{s:Sg}{h':Sk}{t':Nat}{ch:List Sf}{p:Sf}{o:HO}(I:Inv X a σ H s)(k:∀b u,b∉ch->s.heap.get? b=Sa u->h'.get? b=Sa u)(x:∀b∈ch,∃u,h'.get? b=Sa u)(i:∀b∈ch,FpOk X a H b)(l:s.heap.objs.size<=p)(new:ObjOk X.prog X.w (upd H p o) h' p o):Inv X a σ (upd H p o) {s with heap:=h',toks:=t'}:=by
 let g:H p=Sb:=I.hok.fresh l;let h:∀b u,H b=Sa u->b∉ch:=λb u e d=>by rw[(i b d).1]at e;cases e
 refine I.step (g':=s.gens) (d':=s.drawn) (ch:=ch) (λb d=>?_) (λb u _ _ f e _=>k b u f e) (λb u _ _ f e _=>⟨u.slots,k b u f e⟩) (λb u _ e n=>?_)
  (λb u f e=>⟨u,k b u f e⟩) (λb t e=>?_) (λb j t e=>?_) (λb J e=>?_) (λm y=>?_) (λb u e=>?_) I.bare
 .let⟨_,A,_,B,C,D⟩:=i b d;show⟨B,A,C,D⟩
 .rw [zD (aP (aR (aO e) l))];show n
 .rw [zD (zG e g)];show e
 .rw [zD (zG e g)];show e
 .exact⟨#[],by rw[zD (zG e g),e];simp⟩
 .let⟨j,E,F,G,r⟩:=y;show⟨j,E,F,k _ j (λd=>(i _ d).2.1 rfl) G,r⟩
 .by_cases d:b=p
  .subst d;rw[zB]at e;cases e;show new
  .rw [zD d]at e;show(I.hok b u e).stay (λc v f q=>k c v ?_ q) (λc q=>by rw[zD (zG q g)];show q) λc t q=>by rw[zD (zG q g)];show q
   rcases f with z|z
   .rw [z];show h b u e
   .exact h c _ z
noncomputable def Ite(K:SH)(a:Sf):It:=⟨λi H=>∃xs x,SqL K H a xs/\xs[i]? = Sa x,λi H x H'=>∃p y,x=.ref p/\H p=Sb/\(∀ys,SqL K H a ys->ys[i]? = Sa y)/\H'=upd H p (.tup [.int (i:Int),y]),λi H=>∃xs,SqL K H a xs/\xs.length<=i⟩
theorem qQh{K:SH}{k:Nat}(a e it:Sf)(m:e≠it):Turn P w K (.Tuple r k D) (Ite K a) [e,it] e (λi h=>(∃c,IsEnum h e it (i:Nat) c)/\h.IsListIter it a i) where
 mem:=by simp
 obj:=λi h st b f=>by
  obtain⟨⟨c,g⟩,⟨o,F,G,h3⟩⟩:=st;rcases aN.mp f with z|z
  .subst z
   show⟨_,g,λv z=>by
    let z':Data.fields _=Data.cell v:=z
    cases z'⟩
  .let z:b=it:=by simpa using z
   subst z;show⟨o,F,λv z=>by rw[h3]at z;cases z⟩
 keep:=λi h h' st Y=>by
  obtain⟨⟨c,g⟩,n⟩:=st;show⟨⟨c,Y e ∅ _ g⟩,n.at λo q=>Y it ∅ o q⟩
 item:=by
  intro X J L M Z i j s σ H E I B st N;subst J L M;let⟨xs,x,C,O⟩:=N;obtain⟨⟨c,g⟩,n⟩:=st;let⟨Q,R,p,hz⟩:=I.list C;let⟨u,hu,ru⟩:=R.get O;show wpAny_pyNext_enum_item g n p.isList (x:=u) (by simpa using hu) m λF S t ht a0 hk=>?_;show⟨_,rfl,wpAny_letOwnedTupleGo_enum S λG y T=>?_⟩;let l:e<s.heap.objs.size:=aO g;let d:Heap.SameBut e F G:=T;let I1:Inv X j σ (upd H s.heap.objs.size (.tup [.int (i:Int),x])) {s with heap:=G,toks:=s.toks+1}:=by
   show I.turnLaid (ch:=[e,it]) (λb o f q=>?_) (λb f=>?_) B (aI _) ?_
   .let A:b≠e:=λz=>f (by simp[z]);let U:b≠it:=λz=>f (by simp[z]);show(d.2 b A).trans (hk b o A U q)
   .rcases aN.mp f with z|z
    .subst z;show⟨_,y⟩
    .let z:b=it:=by simpa using z
     subst z;let⟨o,q,_⟩:=t;show⟨o,(d.2 _ (cC m)).trans q⟩
   .refine⟨by change 2<=Sn;decide,[.int (i:Int) s.toks,u],.cons ⟨_,rfl⟩ (.cons ru .nil),⟨_,(d.2 _ (cJ l)).trans ht,rfl,_,rfl⟩⟩
  show⟨.ref s.heap.objs.size,_,I1,rfl,⟨s.heap.objs.size,x,rfl,I.fresh,λys hy=>by rw[I.list_inj hy C];show O,rfl⟩,⟨⟨_,by
   let:((i+1:Nat):Int)=(i:Int)+1:=by lia
   rw[this];show y⟩,t.extBut d.extBut (cC m)⟩,λb f=>?_⟩
  let V:b<s.heap.objs.size:=by
   rcases aN.mp f with z|z
   .rw [z];show l
   .let z:b=it:=by simpa using z
    rw[z];let⟨o,q,_⟩:=n;show aO q
  rw[zD (aP V)];show(B b f).1
 done:=by
  intro X J L M Z i j s σ H E I B st N;subst J L M;let⟨xs,C,O⟩:=N;obtain⟨⟨c,g⟩,n⟩:=st;let⟨Q,R,p,hz⟩:=I.list C;let⟨f0,f1,f2,f3,f4,f5⟩:=B it ∅;let hl:=R.length;show wpAny_pyNext_enum_end (I.ok.hd Z) g n p.isList (by simp;lia) λh' eb=>⟨rfl,I.turned (t':=s.toks) (λb o f q=>eb b o f q) f0 f1 f3 f4 f5⟩
 self:=λ_ _ _ _ _ st h=>by
  obtain⟨⟨c,g⟩,_⟩:=st;show wpAny_pyIter_enum g h
def iEnum(K:SH)(ta:TA):TI:=λσ H R=>ta σ H λvs H1=>∃a,vs=[.ref a]/\(∃xs,SqL K H1 a xs)/\R (Ite K a) H1
theorem xl(o:Gl X "enumerate")(r:X.mg "enumerate"=Sb)(t:PA X [a] j)(v:Sv [a] X.env=[(Sd,Sw a X.env)]:=by rfl):PI X (.Tuple elts k tpos) (.Call (.Name "enumerate" p) [a] [] f) (iEnum X.K j):=by
 intro d s σ H R I h;show Call_ (xN I o r boot_enumerate (cN (thn (t f d s σ H _ I h) λM c hq_=>?_) v rfl));let⟨N,m,i,w,x⟩:=hq_;obtain⟨l,e,⟨O,y⟩,q⟩:=x;subst e;let⟨u,rfl,A⟩:=vals1 w;cases A;let⟨B,P,C,Q⟩:=i.list y;show call_enumerate_list C.isList λD n E F G=>?_;show wpAny_pyIter_enum n ?_;let J:Inv X d σ m {c with heap:=D}:=i.kept (t':=c.toks) G;show⟨c.heap.objs.size+1,[c.heap.objs.size+1,c.heap.objs.size],_,_,m,rfl,J,qQh l (c.heap.objs.size+1) c.heap.objs.size (cJ (dD _)),⟨⟨_,n⟩,E⟩,λb L=>?_,q⟩;let g:c.heap.objs.size<=b:=by
  grind
 show i.fpOk g (i.hok.fresh g)
section
variable{X:Cx}{elt tg iter tg2 iter2:Sl}{ifs ifs2:List Sl}{scope:Su}{pos:Pos}
theorem wCy(own:List Str)(cap:List Nat)(c:X.calm=Sc)(S:CompScope X own cap scope)(hi:PI X tg iter wi)(d:∀a s H ex,PG (zP X own cap scope a s H ex) tg g)(e:∀a s H ex,PTs (zP X own cap scope a s H ex) ifs tts)(f:∀a s H ex,PE (zP X own cap scope a s H ex) elt te)(i:∀x,SC iter X.env x=pure x:=by intro _;rfl):PE X (.ListComp elt [⟨tg,iter,ifs,0⟩] scope pos) (tComp own cap (.lst []) wi g tts (eApp te)):=by
 intro b s σ H Q I h;show kr (behOf:=vS elt) c S rfl hi kq (λ_ _ _ _ _=>Qc) d e (λa s H ex l=>kw (f a s H ex)) i b s σ H Q I h
theorem wCu{i:Nat}{x:Str}{d a:Pos}(own:List Str)(cap:List Nat)(j:X.calm=Sc)(S:CompScope X own cap scope)(k:X.N.Nodup)(e:X.N[i]? = Sa x)(m:Loc X.env.scope x)(hi:PI X tg iter wi)(n:∀b s H ex,PG (zP X own cap scope b s H ex) tg g)(o:∀b s H ex,PTs (zP X own cap scope b s H ex) ifs tts)(p:∀b s H ex,PE (zP X own cap scope b s H ex) elt te)(f:SD (.ListComp elt [⟨tg,iter,ifs,0⟩] scope pos) (Sa (.Name x d)) a.line X.env=pure Sc:=by rfl)(q:∀x,SC iter X.env x=pure x:=by intro _;rfl)(r:X.fn x=Sc\/X.env.scope.names.lookup x=Sa .local:=by first|show .inl rfl|show .inr rfl|assumption):PS X (.Assign [.Name x d] (.ListComp elt [⟨tg,iter,ifs,0⟩] scope pos) a) (tAsg (tComp own cap (.lst []) wi g tts (eApp te)) (gName i)):=by
 intro c s σ H D I h;rw[exec_Assign_Name_used _ _ _ _ f];show aA (fF (aA ?_));change Sm _ X.A (do let _ <-comprehension (.ListComp elt [⟨tg,iter,ifs,0⟩] scope pos) scope X.env _ (newList []) Sd (Sw iter X.env) (Sa (assign (.Name x d) X.env))) _ _ s;show aA (thn (ku (behOf:=vS elt) j S rfl hi kq (λ_ _ _ _ _=>Qc) n o (λb s H ex l=>kw (p b s H ex)) q k e m r c s σ H D I h) λ_ u t=>?_);show aC (aC t)
noncomputable def uN(e iter2:Sl)(d:Nat)(acc:Se)(env:Env):Sem Unit:=do
 let x <-Sw iter2 env
 Sy iter2.pos
 let x <-SC iter2 env x
 let _ <-runOwn (.compStart e d (<-Sz [x] (pyIter x)) acc env) env
def bNext(wi2:TI)(g2:TG)(tts2:List TT)(B:TB):TB:=λσ H Q=>wi2 σ H λJ H1=>LoopT J g2 (tAll tts2) B σ H1 Q
theorem qZq{d:Nat}(i:X.xe=λ_ _=>False)(k:X.calm=Sc)(C:ClauseAt X e d b tg2 iter2 ifs2 c)(hi:PI X tg2 iter2 wi2)(l:PG X tg2 g2)(m:PTs X ifs2 tts2)(n:PB X c B)(o:∀x,SC iter2 X.env x=pure x):PB X (uN e iter2 d b X.env) (bNext wi2 g2 tts2 B):=by
 intro a s σ H Q I h;show aA (thn (hi a s σ H _ I h) λv D p=>aA (fF (aA (wpAny_of_eq (o v) (aA (bK (thn p λt u w=>?_)))))));let⟨y,E,F,J,G,rfl,z,T,g,A,q⟩:=w;let L:=QX i k C T l m n z g A q;show aA (wpAny_runOwn ?_);show gQ (C.start (.ref y) (CompR X a Q) u L (T.self _ 0 _ _ _ g L)) λr K j=>?_;cases r with
 |error x=>show(show False from j).elim
 |ok f=>show aC j
theorem Qd{d:Nat}(hd:gens[d]? = Sa ⟨tg,iter,ifs,0⟩)(it:Se)(R:Result->Sg->Prop)(s:Sg)(h0:codeAny (So X.prog X.w) X.A (.compLoop (.ListComp elt gens scope pos) d it a X.env) R s)(h:Sm (So X.prog X.w) X.A (pyIter it) (λb c=>codeAny (So X.prog X.w) X.A (.compLoop (.ListComp elt gens scope pos) d b a X.env) R c) (λ_ _=>False) s):codeAny (So X.prog X.w) X.A (.compStart (.ListComp elt gens scope pos) d it a X.env) R s:=by
 show codeAny_of_tree ?_;change Sm _ X.A ((compStart (.ListComp elt gens scope pos) d it a X.env).onRaise (λx=>do noteFrame x X.env;Sy theWindowsPlace)) _ _ s;show wpAny_notedAt ?_;unfold compStart;let f:(clausesOf (.ListComp elt gens scope pos))[d]? = Sa ⟨tg,iter,ifs,0⟩:=hd;rw[f];change Sm _ _ (ask >>=_) _ _ s;show aA (dQ (wpAny_ite ?_));let e:Sm (So X.prog X.w) X.A (pyIter it) (λb c=>codeAny (So X.prog X.w) X.A (.compLoop (.ListComp elt gens scope pos) d b a X.env) R c) (notedBy (So X.prog X.w) X.A X.env λx c=>R (.error x) c) s:=fQ h (λ_ _ z=>z) λ_ _ z=>z.elim;split
 .first
   |show aA (aC (aC (And.intro rfl h0)))
   |show aC (And.intro rfl h0)
 .first
   |show aA (dF (aA (fF (aA (fQ e (λb c e=>aC (And.intro rfl e)) λ_ _ x=>x)))))
   |(show aA (dF ?_);change Sm _ _ (Sy iter.pos >>=_) _ _ s;show aA (fF (aA (fQ e (λb c e=>aC (And.intro rfl e)) λ_ _ x=>x))))
theorem qJl:ClauseAt X (.ListComp elt [⟨tg,iter,ifs,0⟩,⟨tg2,iter2,ifs2,0⟩] scope pos) 0 a tg iter ifs (uN (.ListComp elt [⟨tg,iter,ifs,0⟩,⟨tg2,iter2,ifs2,0⟩] scope pos) iter2 1 a X.env) where
 quiet:=λ_=>rfl
 under:=λ_=>rfl
 den:=λ_=>rfl
 turn:=λb=>by
  let e:compTurn (.ListComp elt [⟨tg,iter,ifs,0⟩,⟨tg2,iter2,ifs2,0⟩] scope pos) 0 b a X.env=(do
   Sy iter.pos
   match <-pyNext b with
   |none=>pure (.done .next)
   |some v=>
    letOwnedTupleGo tg b v
    assign tg X.env v
    let ok <-wU ifs X.env Sc
    if ok then
     let x <-Sw iter2 X.env
     Sy iter2.pos
     let x <-SC iter2 X.env x
     let _ <-runOwn (.compStart (.ListComp elt [⟨tg,iter,ifs,0⟩,⟨tg2,iter2,ifs2,0⟩] scope pos) 1 (<-Sz [x] (pyIter x)) a X.env) X.env
    again (.compLoop (.ListComp elt [⟨tg,iter,ifs,0⟩,⟨tg2,iter2,ifs2,0⟩] scope pos) 0 b a X.env)):=rfl
  simp_all[uN]
 start:=λb R s=>Qd rfl b R s
theorem qJk:ClauseAt X (.ListComp elt [⟨tg,iter,ifs,0⟩,⟨tg2,iter2,ifs2,0⟩] scope pos) 1 a tg2 iter2 ifs2 (vS elt a X.env) where
 quiet:=λ_=>rfl
 under:=λ_=>rfl
 den:=λ_=>rfl
 turn:=λ_=>rfl
 start:=λb R s=>Qd rfl b R s
end
end L2
namespace Srt
open PySem PySem.W PyProof.Rows
def run{α : Type}(lt:Nat->Nat->Bool):KasT α -> α
 |.ret a=>a
 |.ask i j k=>run lt (k (lt i j))
theorem wW{α β : Type}(lt:Nat->Nat->Bool)(f : α -> KasT β):∀t:KasT α,run lt (t.bind f)=run lt (f (run lt t))
 |.ret _=>rfl
 |.ask i j k=>wW lt f (k (lt i j))
section
variable(lt:Nat->Nat->Bool)
structure Ord:Prop where
 asym:∀a b,lt a b=Sc->lt b a=Sd
 trans:∀a b c,lt b a=Sd->lt c b=Sd->lt c a=Sd
abbrev at'(p:Array Nat)(i:Nat):Nat:=p.getD i 0
def Up(p:Array Nat)(k:Nat):Prop:=∀i j,i<=j->j<k->lt (at' p j) (at' p i)=Sd
def Dn(p:Array Nat)(k:Nat):Prop:=∀i j,i<=j->j<k->lt (at' p i) (at' p j)=Sd
def Eqs(p:Array Nat)(a b:Nat):Prop:=∀i j,a<=i->i<b->a<=j->j<b->lt (at' p i) (at' p j)=Sd
end
theorem Ord.irr(O:Ord lt)(a:Nat):lt a a=Sd:=by
 cases h:lt a a with
 |false=>rfl
 |true=>rw[<-h];show(O.asym a a h)
theorem vT{i j:Nat}(h:p[i]? = q[j]?):at' p i=at' q j:=by
 simp_all
theorem xm{i j:Nat}(a:j<=p.size)(k:Nat):at' (kas_rev p i j) k=if i<=k/\k<j then at' p (i+j-1-k)else at' p k:=by
 let h:=getElem?_mirror_all (i:=i) a k;by_cases c:i<=k/\k<j
 .rw [if_pos c]at h ⊢;show vT h
 .rw [if_neg c]at h ⊢;show vT h
theorem Qe{k l:Nat}(a:k<p.size)(b:l<=k)(i:Nat):at' (bubble p k (k-l)) i=if i=l then at' p k else if l<i/\i<=k then at' p (i-1)else at' p i:=by
 let h:=getElem?_bubble a (k-l) ∎ i;let e:k-(k-l)=l:=by lia
 rw[e]at h;by_cases c:i=l
 .rw [if_pos c]at h ⊢;show vT h
 .rw [if_neg c]at h ⊢;by_cases d:l<i/\i<=k
  .rw [if_pos d]at h ⊢;show vT h
  .rw [if_neg d]at h ⊢;show vT h
theorem Up.snoc(O:Ord lt){n:Nat}(c:1<=n)(u:Up lt p n)(h:lt (at' p n) (at' p (n-1))=Sd):Up lt p (n+1):=by
 intro i j a d;by_cases e:j=n
 .subst e;by_cases b:i=j
  .subst b;show O.irr _
  .exact O.trans _ (at' p (j-1)) _ (u i (j-1) ∎ ∎) h
 .exact u i j a ∎
theorem Dn.snoc(O:Ord lt){n:Nat}(c:1<=n)(u:Dn lt p n)(h:lt (at' p (n-1)) (at' p n)=Sd):Dn lt p (n+1):=by
 intro i j a d;by_cases e:j=n
 .subst e;by_cases b:i=j
  .subst b;show O.irr _
  .exact O.trans _ (at' p (j-1)) _ h (u i (j-1) ∎ ∎)
 .exact u i j a ∎
theorem kx(O:Ord lt)(p:Array Nat):∀(f n:Nat),1<=n->Up lt p n->n<=run lt (kas_asc p f n)/\run lt (kas_asc p f n)<=n+f/\Up lt p (run lt (kas_asc p f n)) /\
  (run lt (kas_asc p f n)<n+f->lt (at' p (run lt (kas_asc p f n))) (at' p (run lt (kas_asc p f n)-1))=Sc)
 |0,n,g,u=>⟨aI _,aI _,u,λh=>absurd h (fE _)⟩
 |f+1,n,g,u=>by
  let i:run lt (kas_asc p (f+1) n)=if lt (at' p n) (at' p (n-1))=Sc then n else run lt (kas_asc p f (n+1)):=by
   change run lt (if lt (at' p n) (at' p (n-1))=Sc then KasT.ret n else kas_asc p f (n+1))=_;cases lt (at' p n) (at' p (n-1))<;>rfl
  rw[i];cases c:lt (at' p n) (at' p (n-1))with
  |true=>
   simp only[if_true];show⟨aI _,∎,u,λ_=>c⟩
  |false=>
   simp only[bL,if_false];let⟨a,b,d,e⟩:=kx O p f (n+1) ∎ (u.snoc O g c);show⟨∎,∎,d,λh=>e ∎⟩
theorem xY(p:Array Nat)(i j:Nat):(kas_rev p i j).Perm p:=mirror_perm _ _ _ _
theorem wC(p:Array Nat)(i j:Nat):(kas_rev p i j).size=p.size:=mirror_size _ _ _ _
theorem Dn.revEq(O:Ord lt){a n:Nat}(f:n<=p.size)(h:a<=n)(u:Dn lt p n)(e:Eqs lt p a n):Dn lt (kas_rev p a n) n:=by
 intro i j c g;rw[xm f,xm f];by_cases d:a<=i/\i<n
 .by_cases b:a<=j/\j<n
  .rw [if_pos d,if_pos b];show e _ _ ∎ ∎ ∎ ∎
  .lia
 .by_cases b:a<=j/\j<n
  .rw [if_neg d,if_pos b];show u _ _ ∎ ∎
  .rw [if_neg d,if_neg b];show u _ _ c g
theorem uO(O:Ord lt):∀(f:Nat) (p:Array Nat) (n q:Nat),q+1<=n->n+f<=p.size->Dn lt p n->Eqs lt p (n - (q+1)) n ->
  ∃b a g,run lt (kas_desc f p n q)=(b,a,g)/\b.Perm p/\b.size=p.size/\n<=a/\a<=n+f/\g+1<=a/\Dn lt b a/\Eqs lt b (a-(g+1)) a
 |0,p,n,q,t,A,u,e=>⟨p,n,q,rfl,gY _,rfl,aI _,aI _,t,u,e⟩
 |f+1,p,n,q,t,A,u,e=>by
  unfold kas_desc;change ∃b a g,run lt (if lt (at' p n) (at' p (n-1))=Sc then _ else _)=_/\_;cases c:lt (at' p n) (at' p (n-1))with
  |true=>
   simp only[if_true];by_cases x:q>0
   .rw [if_pos x];let B:Dn lt (kas_rev p (n-(q+1)) n) n:=u.revEq O ∎ ∎ e;let C:at' (kas_rev p (n-(q+1)) n) n=at' p n:=by rw[xm ∎,if_neg ∎]
    let D:at' (kas_rev p (n-(q+1)) n) (n-1)=at' p (n-(q+1)):=by
     rw[xm ∎,if_pos ∎];congr 1;lia
    let E:Dn lt (kas_rev p (n-(q+1)) n) (n+1):=B.snoc O ∎ (by
     rw[C,D]
     show O.trans _ (at' p (n-1)) _ (O.asym _ _ c) (e _ _ ∎ ∎ ∎ ∎))
    let⟨b,a,g,r,h,l,y,z,m,o,s⟩:=uO O f (kas_rev p (n-(q+1)) n) (n+1) 0 ∎ (by rw[wC];lia) E (λi j _ _ _ _=>by
     let:i=j:=by lia
     subst this;show O.irr _)
    show⟨b,a,g,r,h.trans (xY _ _ _),l.trans (wC _ _ _),∎,∎,m,o,s⟩
   .rw [if_neg x]
    let⟨b,a,g,r,h,l,y,z,m,o,s⟩:=uO O f p (n+1) 0 ∎ ∎ (u.snoc O ∎ (O.asym _ _ c)) (λi j _ _ _ _=>by
     let:i=j:=by lia
     subst this;show O.irr _)
    show⟨b,a,g,r,h,l,∎,∎,m,o,s⟩
  |false=>
   simp only[bL,if_false];change ∃b a g,run lt (if lt (at' p (n-1)) (at' p n)=Sc then _ else _)=_/\_;cases d:lt (at' p (n-1)) (at' p n)with
   |true=>
    simp only[if_true];show⟨p,n,q,rfl,gY _,rfl,aI _,∎,t,u,e⟩
   |false=>
    simp only[bL,if_false]
    let⟨b,a,g,r,h,l,y,z,m,o,s⟩:=uO O f p (n+1) (q+1) ∎ ∎ (u.snoc O ∎ d) (λi j F v G w=>by
     let key:∀k,n+1-(q+1+1)<=k->k<n+1->lt (at' p k) (at' p (n-1))=Sd/\lt (at' p (n-1)) (at' p k)=Sd:=by
      intro k I J;by_cases H:k=n
      .subst H;show⟨c,d⟩
      .exact⟨e _ _ ∎ ∎ ∎ ∎,e _ _ ∎ ∎ ∎ ∎⟩
     show O.trans _ (at' p (n-1)) _ (key j G w).2 (key i F v).1)
    show⟨b,a,g,r,h,l,∎,∎,m,o,s⟩
theorem Dn.rev{n:Nat}(a:n<=p.size)(u:Dn lt p n):Up lt (kas_rev p 0 n) n:=by
 intro i j b c;rw[xm a,xm a,if_pos ∎,if_pos ∎];show u _ _ ∎ ∎
theorem Qf(O:Ord lt){n nrem:Nat}(e:1<=n)(f:n<=nrem)(hz:nrem<=p.size)(u:Dn lt p n):∃m c,run lt (kas_tail3 n nrem p)=(m,c)/\c.Perm p/\c.size=p.size/\1<=m/\m<=nrem/\Up lt c m:=by
 let⟨a,b,d,_⟩:=kx O (kas_rev p 0 n) (nrem-n) n e (u.rev ∎);show⟨_,_,wW lt _ _,xY _ _ _,wC _ _ _,∎,∎,d⟩
theorem Qg(O:Ord lt){n nrem:Nat}(v:1<=n)(w:n+1<=nrem)(hz:nrem<=p.size)(u:Dn lt p (n+1)):∃m a,run lt (kas_descPart n nrem p)=(m,a)/\a.Perm p/\a.size=p.size/\1<=m/\m<=nrem/\Up lt a m:=by
 let⟨a,b,l,r,o,x,y,z,A,q,t⟩:=uO O (nrem-(n+1)) p (n+1) 0 ∎ ∎ u (λi j _ _ _ _=>by
  let:i=j:=by lia
  subst this;show O.irr _)
 unfold kas_descPart;rw[wW,r];dsimp only;by_cases s:l>0
 .rw [if_pos s];let⟨m,c,e,d,f,g,h,k⟩:=Qf O (p:=kas_rev a (b-(l+1)) b) (n:=b) (nrem:=nrem) ∎ ∎ (by rw[wC];lia) (q.revEq O ∎ ∎ t);show⟨m,c,e,(d.trans (xY _ _ _)).trans o,by grind[wC],g,h,k⟩
 .rw [if_neg s];let⟨m,c,e,d,f,g,h,k⟩:=Qf O (p:=a) (n:=b) (nrem:=nrem) ∎ ∎ ∎ q;show⟨m,c,e,d.trans o,by grind,g,h,k⟩
theorem qX6(O:Ord lt){nrem:Nat}(F:1<=nrem)(hz:nrem<=p.size):∃m g,run lt (kas_count nrem p)=(m,g)/\g.Perm p/\g.size=p.size/\1<=m/\m<=nrem/\Up lt g m:=by
 let⟨a,b,d,e⟩:=kx O p (nrem-1) 1 ∎ (λi j h l=>by
  let:i=j:=by lia
  subst this;show O.irr _)
 unfold kas_count;rw[wW];generalize G:run lt (kas_asc p (nrem-1) 1)=n at a b d e;by_cases c:n=nrem
 .rw [if_pos (by simp[c])];show⟨n,p,rfl,gY _,rfl,a,∎,d⟩
 .rw [if_neg (by simp[c])];let k:=e ∎;by_cases r:n>1
  .rw [if_pos r];change ∃m g,run lt (if lt (at' p 0) (at' p (n-1))=Sc then _ else _)=_/\_;cases f:lt (at' p 0) (at' p (n-1))with
   |true=>
    simp only[if_true];show⟨n,p,rfl,gY _,rfl,a,∎,d⟩
   |false=>
    simp only[bL,if_false];let all:∀i j,i<n->j<n->lt (at' p i) (at' p j)=Sd:=by
     intro i j s l;let t:lt (at' p (n-1)) (at' p j)=Sd:=d j (n-1) ∎ ∎;let v:lt (at' p i) (at' p 0)=Sd:=d 0 i ∎ s;show O.trans _ (at' p 0) _ (O.trans _ (at' p (n-1)) _ t f) v
    let u:Dn lt (kas_rev p 0 n) (n+1):=by
     intro i j h l;rw[xm ∎,xm ∎];by_cases w:j=n
     .subst w;rw[if_neg (show ¬(0<=j/\j<j)by lia)];by_cases o:i=j
      .subst o;rw[if_neg ∎];show O.irr _
      .rw [if_pos ∎];show O.trans _ (at' p (j-1)) _ (O.asym _ _ k) (all _ _ ∎ ∎)
     .rw [if_pos ∎,if_pos ∎];show all _ _ ∎ ∎
    let⟨m,x,q,y,z,A,B,C⟩:=Qg O (p:=kas_rev p 0 n) (n:=n) (nrem:=nrem) a ∎ (by rw[wC];lia) u;show⟨m,x,q,y.trans (xY _ _ _),by rw[z,wC],A,B,C⟩
  .rw [if_neg r];let D:n=1:=by lia
   subst D;let u:Dn lt p (1+1):=by
    intro i j h l;by_cases o:i=j
    .subst o;show O.irr _
    .let E:i=0:=by lia
     let q:j=1:=by lia
     subst E;subst q;show O.asym _ _ k
   show Qg O ∎ ∎ hz u
theorem ky(O:Ord lt){k:Nat}(u:Up lt p k):∀(f l r:Nat),l<=r->r<=k->r - l<=f->(∀i,i<l->lt (at' p k) (at' p i)=Sd)->(∀i,r<=i->i<k->lt (at' p k) (at' p i)=Sc) ->
  ∃m,run lt (kas_place p k f l r)=m/\m<=k/\(∀i,i<m->lt (at' p k) (at' p i)=Sd)/\∀i,m<=i->i<k->lt (at' p k) (at' p i)=Sc
 |0,l,r,h,j,n,a,b=>⟨l,rfl,∎,a,λi e=>b i ∎⟩
 |f+1,l,r,h,j,n,a,b=>by
  unfold kas_place;by_cases c:l>=r
  .rw [if_pos c];show⟨l,rfl,∎,a,λi e=>b i ∎⟩
  .rw [if_neg c];change ∃m,run lt (if lt (at' p k) (at' p ((l+r) / 2))=Sc then _ else _)=m/\_;cases d:lt (at' p k) (at' p ((l+r) / 2))with
   |true=>
    simp only[if_true];show ky O u f l ((l+r) / 2) ∎ ∎ ∎ a λi e g=>?_;by_cases o:r<=i
    .exact b i o g
    .cases z:lt (at' p k) (at' p i)with
     |true=>rfl
     |false=>
      let x:=u ((l+r) / 2) i e g;let:=O.trans _ _ _ x z;rw[d]at this;cases this
   |false=>
    simp only[bL,if_false];show ky O u f ((l+r) / 2+1) r ∎ ∎ ∎ (λi e=>?_) b;by_cases q:i<l
    .exact a i q
    .exact O.trans _ _ _ (u i ((l+r) / 2) ∎ ∎) d
theorem wCc(O:Ord lt){k l:Nat}(e:k<p.size)(f:l<=k)(u:Up lt p k)(a:∀i,i<l->lt (at' p k) (at' p i)=Sd)(b:∀i,l<=i->i<k->lt (at' p k) (at' p i)=Sc):Up lt (bubble p k (k-l)) (k+1):=by
 intro i j d n;rw[Qe e f,Qe e f];by_cases g:i=l
 .rw [if_pos g];by_cases c:j=l
  .rw [if_pos c];show O.irr _
  .rw [if_neg c,if_pos ∎];show O.asym _ _ (b _ ∎ ∎)
 .rw [if_neg g];by_cases c:j=l
  .rw [if_pos c,if_neg ∎];show a i ∎
  .rw [if_neg c];by_cases h:l<i/\i<=k
   .rw [if_pos h,if_pos ∎];show u _ _ ∎ ∎
   .rw [if_neg h];by_cases m:l<j/\j<=k
    .rw [if_pos m];show u _ _ ∎ ∎
    .rw [if_neg m];show u _ _ d ∎
theorem Qh(O:Ord lt):∀(f:Nat) (p:Array Nat) (k:Nat),k+f=p.size->Up lt p k -> ∃c,run lt (kas_bin f p k)=c/\c.Perm p/\c.size=p.size/\Up lt c p.size
 |0,p,k,h,u=>⟨p,rfl,gY _,rfl,by rw[<-h];show u⟩
 |f+1,p,k,h,u=>by
  unfold kas_bin;rw[wW];let⟨m,e,j,a,b⟩:=ky O u k 0 k ∎ ∎ ∎ (λi d=>absurd d ∎) (λi d l=>absurd l ∎);rw[e];let⟨c,n,o,q,g⟩:=Qh O f (bubble p k (k-m)) (k+1) (by rw[bubble_size];lia) (wCc O ∎ j u a b);show⟨c,n,o.trans (bubble_perm _ _ _),by rw[q,bubble_size],by rw[bubble_size]at g;show g⟩
theorem sort_ok(O:Ord lt){n:Nat}(g:1<=n):∃p,run lt (kas_sort n)=p/\p.Perm (List.toArray (List.range n))/\p.size=n/\Up lt p n:=by
 let⟨m,p,e,a,h,l,o,b⟩:=qX6 O (p:=List.toArray (List.range n)) (nrem:=n) g ∅;let d:p.size=n:=by rw[h];simp
 unfold kas_sort;rw[wW,e];dsimp only;by_cases c:m<n
 .rw [if_pos c];let em:max m 1=m:=by lia
  rw[em];let⟨i,j,k,q,f⟩:=Qh O (n-m) p m ∎ b;show⟨i,j,k.trans a,∎,by rw[d]at f;show f⟩
 .rw [if_neg c];let:m=n:=by lia
  subst this;show⟨p,rfl,a,d,b⟩
def Asks{α : Type}(n:Nat):KasT α -> Prop
 |.ret _=>True
 |.ask i j k=>i<n/\j<n/\∀b,Asks n (k b)
def Ends'{α : Type}(n:Nat)(P : α -> Prop):KasT α -> Prop
 |.ret a=>P a
 |.ask i j k=>i<n/\j<n/\∀b,Ends' n P (k b)
theorem wX{α β : Type}{n:Nat}{P : α -> Prop}{R : β -> Prop}{f : α -> KasT β}(c:∀a,P a->Ends' n R (f a)):∀ {t:KasT α},Ends' n P t->Ends' n R (t.bind f)
 |.ret a,h=>c a h
 |.ask _ _ k,⟨d,e,g⟩=>⟨d,e,λb=>wX c (g b)⟩
def Bd(n:Nat)(p:Array Nat):Prop:=∀i,at' p i<n
theorem Bd.of{n:Nat}(h0:0<n)(h:q.Perm p)(b:∀x∈p,x<n):Bd n q/\∀x∈q,x<n:=by
 let a:∀x∈q,x<n:=λx c=>b x ((Array.Perm.mem_iff h).mp c);show⟨λi=>?_,a⟩;unfold at';rw[cH];cases e:q[i]? with
 |none=>show h0
 |some x=>show a x (Array.mem_of_getElem? e)
section
variable(h0:0<n)
abbrev Ok(n:Nat)(p:Array Nat):Prop:=Bd n p/\∀x∈p,x<n
include h0
theorem Ok.perm(h:Ok n p)(a:q.Perm p):Ok n q:=Bd.of h0 a h.2
theorem kz(a:Ok n p):∀(f k:Nat),Ends' n (λ_=>True) (kas_asc p f k)
 |0,_=>trivial
 |f+1,k=>⟨a.1 _,a.1 _,λb=>by
  cases b with
  |true=>show trivial
  |false=>show kz a f (k+1)⟩
theorem uP:∀(f:Nat) (p:Array Nat) (k q:Nat),Ok n p->Ends' n (λr=>Ok n r.1) (kas_desc f p k q)
 |0,p,_,_,a=>a
 |f+1,p,k,q,a=>⟨a.1 _,a.1 _,λb=>by
  cases b with
  |true=>
   change Ends' n _ (if q>0 then _ else _);by_cases c:q>0
   .rw [if_pos c];show uP f _ _ _ (a.perm h0 (xY _ _ _))
   .rw [if_neg c];show uP f _ _ _ a
  |false=>
   show⟨a.1 _,a.1 _,λd=>?_⟩;cases d with
   |true=>show a
   |false=>show uP f _ _ _ a⟩
theorem Qi(b:Ok n p)(k m:Nat):Ends' n (λr=>Ok n r.2) (kas_tail3 k m p):=by
 unfold kas_tail3;show wX (P:=λ_=>True) (λa _=>?_) (kz h0 (b.perm h0 (xY _ _ _)) _ _);show b.perm h0 (xY _ _ _)
theorem Qj(d:Ok n p)(k m:Nat):Ends' n (λr=>Ok n r.2) (kas_descPart k m p):=by
 unfold kas_descPart
 show wX (P:=λr=>Ok n r.1) (λa b=>by
  by_cases c:a.2.2>0
  .rw [if_pos c];show Qi h0 (b.perm h0 (xY _ _ _)) _ _
  .rw [if_neg c];show Qi h0 b _ _) (uP h0 _ _ _ _ d)
theorem qQ3(d:Ok n p)(m:Nat):Ends' n (λr=>Ok n r.2) (kas_count m p):=by
 unfold kas_count
 show wX (P:=λ_=>True) (λa _=>by
  by_cases c:(a == m)=Sc
  .rw [if_pos c];show d
  .rw [if_neg c];by_cases e:a>1
   .rw [if_pos e];show⟨d.1 _,d.1 _,λb=>?_⟩;cases b with
    |true=>show d
    |false=>show Qj h0 (d.perm h0 (xY _ _ _)) _ _
   .rw [if_neg e];show Qj h0 d _ _) (kz h0 d _ _)
theorem jA(a:Ok n p)(k:Nat):∀(f l r:Nat),Ends' n (λ_=>True) (kas_place p k f l r)
 |0,_,_=>trivial
 |f+1,l,r=>by
  unfold kas_place;by_cases c:l>=r
  .rw [if_pos c];show trivial
  .rw [if_neg c];show⟨a.1 _,a.1 _,λb=>?_⟩;cases b with
   |true=>show jA a k f _ _
   |false=>show jA a k f _ _
theorem Qk:∀(f:Nat) (p:Array Nat) (k:Nat),Ok n p->Ends' n (λ_=>True) (kas_bin f p k)
 |0,_,_,_=>trivial
 |f+1,p,k,a=>wX (P:=λ_=>True) (λl _=>Qk f _ _ (a.perm h0 (bubble_perm _ _ _))) (jA h0 a k _ _ _)
theorem sort_ends:Ends' n (λ_=>True) (kas_sort n):=by
 let b:Ok n (List.toArray (List.range n)):=Bd.of h0 (gY _) (λx d=>by simpa using d);show wX (P:=λr=>Ok n r.2) (λa e=>?_) (qQ3 h0 b n);by_cases c:a.1<n
 .rw [if_pos c];show Qk h0 _ _ _ e
 .rw [if_neg c];show trivial
end
theorem wp_run_in{α : Type}{n:Nat}{lt:Nat->Nat->Bool}{a:Nat->Nat->(Bool->Sg->Prop)->Sg->Prop}{s:Sg}{Q : α -> Sg->Prop}{P : α -> Prop}(h:∀i j C,i<n->j<n->C (lt i j) s->a i j C s):∀t:KasT α,Ends' n P t->Q (run lt t) s->t.kasWp a Q s
 |.ret _,_,q=>q
 |.ask i j k,e,q=>h i j _ e.1 e.2.1 (wp_run_in h (k (lt i j)) (e.2.2 _) q)
end Srt
namespace L2
open PySem PySem.Spec PyProof.Rows
theorem HOk.gone(x:HOk P w H h)(c:h.get? D=Sb):H D=Sb:=by
 cases q:H D with
 |none=>rfl
 |some u=>
  let z:∃a,h.get? D=Sa a:=by
   let:=x D u q;cases u with
   |lst xs=>obtain⟨_,_,_,_,e⟩:=this;grind
   |tup xs=>obtain⟨_,_,_,a,e,_⟩:=this;grind
   |dK b=>obtain⟨_,_,_,_,o,_,_,e,_⟩:=this;grind
   |dT b=>obtain⟨_,_,_,_,o,_,_,e,_⟩:=this;grind
   |set S n=>obtain⟨o,_,_,_,e,_⟩:=this;grind
   |ins C dx fs=>obtain⟨_,_,_,e,_⟩:=this;grind
   |own y=>obtain⟨_,e⟩:=this;grind
   |xd fs=>obtain⟨_,⟨_,_,_,e,_⟩,_⟩:=this;grind
   |rng lo hi=>obtain⟨_,_,_,e⟩:=this;grind
   |frz a u=>obtain⟨e,_⟩:=this;grind
   |tbl d=>show⟨_,this⟩
   |met f y=>show⟨_,this⟩
   |ext φ=>obtain⟨_,⟨_,e⟩,_⟩:=this;grind
  grind
theorem Inv.ledgerLaid{X:Cx}{d:List (Sf×Ss)}{σ:St}{H:Hp}{s:Sg}{h':Sk}{t':Nat}{D:Sf}{o:HO}{m:Str->Option Se}(I:Inv X d σ H s)(F:Fr X.base X.env.locals s.heap m)(g:Fr X.base X.env.locals h' m)(N:News X.base X.env.locals h' (wP X.base s.heap X.env.locals))(i:s.heap.get? D=Sb)(r:D≠X.env.locals)(new:ObjOk X.prog X.w (upd H D o) h' D o):Inv X d σ (upd H D o) {s with heap:=h',toks:=t'}:=by
 let k:∀b u,b≠X.env.locals->s.heap.get? b=Sa u->h'.get? b=Sa u:=λb u a e=>by
  cases q:X.base.get? b with
  |some v=>
   let:=I.bk b v q;rw[e]at this;cases this;show g.keep b _ q
  |none=>show(N (b,u) (kO a q e)).1
 let f:H D=Sb:=I.hok.gone i;let h:∀b u,s.heap.get? b=Sa u->b≠D:=λb u e z=>by grind
 refine I.step (g':=s.gens) (d':=s.drawn) (ch :=[]) (λ_ z=>nomatch z) (λb u a _ _ e _=>k b u a e) (λb u a _ _ e _=>⟨u.slots,k b u a e⟩) (λb u _ e n=>by grind[zD])
  (λb u _ e=>?_) (λb j e=>by grind[zD]) (λb R j e=>by grind[zD]) (λb S e=>⟨#[],by grind[zD]⟩) (λt A=>?_) (λb u e=>?_) I.bare
 .by_cases a:b=X.env.locals
  .let⟨B,_,_,C,_⟩:=g.ns;grind
  grind
 .let:t=m:=by
   let⟨T,E,G,J,K,_,L⟩:=A;let⟨U,M,O,l,p,_,P⟩:=F.ns;grind
  rw[this];show g.ns
 .by_cases a:b=D
  .grind[zB]
  .rw [zD a]at e;show(I.hok b u e).stay (λc v Q q=>k c v ?_ q) (λc q=>by grind[zD]) λc j q=>by grind[zD]
   intro z;rcases Q with y|y
   .rw [<-y,z,I.free]at e;grind
   .rw [z,I.free]at y;grind
def Ql(K:SH):List V->Hp->VK->Prop:=λxs H Q=>∃(a:Sf)(ns:List Int),xs=[.ref a]/\SqL K H a (ns.map V.int)/\ns.length<64/\∀(l:Sf)(ns':List Int),H l=Sb->ns'.Perm ns->ns'.Pairwise (·<=·)->Q (.ref l) (upd H l (.lst (ns'.map V.int)))
theorem Qm:CallR X (.builtin "sorted") (Ql X.K):=by
 intro i s σ H z A Q I r h;let⟨a,B,rfl,m,C,q⟩:=h;let⟨u,rfl,n⟩:=vals1 r;cases n;let⟨f,j,p,_⟩:=I.list m;let t:=j.length;rw[aB]at t;show sorted_ints p.isList (xw j) ∎ λc d v k w=>?_;let⟨e,x⟩:=sortedAll_at s.heap f c;let l:=k.length_eq;let y:H (s.heap.objs.size+1)=Sb:=I.hok.fresh (eY _);let g:Vals (d.map V.int) c.toList:=uM v;show⟨.ref (s.heap.objs.size+1),_,I.laid (t':=s.toks) (o:=.lst (d.map V.int)) (λb u e=>sortedAll_old e) (eY _) ⟨?_,c.toList,e,g,by simp_all⟩,rfl,q _ d y k w⟩;grind
end L2
namespace Srt
open PySem PySem.W PyProof.Rows
theorem Qn:∀a b:List Int,HT.lexLt a b=Sc->HT.lexLt b a=Sd
 |[],[],h=>by grind[HT.lexLt]
 |[],_::_,_=>rfl
 |_::_,[],h=>by grind[HT.lexLt]
 |x::xs,y::c,h=>by
  rw[HT.lexLt_cons]at h ⊢;by_cases e:x=y
  .subst e;simp only[if_true]at h ⊢;show Qn xs c h
  grind
theorem Qo:∀a b c:List Int,HT.lexLt b a=Sd->HT.lexLt c b=Sd->HT.lexLt c a=Sd
 |a,[],[],h,_=>by grind
 |[],_,_::_,_,_=>rfl
 |_,_::_,[],_,h=>by grind[HT.lexLt]
 |_::_,[],_::_,h,_=>by grind[HT.lexLt]
 |x::xs,y::i,z::zs,e,d=>by
  rw[HT.lexLt_cons]at e d ⊢;by_cases g:y=x
  .subst g;simp only[if_true]at e;by_cases f:z=y
   .subst f;simp only[if_true]at d ⊢;show Qo xs i zs e d
   grind
  grind
theorem lex_ord(ts:List (List Int)):Ord (λi j=>HT.lexLt (ts.getD i []) (ts.getD j [])):=⟨λ_ _=>Qn _ _,λ_ _ _=>Qo _ _ _⟩
theorem katlex{a:Bool}:∀ {ns ms:List Int} {us c:List Se} {i:Nat},IntsAre us ns->IntsAre c ms->a=decide (ns.length<ms.length)->Q (HT.lexLt ns ms) s ->
  KatLex prog w A Sc a Q (us.zip c) i s
 |[],[],_,_,_,.nil,.nil,hf,q=>by subst hf;show q
 |[],_::_,_,_,_,.nil,.cons _ _ _,hf,q=>by subst hf;show q
 |_::_,[],_,_,_,.cons _ _ _,.nil,hf,q=>by
  subst hf;show q
 |n::ns,m::ms,_,_,i,.cons _ t d,.cons _ g f,hf,q=>by
  rw[HT.lexLt_cons]at q;show kat_cons (iN ?_);by_cases e:n=m
  .subst e;rw[beq_self_eq_true];rw[if_pos rfl]at q;show kat_yes (katlex d f (by subst hf;simp) q)
  .rw [if_neg e]at q;let:(n == m)=Sd:=beq_eq_false_iff_ne.mpr e;rw[this];show kat_no ?_;cases b:(Sc&&i == 0)with
   |true=>show oneLt_int q
   |false=>show kat_one _ _ (lt_int (show PySem.W.BoolBack Q (.bool (decide (n<m))) s from q))
def TupAt(h:Sk):List Se->List (List Int)->Prop:=Paired λu t=>∃a o xs k,u=Value.ref a/\h.get? a=Sa o/\o.cls=.type "tuple"/\o.data=.seq xs k/\IntsAre xs.toList t
theorem TupAt.get:∀ {us:List Se} {ts:List (List Int)} (i:Nat),TupAt h us ts->i<ts.length -> ∃a o xs k,us.getD i Value.none=Value.ref a/\h.get? a=Sa o/\o.data = .seq xs k/\IntsAre xs.toList (ts.getD i [])
 |_,_,_,.nil,hi=>absurd hi ∅
 |_,_,0,.cons ⟨a,o,xs,k,e,b,f,c,d⟩ _,_=>⟨a,o,xs,k,e,b,c,d⟩
 |_::us,_::ts,i+1,.cons _ r,hi=>TupAt.get i r (by simpa using hi)
theorem TupAt.firsts:∀ {us:List Se} {ts:List (List Int)},TupAt h us ts->(∀t∈ts,t ≠ []) -> ∃fs:List Se,KatTups h us fs/\fs.length=us.length /\ ∀v∈fs,∃i t,v=Value.int i t
 |_,_,.nil,_=>⟨[],trivial,rfl,λ_ h=>nomatch h⟩
 |_::us,t::ts,.cons ⟨a,o,xs,k,e,f,g,j,b⟩ r,d=>by
  let⟨fs,m,p,q⟩:=TupAt.firsts r λt s=>d t (aS _ s);let c:=d t aW;let⟨l⟩:=xs;let b:IntsAre l t:=b;cases b with
  |nil=>show absurd rfl c
  |cons n tk w=>
   subst e;show⟨Value.int n tk::fs,KatTups.cons f g j rfl m,by simp[p],λv u=>?_⟩;rcases aN.mp u with z|z
   .exact⟨n,tk,z⟩
   .exact q v z
end Srt
namespace L2
open PySem PySem.Spec PyProof.Rows
def TupI(K:SH)(H:Hp):List V->List (List Int)->Prop:=Paired λv t=>∃a,v=.ref a/\SqT K H a (t.map V.int)
theorem TupI.len{K:SH}(h:TupI K H vs ts):vs.length=ts.length:=dN h
theorem TupI.at(I:Inv X pins σ H s):∀ {vs:List V} {us:List Se} {ts:List (List Int)},TupI X.K H vs ts->Vals vs us->Srt.TupAt s.heap us ts
 |_,_,_,.nil,.nil=>.nil
 |_,_,_,.cons ⟨a,e,c⟩ r,.cons d f=>by
  subst e;cases d;obtain⟨b,g,⟨o,h,i,n,j⟩,_⟩:=I.tuple c;show .cons ⟨a,o,b.toArray,n,rfl,h,i,j,by simpa using xw g⟩ (TupI.at I r f)
theorem qQe(r:Vals vs us)(i:Nat):RelV (vs.getD i .non) (us.getD i Value.none):=by
 cases e:vs[i]? with
 |none=>
  let a:=r.none_of e;rw[bO,bO,e,a];rfl
 |some x=>
  let⟨u,b,c⟩:=r.get e;rw[bO,bO,e,b];show c
theorem Qp(r:Vals vs us):∀l:List Nat,Vals (l.map λi=>vs.getD i .non) (l.map λi=>us.getD i Value.none)
 |[]=>.nil
 |i::l=>.cons (qQe r i) (Qp r l)
theorem qJ7{α β:Type}(b:α)(c:β):∀(vs:List α)(ts:List β),vs.length=ts.length->(List.range vs.length).map (λi=>(vs.getD i b,ts.getD i c))=vs.zip ts:=by
 intro vs ts h;show List.ext_getElem? λi=>?_;rw[bA];by_cases a:i<vs.length
 .let d:i<ts.length:=by lia
  let e:i<(vs.zip ts).length:=by rw[eU];lia
  rw[List.getElem?_range a,aF e,List.getElem_zip];simp[bO,a,d]
 .rw [dA (by simpa using a),dA (by rw[eU];lia)];rfl
def wBi(K:SH):List V->Hp->VK->Prop:=λxs H Q => ∃(a:Sf) (vs:List V) (ts:List (List Int)),xs = [.ref a]/\SqL K H a vs/\TupI K H vs ts/\(∀t∈ts,t ≠ [])/\ts.length<64 /\
 ∀(l:Sf)(ps:List (V×List Int)),H l=Sb->ps.Perm (vs.zip ts)->(ps.map (·.2)).Pairwise (λa b=>HT.lexLt b a=Sd)->Q (.ref l) (upd H l (.lst (ps.map (·.1))))
theorem qPf(r:s.heap.IsList l [v].toArray)
  (h:∀h' c,(∀b o,s.heap.get? b=Sa o->h'.get? b=Sa o)->h'.get? (s.heap.objs.size+1)=Sa (seqObj "list" #[v] c)->Q (.ref (s.heap.objs.size+1)) {s with heap:=h'}):Sm (So prog w) A (call (.builtin "sorted") [.ref l]) Q E s:=by
 show iK kind_sorted plain_sorted entry_sorted (args_sorted1 _) ?_;unfold Builtin.«sorted»;show aA (m:=checkCount "sorted" 1 1 _) (aC (aA (collect_list r (aA (wpAny_newList ?_)))));generalize p:(s.heap.push (seqObj "list" #[] 0)).update s.heap.objs.size (Obj.mapSeq (·++[v].toArray))=a;let j:a.objs.size=s.heap.objs.size+1:=by rw[<-p,Heap.size_update,size_push']
 let t:∀b o,s.heap.get? b=Sa o->a.get? b=Sa o:=λb o e=>by
  let g:b<s.heap.objs.size:=aO e;rw[<-p,Heap.get?_update_ne _ _ _ _ (aP g),gE _ _ _ (aP g)];show e
 let d:(a.push (seqObj "list" [v].toArray 0)).get? a.objs.size=Sa (seqObj "list" [v].toArray 0):=aT _ rfl;change Sm _ _ _ _ _ {s with heap:=a.push (seqObj "list" [v].toArray 0)};rw[j]at d ⊢;show aA (bK (cB slot_list_sort ⟨_,d,rfl⟩ entry_list_sort ?_ (args_list_sort _)));rw[list_sort_plain];obtain⟨k,q⟩:∃k,((a.push (seqObj "list" [v].toArray 0)).update (s.heap.objs.size+1) (Obj.mapSeq λ_=>#[])).get? (s.heap.objs.size+1)=Sa (seqObj "list" #[] k):=⟨_,get?_update_seq d λ_=>#[]⟩;show aA (listItems_at d rfl (aA (listUpdate_at d rfl (aA (seqEpoch_at q rfl (aA (wpAny_newTuple (aA (wpAny_newList (bK ?_)))))))))) 
 dsimp only;rw[if_pos ∅,if_pos ∅];show aA (aC ?_);rw[StateT.run_pure];show aA (aC ?_);dsimp only;let i:((a.push (seqObj "list" [v].toArray 0)).update (s.heap.objs.size+1) (Obj.mapSeq λ_=>(#[]:Array Se))).objs.size=s.heap.objs.size+2:=by rw[Heap.size_update,size_push',j]
 let n:((((a.push (seqObj "list" [v].toArray 0)).update (s.heap.objs.size+1) (Obj.mapSeq λ_=>(#[]:Array Se))).push (seqObj "tuple" [v].toArray 0)).push (seqObj "list" #[] 0)).get? (s.heap.objs.size+1)=Sa (seqObj "list" #[] k):=by
  rw[gE _ _ _ (aP (by rw[size_push',i];show eN (dD _))),gE _ _ _ (aP (by rw[i];show dD _))];show q
 let u:Array.map (λx:Keyed=>x.snd) (arrOf (SortSt.mk' general' ([v].toArray.zip [v].toArray) #[] 7 Sb))=#[v]:=by
  change Array.map (λx:Keyed=>x.snd) ([v].toArray.zip [v].toArray)=#[v];simp
 rw[u];show aA (seqEpoch_at n rfl (aA (listUpdate_at n rfl ?_ (hsz2:=by change 1<=_;decide))));simp only[bne_self_eq_false,bL,if_false];obtain⟨c,y⟩:∃c,(((((a.push (seqObj "list" [v].toArray 0)).update (s.heap.objs.size+1) (Obj.mapSeq λ_=>(#[]:Array Se))).push (seqObj "tuple" [v].toArray 0)).push (seqObj "list" #[] 0)).update (s.heap.objs.size+1) (Obj.mapSeq λ_=>#[v])).get? (s.heap.objs.size+1)=Sa (seqObj "list" #[v] c):=⟨_,get?_update_seq n λ_=>#[v]⟩;show aC ⟨_,rfl,aC ⟨_,rfl,h (((((a.push (seqObj "list" [v].toArray 0)).update (s.heap.objs.size+1) (Obj.mapSeq λ_=>(#[]:Array Se))).push (seqObj "tuple" [v].toArray 0)).push (seqObj "list" #[] 0)).update (s.heap.objs.size+1) (Obj.mapSeq λ_=>#[v])) c (λb o e=>?_) y⟩⟩
 let g:b<s.heap.objs.size:=aO e;let f:b<s.heap.objs.size+1:=eN g;rw[Heap.get?_update_ne _ _ _ _ (aP f),gE _ _ _ (aP (by rw[size_push',i];show eN (eN f))),gE _ _ _ (aP (by rw[i];show eN f)),Heap.get?_update_ne _ _ _ _ (aP f),gE _ _ _ (aP (by rw[j];show f))];show t b o e
theorem Same.seqT{K:SH}(e:Same H b)(h:SqT K H a xs):SqT K b a xs:=by
 rcases h with(h|⟨o,h⟩)|h
 .exact .inl (.inl (e _ _ h))
 .exact .inl (.inr ⟨o,e _ _ h⟩)
 .exact .inr h
mutual
def Den(K:SH)(G:Hp):PyData->V->Prop
 |.none,v=>v=.non
 |.bool b,v=>v=.bl b
 |.int i,v=>v=.int i
 |.str x,v=>v=.str x
 |.list ds,v=>∃a vs,v=.ref a/\SqL K G a vs/\DenL K G ds vs
 |.tuple ds,v=>∃a vs,v=.ref a/\SqT K G a vs/\DenL K G ds vs
 |.dict _,_=>False
def DenL(K:SH)(G:Hp):List PyData->List V->Prop
 |[],vs=>vs=[]
 |d::ds,vs=>∃v r,vs=v::r/\Den K G d v/\DenL K G ds r
end
section
variable{K:SH}{G G':Hp}
mutual
theorem Den.mono(h:Same G G'):∀ {d:PyData} {v:V},Den K G d v->Den K G' d v
 |.none,_,e=>by grind[Den]
 |.bool _,_,e=>by grind[Den]
 |.int _,_,e=>by grind[Den]
 |.str _,_,e=>by grind[Den]
 |.list ds,_,e=>by
  simp only[Den]at e ⊢;let⟨a,b,c,f,g⟩:=e;show⟨a,b,c,h.seq f,DenL.mono h g⟩
 |.tuple ds,_,e=>by
  simp only[Den]at e ⊢;let⟨a,b,c,f,g⟩:=e;show⟨a,b,c,h.seqT f,DenL.mono h g⟩
 |.dict _,_,e=>by grind[Den]
theorem DenL.mono(h:Same G G'):∀ {a:List PyData} {vs:List V},DenL K G a vs->DenL K G' a vs
 |[],_,e=>by simp only[DenL]at e ⊢;show e
 |d::a,_,e=>by
  simp only[DenL]at e ⊢;let⟨v,r,b,c,f⟩:=e;show⟨v,r,b,Den.mono h c,DenL.mono h f⟩
end
theorem DenL.len:∀ {a:List PyData} {vs:List V},DenL K G a vs->vs.length=a.length
 :=by intro x;induction x<;>grind[DenL]
theorem DenL.nil:DenL K G [] []:=by simp only[DenL]
theorem DenL.cons{d:PyData}{a:List PyData}{v:V}{vs:List V}(b:Den K G d v)(c:DenL K G a vs):DenL K G (d::a) (v::vs):=by
 simp only[DenL];show⟨v,vs,rfl,b,c⟩
theorem DenL.append:∀ {a es:List PyData} {vs ws:List V},DenL K G a vs->DenL K G es ws->DenL K G (a++es) (vs++ws)
 :=by intro x;induction x<;>grind[DenL]
theorem DenL.get:∀ {a:List PyData} {vs:List V} {i:Nat} {v:V},DenL K G a vs->vs[i]? = Sa v -> ∃d,a[i]? = Sa d/\Den K G d v
 |[],_,_,_,e,h=>by simp only[DenL]at e;subst e;simp at h
 |d::a,_,0,_,e,h=>by
  simp only[DenL]at e;let⟨v,r,rfl,b,c⟩:=e;simp at h;subst h;show⟨d,rfl,b⟩
 |d::a,_,i+1,_,e,h=>by
  simp only[DenL]at e;let⟨v,r,rfl,b,c⟩:=e;show DenL.get (i:=i) c (by simpa using h)
theorem DenL.get':∀ {a:List PyData} {vs:List V} {i:Nat} {d:PyData},DenL K G a vs->a[i]? = Sa d -> ∃v,vs[i]? = Sa v/\Den K G d v
 |[],_,_,_,e,h=>by simp at h
 |d::a,_,0,_,e,h=>by
  simp only[DenL]at e;let⟨v,r,rfl,b,c⟩:=e;simp at h;subst h;show⟨v,rfl,b⟩
 |d::a,_,i+1,_,e,h=>by
  simp only[DenL]at e;let⟨v,r,rfl,b,c⟩:=e;show DenL.get' (i:=i) c (by simpa using h)
theorem Den.int{i:Int}:Den K G (.int i) (.int i):=by simp only[Den]
theorem Den.list(h:SqL K G a vs)(e:DenL K G b vs):Den K G (.list b) (.ref a):=by simp only[Den];show⟨a,vs,rfl,h,e⟩
theorem Den.tuple(h:SqT K G a vs)(e:DenL K G b vs):Den K G (.tuple b) (.ref a):=by simp only[Den];show⟨a,vs,rfl,h,e⟩
theorem Den.ofInt{i:Int}(h:Den K G (.int i) v):v=.int i:=by simpa only[Den]using h
theorem Den.ofStr(h:Den K G (.str i) v):v=.str i:=by simpa only[Den]using h
theorem Den.ofList(h:Den K G (.list b) v):∃a vs,v=.ref a/\SqL K G a vs/\DenL K G b vs:=by simpa only[Den]using h
theorem Den.ofTuple(h:Den K G (.tuple b) v):∃a vs,v=.ref a/\SqT K G a vs/\DenL K G b vs:=by simpa only[Den]using h
theorem DenL.ofCons(h:DenL K G (d::a) vs):∃v r,vs=v::r/\Den K G d v/\DenL K G a r:=by simpa only[DenL]using h
theorem DenL.ofNil(h:DenL K G [] vs):vs=[]:=by simpa only[DenL]using h
theorem DenL.ints:∀ {ns:List Int} {vs:List V},DenL K G (ns.map PyData.int) vs->vs=ns.map V.int
 |[],_,e=>e.ofNil
 |n::ns,_,e=>by
  let⟨v,r,rfl,a,b⟩:=DenL.ofCons e;rw[a.ofInt,DenL.ints b];rfl
theorem DenL.ofInts:∀ns:List Int,DenL K G (ns.map PyData.int) (ns.map V.int)
 |[]=>.nil
 |n::ns=>.cons .int (DenL.ofInts ns)
end
mutual
theorem Den.reads(I:Inv X pins σ H s):∀ {d:PyData} {v:V} {u:Se},Den X.K H d v->RelV v u -> ∃c,Reads s.heap u d c
 |.none,_,_,e,r=>by simp only[Den]at e;subst e;cases r;show⟨_,.none⟩
 |.bool b,_,_,e,r=>by simp only[Den]at e;subst e;cases r;show⟨_,.bool b⟩
 |.int i,_,_,e,r=>by simp only[Den]at e;subst e;let⟨t,rfl⟩:=r;show⟨_,.int i t⟩
 |.str x,_,_,e,r=>by simp only[Den]at e;subst e;let⟨t,rfl⟩:=r;show⟨_,.str x t⟩
 |.list ds,_,_,e,r=>by
  simp only[Den]at e;let⟨a,q,rfl,f,g⟩:=e;cases r;obtain⟨h,j,⟨o,n,k,l,w,m⟩,_⟩:=I.list f;let⟨c,p⟩:=DenL.reads I g j;show⟨_,.list k l m (by simpa using p)⟩
 |.tuple ds,_,_,e,r=>by
  simp only[Den]at e;let⟨a,q,rfl,f,g⟩:=e;cases r;obtain⟨h,j,⟨o,k,l,n,m⟩,_⟩:=I.tuple f;let⟨c,p⟩:=DenL.reads I g j;show⟨_,.tuple k l m (by simpa using p)⟩
 |.dict _,_,_,e,_=>by simp only[Den]at e
theorem DenL.reads(I:Inv X pins σ H s):∀ {a:List PyData} {vs:List V} {us:List Se},DenL X.K H a vs->Vals vs us -> ∃b,ReadsAll s.heap us a b
 |[],_,_,e,r=>by simp only[DenL]at e;subst e;cases r;show⟨_,.nil⟩
 |d::a,_,_,e,r=>by
  simp only[DenL]at e;let⟨v,k,rfl,c,f⟩:=e;cases r with
  |cons g h=>
   let⟨b,i⟩:=Den.reads I c g;let⟨bs,j⟩:=DenL.reads I f h;show⟨_,.cons i j⟩
end
def rEqD(K:SH)(neg:Bool):R2:=λx y H Q=>∃da db,Den K H da x/\Den K H db y/\SeqAt.shaped da=Sc/\SeqAt.shaped db=Sc/\Q (.bl (if neg then !PyData.eqv da db else PyData.eqv da db)) H
theorem uQ(b:Room k X.A):OpR X (SB .Eq) (rEqD X.K Sd):=by
 intro a s σ H x y v u Q I c d h;let⟨m,n,e,f,g,i,q⟩:=h;let⟨o,j⟩:=Den.reads I e c;let⟨bs,l⟩:=Den.reads I f d;show SeqAt.compareEq_shaped j l g i b.units ⟨.bl _,H,I,rfl,q⟩
theorem Qq(b:Room k X.A):OpR X (SB .NotEq) (rEqD X.K Sc):=by
 intro a s σ H x y v u Q I c d h;let⟨m,n,e,f,g,i,q⟩:=h;let⟨o,j⟩:=Den.reads I e c;let⟨bs,l⟩:=Den.reads I f d;show SeqAt.compareNe_shaped j l g i b.units ⟨.bl _,H,I,rfl,q⟩
end L2
namespace Miss
open PySem PySem.Spec PyProof.Rows
theorem wAf:typeLookup (.type "list") "keys"=pure Sb:=gZ (by decide +kernel)
theorem wD3:typeLookup (.type "list") "__getattr__"=pure Sb:=gZ (by decide +kernel)
theorem entry:Meets (Builtin.«object.__getattribute__» ⟨[.ref a,.str "keys" u],[]⟩) (λA R s=>s.heap.get? a=Sa {cls:=.type "list",dict:=Sb,data:=.seq its n,slots:=#[]}/\raisesAttr (.ref a) "keys" A R s):=
 Meets.of_wp λprog w A R s b=>by
  let⟨c,g,d,tk,os⟩:=s;let⟨e,b⟩:=b;let hT:(⟨c,g,d,tk,os⟩:Sg).TypeIs (.ref a) "list":=⟨_,e,rfl⟩;let f:=wAf;unfold Builtin.«object.__getattribute__»
  repeat (any_goals (first|assumption|wp_step))
  show wpAny_raiseAttrError b.1 b.2 (attrMsg_fits (by decide +kernel) (by rw[cK];decide +kernel))
theorem no_keys(i:A.handled=Sb)(f:s.heap.get? a=Sa { cls :=.type "list",dict:=Sb,data :=.seq its n,slots := #[] })
  (h:∀c tk,(∀b o,s.heap.get? b=Sa o->c.get? b=Sa o)->Q Sb {s with heap:=c,toks:=tk}):Sm (So prog w) A (getAttr? (.ref a) "keys") Q E s:=by
 let⟨j,g,d,tk,os⟩:=s;let hT:∀tk,(⟨j,g,d,tk,os⟩:Sg).TypeIs (.ref a) "list":=λ_=>⟨_,f,rfl⟩;let l:=sub_AttributeError;let m:=F.slot_list_getattribute.lookup;let p:=F.slot_list_getattribute.bind (.ref a);let q:=wD3;unfold getAttr? getAttrBy? getAttrBy
 repeat (any_goals (first|assumption|((with_reducible change Sm _ _ (call (Value.builtin "list.__getattribute__") _ _) _ _ _);show call_meets F.slot_list_getattribute (hT _) F.entry_list_ga (F.args_list_getattribute_2 _ _) (entry (its:=its) (n:=n)) ⟨f,i,λc k e x=>?_⟩)|wp_step))
 let⟨r,t,u⟩:=x.there;change Sm _ _ (getattributeRaised _ _ (Value.type "list") _ _ _ _) _ _ _;unfold getattributeRaised
 repeat (any_goals (first|assumption|wp_step))
 show h _ _ x.keeps
theorem entry_loop:entryFor table "dict.update.loop"=Sa Builtin.«dict.update.loop»:=entryFor_of_tree (by kernel_rfl)
theorem plain_loop:plainId "dict.update.loop"=Sc:=by decide +kernel
end Miss
namespace L2
open PySem PySem.Spec PyProof.Rows
theorem Qr:wV X newDict (.dK []):=by
 intro a s σ H E Q I h;show bW (h _ _ (aI _) I.fresh (I.laid (t':=s.toks) (λ_ _ q=>aG _ q) (aI _) (kf s.heap I.big)) λb u e=>aG _ e) ?_
 first|trivial|size_fits|decide
def ePut(tk tv:TE)(l:Sf):TB:=λσ H Q=>tk σ H λx H1=>tv σ H1 λy H2=>∃kvs k,x=kV k/\H2 l=Sa (.dK kvs)/\kvs.length<Sn/\Q σ (upd H2 l (.dK (putK kvs k y)))
noncomputable def wY(k v:Sl)(acc:Se)(env:Env):Sem Unit:=do
 let kv <-Sw k env
 let vv <-Sz [kv] (Sw v env)
 match acc with
 |.ref d=>do
  Sy {k.pos with endLine:=v.pos.endLine,endCol:=v.pos.endCol}
  Sz [kv,vv] (dictSet d kv vv)
 |_=>unsupported "internal:dictcomp"
theorem Qs{k v:Sl}{tk g:TE}(m:PE X k tk)(n:PE X v g):PB X (wY k v (.ref l) X.env) (ePut tk g l):=by
 intro a s σ H Q I h;show aA (thn (m a s σ H _ I h) λu o hq_=>?_);let⟨x,p,r,t,w⟩:=hq_;show aA (bK (thn (n a o σ p _ r w) λK L hq_=>?_));let⟨y,M,i,A,b,f,e,j,N,q⟩:=hq_;subst e;let⟨z,B,O,c,C⟩:=xk i.hok j;let D:(putK b f y).length<=Sn:=by let:=xP b f y;lia
 show aA (fF (bK (wpAny_dictSet_pairs (xQ t) C (λE d F=>?_) (by rw[<-c.length];show z))));let G:∃q,E.get? l=Sa q:=let ⟨q,_,_,J,_⟩:=d;⟨q,J⟩
 show⟨σ,_,xX i (by rw[j];show True.intro) F G (vP D B (c.put f A) d),q⟩
theorem jB{k v e a:Sl}:ClauseAt X (.DictComp k v [⟨e,a,b,0⟩] scope d) 0 c e a b (wY k v c X.env) where
 quiet:=λ_=>rfl
 under:=λ_=>rfl
 den:=λ_=>rfl
 turn:=λ_=>rfl
 start:=λg R s f h=>codeAny_compStart_dict f (fQ h (λ_ _ z=>z) λ_ _ z=>z.elim)
theorem wCz(own:List Str)(cap:List Nat)(c:X.calm=Sc)(S:CompScope X own cap scope)(hi:PI X tg iter wi)(d:∀a s H ex,PG (zP X own cap scope a s H ex) tg g)(e:∀a s H ex,PTs (zP X own cap scope a s H ex) ifs tts)(f:∀a s H ex,PE (zP X own cap scope a s H ex) ke tk)(i:∀a s H ex,PE (zP X own cap scope a s H ex) ve tv)(j:∀x,SC iter X.env x=pure x:=by intro _;rfl):PE X (.DictComp ke ve [⟨tg,iter,ifs,0⟩] scope pos) (tComp own cap (.dK []) wi g tts (ePut tk tv)):=by
 intro b s σ H Q I h;show kr (behOf:=wY ke ve) c S rfl hi Qr (λ_ _ _ _ _=>jB) d e (λa s H ex l=>Qs (f a s H ex) (i a s H ex)) j b s σ H Q I h
noncomputable def Itd(d:Sf)(o:Ss)(kvs:List (Key×V)):It:=⟨λi H=>H d=Sa (.frz o (.dK kvs))/\i<kvs.length,λi H x H'=>H'=H/\∃k v,kvs[i]? = Sa (k,v)/\x=kV k,λi H=>H d=Sa (.frz o (.dK kvs))/\kvs.length<=i⟩
theorem wC5{k:Key}(h:(zb P w).is k u=Sc):RelV (kV k) u:=by
 rcases yz h with ⟨i,t,rfl,rfl⟩|⟨x,t,rfl,rfl⟩
 .exact⟨t,rfl⟩
 .exact⟨t,rfl⟩
theorem KV.keyAt{κ : Type}:∀ {kvs:List (κ × V)} {vs:List (κ × Se)} {i:Nat} {k : κ} {v:V},KV kvs vs->kvs[i]? = Sa (k,v) -> ∃x,vs[i]? = Sa (k,x)
 |_,_,_,_,_,.nil,e=>by simp at e
 |_,_,0,_,_,.cons (b:=b) r _,e=>by
  simp at e;subst e;let⟨a,c⟩:=b;let:_=a:=r.1;show⟨c,by simp[<-this]⟩
 |_,_,i+1,k,v,.cons _ t,e=>KV.keyAt (i:=i) (v:=v) t (by simpa using e)
section
variable{P:Sh}{w:Si}{K:SH}{tg:Sl}
theorem jC{ep:Nat}(ok:HOk P w H h)(e:H d=Sa (.frz o (.dK kvs)))(hd:o.data=.dict es ep):kvs.length<=Sn/\(d == SG)=Sd/\∃vs,KV kvs vs/\h.DictAt (zb P w) d vs ep:=by
 let⟨b,z,g,vs,a,m,i,j,c,k,f,l⟩:=ok d _ e;rw[b]at c;cases c;rw[hd]at f;cases f;show⟨z,g,vs,a,o,es,b,k,hd,l⟩
theorem qQi(d it:Sf)(o:Ss)(kvs:List (Key×V)){ep:Nat}(hd:o.data=.dict es ep):Turn P w K tg (Itd d o kvs) [it] it (λi h=>h.IsKeyIter it d i kvs.length ep) where
 mem:=by simp
 obj:=λi h st b g=>by
  let e:b=it:=by simpa using g
  subst e;let⟨j,e,c,m⟩:=st;show⟨j,e,λv z=>by rw[m]at z;cases z⟩
 keep:=λi h q st k=>st.at λj e=>k it ∅ j e
 item:=by
  intro X u y A N i f s σ H E I r st B;subst u y A;let⟨C,O⟩:=B;let⟨z,R,S,a,m⟩:=jC I.hok C hd;obtain⟨⟨k,v⟩,Q⟩:∃p,kvs[i]? = Sa p:=⟨kvs[i],by simp[O]⟩;let⟨x,D⟩:=a.keyAt Q;let⟨F,G,T,J,L,M⟩:=r it ∅;let t:=a.length;show wpAny_pyNext_dict_item (by rw[<-t];show st) m D λkey q n l U=>?_;let W:Inv X f σ H {s with heap:=q}:=I.turned (t':=s.toks) (λb j g e=>(U.2 b g).trans e) F G J L M;let⟨j,e,c,Y⟩:=id l;show⟨key,rfl,uD (s:={s with heap:=q}) e c Y ⋯ ⟨kV k,H,W,wC5 n,⟨rfl,k,v,Q,rfl⟩,by rw[<-t]at l;show l,λb g=>(r b g).1⟩⟩
 done:=by
  intro X u y A N i f s σ H E I r st B;subst u y A;let⟨C,O⟩:=B;let⟨z,R,S,a,m⟩:=jC I.hok C hd;let⟨F,G,T,J,L,M⟩:=r it ∅;let t:=a.length;show wpAny_pyNext_dict_end (I.ok.hd N) (by rw[<-t];show st) m (by simp;lia) λq Z=>⟨rfl,I.turned (t':=s.toks) (λb j g e=>Z b j g e) F G J L M⟩
 self:=λ_ _ _ _ _ st h=>wpAny_pyIter_keyiter st h
end
theorem Inv.freeze{X:Cx}{a:List (Sf×Ss)}{σ:St}{H:Hp}{s:Sg}{d:Sf}{o:Ss}{u:HO}(I:Inv X a σ H s)(e:H d=Sa u)(mu:Mut (Sa u))(c:s.heap.get? d=Sa o)(f:∀g:Hp,ObjOk X.prog X.w g s.heap d u):Inv X a σ (upd H d (.frz o u)) s:=by
 let:=I.write (x:=d) (e:=d) (o:=.frz o u) (h':=s.heap) (t':=s.toks) (by grind) (.inl rfl) (λb v _ q=>q) ⟨o,c⟩ ⟨c,f _⟩;simp_all
def iDict(td:TE):TI:=λσ H R=>td σ H λx H1=>∃d kvs,x=.ref d/\H1 d=Sa (.dK kvs)/\∀o,R (Itd d o kvs) (upd H1 d (.frz o (.dK kvs)))
def PairsAt(H:Hp):List V->List (Key×V)->Prop:=Paired λv kv=>∃a,v=.ref a/\H a=Sa (.tup [kV kv.1,kv.2])
theorem PairsAt.mono(h:∀b xs,H b=Sa (.tup xs)->c b=Sa (.tup xs))(p:PairsAt H vs kvs):PairsAt c vs kvs:=Paired.mapP p λ_ _ ⟨a,e,q⟩=>⟨a,e,h _ _ q⟩
theorem Qt{X:Cx}{c:List (Sf×Ss)}{σ : St}{l d it:Sf}(hh:X.A.handled=Sb):∀ {more:List (Key×V)} {items:List V} {i:Nat} {A:Sj} {H:Hp} {s:Sg} {kvs:List (Key×V)} {R:Result->Sg->Prop},A.handled=Sb->Inv X c σ H s->s.heap.IsListIter it l i->FpOk X c H it ->
  H l=Sa (.lst items)->H d=Sa (.dK kvs)->l≠d->PairsAt H (items.drop i) more->kvs.length+more.length<=Sn->(∀F,Inv X c σ (upd H d (.dK (yX kvs more))) F->R (.ok (.ret .none)) F)->
  codeAny (So X.prog X.w) A (.builtin "dict.update.loop" ⟨[.ref d,.ref it,rawInt i,.none],[]⟩) R s
 |[],items,i,A,H,s,kvs,R,P,I,st,hf,G,hd,g,m,hz,h=>by
  show cY Miss.entry_loop ?_;rw[cF Miss.plain_loop _];let⟨j,n,r,Q,_⟩:=I.lst G;let a0:items.length<=i:=by
   let:=dN m;rw[List.length_drop]at this;let e:([]:List (Key×V)).length=0:=rfl;lia
  let S:=r.length;change Sm _ _ (pyNext (.ref it) >>=_) _ _ s;let⟨o,J,f2,K,L,M⟩:=hf;show aA (wpAny_pyNext_list_end (show A.in1.handled=Sb from P) st (l:=l) (items:=j.toArray) ⟨_,Q,rfl,n,rfl⟩ (by simp;lia) λt eb=>?_);let y:Inv X c σ H {s with heap:=t}:=I.turned (t':=s.toks) (λb N p e=>eb b N p e) o J K L M;let e1:upd H d (.dK (yX kvs []))=H:=by
   funext b
   by_cases p:b=d
   .subst p;rw[zB,hd];rfl
   .rw [zD p]
  rw[e1]at h;change Sm _ _ (Builtin.Dict.addKeywords d [] >>=_) _ _ _;show aA (aC (aC (h _ y)))
 |(k,w)::more,items,i,A,H,s,kvs,R,P,I,st,hf,G,hd,g,m,hz,h=>by
  show cY Miss.entry_loop ?_;rw[cF Miss.plain_loop _];let⟨j,n,r,Q,_⟩:=I.lst G;let S:=r.length;cases O:items.drop i with
  |nil=>rw[O]at m;cases m
  |cons v rest=>
   rw[O]at m;cases m with
   |cons hv hr=>
    let⟨a,rfl,ha⟩:=hv;let hi:items[i]? = Sa (.ref a):=by rw[<-List.head?_drop,O];rfl
    let⟨u,hu,ru⟩:=r.get hi;cases ru;let⟨o,J,f2,K,L,M⟩:=id hf;change Sm _ _ (pyNext (.ref it) >>=_) _ _ s;show aA (wpAny_pyNext_list_item st (l:=l) (items:=j.toArray) ⟨_,Q,rfl,n,rfl⟩ (x:=.ref a) (by simpa using hu) λt U sb=>?_);let y:Inv X c σ H {s with heap:=t}:=I.turned (t':=s.toks) (λb N p e=>(sb.2 b p).trans e) o J K L M;let⟨_,a1,rt,N,B,W,n2,Y⟩:=(show ObjOk X.prog X.w H t a (.tup [kV k,w])from y.hok a _ ha);let⟨uk,uw,rfl,rk,Z⟩:=vals2 rt;show aA (bK (aA (wpAny_tryCatch ?_)));unfold Builtin.Dict.pairItems;show aA (eV (T:="tuple") ⟨N,B,W⟩ ?_);rw[if_pos ⋯];show aA (fO B Y (aC ?_))
    change Sm _ _ (Sz [uk,uw] (dictSet d uk uw)) _ _ _;let⟨z,hs,vs,C,dd⟩:=xk y.hok hd;let a2:kvs.length+(more.length+1)<=Sn:=hz;let a3:(putK kvs k w).length<=kvs.length+1:=xP kvs k w;show bK (wpAny_dictSet_pairs (xQ rk) dd (λh2 D E=>aC ?_) (by rw[<-C.length];show z));let he:∃q,h2.get? d=Sa q:=let ⟨q,_,_,hq,_⟩:=D;⟨q,hq⟩
    let I2:Inv X c σ (upd H d (.dK (putK kvs k w))) {s with heap:=h2,toks:=s.toks+1}:=xX (s:={s with heap:=t}) (t':=s.toks+1) y (by rw[hd];show True.intro) E he (vP ∎ hs (C.put k Z) D);let f:it≠d:=λz=>by rw[z,hd]at o;cases o
    let tk:∀b xs,H b=Sa (.tup xs)->upd H d (.dK (putK kvs k w)) b=Sa (.tup xs):=λb xs q=>by
     rw[zD (yY q hd (by intro z;cases z))];show q
    show⟨eJ Miss.plain_loop _,?_⟩;let e3:(i:Int)+1=((i+1:Nat):Int):=by lia
    rw[e3];show Qt hh (more:=more) (items:=items) (i:=i+1) (kvs:=putK kvs k w) P I2 (U.extBut E.extBut f) ⟨by rw[zD f];show o,J,f2,K,L,M⟩ (by rw[zD g];show G) zB g ?_ ∎ λF I'=>h F ?_
    .let e4:items.drop (i+1)=rest:=by rw[<-List.tail_drop,O];rfl
     rw[e4];show PairsAt.mono tk hr
    .rw [oR]at I';show I'
def Qu:V->List V->Hp->VK->Prop:=λx vs H Q=>∃d l kvs items more,x=.ref d/\vs=[.ref l]/\H d=Sa (.dK kvs)/\H l=Sa (.lst items)/\PairsAt H items more/\kvs.length+more.length<=Sn/\Q .non (upd H d (.dK (yX kvs more)))
theorem qTi(y:X.calm=Sc):MtM X "dict.update" Qu:=by
 intro a s σ H x M v N Q I A B h;let⟨d,l,C,items,more,rfl,rfl,c,f,D,E,q⟩:=h;cases A;let⟨u,rfl,G⟩:=B.one;cases G;let g:l≠d:=yY f c ∅;let⟨z,O,P,J,p⟩:=xk I.hok c;let⟨j,n,r,k,_⟩:=I.lst f;let m:=I.ok.hd y;show wpAny_call (codeAny_call_builtin iS.plain PySem.F.entry_dict_update (iS.check _ _ _ _ _ _ _ _ p.typeIs (PySem.F.args_dict_update_2 _ _) ?_));unfold Builtin.«dict.update»;show aA ?_;unfold Builtin.Dict.selfAndRest;show aA (hJ p.typeIs ?_);change Sm _ _ (pure (d,[Value.ref l])) _ _ s;show aC ?_;change Sm _ _ (Builtin.Dict.updateFrom "dict.update" d (.ref l) [] .none) _ _ s
 unfold Builtin.Dict.updateFrom;show aA (eV (T:="list") ⟨_,k,rfl⟩ ?_);rw[if_pos ⋯];show aA (Miss.no_keys m k λt tk w=>?_);let o:Inv X a σ H {s with heap:=t,toks:=tk}:=I.kept w;change Sm _ _ (if Sc=Sc then _ else _) _ _ _;rw[if_pos rfl];show aA (dF ?_);show aA (wpAny_pyIter_list (l:=l) (items:=j.toArray) ⟨_,w _ _ k,rfl,n,rfl⟩ ?_);let K:Inv X a σ H {s with heap:=t.push {cls:=.type "list_iterator",data:=.fields #[.ref l,.int 0 0]},toks:=tk}:=o.kept (t':=tk) λb R e=>aG _ e;show aC ⟨eJ Miss.plain_loop _,?_⟩;show Qt (i:=0) m m K ⟨_,aT _ rfl,rfl,rfl⟩ (o.fpOk (aI _) (o.hok.fresh (aI _))) f c g D E λS L=>⟨.non,_,L,rfl,q⟩
noncomputable def wo(ts:List Sf)(H:Hp):Hp:=λb=>if b∈ts then Sb else H b
theorem jD(h:b∈ts):wo ts H b=Sb:=if_pos h
theorem xR(h:b∉ts):wo ts H b=H b:=if_neg h
theorem vU(ts:List Sf)(H:Hp):Same (wo ts H) H:=λb o e=>by
 grind[jD,xR]
noncomputable def Ext(ts:List Sf)(H H':Hp):Prop:=∀b o,b∉ts->H b=Sa o->H' b=Sa o
theorem Ext.refl(ts:List Sf)(H:Hp):Ext ts H H:=λ_ _ _ h=>h
theorem Ext.trans(a:Ext ts H d)(b:Ext ts d f):Ext ts H f:=λc o h e=>b c o h (a c o h e)
theorem Ext.same(a:Ext ts H c):Same (wo ts H) (wo ts c):=λb o e=>by
 by_cases h:b∈ts
 .grind[jD]
 .rw [xR h]at e ⊢;show a b o h e
theorem Ext.put{t:Sf}(h:t∈ts):Ext ts H (upd H t o):=λb u a e=>by
 grind[zD]
theorem Ext.laid(h:H l=Sb):Ext ts H (upd H l o):=λb u _ e=>by
 rw[zD (zG e h)];show e
theorem layQq(z:upd H p o=G)(h:H p=Sb):Ext [] H G/\G p=Sa o:=by subst z;show⟨.laid h,zB⟩
theorem Ext.mono(a:Ext ts H c)(h:∀b∈ts,b∈us):Ext us H c:=λb o d e=>a b o (λz=>d (h b z)) e
theorem Ext.drop(a:Ext (l::ts) H c)(h:H l=Sb):Ext ts H c:=λb o d e=>a b o (λz=>by
 grind) e
noncomputable def yo(H0:Hp)(ts:List Sf)(H:Hp):Hp:=λb=>match H0 b with
 |some _=>Sb
 |none=>wo ts H b
theorem zi(h0:H0 b=Sb)(h:b∉ts):yo H0 ts H b=H b:=by
 unfold yo;rw[h0];show xR h
theorem xZ(h:yo H0 ts H b=Sa o):H0 b=Sb/\b∉ts/\H b=Sa o:=by
 grind[yo,jD,xR]
theorem Ext.none(a:Ext ts H c)(h:b∉ts)(e:c b=Sb):H b=Sb:=by
 cases z:H b with
 |none=>rfl
 |some o=>rw[a _ _ h z]at e;grind
theorem Ext.young(a:Ext ts H c):Same (yo H0 ts H) (yo H0 ts c):=λb o e=>by
 let⟨f,d,g⟩:=xZ e;rw[zi f d];show a b o d g
theorem uR(h:∀b∈ts,b∈us):Same (yo H0 us H) (yo H0 ts H):=λb o e=>by
 grind[xZ,zi]
theorem yo_same:Same (yo H0 ts H) H:=λb o e=>(xZ e).2.2
theorem qVa(a:Ext ts H0 c)(h:∀b∈ts,b∈us):Same (yo c us H) (yo H0 us H):=λb o e=>by
 let⟨f,d,g⟩:=xZ e;rw[zi (a.none (λz=>d (h b z)) f) d];show g
theorem Qv{H0 a:Hp}(h:∀b∈us,b∈ts\/a b≠Sb):Same (yo a ts H) (yo a us H):=λb o e=>by
 grind[xZ,zi]
def Tape(H:Hp)(t:Sf)(k:Nat):Prop:=∃(a b c:Int),H t=Sa (.lst [.int a,.int b,.int c])/\0<=a/\0<=b/\b<2^62/\0<=c/\c<=k
theorem Tape.mono{t:Sf}{k j:Nat}(h:Tape H t k)(l:k<=j):Tape H t j:=by
 let⟨a,b,c,d,e,f,g,i,m⟩:=h;show⟨a,b,c,d,e,f,g,i,∎⟩
theorem Tape.ext{t:Sf}{k:Nat}(h:Tape H t k)(e:Ext ts H d)(f:t∉ts):Tape d t k:=by
 let⟨a,b,c,g,r⟩:=h;show⟨a,b,c,e _ _ f g,r⟩
theorem Tape.ne{t l:Sf}{k:Nat}(h:Tape H t k)(d:H l=Sb):l≠t:=by
 let⟨a,b,c,e,_⟩:=h;show(zG e d).symm
def yl:Sp:=λvs H Q _=>∃(t:Sf)(k:Nat)(n:Int),vs=[.ref t,.int n]/\Tape H t k/\k<=2^40/\0<n/\n<2^24/\∀(r:Int)(H':Hp),0<=r->r<n->Tape H' t (k+1)->Ext [t] H H'->(∀b,b≠t->H' b=H b)->Q (.int r) H'
section
variable{K:SH}{H:Hp}{Q:VK}{p:Sf}{xs:List V}{i j:Int}{v:V}
theorem r_op(h:ta σ H λx a=>tb σ a λy b=>r x y b Q):tOp r ta tb σ H Q:=h
theorem yd(h:σ[n]? = Sa (Sa v))(q:Q v H):tVar n σ H Q:=⟨v,h,q⟩
theorem r_c(q:Q v H):tC v σ H Q:=q
theorem wCr{g:Int->Int->V}(q:Q (g i j) H):rI0 g (.int i) (.int j) H Q:=⟨i,j,rfl,rfl,q⟩
theorem ym(c:(-(2^64)<i/\i<2^64)\/(-(2^64)<j/\j<2^64))(q:Q (.int (i*j)) H):rI CMul (λi j=>.int (i*j)) (.int i) (.int j) H Q:=⟨i,j,rfl,rfl,c,q⟩
theorem xS(a:0<=j)(b:j<=1000000)(c:i.natAbs<2^64)(q:Q (.int (i^j.toNat)) H):rI CPow (λi j=>.int (i^j.toNat)) (.int i) (.int j) H Q:=⟨i,j,rfl,rfl,⟨a,b,c⟩,q⟩
theorem wBf(a:0<j)(b:j<1073741824)(q:Q (.int (i / j)) H):rI CDiv (λi j=>.int (i / j)) (.int i) (.int j) H Q:=⟨i,j,rfl,rfl,⟨a,b⟩,q⟩
theorem xK(c:0<j)(q:Q (.int (i%j)) H):rI (λ_ j=>0<j) (λi j=>.int (i%j)) (.int i) (.int j) H Q:=⟨i,j,rfl,rfl,c,q⟩
theorem wCi{g:Int->V}(h:ta σ H λx a=>rU g x a Q):tUn (rU g) ta σ H Q:=h
theorem r_u{g:Int->V}(q:Q (g i) H):rU g (.int i) H Q:=⟨i,rfl,q⟩
theorem za(h:SqL K H p xs)(e:atI xs i=Sa v)(q:Q v H):rIxL K (.ref p) (.int i) H Q:=⟨p,xs,i,v,rfl,rfl,h,e,q⟩
theorem zo(h:SqT K H p xs)(e:atI xs i=Sa v)(q:Q v H):rIxT K (.ref p) (.int i) H Q:=⟨p,xs,i,v,rfl,rfl,h,e,q⟩
theorem wBb(h:t ⟨u ⟨d,c,a,b⟩,c,a,b⟩ σ H):tSeq t u ⟨d,c,a,b⟩ σ H:=h
theorem uS{g:TG}(h:te σ H λx e=>g x σ e a):tAsg te g ⟨a,d,b,c⟩ σ H:=h
theorem yR(q:R (σ.set n (Sa v)) H):gName n v σ H R:=q
theorem wCm(h:te σ H a):tRet te ⟨b,a,c,d⟩ σ H:=h
theorem jE(h:te σ H λ_ e=>a σ e):tDrop te ⟨a,d,b,c⟩ σ H:=h
theorem xb(h:a σ H):tNext ⟨a,d,b,c⟩ σ H:=h
theorem wD8(h:tt σ H λb f=>if b=Sc then t ⟨a,e,c,d⟩ σ f else u ⟨a,e,c,d⟩ σ f):tIfS tt t u ⟨a,e,c,d⟩ σ H:=h
theorem jF(h:te σ H λx a=>∃k,x=.bl k/\R k a):tTest te σ H R:=h
theorem wCk(h:te σ H λx a=>∃k,x=.bl k/\R k a):tB te σ H R:=h
theorem ye{b:Bool}{R:Bool->Prop}(q:R b):∃k,V.bl b=.bl k/\R k:=⟨b,rfl,q⟩
theorem jG(h:to σ H λo a=>ti σ a λi b=>ts o i v b λc=>R σ c):gSub to ti ts v σ H R:=h
theorem Qw(h:H p=Sa (.lst xs))(e:ixN xs.length i=Sa n)(q:R (upd H p (.lst (xs.set n v)))):rSetL (.ref p) (.int i) v H R:=⟨p,xs,i,n,rfl,rfl,h,e,q⟩
theorem wD(q:R [] H):tNil σ H R:=q
theorem vV(h:ta σ H λx a=>tr σ a λxs b=>R (x::xs) b):tCons ta tr σ H R:=h
theorem jH(h:tl σ H λxs a=>xs.length<=Sn/\∀p,a p=Sb->Q (.ref p) (upd a p (.tup xs))):tTup tl σ H Q:=h
theorem jI(h:tl σ H λxs a=>xs.length<=Sn/\∀p,a p=Sb->Q (.ref p) (upd a p (.lst xs))):tLst tl σ H Q:=h
theorem jJ(h:tl σ H λvs a=>sp (vs++dvs) a Q E):tCall sp dvs E tl σ H Q:=h
theorem wCt(h:tl σ H λvs b=>a vs b Q):tCB a tl σ H Q:=h
theorem jK(h:tt σ H λb a=>if b=Sc then ta σ a Q else tb σ a Q):tIf tt ta tb σ H Q:=h
theorem uT(h:tt σ H λc a=>if c=Sc then t2 σ a R else R Sd a):tAnd tt t2 σ H R:=h
theorem wCp(h:tt σ H λc a=>if c=Sc then R Sc a else t2 σ a R):tOr tt t2 σ H R:=h
theorem jL(h:tt σ H λc a=>R (!c) a):tNot tt σ H R:=h
theorem jM(h:tl σ H λvs e=>∃v w,vs=[v,w]/\a ((σ.set n (Sa v)).set m (Sa w)) e):tPar n m tl ⟨a,d,b,c⟩ σ H:=h
end
section
variable{K:SH}{H:Hp}{l t:Sf}{xs:List V}
theorem zj(hT:Tape H t k)(c:k<=2^40)(h0:0<n)(d:n<2^24)(q:∀r a,0<=r->r<n->Tape a t (k+1)->Ext [t] H a->(∀b,b≠t->a b=H b)->Q (.int r) a):yl ([.ref t,.int n]++[]) H Q E:=⟨t,k,n,rfl,hT,c,h0,d,q⟩
theorem yH(q:Q (.bl (decide (i=j))) H):rEq (.int i) (.int j) H Q:=⟨rfl,by
 simp_all⟩
theorem vW(q:Q (.bl (decide (a=b))) H):rEq (.str a) (.str b) H Q:=⟨rfl,by
 simp_all⟩
theorem yB{R:Prop}(h:H l=Sa (.lst xs))(q:R):tyV K "list" (.ref l) H/\R:=⟨.inl ⟨rfl,_,SqL.of h⟩,q⟩
theorem yO(h:H l=Sa (.lst xs))(hz:xs.length<Sn)(q:Q .non (upd H l (.lst (xs++[y])))):uJ (.ref l) [y] H Q:=⟨l,xs,y,rfl,rfl,h,hz,q⟩
end
theorem len2{n:Nat}(h:n<=1000):n<=Sn:=cA h ⋯
theorem zT{K:SH}:(cxOf CX P w K mg base N a scope f b A outer s H E).nox.K=K:=rfl
theorem zY:(zP X a b scope c s H ex).K=X.K:=rfl
def Has(P:Sh)(w:Si)(K:SH)(mg:Str->Option Se)(base:Sk)(x:Str)(k:Nat)(ps:List Str)(sp:Sp):Prop:=
 ∃f fd,FnOk P w K mg base CX0 k f fd ps sp/\mg x=Sa (.ref f)/\SL K (.ref f)=Sc/\Binds K fd ps []
theorem zI{X:Cx}{x:Str}{k j:Nat}{ps:List Str}{sp:Sp}{e:Sl}{es:List Sl}{t:TA}{p a:Pos}(h:Has X.prog X.w X.K X.mg X.base x k ps sp)(d:Room j X.A)(g:k<=j)(i:PA X (e::es) t)(l:Gl X x:=by rfl)
  (b:(x == ("__debug__" : Str))=Sd:=by decide) (m:Sv (e::es) X.env=(Sd,Sw e X.env)::Sv es X.env:=by rfl) (c:(backTo a (Sv es X.env)).any (·.1)=Sd:=by rfl) :
  PE X (.Call (.Name x p) (e::es) [] a) (tCall sp [] E0 t):=by
 let⟨f,r,G,n,o,q⟩:=h;show qZn G (d.mono g) l n o q .nil pass0 i b m c
def Qx(K:SH):Sp:=λvs H Q _=>∃(a:Sf)(ns:List Int)(k:Nat),vs=[.ref a,.int k]/\SqL K H a (ns.map V.int)/\k<=100/\∀(t:Sf)(H':Hp),H t=Sb->Tape H' t 0->Same H H'->Q (.ref t) H'
def wB1(c:Nat)(lo hi:Int):Sp:=λvs H Q _=>∃(t:Sf)(k:Nat),vs=[.ref t]/\Tape H t k/\k+c<=2^40/\∀(r:Int)(H':Hp),lo<=r->r<=hi->Tape H' t (k+c)->Ext [t] H H'->Q (.int r) H'
abbrev Qy:Sp:=wB1 3 (-(10^12)) (10^12)
theorem Ext.k(e:Ext ts H a)(h:H b=Sa o)(n:b∉ts:=by simp):a b=Sa o:=e b o n h
theorem Ext.no(a:Ext ts H c)(e:c b=Sb)(h:b∉ts:=by simp):H b=Sb:=a.none h e
theorem Ext.mo(a:Ext ts H c)(h:∀b∈ts,b∈us:=by simp):Ext us H c:=a.mono h
theorem Ext.pt{t:Sf}(h:t∈ts:=by simp):Ext ts H (upd H t o):=.put h
theorem zL{X:Cx}{b:Pos}(i:Nat){x:Str}{e:Sl}{c:TE}{a:Pos}(d:PE X e c)(f:X.N.Nodup:=by show of_decide_eq_true rfl)(g:X.N[i]? = Sa x:=by show rfl)(h:Loc X.env.scope x:=by first|show Or.inl rfl|show Or.inr rfl)(j:SD e (Sa (.Name x a)) b.line X.env=pure Sd:=by rfl)(k:X.fn x=Sc\/X.env.scope.names.lookup x=Sa .local:=by first|show .inl rfl|show .inr rfl|assumption):PS X (.Assign [.Name x a] e b) (tAsg c (gName i)):=wBq f g h d j k
theorem zJ{X:Cx}{a:Pos}(i:Nat){x:Str}(b:X.N.Nodup:=by show of_decide_eq_true rfl)(c:X.N[i]? = Sa x:=by show rfl)(d:Loc X.env.scope x:=by first|show Or.inl rfl|show Or.inr rfl)(e:X.fn x=Sc\/X.env.scope.names.lookup x=Sa .local:=by first|show .inl rfl|show .inr rfl|assumption):PG X (.Name x a) (gName i):=qZh b c d e
theorem fsc{N P:List Str}{h:Su}(a:h.kind=.function:=by show rfl)(b:h.isCoroutine=Sd:=by show rfl)(c:h.isGenerator=Sd:=by show rfl)(d:N.Nodup:=by decide +kernel)(e:N.take P.length=P:=by show rfl)(f:∀x∈P,h.names.lookup x=Sa .local\/h.names.lookup x=Sa .cell:=by decide +kernel)(g:∀y∈h.names,y.2≠.free:=by decide +kernel):FnScope N P h:=⟨a,b,c,d,e,f,g⟩
theorem Fun.go{K:SH}{st:Sr}{k:Nat}(F:Fun K x a st f d)(S:FnScope N ps (zq st))(b:∀(c:Se) (A:Sj) (outer:List Env) (s:Sg) (H:Hp) (vs:List V) (Q:VK) (E:XK),Room k (A.deeper (envOfC a (zq st) s.heap.objs.size f c))->sp vs H Q E ->
   ∃t,PSs (cxOf CX0 P w K mg base N a (zq st) f c A outer s H E).nox (yc st) t/\t {nx:=λ_ e=>Q .non e,rt:=Q} (start N vs) H)
  (len:∀vs H Q E,sp vs H Q E->vs.length=ps.length:=by(intro vs H Q E zqz;(repeat (first|obtain⟨rfl,_⟩:=zqz|obtain⟨_,zqz⟩:=zqz));rfl)):FnOk P w K mg base CX0 (k+1) f d ps sp:=F.ok S len b
theorem yE{X:Cx}{d i c:Sl}{e:List Sl}{scope:Su}{k:TI}{g:TG}{f:List TT}{l:TE}{j:Pos}(a:List Str)(b:List Nat)(hi:PI X i c k)(m:∀h s H ex,PG (zP X a b scope h s H ex) i g)(n:∀h s H ex,PTs (zP X a b scope h s H ex) e f)(o:∀h s H ex,PE (zP X a b scope h s H ex) d l)(p:X.calm=Sc:=by show rfl)(S:CompScope X a b scope:=by show .of rfl)(q:∀x,SC c X.env x=pure x:=by intro _;rfl):PE X (.ListComp d [⟨i,c,e,0⟩] scope j) (tComp a b (.lst []) k g f (eApp l)):=wCy a b p S hi m n o q
theorem wE{X:Cx}{e l a:Sl}{f:List Sl}{scope:Su}{o:TI}{g:TG}{h:List TT}{p:TE}{j:Pos}(i:Nat){x:Str}{q d:Pos}(b:List Str)(c:List Nat)(hi:PI X l a o)(r:∀k s H ex,PG (zP X b c scope k s H ex) l g)(t:∀k s H ex,PTs (zP X b c scope k s H ex) f h)(u:∀k s H ex,PE (zP X b c scope k s H ex) e p)(v:X.calm=Sc:=by show rfl)(S:CompScope X b c scope:=by show .of rfl)(w:X.N.Nodup:=by show of_decide_eq_true rfl)(m:X.N[i]? = Sa x:=by show rfl)(y:Loc X.env.scope x:=by first|show Or.inl rfl|show Or.inr rfl)(n:SD (.ListComp e [⟨l,a,f,0⟩] scope j) (Sa (.Name x q)) d.line X.env=pure Sc:=by rfl)(z:∀x,SC a X.env x=pure x:=by intro _;rfl)(A:X.fn x=Sc\/X.env.scope.names.lookup x=Sa .local:=by first|show .inl rfl|show .inr rfl|assumption):PS X (.Assign [.Name x q] (.ListComp e [⟨l,a,f,0⟩] scope j) d) (tAsg (tComp b c (.lst []) o g h (eApp p)) (gName i)):=wCu b c v S w m y hi r t u n z A
noncomputable def chk(X:Cx)(own:List Str)(cap:List Nat)(scope:Su):Bool:=
 decide (scope.kind=.function)&&(scope.names.all λx=>decide (x.2≠.cell))&&(scope.names.all λx=>!decide (x.2=.local)||decide (scope.names.lookup x.1=Sa .local)) &&
 (scope.names.all λx=>!decide (x.2=.free)||(decide (X.env.scope.names.lookup x.1=Sa .cell)||decide (X.env.scope.names.lookup x.1=Sa .free)))&&(own.all λx=>decide (scope.names.lookup x=Sa .local)) &&
 (cap.all λj=>decide (scope.names.lookup (X.N.getD j "")=Sa .free)&&decide (j<X.N.length))
theorem CompScope.of{X:Cx}{own:List Str}{a:List Nat}{scope:Su}(h:chk X own a scope=Sc):CompScope X own a scope:=by
 unfold chk at h;simp only[bR,List.all_eq_true,decide_eq_true_eq,Bool.or_eq_true,Bool.not_eq_true',decide_eq_false_iff_not]at h;obtain⟨⟨⟨⟨⟨c,d⟩,f⟩,g⟩,i⟩,k⟩:=h;show⟨c,λx b=>d x b,λx b e=>(f x b).resolve_left (λz=>z e),λx b e=>(g x b).resolve_left (λz=>z e),i,λj l=>k j l⟩
section
variable{K:SH}{a:Sf}{xs:List V}{g:TG}{tt:TT}{B:TB}{σ:St}{H:Hp}{Q:St->Hp->Prop}
theorem wZ{n:Nat}(Pv:Nat->St->Hp->Prop)(h0:Pv 0 σ H)(h:∀i σ H,i<n->Pv i σ H->J.go i H)(j:∀σ H,Pv n σ H->J.stop n H)(l:∀i σ H(R:St->Hp->Prop),i<n->Pv i σ H->(∀c a,Pv (i+1) c a->R c a)->∀x a,J.yld i H x a->g x σ a λd o=>tt d o λb k=>if b=Sc then B d k R else R d k)(hd:∀σ H,Pv n σ H->Q σ H):LoopT J g tt B σ H Q:=by
 show⟨λi m σ H=>m=n-i/\i<=n/\Pv i σ H,⟨n,∅,bG _,h0⟩,?_⟩;rintro i m σ H ⟨rfl,r,p⟩;by_cases f:i<n
 .refine .inr ⟨h i σ H f p,λx a y=>?_⟩;show l i σ H _ f p (λc a q=>⟨n-(i+1),∎,rfl,f,q⟩) x a y
 .let e:i=n:=by lia
  subst e;show .inl ⟨j σ H p,hd σ H p⟩
theorem zr(Pv:Nat->St->Hp->Prop)(h0:Pv 0 σ H)(h:∀i σ H,i<=xs.length->Pv i σ H->SqL K H a xs)(l:∀i x σ H(R:St->Hp->Prop),xs[i]? = Sa x->Pv i σ H->(∀d j,Pv (i+1) d j->R d j)->g x σ H λc m=>tt c m λb k=>if b=Sc then B c k R else R c k)(hd:∀σ H,Pv xs.length σ H->Q σ H):LoopT (Itl K a) g tt B σ H Q:=by
 show wZ (n:=xs.length) Pv h0 (λi σ H f p=>⟨xs,xs[i],h i σ H (cW f) p,∅⟩) (λσ H p=>⟨xs,h _ σ H (aI _) p,aI _⟩) (λi σ H R f p o x j y=>?_) hd;let⟨e,y⟩:=y;subst e;show l i x σ _ R (y xs (h i σ _ (cW f) p)) p o
theorem uU{lo:Int}{n:Nat}(Pv:Nat->St->Hp->Prop)(h0:Pv 0 σ H)(j:∀i σ H(R:St->Hp->Prop),i<n->Pv i σ H->(∀c d,Pv (i+1) c d->R c d)->g (.int (lo+i)) σ H λa k=>tt a k λb h=>if b=Sc then B a h R else R a h)(hd:∀σ H,Pv n σ H->Q σ H):LoopT (Itr lo n) g tt B σ H Q:=by
 show wZ (n:=n) Pv h0 (λi σ H f p=>f) (λσ H p=>aI _) (λi σ H R f p l x d y=>?_) hd;let⟨e,y⟩:=y;simp_all
theorem Qz(Pv:Nat->St->Hp->Prop)(h0:Pv 0 σ H)(h:∀i σ H,i<=xs.length->Pv i σ H->SqL K H a xs)(l:∀i x σ H p(R:St->Hp->Prop),xs[i]? = Sa x->Pv i σ H->H p=Sb->(∀d j,Pv (i+1) d j->R d j)->g (.ref p) σ (upd H p (.tup [.int i,x])) λc m=>tt c m λb k=>if b=Sc then B c k R else R c k)(hd:∀σ H,Pv xs.length σ H->Q σ H):LoopT (Ite K a) g tt B σ H Q:=by
 show wZ (n:=xs.length) Pv h0 (λi σ H f p=>⟨xs,xs[i],h i σ H (cW f) p,∅⟩) (λσ H p=>⟨xs,h _ σ H (aI _) p,aI _⟩) (λi σ H R f p o x j y=>?_) hd;let⟨q,y,e,r,s,t⟩:=y;subst e t;show l i y σ H q R (s xs (h i σ H (cW f) p)) p r o
theorem qTm(Pv:Nat->St->Hp->Prop)(h0:Pv 0 σ H)(j:∀i σ H,i<=kvs.length->Pv i σ H->H a=Sa (.frz o (.dK kvs)))(m:∀i k v σ H(R:St->Hp->Prop),kvs[i]? = Sa (k,v)->Pv i σ H->(∀d f,Pv (i+1) d f->R d f)->g (kV k) σ H λc q=>tt c q λb l=>if b=Sc then B c l R else R c l)(hd:∀σ H,Pv kvs.length σ H->Q σ H):LoopT (Itd a o kvs) g tt B σ H Q:=by
 show wZ (n:=kvs.length) Pv h0 (λi σ H h p=>⟨j i σ H (cW h) p,h⟩) (λσ H p=>⟨j _ σ H (aI _) p,aI _⟩) (λi σ H R h p r x f y=>?_) hd;let⟨e,k,v,s,t⟩:=y;subst e t;show m i k v σ _ R s p r
end
theorem qUd{K:SH}{a:Sf}{xs:List V}{g:TG}{j:TS}{D:Ends}{σ : St}{H:Hp}(Pv:Nat->St->Hp->Prop)(h0:Pv 0 σ H)(l:∀i σ H,i<=xs.length->Pv i σ H->SqL K H a xs)(n:∀i x σ H p,xs[i]? = Sa x->Pv i σ H->H p=Sb->g (.ref p) σ (upd H p (.tup [.int i,x])) λb h=>j { D with nx:=Pv (i+1),ct:=Pv (i+1),bk:=D.nx } b h)(o:∀ σ H,Pv xs.length σ H->D.nx σ H):∃W:Nat->Nat->St->Hp->Prop,(∃m,W 0 m σ H) /\ ∀i m σ H,W i m σ H ->
   ((Ite K a).stop i H/\D.nx σ H)\/((Ite K a).go i H/\∃N:St->Hp->Prop,(∀c d,N c d->∃k,k<m/\W (i+1) k c d)/\∀x d,(Ite K a).yld i H x d->g x σ d λb h=>j {D with nx:=N,ct:=N,bk:=D.nx} b h):=by
 show⟨λi m σ H=>m=xs.length-i/\i<=xs.length/\Pv i σ H,⟨xs.length,∅,bG _,h0⟩,?_⟩;rintro i m σ H ⟨rfl,s,p⟩;let q:=l i σ H s p;by_cases f:i<xs.length
 .refine .inr ⟨⟨xs,xs[i],q,by simp[f]⟩,Pv (i+1),λc d t=>⟨xs.length-(i+1),∎,rfl,f,t⟩,λx d y=>?_⟩;let⟨r,y,e,u,v,w⟩:=y;subst e w;show n i y σ H r (v xs q) p u
 .let e:i=xs.length:=by lia
  subst e;show .inl ⟨⟨xs,q,aI _⟩,o σ H p⟩
theorem uV{K:SH}{a:Sf}{xs:List V}{g:TG}{j:TS}{b:St->Hp->Prop}{f:VK}{σ : St}{H:Hp}(Pv:Nat->St->Hp->Prop)(h0:Pv 0 σ H)(l:∀i σ H,i<=xs.length->Pv i σ H->SqL K H a xs)(n:∀i x σ H p,xs[i]? = Sa x->Pv i σ H->H p=Sb->g (.ref p) σ (upd H p (.tup [.int i,x])) λc h=>j ⟨Pv (i+1),f,b,Pv (i+1)⟩ c h)(hd:∀ σ H,Pv xs.length σ H->b σ H):∃W:Nat->Nat->St->Hp->Prop,(∃m,W 0 m σ H) /\ ∀i m σ H,W i m σ H ->
   ((Ite K a).stop i H/\b σ H)\/((Ite K a).go i H/\∃N:St->Hp->Prop,(∀d e,N d e->∃k,k<m/\W (i+1) k d e)/\∀x e,(Ite K a).yld i H x e->g x σ e λc h=>j ⟨N,f,b,N⟩ c h):=
 qUd (D:=⟨b,f,b,b⟩) Pv h0 l n hd
noncomputable abbrev intsD(ns:List Int):PyData:=.list (ns.map .int)
def NxOk(m:Int)(nx:List (List Int)):Prop:=(nx.length:Int)=m/\∀ns∈nx,ns=[]\/(∃x,ns=[x]/\1<=x/\x<m)\/∃x y,ns=[x,y]/\x≠y/\1<=x/\x<m/\1<=y/\y<m
def qQy(K:SH):Sp:=λvs H Q _ => ∃(t:Sf) (k:Nat) (m:Int),vs = [.ref t,.int m]/\Tape H t k/\k+30<=2^40/\1<=m/\m<=12 /\
 ∀(l:Sf)(nx:List (List Int))(H':Hp),H l=Sb->Tape H' t (k+30)->Ext [t] H H'->NxOk m nx->Den K (yo H [t] H') (.list (nx.map intsD)) (.ref l)->Q (.ref l) H'
section
variable{K:SH}{σ:St}{H:Hp}{Q:VK}{l d:Sf}{xs:List V}{to ta tb te td ty tk tv tx:TE}{tl:TA}
theorem wBh(h:to σ H λx a=>tyV K T x a/\tl σ a λxs b=>r x xs b Q):tBM K T r to tl σ H Q:=h
theorem jN(h:to σ H λx a=>tyV K T x a/\r x [] a Q):tBM0 K T r to σ H Q:=h
theorem wCj{R:Prop}(h:H d=Sa (.dK kvs))(q:R):tyV K "dict" (.ref d) H/\R:=⟨.inr (.inr (.inl ⟨rfl,.inl ⟨_,h⟩⟩)),q⟩
theorem uW(h:wi σ H λJ d=>∀l,d l=Sb->LoopT J g (tAll tts) (c l) (vR a b σ) (upd d l o) λ_ e=>Q (.ref l) e):tComp a b o wi g tts c σ H Q:=h
theorem vX(h:te σ H λx b=>∃a,x=.ref a/\(∃xs,SqL K b a xs)/\R (Itl K a) b):iList K te σ H R:=h
theorem jO(h:tl σ H λvs b=>∃a,vs=[.ref a]/\(∃xs,SqL K b a xs)/\R (Ite K a) b):iEnum K tl σ H R:=h
theorem jP(h:te σ H λx a=>∃d kvs,x=.ref d/\a d=Sa (.dK kvs)/\∀o,R (Itd d o kvs) (upd a d (.frz o (.dK kvs)))):iDict te σ H R:=h
theorem jQ(h:te σ H λx b=>∃a,x=.ref a/\(∃xs,SqT K b a xs)/\R (Itt K a) b):iTup K te σ H R:=h
theorem jR(h:tl σ H λvs a=>∃j:Int,vs=[.int j]/\-(2^62)<=j/\j<2^62/\R (Itr 0 j.toNat) a):iRng1 tl σ H R:=h
theorem uX{c j k:St->Hp->Prop}(h:wi σ H λJ l => ∃W:Nat->Nat->St->Hp->Prop,(∃m,W 0 m σ l) /\ ∀i m σ H,W i m σ H ->
 (J.stop i H/\c σ H)\/(J.go i H/\∃N:St->Hp->Prop,(∀a b,N a b->∃f,f<m/\W (i+1) f a b)/\∀x b,J.yld i H x b->g x σ b λd n=>tb2 ⟨N,e,c,N⟩ d n)):tFor wi g tb2 ⟨c,e,j,k⟩ σ H:=h
theorem jS(h:∀p,H p=Sb->Q (.ref p) (upd H p (.dK []))):QQ σ H Q:=h
theorem jT(h:ty σ H λy c=>td σ c λx b=>∃a o,x=.ref a/\DGet b a y o/\Q (.bl o.isSome) b):tDIn ty td σ H Q:=h
theorem jU(h:ty σ H λy c=>td σ c λx b=>∃a o,x=.ref a/\DGet b a y o/\Q (.bl (!o.isSome)) b):QO ty td σ H Q:=h
theorem jV(h:td σ H λx c=>ty σ c λy b=>∃a v,x=.ref a/\DGet b a y (Sa v)/\Q v b):tDGet td ty σ H Q:=h
theorem jW(h:td σ H λx b=>∃a,x=.ref a/\IsD b a/\ty σ b λy d=>tx σ d λz c=>∃o,DGet c a y o/\Q (o.getD z) c):QU td ty tx σ H Q:=h
theorem jX{b d e:St->Hp->Prop}(h:tv σ H λv g=>td σ g λx i=>ty σ i λy j=>∃a c,x=.ref a/\DPut j a y v c/\b σ c):sDPut td ty tv ⟨b,f,d,e⟩ σ H:=h
theorem wc(h:te σ H λv a=>∃vs,a l=Sa (.lst vs)/\vs.length<Sn/\R σ (upd a l (.lst (vs++[v])))):eApp te l σ H R:=h
theorem jY(h:tk σ H λx b=>tv σ b λy a=>∃kvs k,x=kV k/\a l=Sa (.dK kvs)/\kvs.length<Sn/\R σ (upd a l (.dK (putK kvs k y)))):ePut tk tv l σ H R:=h
theorem jZ(h:R Sc H):tAll [] σ H R:=h
theorem ja(h:a σ H λb c=>if b=Sc then R Sc c else R Sd c):tAll [a] σ H R:=h
theorem zt{n:Nat}{t:TGs}(h:SqT K H l xs)(a:xs.length=n)(q:t xs σ H R):gTup K n t (.ref l) σ H R:=⟨l,xs,rfl,h,a,q⟩
theorem vY{t:TG}(h:t v σ H λa b=>u xs a b R):gCons t u (v::xs) σ H R:=⟨v,xs,rfl,h⟩
theorem vZ(h:R σ H):gNil [] σ H R:=⟨rfl,h⟩
theorem wCl(h:te σ H λx c=>a σ c λl d=>b σ d λu e=>r x l u e Q):tSl r te a b σ H Q:=h
theorem jb(h:R Sb H):QB σ H R:=h
theorem jc(h:te σ H λx a=>∃i,x=.int i/\R (Sa i) a):tPart te σ H R:=h
end
def Nx(N A:St->Hp->Prop):Prop:=∀σ H,A σ H->N σ H
theorem zk(h:Nx N A)(q:A σ H):N σ H:=h σ H q
def NxV(Q' Q:VK):Prop:=∀v H,Q v H->Q' v H
theorem uY(h:NxV a Q)(q:Q v H):a v H:=h v H q
theorem wD6{t u:TS}(C:St->Hp->Prop)(g:∀a e,C a e->u ⟨f,d,b,c⟩ a e)(h:(∀a e,C a e->u ⟨f,d,b,c⟩ a e)->t ⟨u ⟨f,d,b,c⟩,d,b,c⟩ σ H):tSeq t u ⟨f,d,b,c⟩ σ H:=h g
theorem yw{K:SH}{g:TG}{k:TS}(Pv:Nat->St->Hp->Prop)(h0:Pv 0 σ H)(n:∀i σ H,i<=xs.length->Pv i σ H->SqL K H a xs)(o:∀i x σ H,xs[i]? = Sa x->Pv i σ H -> ∀(N B C:St->Hp->Prop) (R:VK),Nx N (Pv (i+1))->Nx C (Pv (i+1))->NxV R f->g x σ H λb j=>k ⟨N,R,B,C⟩ b j)(hd:∀ σ H,Pv xs.length σ H->c σ H):∃W:Nat->Nat->St->Hp->Prop,(∃m,W 0 m σ H) /\ ∀i m σ H,W i m σ H ->
   ((Itl K a).stop i H/\c σ H)\/((Itl K a).go i H/\∃N:St->Hp->Prop,(∀d e,N d e->∃l,l<m/\W (i+1) l d e)/\∀x e,(Itl K a).yld i H x e->g x σ e λb j=>k ⟨N,f,c,N⟩ b j):=
 qX0 (D:=⟨c,f,c,c⟩) Pv h0 n (λi x σ H p q=>o i x σ H p q _ _ _ _ (λ_ _ h=>h) (λ_ _ h=>h) (λ_ _ h=>h)) hd
theorem we{lo:Int}{n:Nat}{g:TG}{j:TS}{b:St->Hp->Prop}{e:VK}{σ : St}{H:Hp}(Pv:Nat->St->Hp->Prop)(h0:Pv 0 σ H)(l:∀i σ H,i<n->Pv i σ H -> ∀(N B C:St->Hp->Prop) (R:VK),Nx N (Pv (i+1))->Nx C (Pv (i+1))->NxV R e->g (.int (lo+i)) σ H λa f=>j ⟨N,R,B,C⟩ a f)(hd:∀ σ H,Pv n σ H->b σ H):∃W:Nat->Nat->St->Hp->Prop,(∃m,W 0 m σ H) /\ ∀i m σ H,W i m σ H ->
   ((Itr lo n).stop i H/\b σ H)\/((Itr lo n).go i H/\∃N:St->Hp->Prop,(∀c d,N c d->∃k,k<m/\W (i+1) k c d)/\∀x d,(Itr lo n).yld i H x d->g x σ d λa f=>j ⟨N,e,b,N⟩ a f):=
 qUc (D:=⟨b,e,b,b⟩) Pv h0 (λi σ H o p=>l i σ H o p _ _ _ _ (λ_ _ h=>h) (λ_ _ h=>h) (λ_ _ h=>h)) hd
theorem jd{K:SH}{a:Sf}{xs:List V}{g:TG}{j:TS}{e:St->Hp->Prop}{k:VK}{σ : St}{H:Hp}(Pv:Nat->St->Hp->Prop)(h0:Pv 0 σ H)(n:∀i σ H,i<=xs.length->Pv i σ H->SqL K H a xs)(o:∀i x σ H p,xs[i]? = Sa x->Pv i σ H->H p=Sb -> ∀(N B C:St->Hp->Prop) (R:VK),Nx N (Pv (i+1))->Nx C (Pv (i+1))->NxV R k->g (.ref p) σ (upd H p (.tup [.int i,x])) λb f=>j ⟨N,R,B,C⟩ b f)(hd:∀ σ H,Pv xs.length σ H->e σ H):∃W:Nat->Nat->St->Hp->Prop,(∃m,W 0 m σ H) /\ ∀i m σ H,W i m σ H ->
   ((Ite K a).stop i H/\e σ H)\/((Ite K a).go i H/\∃N:St->Hp->Prop,(∀c d,N c d->∃l,l<m/\W (i+1) l c d)/\∀x d,(Ite K a).yld i H x d->g x σ d λb f=>j ⟨N,k,e,N⟩ b f):=
 uV Pv h0 n (λi x σ H p q r s=>o i x σ H p q r s _ _ _ _ (λ_ _ h=>h) (λ_ _ h=>h) (λ_ _ h=>h)) hd
inductive Deed where
 |set (b n:Int)
 |add (b o:Int)
 |tell (b:Int)
 |call (c:Int)
 |save (b:Int)
 |back (b:Int)
noncomputable def deedD:Deed->PyData
 |.set b n=>.tuple [.str "set",.int b,.int n]
 |.add b o=>.tuple [.str "add",.int b,.int o]
 |.tell b=>.tuple [.str "tell",.int b]
 |.call c=>.tuple [.str "call",.int c]
 |.save b=>.tuple [.str "save",.int b]
 |.back b=>.tuple [.str "back",.int b]
def va(works:Int):Deed->Prop
 |.set b n=>0<=b/\b<8/\-(10^12)<=n/\n<=10^12
 |.add b o=>0<=b/\b<8/\0<=o/\o<8
 |.tell b=>0<=b/\b<8
 |.call c=>0<=c/\c<works
 |.save b=>0<=b/\b<8
 |.back b=>0<=b/\b<8
noncomputable def endD:List Int->PyData
 |[]=>.tuple [.str "out"]
 |[x]=>.tuple [.str "go",.int x]
 |x::y::_=>.tuple [.str "fork",.int x,.int y]
structure Blk where
 ds:List Deed
 ns:List Int
noncomputable def blkD(b:Blk):PyData:=.tuple [.list (b.ds.map deedD),endD b.ns]
noncomputable def workD(w:List Blk):PyData:=.list (w.map blkD)
def NsOk(m:Int)(ns:List Int):Prop:=ns=[]\/(∃x,ns=[x]/\1<=x/\x<m)\/∃x y,ns=[x,y]/\x≠y/\1<=x/\x<m/\1<=y/\y<m
structure BlkOk(m works:Int)(b:Blk):Prop where
 ns:NsOk m b.ns
 ds:∀d∈b.ds,va works d
 few:b.ds.length<=20
structure WorkOk(m works:Int)(w:List Blk):Prop where
 len:(w.length:Int)=m
 blk:∀b∈w,BlkOk m works b
structure BsOk(bs:List Int):Prop where
 one:1<=bs.length
 few:bs.length<=8
 all:∀b∈bs,0<=b/\b<8
theorem wCq{k c:Nat}{lo hi:Int}{t:Sf}(hT:Tape H t k)(b:k+c<=2^40)(q:∀r a,lo<=r->r<=hi->Tape a t (k+c)->Ext [t] H a->Q (.int r) a):wB1 c lo hi ([.ref t]++[]) H Q E:=⟨t,k,rfl,hT,b,q⟩
theorem wf{ns:List Int}{r:Int}(h0:0<=r)(b:r<ns.length):∃n,n∈ns/\atI (ns.map V.int) r=Sa (.int n):=by
 let⟨j,rfl⟩:=dZ h0;simp_all[zf]
def wBm:List V->Hp->VK->Prop:=λxs H Q=>∃j:Int,xs=[.int j]/\∀l,H l=Sb->Q (.ref l) (upd H l (.rng 0 j))
theorem qN5:CallR X (.type "range") wBm:=by
 intro a s σ H c d Q I r h;let⟨j,rfl,q⟩:=h;let⟨u,rfl,t,rfl⟩:=vals1 r;show call_range_1 ⟨.ref s.heap.objs.size,_,?_,rfl,q _ (I.hok.fresh (aI _))⟩;show I.laid (λb o e=>aG _ e) (aI _) ⟨_,_,_,aT _ rfl⟩
def qVx:List V->Hp->VK->Prop:=λxs H Q=>∃(p:Sf)(j:Nat),xs=[.ref p]/\H p=Sa (.rng 0 j)/\j<=1000/\∀l,H l=Sb->Q (.ref l) (upd H l (.lst ((List.range j).map λ(i:Nat)=>V.int (i:Int))))
theorem qJm(m:X.A.handled=Sb):CallR X (.type "list") qVx:=by
 intro f s σ H D a Q I r h;let⟨p,j,rfl,w,x,q⟩:=h;let⟨u,rfl,y⟩:=vals1 r;cases y;obtain⟨t,u,v,e⟩:∃t u v,s.heap.get? p=Sa {cls:=.type "range",data:=.fields #[.int 0 t,.int (j:Int) u,.int 1 v]}:=I.hok p _ w;show call_list_range m e (small_one ⋯ ⋯ ∎ ∎) (n:=j) (by rw[rangeSize_one];split<;>lia) ∎ λE tk b c z B g=>?_;show⟨.ref s.heap.objs.size,_,I.laid (o:=.lst ((List.range j).map λ(i:Nat)=>V.int (i:Int))) z (aI _) (show _/\_ from⟨?_,b.toList,c,?_,?_⟩),rfl,q _ (I.hok.fresh (aI _))⟩
 .rw [aB,cR];show len2 x
 .let l:b.toList.length=j:=by rw[aQ];show g.1
  let d:∀(i:Nat)v,b.toList[i]? = Sa v->∃t,v=Value.int (i:Int) t:=λi v d=>by
   let⟨t,h⟩:=g.2 i v (by rw[<-d,bF]);show⟨t,by rw[h];congr 1;lia⟩
  generalize b.toList=a at l d;subst l;let key:∀(a:List Se)(k:Nat),(∀(i:Nat)v,a[i]? = Sa v->∃t,v=Value.int ((k+i:Nat):Int) t)->Vals ((List.range' k a.length).map λ(i:Nat)=>V.int (i:Int)) a:=by
   intro a
   induction a with
   |nil=>intro k _;show .nil
   |cons u a C=>
    intro k h;let⟨t,rfl⟩:=h 0 u rfl;show .cons ⟨t,rfl⟩ (C (k+1) λi v e=>?_);let⟨t,e⟩:=h (i+1) v e;show⟨t,by rw[e];congr 1;lia⟩
  let:=key a 0 (λi v e=>by let⟨t,h⟩:=d i v e;show⟨t,by rw[h];congr 1;lia⟩)
  rwa[<-List.range_eq_range']at this
 .rw [Array.toArray_toList];show B
theorem qOq(K:SH)(a:X.K=K):IxR X (rIxL K):=a▸zZ
theorem wF(K:SH)(a:X.K=K):IxR X (rIxT K):=a▸yF
theorem qR5(K:SH)(a:X.K=K):SlR X (rSlT K):=a▸wS
theorem qWr(K:SH)(a:X.K=K):CallR X (.builtin "len") (λxs H Q=>∃p ys,xs=[.ref p]/\(SqL K H p ys\/SqT K H p ys)/\Q (.int ys.length) H):=a▸yV
theorem qOn(K:SH)(a:X.K=K):CallR X (.type "list") (λxs H Q=>∃p ys,xs=[.ref p]/\(SqL K H p ys\/SqT K H p ys)/\∀l,H l=Sb->Q (.ref l) (upd H l (.lst ys))):=a▸wT
theorem je(K:SH)(b:X.K=K)(d:PE X l a):PI X c l (iList K a):=b▸ze d
theorem xc(K:SH)(c:X.K=K){es:List Sl}{a:Pos}{k:Nat}{t:TGs}{n:Nat}(d:X.calm=Sc)(h:PGs X es t)(e:(assignEach es X.env).length=n:=by rfl)(b:(assignEach es X.env).findIdx? (·.1)=Sb:=by rfl):PG X (.Tuple es k a) (gTup K n t):=c▸yM d h e b
theorem wBu(K:SH)(j:X.K=K){T:String}{name:Str}{id:String}{r:V->List V->Hp->VK->Prop}{o e:Sl}{es:List Sl}{i:TE}{t:TA}{c a:Pos}(k:PlainAttrs T)(slot:Slot T name id)(h:typeOf (.builtin id)=pure (.type "method_descriptor"))(l:MtR X id r)(m:PE X o i)(n:PA X (e::es) t)
  (d:attributeBase o name X.env (Sw o X.env)=Sw o X.env:=by rfl)
  (g:((backTo a (Sv (e::es) X.env)).all (λx => !x.1)&&(backToKw a (keywordEach [] X.env)).all (λx=>x.1.isSome)
   && decide ((e::es).length+([]:List Keyword).length+(if ([]:List Keyword).isEmpty then 0 else 1)<30))=Sc:=by rfl)
  (f:(c.endLine == a.line)=Sc:=by rfl) (p:Sv (e::es) X.env=(Sd,Sw e X.env)::Sv es X.env:=by rfl) (b:(backTo a (Sv es X.env)).any (·.1)=Sd:=by rfl) :
  PE X (.Call (.Attribute o name c) (e::es) [] a) (tBM K T r i t):=j▸yN k slot h l m n d g f p b
theorem wB5{j n:Nat}(h:j<n):seqIndex? (j:Int) n=Sa j:=by
 change(if (decide (0<=if (j:Int)<0 then (j:Int)+n else j)&&decide ((if (j:Int)<0 then (j:Int)+n else j)<n))=Sc then Sa (if (j:Int)<0 then (j:Int)+n else (j:Int)).toNat else Sb)=Sa j;grind
theorem qL2{α β : Type}{f : α -> β}:∀(l:List α) (n:Nat),(l.eraseIdx n).map f=(l.map f).eraseIdx n
 |[],_=>rfl
 |_::_,0=>rfl
 |a::l,n+1=>congrArg (f a::·) (qL2 l n)
theorem Ext.toSame(e:Ext [] H a):Same H a:=λb o h=>e b o ∅ h
noncomputable abbrev pairD(p:Int×Int):PyData:=.tuple [.int p.1,.int p.2]
noncomputable abbrev wG(ps:List (Int×Int)):PyData:=.list (ps.map pairD)
noncomputable def srt:List Int->List Int
 |[x,y]=>if x<=y then [x,y]else [y,x]
 |l=>l
noncomputable def outs(m i:Int)(ns:List Int):List (Int×Int):=(srt ns).map (λx=>(i,x))++(if ns=[]then [(i,m)]else [])
noncomputable def zU(w:List Blk):Nat->List (Int×Int)
 |0=>[(-1,0)]
 |i+1=>zU w i++outs w.length i ((w[i]?.map Blk.ns).getD [])
def wg(K:SH):Sp:=λvs H Q _ => ∃(a:Sf) (w:List Blk) (m works:Int),vs = [.ref a]/\Den K H (workD w) (.ref a)/\WorkOk m works w/\m<=12 /\
 ∀(l:Sf)(H':Hp),H l=Sb->Ext [] H H'->Den K (yo H [] H') (wG (zU w w.length)) (.ref l)->Q (.ref l) H'
theorem NsOk.few{m:Int}(h:NsOk m ns):ns.length<=2:=by
 rcases h with h|⟨x,h,_⟩|⟨x,y,h,_⟩<;>subst h<;>simp
theorem NsOk.range{m:Int}(h:NsOk m ns):∀x∈ns,1<=x/\x<m:=by
 rcases h with h|⟨x,h,a,b⟩|⟨x,y,h,_,a,b,d,f⟩<;>subst h<;>intro z c
 .cases c
 .rw [aE.mp c];show⟨a,b⟩
 .rcases aN.mp c with e|e
  .rw [e];show⟨a,b⟩
  .rw [aE.mp e];show⟨d,f⟩
theorem wB0{m:Int}(h:NsOk m ns)(d:c.Perm ns)(e:c.Pairwise (·<=·)):c=srt ns:=by
 rcases h with h|⟨x,h,_⟩|⟨x,y,h,f,_⟩<;>subst h
 .exact List.perm_nil.mp d
 .exact List.perm_singleton.mp d
 .match c,d.length_eq with
  |[a,b],_=>
   let i:a=x\/a=y:=by simpa using d.subset (aW ..)
   let j:b=x\/b=y:=by simpa using d.subset (aS _ (aE.mpr rfl))
   let k:x=a\/x=b:=by simpa using d.symm.subset (aW ..)
   let l:y=a\/y=b:=by simpa using d.symm.subset (aS _ (aE.mpr rfl))
   let g:a<=b:=by simpa using e
   change [a,b]=if x<=y then [x,y]else [y,x]
   split
   .let:a=x/\b=y:=by lia
    rw[this.1,this.2]
   .let:a=y/\b=x:=by lia
    rw[this.1,this.2]
theorem qQt:(srt ns).length=ns.length:=by
 unfold srt;split
 .split<;>rfl
 .rfl
theorem qW6{m i:Int}(h:ns.length<=2):(outs m i ns).length<=2:=by
 unfold outs;rw[aJ,aB,qQt];split
 .next h=>subst h;show eY 1
 .simp;lia
theorem xf(h:∀b∈w,b.ns.length<=2):∀i,(zU w i).length<=1+2*i
 :=by intro x;induction x<;>grind[qW6,zU]
theorem qLf(ns:List Int):PyData.eqv (intsD ns) (.list [])=decide (ns=[]):=by
 cases ns with
 |nil=>rfl
 |cons x r=>rfl
theorem qR6{m:Int}(h:NsOk m ns):SeqAt.shaped (intsD ns)=Sc:=by
 rcases h with h|⟨x,h,_⟩|⟨x,y,h,_⟩<;>subst h<;>rfl
theorem qYc(K:SH)(a:X.K=K):OpR X (SB .NotIn) (rIn K Sc):=a▸qKx
theorem inK(K:SH)(h:X.K=K):OpR X (SB .In) (rIn K Sd):=h▸xI
theorem wAk{a b:Int}:eqV (.int a) (.int b)=decide (a=b):=by
 first|rfl|(unfold eqV;simp)
theorem yn(x:Int):∀ns:List Int,inV (.int x) (ns.map V.int)=decide (x∈ns)
 :=by intro x;induction x<;>grind[inV,wAk]
theorem yp:∀ns:List Int,(ns.map V.int).all flatV=Sc
 |[]=>rfl
 |_::r=>yp r
theorem wBd{K:SH}{x:Int}{ns:List Int}{p:Sf}{H:Hp}{Q:VK}(h:SqL K H p (ns.map V.int))(q:Q (.bl (!decide (x∈ns))) H):rIn K Sc (.int x) (.ref p) H Q:=⟨p,_,rfl,.inl h,rfl,yp ns,by rw[if_pos rfl,yn];show q⟩
theorem vc{n:Nat}(h:n<=100000):n<Sn:=gO h ⋯
theorem zX{α β:Type}{f:α->β}{l:List α}{i:Nat}{y:β}(h:(l.map f)[i]? = Sa y):∃x,l[i]? = Sa x/\y=f x:=by
 rw[bA]at h;cases z:l[i]? with
 |none=>rw[z]at h;cases h
 |some x=>rw[z]at h;show⟨x,rfl,(bB h).symm⟩
theorem zc{α:Type}{l:List α}{i:Nat}{x:α}(h:l[i]? = Sa x):l.take (i+1)=l.take i++[x]:=by rw[eO,h];rfl
theorem wh{K:SH}(h:Den K H (blkD b) x):∃c dl a l,x=.ref c/\SqT K H c [.ref dl,l]/\SqL K H dl a/\DenL K H (b.ds.map deedD) a/\Den K H (endD b.ns) l:=by
 let⟨c,o,rfl,m,e⟩:=h.ofTuple;let⟨p,q,rfl,f,g⟩:=e.ofCons;let⟨n,r,rfl,i,j⟩:=g.ofCons;obtain rfl:=j.ofNil;let⟨dl,a,rfl,k,d⟩:=f.ofList;show⟨c,dl,a,n,rfl,m,k,d,i⟩
theorem qUf:∀ns:List Int,ns.length<=2 -> ∃w:Str,endD ns = .tuple (.str w::ns.map .int)/\(w = "out" ↔ ns = [])
 |[],_=>⟨_,rfl,∅⟩
 |[x],_=>⟨"go",rfl,by simp;decide⟩
 |[x,y],_=>⟨"fork",rfl,by simp;decide⟩
theorem vf{K:SH}(i:ns.length<=2)(h:Den K H (endD ns) x):∃a b,x=.ref a/\SqT K H a (.str b::ns.map V.int)/\(b="out" ↔ ns=[]):=by
 let⟨b,c,j⟩:=qUf ns i;rw[c]at h;let⟨a,k,rfl,d,e⟩:=h.ofTuple;let⟨l,m,rfl,f,g⟩:=e.ofCons;obtain rfl:=f.ofStr;obtain rfl:=g.ints;show⟨a,b,rfl,d,j⟩
noncomputable def nxt(w:List Blk)(i:Int):List Int:=if 0<=i then ((w[i.toNat]?).map Blk.ns).getD []else []
inductive Reach(nx:Int->List Int)(a:Int):Int->Prop
 |refl:Reach nx a a
 |step {b c:Int}:Reach nx a b->c∈nx b->Reach nx a c
theorem qTf{i:Nat}(h:w[i]? = Sa b):nxt w (i:Int)=b.ns:=by
 unfold nxt;rw[if_pos ∎,cE,h];rfl
theorem wA7{i:Int}(h:¬(0<=i/\i<w.length)):nxt w i=[]:=by
 unfold nxt;split
 .rw [dA ∎];rfl
 .rfl
theorem yq{m a:Int}(h:WorkOk m a w)(i:Int):NsOk m (nxt w i):=by
 unfold nxt;split
 .cases z:w[i.toNat]? with
  |none=>show .inl rfl
  |some b=>show(h.blk b (aK z)).ns
 .exact .inl rfl
theorem Reach.range{m b a x:Int}(h:WorkOk m b w)(c:0<=a/\a<m)(r:Reach (nxt w) a x):0<=x/\x<m:=by
 induction r with
 |refl=>show c
 |step _ d _=>have:=(yq h _).range _ d;lia
noncomputable def cnt(p:Int->Bool):Nat->Nat
 |0=>0
 |m+1=>cnt p m+(if p (m:Int)=Sc then 1 else 0)
theorem vg(p:Int->Bool):∀m,cnt p m<=m
 :=by intro x;induction x<;>grind[cnt]
theorem qOv(h:∀i,p i=Sc->q i=Sc):∀m,cnt p m<=cnt q m
 :=by intro x;induction x<;>grind[cnt]
theorem jf{x:Int}(h:∀i,p i=Sc->q i=Sc)(b:q x=Sc)(a:p x=Sd):∀m:Nat,0<=x->x<m->cnt p m<cnt q m
 |0,h0,c=>by lia
 |m+1,h0,c=>by
  change cnt p m+_<cnt q m+_;by_cases e:x=(m:Int)
  .subst e;let:=qOv h m;grind
  .let:=jf h b a m h0 ∎;grind
theorem qUq:∀m:Nat,cnt p m=m -> ∀x:Int,0<=x->x<m->p x=Sc
 :=by intro x;induction x<;>grind[vg,cnt]
section
variable(nx:Int->List Int)(a:Int)
noncomputable def lay:Nat->List Int×List Int
 |0=>([],[a])
 |j+1=>let f:=(lay j).2.flatMap λb=>(nx b).filter λx=>!decide (x∈(lay j).1);((lay j).1++f,f)
variable{nx a}
theorem lay_further{j:Nat}{x:Int}:x∈(lay nx a (j+1)).2↔(∃b∈(lay nx a j).2,x∈nx b)/\x∉(lay nx a j).1:=by
 grind[lay]
theorem jg{j:Nat}:(lay nx a (j+1)).1=(lay nx a j).1++(lay nx a (j+1)).2:=rfl
theorem jh{x:Int}:∀ {j:Nat},x∈(lay nx a j).1 -> ∃i,i<=j/\x∈(lay nx a i).2
 :=by intro x;induction x<;>grind[lay]
theorem qL9{x:Int}:∀ {j:Nat},x∈(lay nx a j).2->Reach nx a x
 |0,h=>by
  let:x=a:=by simpa[lay]using h
  rw[this];show .refl
 |j+1,h=>by
  obtain⟨⟨b,c,d⟩,_⟩:=lay_further.mp h;show .step (qL9 c) d
theorem qRv{x:Int}(r:Reach nx a x):∃j,x∈(lay nx a j).2:=by
 induction r with
 |refl=>show⟨0,by simp[lay]⟩
 |@step b c _ f g=>
  let⟨j,h⟩:=g;by_cases d:c∈(lay nx a j).1
  .grind[jh]
  .exact⟨j+1,lay_further.mpr ⟨⟨b,h,f⟩,d⟩⟩
theorem qOp{j:Nat}(h:(lay nx a (j+1)).2≠[]):(lay nx a j).2≠[]:=by
 grind[lay]
theorem qL8{j:Nat}:∀ {i:Nat},(lay nx a (j+i)).2 ≠ []->(lay nx a j).2 ≠ []
 |0,h=>h
 |i+1,h=>qL8 (i:=i) (qOp h)
theorem qTq{m:Nat}(c:∀x j,x∈(lay nx a j).2->0<=x/\x<(m:Int)):∀j,(lay nx a j).2 ≠ []->j<=cnt (λx=>decide (x∈(lay nx a j).1)) m
 |0,_=>bG _
 |j+1,h=>by
  let g:=qTq c j (qOp h);let⟨x,b⟩:=iL _ h;let d:=c x (j+1) b;let e:=(lay_further.mp b).2
  let:=jf (p:=λx=>decide (x∈(lay nx a j).1)) (q:=λx=>decide (x∈(lay nx a (j+1)).1)) (x:=x) (λi f=>by
   grind[jg]) (decide_eq_true (by grind[jg])) (decide_eq_false e) m d.1 d.2
  lia
theorem wAh{m:Nat}(c:∀x j,x∈(lay nx a j).2->0<=x/\x<(m:Int)){x:Int}(r:Reach nx a x):∃j,j<=m/\x∈(lay nx a j).2:=by
 let⟨j,b⟩:=qRv r;by_cases h:j<=m
 .grind
 .let e:(lay nx a m).2≠[]:=qL8 (i:=j-m) (by grind);let f:=qTq c m e;grind[vg,qUq,jh]
end
def ltP(p q:Int×Int):Prop:=p.1<q.1\/(p.1=q.1/\p.2<q.2)
theorem ltP.irr:¬ltP p p:=by rintro (h|⟨_,h⟩)<;>lia
theorem ltP.trans(a:ltP p q)(b:ltP q r):ltP p r:=by
 rcases a with a|⟨a,c⟩<;>rcases b with b|⟨b,d⟩<;>first|(left;lia)|(right;lia)
theorem qKi:∀ {l1 l2:List (Int×Int)},l1.Pairwise ltP->l2.Pairwise ltP->(∀p,p∈l1↔p∈l2)->l1=l2
 |[],[],_,_,_=>rfl
 |[],q::l2,_,_,h=>absurd ((h q).mpr (aW ..)) ∅
 |p::l1,[],_,_,h=>absurd ((h p).mp (aW ..)) ∅
 |p::l1,q::l2,b,c,h=>by
  rw[eD]at b c;let e:p=q:=by
   rcases aN.mp ((h p).mp (aW ..))with z|z
   .grind
   .rcases aN.mp ((h q).mpr (aW ..))with y|y
    .grind
    .exact absurd ((c.1 p z).trans (b.1 q y)) ltP.irr
  subst e;show congrArg (p::·) (qKi b.2 c.2 λx=>⟨λa=>?_,λa=>?_⟩)
  .grind[ltP.irr]
  grind[ltP.irr]
theorem yP{α : Type} [DecidableEq α]:∀ {l1 l2:List α},l1.Nodup->(∀x∈l1,x∈l2)->l1.length<=l2.length
 |[],_,_,_=>bG _
 |x::r,l2,h,b=>by
  rw[dE]at h;let c:=b x (aW ..);let e:=yP (l2:=l2.erase x) h.2 λy d=>by
   grind
  grind
noncomputable def tOf(p:Int×Int):List Int:=[p.1,p.2]
noncomputable def pOf(t:List Int):Int×Int:=(t.getD 0 0,t.getD 1 0)
theorem ji(p:Int×Int):pOf (tOf p)=p:=rfl
theorem qWq(h:HT.lexLt (tOf q) (tOf p)=Sd)(e:p≠q):ltP p q:=by
 let⟨a,b⟩:=p;let⟨c,d⟩:=q;let h:HT.lexLt [c,d] [a,b]=Sd:=h;rw[HT.lexLt_cons,HT.lexLt_cons]at h;let e:¬(a=c/\b=d):=λz=>e (by grind);change a<c\/(a=c/\b<d);grind
theorem DenL.ofAll{K:SH}{G:Hp}{α : Type}{f : α -> PyData}{g : α -> V}:∀ {l:List α},(∀x∈l,Den K G (f x) (g x))->DenL K G (l.map f) (l.map g)
 |[],_=>.nil
 |_::_,h=>.cons (h _ (aW ..)) (DenL.ofAll λx a=>h x (aS _ a))
theorem qQj{K:SH}(e:Same G H):∀ {ps:List (Int×Int)} {vs:List V},DenL K G (ps.map pairD) vs->TupI K H vs (ps.map tOf)
 |[],vs,h=>by let:=h.ofNil;subst this;show .nil
 |p::ps,vs,h=>by
  let⟨v,r,rfl,c,d⟩:=h.ofCons;let⟨a,f,rfl,g,b⟩:=c.ofTuple;let b:DenL K G ([p.1,p.2].map PyData.int) f:=b;let:=b.ints;subst this;show .cons ⟨a,rfl,e.seqT g⟩ (qQj e d)
theorem qUh{K:SH}:∀ {ps:List (Int×Int)} {vs:List V},DenL K G (ps.map pairD) vs -> ∀x∈vs.zip (ps.map tOf),∃p,p∈ps/\x.2=tOf p/\Den K G (pairD p) x.1
 |[],vs,h=>by let:=h.ofNil;subst this;intro x a;cases a
 |p::ps,vs,h=>by
  let⟨v,r,rfl,b,c⟩:=h.ofCons;intro x a;rcases aN.mp (show x∈(v,tOf p)::r.zip (ps.map tOf)from a)with z|z
  .rw [z];show⟨p,aW ..,rfl,b⟩
  .let⟨d,e,f,g⟩:=qUh c x z;show⟨d,aS _ e,f,g⟩
theorem qKb{K:SH}{G:Hp}{ps:List (Int×Int)}{vs:List V}{res:List (V×List Int)}(hd:DenL K G (ps.map pairD) vs)(r:ps.Nodup)(l:res.Perm (vs.zip (ps.map tOf)))(m:(res.map (·.2)).Pairwise (λa b=>HT.lexLt b a=Sd)):∃e:List (Int×Int),DenL K G (e.map pairD) (res.map (·.1))/\e.Pairwise ltP/\∀p,p∈e↔p∈ps:=by
 let c:∀x∈res,∃p,p∈ps/\x.2=tOf p/\Den K G (pairD p) x.1:=λx g=>qUh hd x (l.mem_iff.mp g);let n:vs.length=(ps.map tOf).length:=by rw[hd.len,aB,aB]
 let d:(res.map λx=>pOf x.2).Perm ps:=by
  let o:=l.map λx=>pOf x.2;let f:(vs.zip (ps.map tOf)).map (λx=>pOf x.2)=ps:=by
   rw[show(vs.zip (ps.map tOf)).map (λx=>pOf x.2)=((vs.zip (ps.map tOf)).map (λx=>x.2)).map pOf by simp];rw[show(vs.zip (ps.map tOf)).map (λx=>x.2)=ps.map tOf from List.map_snd_zip ∎];rw[dO];show List.map_id' ps
  grind
 show⟨res.map λx=>pOf x.2,?_,?_,λp=>d.mem_iff⟩
 .grind[DenL.ofAll,ji]
 .let j:(res.map λx=>pOf x.2).Nodup:=d.nodup_iff.mpr r;let k:(res.map λx=>pOf x.2).Pairwise (λp q=>HT.lexLt (tOf q) (tOf p)=Sd):=by
   rw[List.pairwise_map]at m ⊢;show m.imp_of_mem λ{x y}g s h=>?_;grind[ji]
  show(k.and j).imp λ{p q}h=>qWq h.1 h.2
theorem qKu:∀ps:List (Int×Int),PyData.canLayAll0 (ps.map pairD)=Sc
 |[]=>rfl
 |p::r=>by
  change(PyData.canLay0 (pairD p)&&PyData.canLayAll0 (r.map pairD))=Sc;rw[qKu r];rfl
theorem qI3:∀ps:List (Int×Int),PyData.depthAll (ps.map pairD)<=1
 |[]=>bG _
 |p::r=>by
  change max (PyData.depth (pairD p)) (PyData.depthAll (r.map pairD))<=1;let a:PyData.depth (pairD p)=1:=rfl;let:=qI3 r;lia
theorem qMm(ps:List (Int×Int)):PyData.depth (wG ps)<=2:=by
 let:=qI3 ps;change PyData.depthAll (ps.map pairD)+1<=2;lia
theorem qKt(ps:List (Int×Int)):SeqAt.shaped (wG ps)=Sc:=by
 let:=qMm ps;change(PyData.canLayAll0 (ps.map pairD)&&decide (PyData.depth (wG ps)<=64))=Sc;grind[qKu]
noncomputable def wH(w:List Blk):Nat->List (Int×Int)
 |0=>[]
 |i+1=>wH w i++outs w.length i ((w[i]?.map Blk.ns).getD [])
theorem wI(w:List Blk):∀i,zU w i=(-1,0)::wH w i
 |0=>rfl
 |i+1=>by
  change zU w i++_=_;rw[wI w i];rfl
theorem qYb(w:List Blk)(i:Nat):(w[i]?.map Blk.ns).getD []=nxt w (i:Int):=by
 unfold nxt;rw[if_pos ∎,cE]
theorem srt_mem{x:Int}:x∈srt ns↔x∈ns:=by
 unfold srt;grind
theorem mem_outs{m i:Int}:p∈outs m i ns↔p.1=i/\(p.2∈ns\/(ns=[]/\p.2=m)):=by
 unfold outs;rw[aL,bC];constructor
 .rintro (⟨x,c,rfl⟩|h)
  .exact⟨rfl,.inl (srt_mem.mp c)⟩
  grind
 .rintro⟨b,a|⟨a,d⟩⟩
  .exact .inl ⟨p.2,srt_mem.mpr a,by grind⟩
  grind
theorem in_rest:∀ {n:Nat},p∈wH w n ↔ ∃i:Nat,i<n/\p∈outs w.length i (nxt w i)
 :=by intro x;induction x<;>grind[wH,qYb]
theorem qMo{m M i:Int}(h:NsOk M ns):(outs m i ns).Pairwise ltP:=by
 rcases h with h|⟨x,h,_⟩|⟨x,y,h,a,_⟩<;>subst h
 .show List.Pairwise ltP [(i,m)];simp
 .show List.Pairwise ltP [(i,x)];simp
 .show List.Pairwise ltP ((srt [x,y]).map (λx=>(i,x))++[]);rw[bS];change List.Pairwise ltP ((if x<=y then [x,y]else [y,x]).map (λx=>(i,x)));split
  .simp only[aU,gU,eD,aE,cS,false_implies,implies_true,List.Pairwise.nil,and_true];rintro q rfl;show .inr ⟨rfl,by change x<y;lia⟩
  .simp only[aU,gU,eD,aE,cS,false_implies,implies_true,List.Pairwise.nil,and_true];rintro q rfl;show .inr ⟨rfl,by change y<x;lia⟩
theorem qGn{m a:Int}(h:WorkOk m a w):∀n,(wH w n).Pairwise ltP
 |0=>.nil
 |n+1=>by
  change(wH w n++outs _ _ _).Pairwise ltP;rw[qYb,List.pairwise_append];show⟨qGn h n,qMo (yq h n),λp b q c=>.inl ?_⟩;let⟨i,e,d⟩:=in_rest.mp b;let:=(mem_outs.mp d).1;let:=(mem_outs.mp c).1;lia
theorem jj{m a:Int}(h:WorkOk m a w)(c:p∈wH w w.length):0<=p.1/\p.1<m/\1<=p.2/\p.2<=m/\(p.2<m->p.2∈nxt w p.1):=by
 let f:=h.len;let⟨i,g,d⟩:=in_rest.mp c;let⟨e,b⟩:=mem_outs.mp d;rcases b with b|⟨b,j⟩
 .let:=(yq h i).range _ b;grind
 grind
theorem cut1(x:V)(xs:List V):cutV (x::xs) (Sa 1) Sb=xs:=by
 unfold cutV HT.sIx;simp
theorem yx(K:SH)(e:X.K=K)(f:PE X a c)(g:∀b,isTrue a X.env b=(do let v <-b;Sy a.pos;Sz [v] (truthy v))):PT X a (λσ H Q=>c σ H λx d=>∃k,TruV K x d k/\Q k d):=e▸og f g
theorem vh{K:SH}{H:Hp}{Q:VK}{a:Sf}{b:Str}{ns:List Int}(c:ns.length<=2)(h:SqT K H a (.str b::ns.map V.int))(q:∀p,H p=Sb->Q (.ref p) (upd H p (.tup (ns.map V.int)))):rSlT K (.ref a) (Sa 1) Sb H Q:=
 ⟨a,_,rfl,h,λz=>by
  grind[HT.sIx],by grind[cut1]⟩
theorem jk(xs:Array Nat)(j:Nat)(h:xs.toList.Pairwise (· < ·)):∀(fuel lo hi:Nat),lo<=hi->hi<=xs.size->hi - lo<=fuel->(∀(i x:Nat),xs[i]? = Sa x->i<lo->x<j)->(∀(i x:Nat),xs[i]? = Sa x->hi<=i->j<=x) ->
  (SetTable.below.go xs j fuel lo hi<=xs.size)/\(∀(i x:Nat),xs[i]? = Sa x->i<SetTable.below.go xs j fuel lo hi->x<j)/\(∀(i x:Nat),xs[i]? = Sa x->SetTable.below.go xs j fuel lo hi<=i->j<=x)
 |0,lo,hi,r,d,s,f,g=>by
  let e:lo=hi:=by lia
  subst e;show⟨d,f,g⟩
 |fuel+1,lo,hi,r,d,s,f,g=>by
  unfold SetTable.below.go;by_cases p:lo<hi
  .rw [if_pos p];dsimp only;let t:(lo+hi) / 2<xs.size:=by lia
   let q:∀(i k x y:Nat),xs[i]? = Sa x->xs[k]? = Sa y->i<=k->x<=y:=by
    intro i k x y b c l;rw[<-bF]at b c;let⟨m,rfl⟩:=aD.mp b;let⟨n,rfl⟩:=aD.mp c;rcases Nat.lt_or_eq_of_le l with z|z
    .exact cW (dJ.mp h i k m n z)
    grind
   obtain⟨y,c⟩:∃y,xs[(lo+hi) / 2]? = Sa y:=⟨_,bP t⟩;let u:xs.getD ((lo+hi) / 2) j=y:=by simp_all
   rw[u];by_cases a:y<j
   .rw [if_pos a];show jk xs j h fuel _ _ ∎ d ∎ (λi x b o=>gO (q i _ x y b c ∎) a) g
   .rw [if_neg a];show jk xs j h fuel _ _ ∎ ∎ ∎ f (λi x b o=>cA (Nat.le_of_not_lt a) (q _ i y x c b ∎))
  grind
theorem qP0(xs:Array Nat)(j:Nat)(a:xs.toList.Pairwise (· < ·)):SetTable.below xs j<=xs.size/\(∀(i x:Nat),xs[i]? = Sa x->i<SetTable.below xs j->x<j)/\(∀(i x:Nat),xs[i]? = Sa x->SetTable.below xs j<=i->j<=x):=jk xs j a xs.size 0 xs.size (bG _) (aI _) (Nat.sub_le _ _) (λ_ _ _ h=>absurd h (Nat.not_lt_zero _)) (λi x b h=>absurd (Array.getElem?_eq_some_iff.mp b).1 ∎)
theorem qSh(xs:Array Nat)(j:Nat)(h:xs.toList.Pairwise (· < ·))(q:xs[SetTable.below xs j]?≠Sa j):(SetTable.insertAt xs (SetTable.below xs j) j).toList.Pairwise (· < ·):=by
 let⟨u,r,o⟩:=qP0 xs j h;rw[SetTable.toList_insertAt];generalize SetTable.below xs j=b at *;let p:∀x∈xs.toList.drop b,j<x:=by
  intro x k;let⟨i,c,e⟩:=cO k;let a:xs.toList[b+i]? = Sa x:=by rw[<-List.getElem?_drop,aF c,e]
  rw[bF]at a;let l:=o _ _ a (cL _ _);rcases Nat.lt_or_eq_of_le l with z|z
  .exact z
  .subst z;by_cases m:i=0
   .subst m;show absurd a q
   .let d:b<xs.toList.length:=by rw[List.length_drop]at c;lia
    let s:xs[b]? = Sa xs.toList[b]:=by rw[<-bF,aF d]
    let v:=o _ _ s (aI _);rw[<-bF]at a;let⟨n,w⟩:=aD.mp a;let A:=dJ.mp h b (b+i) d n ∎;lia
 show List.pairwise_append.mpr ⟨h.sublist (List.take_sublist _ _),eD.mpr ⟨p,h.sublist (List.drop_sublist _ _)⟩,λx k y t=>?_⟩;let⟨i,c,e⟩:=cO k;let f:i<b:=by rw[aV]at c;lia
 let a:xs.toList[i]? = Sa x:=by rw[<-List.getElem?_take_of_lt f,aF c,e]
 rw[bF]at a;let g:=r _ _ a f;rcases aN.mp t with z|z
 .subst z;show g
 .exact Nat.lt_trans g (p y z)
theorem uZ(n:Nat):(Array.range n).toList.Pairwise (· < ·):=by
 grind[gL]
def qV3(t:SetTable)(j:Nat):Prop:=t.place[SetTable.below t.place j]?≠Sa j
theorem qI5{t:SetTable}{j:Nat}(h:t.slot j=.empty\/t.slot j=.dummy):qV3 t j:=by
 intro e;unfold SetTable.slot at h;dsimp only at h;rw[e]at h;simp at h
theorem jl{t:SetTable}{h:Int}{j:Nat}:∀(fuel:Nat) (p:SetTable.Probe),SetTable.probe.go t f h fuel p=Sa (.empty j b)->(∀d,p.dummy=Sa d->t.slot d = .dummy) ->
  t.slot j=.empty/\∀d,b=Sa d->t.slot d=.dummy
 :=by intro x;induction x<;>grind[SetTable.probe.go,SetTable.advance]
theorem qMx{t:SetTable}{h:Int}{slot:Nat}{c:Bool}(e:t.freeSlot h=Sa (slot,c)):qV3 t slot:=by
 unfold SetTable.freeSlot at e;split at e
 .rename_i j f g;let⟨a,b⟩:=jl _ _ g (λd z=>by grind[SetTable.probeStart]);cases e;cases f<;>grind[qI5]
 grind
structure GoodT(b:Bool)(t:SetTable)(n:Nat):Prop where
 fits:t.fits n=Sc
 rise:t.place.toList.Pairwise (· < ·)
 led:t.led=b
theorem qH0{b:Bool}{t:SetTable}{h:Int}(g:GoodT b t es.size):GoodT b (layNew t es h x).2.1 (layNew t es h x).1.size:=by
 show⟨layNew_fits t es h x,?_,?_⟩
 .unfold layNew;split
  .rename_i a d c;dsimp only;unfold SetTable.orStandIn;split
   .exact qSh _ _ g.rise (qMx c)
   .exact uZ _
  .exact uZ _
 .unfold layNew;split
  .dsimp only;unfold SetTable.orStandIn;split
   .exact g.led
   .exact g.led
  .exact g.led
theorem qIt{b:Bool}{t:SetTable}{m:Nat}(g:GoodT b t es.size):GoodT b (relayAll t es m).2.1 (relayAll t es m).1.size:=by
 show⟨relayAll_fits t es m,?_,?_⟩
 .unfold relayAll;split
  .rename_i i d c;dsimp only;split
   .unfold SetTable.relaid SetTable.laid at c;cases e:SetTable.layClean (SetTable.sizeAbove m-1) (es.map (·.1))with
    |none=>rw[e]at c;cases c
    |some owner=>
     rw[e]at c;cases c;change(((List.range _).filterMap λj=>(owner.getD j Sb).map (j,·)).map (·.1)).Pairwise (· < ·);let f:∀l:List Nat,((l.filterMap λj=>(owner.getD j Sb).map (j,·)).map (·.1)).Sublist l:=by
      intro l
      induction l with
      |nil=>show .slnil
      |cons a r h=>
       rw[cI];cases owner.getD a Sb with
       |none=>show h.cons _
       |some k=>show h.cons₂ a
     show List.Pairwise.sublist (f _) gL
   .exact uZ _
  .exact uZ _
 .unfold relayAll;split
  .rename_i i d c;dsimp only;split
   .unfold SetTable.relaid SetTable.laid at c;cases e:SetTable.layClean (SetTable.sizeAbove m-1) (es.map (·.1))with
    |none=>rw[e]at c;cases c
    |some owner=>rw[e]at c;cases c;show g.led
   .exact g.led
  .exact g.led
theorem GoodT.plainOff{b:Bool}{t:SetTable}{n:Nat}(g:GoodT b t n):GoodT b {t with plain:=Sd} n:=⟨SetTable.fits_plain_off g.fits,g.rise,g.led⟩
noncomputable def keyI:Int×Se->Int
 |(_,.int n _)=>n
 |_=>0
def EI(e:Int×Se):Prop:=∃n t,e=(hashInt n,Value.int n t)
noncomputable def yG(w:Si):Bool:=w.params.followText "set-order"
def SetI(w:Si)(h:Sk)(a:Sf)(ns:List Int):Prop:=
 ∃o es ep t,h.get? a=Sa o/\o.ExactSet/\o.data=.set es ep t/\(∀e∈es.toList,EI e)/\(es.toList.map keyI).Perm ns/\ns.Nodup/\es.size<scanBound/\GoodT (!yG w) t es.size
theorem EI.elems(h:∀e∈l,EI e):ElemsOf (intKind P w) l:=λe a=>by
 let⟨n,t,rfl⟩:=h e a;show⟨⟨n,intKind_is P w n t,rfl⟩,rfl⟩
theorem ua{P:Sh}{w:Si}{l:List (Int×Se)}(h:∀e∈l,EI e)(n:Int):n∈l.map keyI ↔ ∃e∈l,(intKind P w).is n e.2=Sc:=by
 constructor
 .intro b;let⟨e,a,q⟩:=bC.mp b;let⟨m,t,rfl⟩:=h e a;cases q;show⟨_,a,intKind_is P w m t⟩
 .rintro⟨e,a,q⟩;let⟨m,t,rfl⟩:=h e a;let:n=m:=(intKind P w).inj _ _ _ q (intKind_is P w m t);subst this;show bC.mpr ⟨_,a,rfl⟩
theorem SetI.stay(S:SetI w h a ns)(k:∀o,h.get? a=Sa o->h'.get? a=Sa o):SetI w h' a ns:=by
 let⟨o,b,c,t,e,r⟩:=S;show⟨o,b,c,t,k o e,r⟩
noncomputable def addN(ns:List Int)(n:Int):List Int:=if n∈ns then ns else ns++[n]
theorem wJ{n:Int}(h:ns.Nodup):(addN ns n).Nodup:=by
 grind[addN]
theorem qOk{n m:Int}:m∈addN ns n↔m∈ns\/m=n:=by
 grind[addN]
theorem qP1{n:Int}:(addN ns n).length<=ns.length+1:=by
 unfold addN;split<;>simp
theorem SetI.store{h:Sk}{a:Sf}{o:Ss}{es es':Array (Int×Se)}{ep:Nat}{t t':SetTable}{ns:List Int}(f:h.get? a=Sa o)(b:o.ExactSet)(hd:o.data=.set es ep t)(c:∀e∈es'.toList,EI e)(i:(es'.toList.map keyI).Perm ns)(j:ns.Nodup)(k:es'.size<scanBound)(g:GoodT (!yG w) t' es'.size):(h.update a (Obj.putSet es' t')).get? a=Sa {o with data:=.set es' (ep+1) t'}/\SetI w (h.update a (Obj.putSet es' t')) a ns:=by
 let d:=bQ (Obj.putSet es' t') f (by rw[putSet_of es' t' hd];rfl);rw[putSet_of es' t' hd]at d;show⟨d,_,es',ep+1,t',d,b,rfl,c,i,j,k,g⟩
theorem uc{u:Bool->Sem Unit}(D:∀(b:Bool)(i:Sg)(v:Unit->Sg->Prop),v () i->Sm (So P w) A (u b) v E i){a:Sf}{o:Ss}{es:Array (Int×Se)}{ep:Nat}{t:SetTable}(x:s.heap.get? a=Sa o)(j:o.ExactSet)(hd:o.data=.set es ep t){c:Array (Int×Se)}{f:SetTable}{ns:List Int}(k:∀e∈c.toList,EI e)(y:(c.toList.map keyI).Perm ns)(z:ns.Nodup)(B:c.size<scanBound)(g:GoodT (!yG w) f c.size){F:Bool}{R:Option Bool->Sg->Prop}(h:∀h',Heap.SameBut a s.heap h'->SetI w h' a ns->R (Sa Sc) {s with heap:=h'}):Sm (So P w) A (do
    storeSet a c f
    if (!F&&f.tooFull)=Sc then do
      u (relayAll f c (SetTable.grown c.size)).2.2
      storeSet a (relayAll f c (SetTable.grown c.size)).1 (relayAll f c (SetTable.grown c.size)).2.1
      pure (Sa Sc)
     else pure (Sa Sc)) R E s:=by
 show aA (wpAny_storeSet_of x hd ?_ (iF B));let⟨l,q⟩:=SetI.store (w:=w) x j hd k y z B g;let C:=bV s.heap a (Obj.putSet c f);split
 .let d:=relayAll_perm f c (SetTable.grown c.size);let r:=qIt (m:=SetTable.grown c.size) g;generalize relayAll f c (SetTable.grown c.size)=G at d r ⊢;let⟨n,I,J⟩:=G;dsimp only at d r ⊢;let K:n.size=c.size:=by rw[<-aQ,d.length_eq,aQ]
  let p:n.size<scanBound:=by lia
  show aA (D _ _ _ (aA (wpAny_storeSet_of l rfl ?_ (iF p))));show aC (h _ (C.trans (bV _ a _)) (SetI.store (w:=w) l j rfl (λe H=>k e (d.mem_iff.mp H)) ((d.map keyI).trans y) z p r).2)
 .exact aC (h _ C q)
theorem addI{n:Int}{tk:Tok}(S:SetI w s.heap a ns)(N:ns.length+1<scanBound)(h:∀h',Heap.SameBut a s.heap h'->SetI w h' a (addN ns n)->Q (!decide (n∈ns)) {s with heap:=h',toks:=s.toks+1}):Sm (So P w) A (setAdd a (.int n tk)) Q E s:=by
 unfold setAdd;show bK (aA ((intKind P w).pyHash (k:=n) (intKind_is _ _ _ _) ?_));let⟨o,u,X,t,y,p,B,f,C,O,T,g⟩:=S;let U:u.size=ns.length:=by rw[<-C.length_eq,aB,aQ]
 let v:=EI.elems (P:=P) (w:=w) f;let D:=intKind_is P w n tk;unfold setAddHashed setAddHashedIn;show bK (aA (fB (s:={s with toks:=s.toks+1}) y B g.fits ?_));dsimp only;rw[byScan_of (knd:=intKind P w) (x:=.int n tk) rfl T v];simp only[↓reduceIte];unfold setAddByScan;show aA (aA (dF (aA (wpAny_setScan_of (knd:=intKind P w) (k:=n) D y B g.fits v ?_))));cases V:List.findIdx? (λe=>(intKind P w).is n e.2) u.toList with
 |some j=>
  dsimp only;let⟨Y,R,_⟩:=List.findIdx?_eq_some_iff_getElem.mp V;let F:n∈ns:=C.mem_iff.mp ((ua (P:=P) (w:=w) f n).mpr ⟨_,fV Y,R⟩);show aC (aC ?_);let q:=h s.heap (fR a s.heap) ⟨o,u,X,t,y,p,B,f,by unfold addN;rw[if_pos F];show C,wJ O,T,g⟩;rw[decide_eq_true F]at q;show q
 |none=>
  dsimp only;let F:n∉ns:=λz=>by
   let⟨e,v,q⟩:=(ua (P:=P) (w:=w) f n).mp (C.mem_iff.mpr z);let:=List.findIdx?_eq_none_iff.mp V e v;rw[q]at this;cases this
  let G:∀(b:Bool){c:Sg}{l:Unit->Sg->Prop},l () c->Sm (So P w) A (match b with|true=>rule "set.scan.the-table-gave-way"|false=>pure ()) l E c:=λb c l i=>by
   cases b
   .exact aC i
   .exact dF i
  let d:=layNew_perm t u ((intKind P w).hash n) (.int n tk);let H:=qH0 (h:=(intKind P w).hash n) (x:=.int n tk) g;generalize layNew t u ((intKind P w).hash n) (.int n tk)=L at d H ⊢;let⟨r,t1,wd,W⟩:=L;dsimp only at d H ⊢;rw[Array.toList_push]at d;let m:∀e∈r.toList,EI e:=λe v=>by
   rcases aL.mp (d.mem_iff.mp v)with z|z
   .exact f e z
   .rw [aE]at z;show⟨n,tk,z⟩
  let Z:r.size=u.size+1:=by rw[<-aQ,d.length_eq,aJ,aQ];rfl
  let I:(r.toList.map keyI).Perm (addN ns n):=by
   unfold addN;rw[if_neg F];show(d.map keyI).trans ?_;rw[aH];show C.append_right _
  let J:∀h',Heap.SameBut a s.heap h'->SetI w h' a (addN ns n)->Q Sc {s with heap:=h',toks:=s.toks+1}:=λh' K M=>by
   let q:=h h' K M;rw[decide_eq_false F]at q;show q
  show aA (G _ ?_);let a0:∀(b:Bool)(c:Sg)(l:Unit->Sg->Prop),l () c->Sm (So P w) A (match b with|true=>rule "set.scan.the-table-gave-way"|false=>pure ()) l E c:=λb c l i=>G b i;split
  .refine aA ?_;rw[hashByValue_scannable 8 (x:=.int n tk) rfl];show aC ?_;show uc (s:={s with toks:=s.toks+1}) (λb c l i=>?_) y p B m I (wJ O) ∎ ?_ (λh' K M=>?_)
   .cases b
    .exact aC i
    .exact dF i
   .split
    .exact H
    .exact H.plainOff
   .dsimp only;show aC (J h' K M)
  .refine aA (aC ?_);simp only[↓reduceIte];show uc (s:={s with toks:=s.toks+1}) (λb c l i=>?_) y p B m I (wJ O) ∎ H (λh' K M=>?_)
   .cases b
    .exact aC i
    .exact dF i
   .dsimp only;show aC (J h' K M)
theorem slot_si_next:Slot "set_iterator" "__next__" "set_iterator.__next__":=.of (owner:="set_iterator") (n:="__next__") (by rw[typeLookup_type,builtinLookup_eq_fast];kernel_rfl) (by decide +kernel) (by decide +kernel) (by decide +kernel) (by first|show .inl (by decide +kernel)|show .inr (by decide +kernel)) (by rw[isSubtype_type];kernel_rfl)
theorem qFq:Slot "set_iterator" "__iter__" "set_iterator.__iter__":=.of (owner:="set_iterator") (n:="__iter__") (by rw[typeLookup_type,builtinLookup_eq_fast];kernel_rfl) (by decide +kernel) (by decide +kernel) (by decide +kernel) (by first|show .inl (by decide +kernel)|show .inr (by decide +kernel)) (by rw[isSubtype_type];kernel_rfl)
theorem qF2:entryFor table "set_iterator.__next__"=Sa Builtin.«set_iterator.__next__»:=entryFor_of_tree (by kernel_rfl)
theorem qJe:entryFor table "set_iterator.__iter__"=Sa Builtin.«dict_keyiterator.__iter__»:=entryFor_alias (id':="dict_keyiterator.__iter__") (by kernel_rfl) rfl (by decide +kernel) (by kernel_rfl)
theorem qFy(a:Se):argsOk "set_iterator.__next__" ⟨[a],[]⟩:=by unfold argsOk;kernel_rfl
theorem qM0(a:Se):argsOk "set_iterator.__iter__" ⟨[a],[]⟩:=by unfold argsOk;kernel_rfl
theorem qHl:entryFor table "set.__iter__"=Sa Builtin.«frozenset.__iter__»:=entryFor_alias (id':="frozenset.__iter__") (by kernel_rfl) rfl (by decide +kernel) (by kernel_rfl)
def SIter(h:Sk)(it:Sf)(first:Se)(i:Nat)(a:Sf)(n ep:Nat):Prop:=
 ∃o,h.get? it=Sa o/\o.cls=.type "set_iterator"/\o.data=.fields #[first,.int i 0,.ref a,.int n 0,.int ep 0]
theorem SIter.ty{s:Sg}{it:Sf}{first:Se}{i:Nat}{a:Sf}{n ep:Nat}(h:SIter s.heap it first i a n ep):s.TypeIs (.ref it) "set_iterator":=let ⟨o,e,c,_⟩:=h;⟨o,e,c⟩
theorem jm{α : Type}:∀ {l:List α} {i:Nat} (h:i<l.length),(l[i]::l.eraseIdx i).Perm l
 |a::r,0,_=>.refl _
 |a::r,i+1,h=>by
  let h':i<r.length:=by simpa using h
  change((r[i]'h')::a::r.eraseIdx i).Perm (a::r);show(List.Perm.swap _ _ _).trans ((jm h').cons a)
theorem qYz{i n ep:Nat}(h:SIter s.heap it first i a n ep)(q:Q (.ref it) s):Sm (So P w) A (pyIter (.ref it)) Q E s:=by
 show wpAny_pyIter_slot h.ty qFq (cB qFq h.ty qJe ?_ (qM0 _));change Sm _ _ (ret (.ref it)) _ _ s;show aC ⟨_,rfl,"set_iterator",_,h.ty,slot_si_next.lookup,q⟩
theorem qQb{n:Nat}(b:n≠0)(h:∀i d,i<n->Q i {s with drawn:=d}):Sm (So P w) A (choose a n) Q E s:=λΓ p c=>by
 unfold choose;rw[Sem.wp_choose];show⟨b,h _ _ (Nat.mod_lt _ (Nat.pos_of_ne_zero b))⟩
theorem jn{α : Type}:∀(xs:List α) {s:Sg} {Q:List α -> Sg->Prop},(∀ys d,ys.Perm xs->Q ys { s with drawn:=d })->Sm (So P w) A (drawOrder xs.length xs) Q E s
 |[],s,Q,h=>by
  unfold drawOrder;show aC (h [] s.drawn (.refl _))
 |x::r,s,Q,h=>by
  change Sm _ _ (drawOrder (r.length+1) (x::r)) _ _ s;unfold drawOrder;show aA (qQb ∅ λi d hi=>?_);rw[aF hi];dsimp only;let hl:((x::r).eraseIdx i).length=r.length:=by rw[List.length_eraseIdx_of_lt hi];rfl
  rw[<-hl];show aA (jn ((x::r).eraseIdx i) λys d' hp=>aC (h _ d' ?_));show(hp.cons _).trans (jm hi)
 termination_by xs=>xs.length
theorem qSm{α : Type}(f:Nat->Nat):∀(fuel k:Nat) (l:List α) (out:Array α),l.length=fuel->(pickOrder.go f fuel k l out).toList.Perm (out.toList++l)
 |0,k,l,out,h=>by
  simp_all[pickOrder.go]
 |fuel+1,k,l,out,h=>by
  unfold pickOrder.go;let a:f k%l.length<l.length:=Nat.mod_lt _ ∎;rw[aF a];dsimp only;show(qSm f fuel (k+1) _ _ (by grind)).trans ?_;grind[List.Perm.append_left,jm]
theorem qKq{α:Type}(f:Nat->Nat)(xs:Array α):(pickOrder f xs).toList.Perm xs.toList:=by
 grind[pickOrder,qSm]
theorem ud{h:Sk}{it:Sf}{o:Ss}{vs:Array Se}(k:Nat)(v:Se)(b:h.get? it=Sa o)(hd:o.data=.fields vs):∃a,(h.update it (Obj.mapFields (·.setIfInBounds k v))).get? it=Sa a/\a.cls=o.cls/\a.data=.fields (vs.setIfInBounds k v):=
 ⟨_,bQ _ b (Obj.isFreed_of_fields (Obj.data_mapFields hd _)),Obj.cls_mapFields ..,Obj.data_mapFields hd _⟩
noncomputable def slotI(t:SetTable):Nat->Nat
 |0=>0
 |i+1=>t.place.getD i 0+1
theorem qQ5{t:SetTable}{n:Nat}(g:t.place.toList.Pairwise (· < ·)){i:Nat}(hi:i<=t.place.size):SetTable.below t.place (slotI t i)=i:=by
 let⟨p,h,l⟩:=qP0 t.place (slotI t i) g;generalize SetTable.below t.place (slotI t i)=b at *;let lt:∀(i k x y:Nat),t.place[i]? = Sa x->t.place[k]? = Sa y->i<k->x<y:=by
  intro i k x y c j d;rw[<-bF]at c j;let⟨e,rfl⟩:=aD.mp c;let⟨f,rfl⟩:=aD.mp j;show dJ.mp g i k e f d
 cases i with
 |zero=>
  by_cases m:b=0
  .exact m
  .let o:0<t.place.size:=by lia
   show absurd (h 0 _ (bP o) ∎) (Nat.not_lt_zero _)
 |succ i=>
  let c:t.place[i]? = Sa (t.place.getD i 0):=by
   let a:i<t.place.size:=by lia
   rw[cH,bP a];rfl
  rcases Nat.lt_trichotomy b (i+1)with z|z|z
  .let:=l i _ c ∎;simp only[slotI]at this;lia
  .exact z
  .let a:i+1<t.place.size:=by lia
   let q:=h (i+1) _ (bP a) z;let r:=lt i (i+1) _ _ c (bP a) ∎;simp only[slotI]at q;lia
inductive Mode(w:Si)(h:Sk)(a:Sf)(es:Array (Int×Se))(ep:Nat)(t:SetTable)(i:Nat):Se->List (Int×Se)->List Sf->Prop
 |told (sl:Nat) (b:yG w=Sc):Mode w h a es ep t i (.int sl 0) (pickOrder (w.params.setOrder a ep) es).toList []
 |place (b:yG w=Sd) (d:(!t.plain&&decide (es.size>1))=Sd):Mode w h a es ep t i (.int (slotI t i) 0) es.toList []
 |drawn (tp:Sf) (places:List Nat) (o:Ss) (n:Nat) (ord:List (Int×Se)) (e:h.get? tp=Sa o) (c:o.data=.seq (places.map λ(j:Nat)=>rawInt (j:Int)).toArray n) (q:places.map (λj=>es[j]?)=ord.map Sa):Mode w h a es ep t i (.ref tp) ord [tp]
def SW(w:Si)(it a:Sf)(es:Array (Int×Se))(ep:Nat)(t:SetTable)(ord:List (Int×Se))(ex:List Sf)(i:Nat)(h:Sk):Prop:=
 ∃first,SIter h it first i a es.size ep/\(∃o,h.get? a=Sa o/\o.data=.set es ep t)/\GoodT (!yG w) t es.size/\ord.length=es.size/\Mode w h a es ep t i first ord ex
theorem ue{t:SetTable}{n:Nat}(h:t.fits n=Sc):t.place.size=n:=by
 grind[SetTable.fits]
theorem qL1{c:Nat}(d:s.heap.get? a=Sa o)(hd:o.data=.set es ep t)(g:GoodT (!yG w) t es.size)(b:yG w=Sc)(q:Q (((pickOrder (w.params.setOrder a ep) es)[i]?).map λe=>(e.2,c)) s):Sm (So P w) A (setNext a c i ep) Q E s:=by
 unfold setNext;show aA (fB d hd g.fits ?_);dsimp only;unfold setsByText;show aA (aA (dQ (aC ?_)));change Sm _ _ (if w.params.followText "set-order"=Sc then _ else _) _ _ _;rw[if_pos (show(w.params.followText "set-order")=Sc from b),if_neg ∅];unfold setWalk;show aA (aA (fB d hd g.fits ?_));dsimp only;unfold setsByText;show aA (aA (dQ (aC ?_)));change Sm _ _ (if w.params.followText "set-order"=Sc then _ else _) _ _ _;rw[if_pos (show(w.params.followText "set-order")=Sc from b)];show aA (dQ (aC (aC ?_)))
 show q
theorem qI6(j:s.heap.get? a=Sa o)(hd:o.data=.set es ep t)(g:GoodT (!yG w) t es.size)(b:yG w=Sd)(d:(!t.plain&&decide (es.size>1))=Sd)(hi:i<=es.size)(q:Q ((es[i]?).map λe=>(e.2,slotI t (i+1))) s):Sm (So P w) A (setNext a (slotI t i) i ep) Q E s:=by
 let l:=ue g.fits;unfold setNext;show aA (fB j hd g.fits ?_);dsimp only;unfold setsByText;show aA (aA (dQ (aC ?_)));change Sm _ _ (if w.params.followText "set-order"=Sc then _ else _) _ _ _;rw[if_neg (show ¬(w.params.followText "set-order")=Sc from λz=>by rw[show(w.params.followText "set-order")=Sd from b]at z;grind)];let c:t.led=Sc:=by rw[g.led,b];rfl
 split
 .rename_i z;show absurd (show(!t.plain&&decide (es.size>1))=Sc from z) (by grind)
 .refine aA ?_;change Sm _ _ (if (!t.led && !es.isEmpty)=Sc then unsupported "set:maker-not-led" else pure PUnit.unit) _ _ _;rw[if_neg (by grind)];show aC (aC ?_);rw[qQ5 (n:=es.size) g.rise ∎];by_cases f:i<es.size
  .let h:es[i]? = Sa es[i]:=bP f;let k:t.place[i]? = Sa (t.place.getD i 0):=by
    simp_all
   rw[h]at q ⊢;rw[k];show q
  grind
theorem Mode.stay(m:Mode w h a es ep t i first ord ex)(k:∀b∈ex,∀o,h.get? b=Sa o->h'.get? b=Sa o):Mode w h' a es ep t i first ord ex:=by
 cases m with
 |told sl b=>show .told sl b
 |place b d=>show .place b d
 |drawn f places o n _ e c q=>show .drawn f places o n _ (k f ∅ _ e) c q
theorem qYw(z:it≠a)(G:it∉ex)(h:SW w it a es ep t ord ex i s.heap)(C:ord[i]? = Sa e)(q:∀h',SW w it a es ep t ord ex (i+1) h'->Heap.SameBut it s.heap h'->Q (Sa e.2) {s with heap:=h'}):Sm (So P w) A (pyNext (.ref it)) Q E s:=by
 obtain⟨first,r,⟨o,u,x⟩,g,H,m⟩:=h;let⟨oi,f,R,k⟩:=id r;let V:i<es.size:=by rw[<-H];show(aD.mp C).1
 unfold pyNext;refine aA (iG (cU (name:=Str.ofString "__next__") r.ty slot_si_next (cB slot_si_next r.ty qF2 ?_ (qFy _))));unfold Builtin.«set_iterator.__next__»;refine aA (m:=slotArgs "__next__" 0 _) (aC ?_);refine aA (iM f k ?_);dsimp only;refine aA (iQ u x g.fits ?_);rw [if_neg ∅];let B:∀(y nx:Nat),first = .int y 0->(∀h',Heap.SameBut it s.heap h'->Mode w h' a es ep t (i+1) (.int nx 0) ord ex) ->
   Sm (So P w) A.in1 (do setField (Value.ref it) 0 (rawInt nx);setField (Value.ref it) 1 (rawInt ((i:Int)+1));ret e.2) (λI J => ∃v,I=Fin.done (Flow.ret v)/\Sm (So P w) A (pure (Sa v)) Q E J)
    (λe J=>Sm (So P w) A (do if (<-isInstance e (Value.type "StopIteration"))=Sc then pure Sb else throw e) Q E J) s:=by
  intro y nx W X;subst W;show aA (fP f k ∅ ?_);let⟨S,D,K,F⟩:=ud 0 (rawInt nx) f k;show aA (fP D F ∅ ?_);let⟨Y,Z,c2,d2⟩:=ud 1 (rawInt ((i:Int)+1)) D F;let p:Heap.SameBut it s.heap _:=(bV s.heap it (Obj.mapFields (·.setIfInBounds 0 (rawInt nx)))).trans (bV _ it (Obj.mapFields (·.setIfInBounds 1 (rawInt ((i:Int)+1)))));show aC ⟨_,rfl,aC (q _ ⟨.int nx 0,⟨Y,Z,c2.trans (K.trans R),?_⟩,⟨o,(p.2 a (cC z)).trans u,x⟩,g,H,X _ p⟩ p)⟩;rw[d2];simp[rawInt]
 cases m with
 |told y b=>
  dsimp only;simp only[cE];show aA (qL1 (i:=i) u x g b ?_);rw[show(pickOrder (w.params.setOrder a ep) es)[i]? = Sa e by rw[<-bF];show C];show B y y rfl λh' p=>.told y b
 |place b d=>
  dsimp only;simp only[cE];show aA (qI6 (i:=i) u x g b d ∎ ?_);rw[show es[i]? = Sa e by rw[<-bF];show C];show B _ _ rfl λh' p=>.place b d
 |drawn L places op n _ T c M=>
  dsimp only;show aA (fO T c ?_);dsimp only;let a0:places.length=ord.length:=by let:=congrArg List.length M;simpa using this
  obtain⟨j,U⟩:∃j,places[i]? = Sa j:=⟨_,aF ∎⟩;let N:es[j]? = Sa e:=by
   let:=congrArg (λl=>l[i]?) M;simp only[bA,U,C,gP]at this;show bB this
  let O:(places.map λ(j:Nat)=>rawInt (j:Int)).toArray[((i:Int)).toNat]? = Sa (.int (j:Int) 0):=by
   rw[cE,fY,bA,U];rfl
  rw[O];dsimp only;unfold setNextDrawn;show aA (aA (fB u x g.fits ?_));dsimp only;rw[if_neg ∅];rw[cE,N];dsimp only;show aC ?_;show aA (fP f k ∅ ?_);let⟨S,D,K,F⟩:=ud 1 (rawInt ((i:Int)+1)) f k;let p:Heap.SameBut it s.heap _:=bV s.heap it (Obj.mapFields (·.setIfInBounds 1 (rawInt ((i:Int)+1))));show aC ⟨_,rfl,aC (q _ ⟨.ref L,⟨S,D,K.trans R,?_⟩,⟨o,(p.2 a (cC z)).trans u,x⟩,g,H,.drawn L places op n _ ((p.2 L (by simpa using cC (a:=it) (by simpa using G))).trans T) c M⟩ p)⟩;rw[F];simp[rawInt]
theorem uf{s0:Sg}{Q:Option Se->Sg->Prop}{α:Type}{d:α->Sg->Prop}(f:A.in1.handled=Sb)(c:Heap.ExtBut it s0.heap s.heap)(q:∀h',Heap.ExtBut it s0.heap h'->Q Sb {s with heap:=h'}):Sm (So P w) A.in1 (do raiseNew (<-newExc (.type "StopIteration") [])) d (λe g=>Sm (So P w) A (do if (<-isInstance e (Value.type "StopIteration"))=Sc then pure Sb else throw e) Q E g) s:=by
 show aA ?_;simp only[newExc,newTuple];show aA (bW ?_ (by size_fits));show aA (m:=firstArgMember _ _) (wpAny_of_eq (a:=Value.none) (by first|rfl|(simp only[firstArgMember];rfl)) ?_);show bW ?_ (by size_fits);simp only[raiseNew];show aA (wpAny_handled ?_);rw[f];show aA (aC (wpAny_throw ?_));show aA (eW (T:="StopIteration") (b:=Sc) ⟨_,aT _ rfl,rfl⟩ isSubtype_stop ?_);show aC (q _ ((c.push _).push _))
theorem qYx(v:A.handled=Sb)(h:SW w it a es ep t ord ex es.size s.heap)(q:∀h',Heap.ExtBut it s.heap h'->Q Sb {s with heap:=h'}):Sm (So P w) A (pyNext (.ref it)) Q E s:=by
 obtain⟨first,k,⟨o,p,r⟩,g,D,m⟩:=h;let⟨F,e,G,f⟩:=id k;unfold pyNext;show aA (iG (cU (name:=Str.ofString "__next__") k.ty slot_si_next (cB slot_si_next k.ty qF2 ?_ (qFy _))));unfold Builtin.«set_iterator.__next__»;show aA (m:=slotArgs "__next__" 0 _) (aC ?_);show aA (iM e f ?_);dsimp only;show aA (iQ p r g.fits ?_);rw[if_neg ∅];let l:A.in1.handled=Sb:=v;cases m with
 |told sl b=>
  dsimp only;simp only[cE];show aA (qL1 (i:=es.size) p r g b ?_);rw[show(pickOrder (w.params.setOrder a ep) es)[es.size]? = Sb by rw[<-bF];show dA ∎];dsimp only[Option.map];show aA (fP e f ∅ ?_);show uf (s0:=s) l (bV ..).extBut q
 |place b d=>
  dsimp only;simp only[cE];show aA (qI6 (i:=es.size) p r g b d (aI _) ?_);rw[show es[es.size]? = Sb from Array.getElem?_eq_none (aI _)];dsimp only[Option.map];show aA (fP e f ∅ ?_);show uf (s0:=s) l (bV ..).extBut q
 |drawn H places op n _ x c y=>
  dsimp only;show aA (fO x c ?_);dsimp only;let z:places.length=ord.length:=by let:=congrArg List.length y;simpa using this
  let u:(places.map λ(j:Nat)=>rawInt (j:Int)).toArray[((es.size:Int)).toNat]? = Sb:=by
   rw[cE,fY];show dA (by rw[aB];lia)
  rw[u];dsimp only;show aA (fP e f ∅ ?_);let⟨I,B,J,C⟩:=ud 0 (rawInt 0) e f;show aA (fP B C ∅ ?_);show uf (s0:=s) l ((bV ..).trans (bV ..)).extBut q
theorem qVk(y:A.handled=Sb)(f:it≠a)(j:it∉ex):Walks P w A it (it::a::ex) [it] es.size (λi v=>(ord[i]?).map (·.2)=Sa v) (SW w it a es ep t ord ex) where
 sub:=λb c=>by simp at c;simp[c]
 frame:=λi h d st k=>by
  obtain⟨first,⟨z,l,B,n⟩,⟨o,C,D⟩,g,u,m⟩:=st;show⟨first,⟨z,k it ∅ _ l,B,n⟩,⟨o,k a ∅ _ C,D⟩,g,u,m.stay λb c o e=>k b (by simp[c]) o e⟩
 item:=λi s Q E H st q=>by
  let⟨first,_,_,_,u,_⟩:=id st;obtain⟨e,x⟩:∃e,ord[i]? = Sa e:=⟨_,aF ∎⟩;show qYw f j st x λd p F=>q e.2 d s.toks (by rw[x];rfl) p λb o c e=>?_;show(F.2 b (by simpa using c)).trans e
 done:=λs Q E st q=>qYx y st λd G=>q d s.toks λb o c e=>G b o (by simpa using c) e
 self:=λi s Q E st q=>by
  let⟨first,r,_⟩:=st;show qYz r q
theorem qU2{ep:Nat}{t:SetTable}(D:s.heap.get? a=Sa o)(J:o.ExactSet)(hd:o.data=.set es ep t)(p:es.size<scanBound)(g:GoodT (!yG w) t es.size)(q:∀(it:Sf)(ord:List (Int×Se))(ex:List Sf)(h':Sk)(d:Drawn),s.heap.objs.size<=it->it<h'.objs.size->(∀b∈ex,s.heap.objs.size<=b/\b<it)->a<s.heap.objs.size->(∀b u,s.heap.get? b=Sa u->h'.get? b=Sa u)->SW w it a es ep t ord ex 0 h'->ord.Perm es.toList->Q (.ref it) {s with heap:=h',drawn:=d}):Sm (So P w) A (pyIter (.ref a)) Q E s:=by
 let hT:s.TypeIs (.ref a) "set":=⟨o,D,J.1⟩;let U:a<s.heap.objs.size:=aO D;show wpAny_pyIter_slot hT F.slot_set_iter (cB F.slot_set_iter hT qHl ?_ (F.args_set_iter_1 _));unfold Builtin.«frozenset.__iter__» Builtin.Frozenset.slot0;show aA (aA (m:=slotArgs "__iter__" 0 _) (aC ?_));unfold Builtin.Frozenset.addrOf;show aC ?_;unfold Builtin.Frozenset.sizeOf;show aA (aA (iQ D hd g.fits (aC ?_)));unfold setDrawn;show aA (aA (fB D hd g.fits ?_));dsimp only;unfold setsByText;show aA (aA (dQ (aC (aC ?_))));change Sm _ _ (if (!w.params.followText "set-order" && (!t.plain&&decide (es.size>1)))=Sc then _ else _) _ _ _
 let f:∀(B:Sg) (first:Se) (ord:List (Int×Se)) (ex:List Sf),(∃h' d,B = { s with heap:=h',drawn:=d })->s.heap.objs.size<=B.heap.objs.size->(∀b u,s.heap.get? b=Sa u->B.heap.get? b=Sa u)->(∀b∈ex,s.heap.objs.size<=b/\b<B.heap.objs.size)->ord.length=es.size->ord.Perm es.toList->(∀h',(∀b u,B.heap.get? b=Sa u->h'.get? b=Sa u)->Mode w h' a es ep t 0 first ord ex) ->
   Sm (So P w) A.in1 (do let x <-setEpoch a;let y <-newFields "set_iterator" [first,rawInt 0,Value.ref a,rawInt es.size,rawInt x];ret y) (λf N=>∃v,f=Fin.done (Flow.ret v)/\∃O r,N.TypeIs v O/\typeLookup (Value.type O) (Str.ofString "__next__")=pure (Sa r)/\Q v N) E B:=by
  rintro B first ord ex ⟨h',d,rfl⟩ K k V W c X
  show aA (wpAny_setEpoch_of (k _ _ D) hd g.fits ?_);show aA (bW (aC ⟨_,rfl,"set_iterator",_,⟨_,aT _ rfl,rfl⟩,slot_si_next.lookup,?_⟩));show q h'.objs.size ord ex _ d K ∅ V U (λb u e=>aG _ (k b u e)) ⟨first,⟨_,aT _ rfl,rfl,rfl⟩,⟨o,aG _ (k _ _ D),hd⟩,g,W,X _ λb u e=>aG _ e⟩ c
 cases h:yG w with
 |true=>
  rw[if_neg (by rw[show w.params.followText "set-order"=Sc from h];simp)];show aA (aC ?_);let c:=qKq (w.params.setOrder a ep) es;show f s (rawInt 0) _ [] ⟨s.heap,s.drawn,rfl⟩ (aI _) (λ_ _ e=>e) (λb p=>by grind) (by rw[c.length_eq,aQ]) c (λh' k=>.told 0 h)
 |false=>
  cases hd2:(!t.plain&&decide (es.size>1))with
  |false=>
   rw[if_neg ∅];show aA (aC ?_);show f s (rawInt 0) _ [] ⟨s.heap,s.drawn,rfl⟩ (aI _) (λ_ _ e=>e) (λb p=>by grind) (aQ ..) (.refl _) (λh' k=>.place h hd2)
  |true=>
   rw[if_pos (by rw[show w.params.followText "set-order"=Sd from h];simp)];let R:(List.range es.size).length=es.size:=cR;show aA ?_;let L:∀{H:List Nat->Sg->Prop},(∀n d,n.Perm (List.range es.size)->H n {s with drawn:=d})->Sm (So P w) A.in1 (drawOrder es.size (List.range es.size)) H E s:=λ{H}z=>by
    grind[jn]
   show L λn d C=>?_;show aA ?_;let Y:n.length=es.size:=by rw[C.length_eq,R]
   simp only[newTuple];show bW ?_ (by let:=iF p;change(List.map (λ(i:Nat)=>rawInt (i:Int)) n).toArray.size<=Sn;grind);let G:∀l:List Nat,(∀j∈l,j<es.size)->l.map (λj=>es[j]?)=(l.filterMap λj=>es[j]?).map Sa:=by
    intro l
    induction l<;>grind
   let M:∀j∈n,j<es.size:=λj I=>bH.mp (C.mem_iff.mp I);let T:=G n M;let c:(n.filterMap λj=>es[j]?).Perm es.toList:=(C.filterMap _).trans (by rw[filterMap_getElem?_range])
   show f _ (.ref s.heap.objs.size) _ [s.heap.objs.size] ⟨_,d,rfl⟩ ∅ (λb u e=>aG _ e) (λb p=>by
    grind[dH]) (by let:=congrArg List.length T;grind) c (λh' k=>.drawn s.heap.objs.size n _ 0 _ (k _ _ (aT _ rfl)) rfl T)
theorem qL4:typeLookup (.type "set") "__len__"=pure (Sa (.builtin "set.__len__")):=F.slot_set_len.lookup
theorem qLp{ep:Nat}{t:SetTable}(hh:A.handled=Sb)(x:s.heap.get? a=Sa o)(j:o.ExactSet)(hd:o.data=.set es ep t)(m:es.size<scanBound)(g:GoodT (!yG w) t es.size)(q:∀(ord:List (Int×Se))(h':Sk)(d:Drawn)(tk:Nat),(∀b u,s.heap.get? b=Sa u->h'.get? b=Sa u)->s.heap.objs.size<=h'.objs.size->ord.Perm es.toList->Q (ord.map (·.2)) {s with heap:=h',drawn:=d,toks:=tk}):Sm (So P w) A (collect (.ref a)) Q E s:=by
 unfold collect;show aA (wpAny_runValue (cY F.entry_proto_collect ?_));rw[cF F.plain_proto_collect _];change Sm _ A.in1 (newList [] >>=λl=>again (.builtin "list.__iadd__" ⟨[l,.ref a],[]⟩)) _ _ s;show aA (bW ?_);show aC ⟨eJ F.plain_list_iadd _,cY F.entry_list_iadd ?_⟩;rw[cF F.plain_list_iadd _];let Z:∀b u,s.heap.get? b=Sa u->(s.heap.push {cls:=.type "list",data:=.seq ([]:List Se).toArray}).get? b=Sa u:=λb u e=>aG _ e;let M:=Z a o x;let hT:Shared.TypeIs {s with heap:=s.heap.push {cls:=.type "list",data:=.seq ([]:List Se).toArray}} (.ref a) "set":=⟨o,M,j.1⟩
 let n:a<s.heap.objs.size:=aO x;change Sm _ A.in1 (Builtin.List.listExtendWith (.ref s.heap.objs.size) (.ref a) (.ref s.heap.objs.size)) _ _ _;unfold Builtin.List.listExtendWith;show aA (eV hT ?_);let h1:Builtin.List.listSameRef (.ref s.heap.objs.size) (.ref a)=Sd:=by grind[Builtin.List.listSameRef]
 let J:(Value.type "set" == Value.type "list")=Sd:=by decide
 let h3:(Value.type "set" == Value.type "tuple")=Sd:=by decide
 simp only[h1,J,h3,Bool.or_false,bL,if_false];show aA (qU2 (s:={s with heap:=s.heap.push {cls:=.type "list",data:=.seq ([]:List Se).toArray}}) M j hd m g λit ord ex h' d f a0 hx ha k sw N=>?_);show aA (bK ?_);let p:Shared.TypeIs {s with heap:=h',drawn:=d} (.ref a) "set":=⟨o,k _ _ M,j.1⟩;unfold Builtin.List.listLengthHint;show aA (gW p qL4 ?_);let O:splitId "set.__len__"=Sa ("set","__len__"):=by kernel_rfl
 dsimp only;rw[O];dsimp only;show aA (eW p sub_set_self ?_);rw[if_neg ∅];rw[if_pos (by decide +kernel)];show aA (eV p (aC ?_));rw[if_pos (by decide +kernel)];show aA (dF ?_);let y:h'.get? s.heap.objs.size=Sa {cls:=.type "list",data:=.seq ([]:List Se).toArray}:=k _ _ (aT _ rfl);show aA ?_;change Sm _ A.in1 (updateSeq s.heap.objs.size (·.push .none) >>=λ_=>updateSeq s.heap.objs.size (·.pop)) _ _ _;show aA (eI (s:={s with heap:=h',drawn:=d}) y rfl ?_);let B:=bQ (Obj.mapSeq (·.push Value.none)) y rfl;show eI B rfl ?_
 let R:=bQ (Obj.mapSeq (·.pop)) B rfl;let C:∀b u,b≠s.heap.objs.size->h'.get? b=Sa u->((h'.update s.heap.objs.size (Obj.mapSeq (·.push Value.none))).update s.heap.objs.size (Obj.mapSeq (·.pop))).get? b=Sa u:=
  λb u m e=>(bT _ _ (cC m)).trans ((bT _ _ (cC m)).trans e)
 rw[dH]at f ha;let S:it≠a:=cJ (aR n (cA (eY _) f));let T:it∉ex:=λz=>fE _ (hx it z).2;let D:s.heap.objs.size∉it::a::ex:=λz=>by
  grind[dH]
 let U:ord.length=es.size:=by let⟨_,_,_,_,U,_⟩:=sw;grind
 let V:es.size<=Sn:=iF m;let W:=(qVk (P:=P) (w:=w) (A:=A.in1) (it:=it) (a:=a) (es:=es) (ep:=ep) (t:=t) (ord:=ord) (ex:=ex) hh S T).toS
 refine aC ⟨eJ F.plain_extend_loop _,codeAny_extend_loopS W V _ D _ es.size 0 _ _ _ rfl (bG _)
  (W.frame 0 ({s with heap:=h',drawn:=d}:Sg) _ s.toks sw (aI _) λb m u e=>C b u (λz=>D (z▸m)) e) R (ItemsOf.nil _) λs' c c' L G h=>?_⟩
 change Sm _ A (load s.heap.objs.size >>=_) _ _ s';show aA (wpAny_load G ?_);show aC ?_;let⟨J,g2,d2,X,Y⟩:=s';let e1:g2=s.gens:=L.gens;let e2:d2=d:=L.drawn;let e3:Y=s.os:=L.os;subst e1;subst e2;subst e3;let k2:∀b u,s.heap.get? b=Sa u->J.get? b=Sa u:=λb u e=>by
  let r:=aO e
  show L.heap b u (λz=>by
   grind) (C b u (aP r) (k b u (Z b u e)))
 let H:∀(i:Nat)(v:Se),c.toList[i]? = Sa v->(ord[i]?).map (·.2)=Sa v:=λi v e=>h.2 i v (by grind);let I:c.toList.length=ord.length:=by rw[aQ,h.1,U]
 let e:c.toList=ord.map (·.2):=by
  show List.ext_getElem? λi=>?_;grind
 change Q c.toList _;rw[e];show q ord J d2 X k2 (cW (aO G)) N
theorem qLo(p:A.handled=Sb)(S:SetI w s.heap a ns)(q:∀(vs:List Se)(ms:List Int)(h':Sk)(d:Drawn)(tk:Nat),(∀b u,s.heap.get? b=Sa u->h'.get? b=Sa u)->s.heap.objs.size<=h'.objs.size->IntsAre vs ms->ms.Perm ns->Q vs {s with heap:=h',drawn:=d,toks:=tk}):Sm (So P w) A (collect (.ref a)) Q E s:=by
 let⟨o,D,F,t,v,i,x,j,y,G,z,g⟩:=S;show qLp p v i x z g λf h' d tk k l c=>q _ _ h' d tk k l ?_ ((c.map keyI).trans y);let h:∀e∈f,EI e:=λe B=>j e (c.mem_iff.mp B);clear c
 induction f with
 |nil=>show .nil
 |cons e r C=>
  let⟨n,tk,rfl⟩:=h e ∅;show .cons n tk (C λe m=>h e (by simp[m]))
theorem qHt{n:Nat}(d:h.get? D=Sa (seqObj "list" vs.toArray n)):(∃c,(sortedHeap h D vs out).get? D=Sa {cls:=.type "list",data:=.seq out c})/\(∀b u,b≠D->h.get? b=Sa u->(sortedHeap h D vs out).get? b=Sa u)/\h.objs.size<=(sortedHeap h D vs out).objs.size:=by
 unfold sortedHeap;let f:=get?_update_seq d (λ_=>#[]);let g:=aG (seqObj "tuple" vs.toArray 0) f;let i:=aG (seqObj "list" #[] 0) g;let j:=get?_update_seq i (λ_=>out);show⟨⟨_,j⟩,λb u a e=>?_,?_⟩
 .exact (bT _ _ (cC a)).trans (aG _ (aG _ ((bT _ _ (cC a)).trans e)))
 .rw [Heap.size_update,dH,dH,Heap.size_update];lia
theorem qM6(p:A.handled=Sb)(S:SetI w s.heap a ns)(j:ns.length<64)
  (q:∀(D:Sf)(out:Array Se)(c:Nat)(f:List Int)(h':Sk)(d:Drawn)(tk:Nat),s.heap.objs.size<=D->h'.get? D=Sa {cls:=.type "list",data:=.seq out c}->(∀b u,s.heap.get? b=Sa u->h'.get? b=Sa u)->IntsAre out.toList f->f.Perm ns->f.Pairwise (·<=·)->Q (.ref D) {s with heap:=h',drawn:=d,toks:=tk}) :
  Sm (So P w) A (call (.builtin "sorted") [.ref a]) Q E s:=by
 show iK kind_sorted plain_sorted entry_sorted (args_sorted1 _) ?_;unfold Builtin.«sorted»;show aA (m:=checkCount "sorted" 1 1 _) (aC ?_);show aA (qLo (A:=A.in1) p S λi z h' d tk k l o h=>?_);let n:i.length<64:=by rw[IntsAre.length o,h.length_eq];show j
 show aA (wpAny_newList ?_ (by rw[cK];lia));let g:(h'.push (seqObj "list" i.toArray 0)).get? h'.objs.size=Sa (seqObj "list" i.toArray 0):=aT _ rfl;show aA (bK (cB slot_list_sort (s:={s with heap:=h'.push (seqObj "list" i.toArray 0),drawn:=d,toks:=tk}) ⟨_,g,rfl⟩ entry_list_sort (list_sort_tree g o n λout f r t v=>⟨_,rfl,?_⟩) (args_list_sort _)));obtain⟨⟨c,x⟩,y,_⟩:=qHt (out:=out) g;show aC ⟨_,rfl,q h'.objs.size out c f _ d tk l x (λb u e=>y b u (aP (aO (k b u e))) (aG _ (k b u e))) r (t.trans h) v⟩
theorem Inv.drew{X:Cx}{a:List (Sf×Ss)}{σ:St}{H:Hp}{s:Sg}{d:Drawn}(I:Inv X a σ H s):Inv X a σ H {s with drawn:=d}:=⟨I.ok,I.os,I.bare,I.base,I.loc,I.cell,I.free,I.freeC,I.pin,I.hok,I.len⟩
noncomputable def setO(w:Si)(ns:List Int):HO:=.ext λa h=>SetI w h a ns
theorem qR8(S:SetI w h a ns):ObjOk P b H h a (setO w ns):=by
 show⟨S,?_,λd f c k=>c.stay k⟩;let⟨o,_,_,_,e,_⟩:=S;show⟨o,e⟩
theorem Inv.setI{b:List (Sf×Ss)}{σ:St}{H:Hp}{s:Sg}{w:Si}{a:Sf}{ns:List Int}(I:Inv X b σ H s)(e:H a=Sa (setO w ns)):SetI w s.heap a ns:=(I.hok a _ e).1
def wBj(w:Si):List V->Hp->VK->Prop:=λxs H Q=>∃(a:Sf)(ns:List Int),xs=[.ref a]/\H a=Sa (setO w ns)/\ns.length<64/\∀(l:Sf)(ns':List Int),H l=Sb->ns'.Perm ns->ns'.Pairwise (·<=·)->Q (.ref l) (upd H l (.lst (ns'.map V.int)))
theorem jo(m:X.A.handled=Sb):CallR X (.builtin "sorted") (wBj X.w):=by
 intro i s σ H z B Q I r h;let⟨a,C,rfl,n,p,q⟩:=h;let⟨u,rfl,t⟩:=vals1 r;cases t;show qM6 m (I.setI n) p λD e c b E d tk j f k v l x=>?_;let y:H D=Sb:=I.hok.fresh j;let g:Vals (b.map V.int) e.toList:=uM v;show⟨.ref D,_,(I.laid (t':=tk) (o:=.lst (b.map V.int)) k j ⟨?_,e.toList,c,g,by simp_all⟩).drew,rfl,q _ b y l x⟩;rw[aB,l.length_eq,cK];lia
noncomputable def newS(w:Si):Ss:={cls:=.type "set",dict:=Sb,data:=.set #[] 0 (.fresh 0 0 (!yG w))}
theorem wAd(e:h.get? a=Sa (newS w)):SetI w h a []:=⟨_,#[],0,_,e,⟨rfl,rfl,rfl⟩,rfl,λe b=>by simp at b,.refl _,.nil,⋯,⟨rfl,.nil,rfl⟩⟩
theorem qTh(q:Q (.ref s.heap.objs.size) {s with heap:=s.heap.push (newS w)}):Sm (So P w) A (newSet (.type "set")) Q E s:=by
 unfold newSet setsByText;show aA (aA (dQ (aC ?_)));dsimp only;simp only[newObj];show aA (wpAny_alloc (aC q))
noncomputable def yS(ms:List Int):List Int:=ms.foldl addN []
theorem qN8(ms:List Int)(n:Int):yS (ms++[n])=addN (yS ms) n:=by grind[yS]
theorem qHg:∀(ms ns:List Int),(ms.foldl addN ns).length<=ns.length+ms.length
 :=by intro x;induction x<;>grind[qP1]
theorem vi(ms:List Int):(yS ms).length<=ms.length:=by let h:=qHg ms [];rw[List.length_nil,Nat.zero_add]at h;show h
theorem qGx{m:Int}:∀(ms ns:List Int),m∈ms.foldl addN ns↔m∈ns\/m∈ms
 |[],ns=>by simp
 |k::r,ns=>by rw[List.foldl_cons,qGx r,qOk,aN,or_assoc]
theorem xn{m:Int}(ms:List Int):m∈yS ms↔m∈ms:=by grind[yS,qGx]
theorem qF8:∀(ms ns:List Int),ns.Nodup->(ms.foldl addN ns).Nodup
 |[],ns,h=>h
 |k::r,ns,h=>qF8 r _ (wJ h)
theorem qFz(ms:List Int):(yS ms).Nodup:=qF8 ms [] .nil
section
variable{P:Sh}{w:Si}{A:Sj}{R:Result->Sg->Prop}{I:Sf}{fp wr:List Sf}{G:Array GenState->Array GenState->Prop}{n:Nat}{T:Nat->Se->Prop}{St:Nat->Sg->Prop}
theorem qUe(W:WalksS P w A.in1 I fp wr G n T St)(S:Sf)(g:S∉fp)(ms:List Int)(z:ms.length=n)(j:∀i v,T i v -> ∃t,v = .int (ms.getD i 0) t)(f:n+1<scanBound):∀(k i:Nat) (s:Sg),n - i=k->i<=n->St i s->SetI w s.heap S (yS (ms.take i))->(∀a,Moved (S::wr) G s a->SetI w a.heap S (yS ms)->R (.ok (.ret .none)) a) ->
   codeAny (So P w) A (.builtin "set.update.loop" ⟨[.ref S,.ref I],[]⟩) R s:=by
 let l:S∉wr:=λh=>g (W.sub _ h);let c:∀b∈wr,b∈S::wr:=λb f=>aS _ f;intro k
 induction k with
 |zero=>
  intro i s K L d y B;let C:i=n:=by lia
  subst C;show cY F.entry_set_update_loop ?_;rw[cF F.plain_set_update_loop _];change Sm _ A.in1 (pyNext (.ref I) >>=_) _ _ s;show aA (W.done s _ _ d λa m=>?_);change Sm _ A.in1 (ret Value.none) _ _ a;rw[<-z,aZ]at y;show aC (B a (m.mono c) (y.stay λo e=>m.heap S _ l e))
 |succ k M=>
  intro i s K L d y B;let p:i<n:=by lia
  show cY F.entry_set_update_loop ?_;rw[cF F.plain_set_update_loop _];change Sm _ A.in1 (pyNext (.ref I) >>=_) _ _ s;show aA (W.item i s _ _ p d λv a N q m=>?_);let⟨t,rfl⟩:=j i v N;let D:SetI w a.heap S (yS (ms.take i)):=y.stay λo e=>m.heap S _ l e;change Sm _ A.in1 (Sz [Value.int (ms.getD i 0) t] (setAdd S (.int (ms.getD i 0) t)) >>=_) _ _ a;let r:=vi (ms.take i);rw[aV]at r;show aA (bK (addI D ∎ λU H J=>?_));let O:ms.take (i+1)=ms.take i++[ms.getD i 0]:=by
   simp_all
  rw[<-qN8,<-O]at J;show aC ⟨eJ F.plain_set_update_loop _,M (i+1) _ ∎ p (W.frame _ a _ _ q (eY _) λb f o e=>?_) J λE u x=>?_⟩
  .rw [H.2 b (λh:b=S=>g (by grind))];grind
  .refine B E (Moved.trans W.gtrans ((m.mono c).then_heap (eY _) λb o f e=>?_) u) x;rw[H.2 b (λh:b=S=>f (by grind))];grind
end
theorem qPc(a:Se)(h:Q₁ (.ref s.heap.objs.size) {s with heap:=s.heap.push (newS w)}):codeAny (So P w) A (.call (.builtin "set.__new__") ⟨[.type "set",a],[]⟩) (wants Q₁ E) s:=by
 show codeAny_of_tree ?_;change Sm _ A.in1 (do checkBuiltinCall "set.__new__" ⟨[.type "set",a],[]⟩;again (.builtin "set.__new__" ⟨[.type "set",a],[]⟩)) _ _ s;show aA (wpAny_of_eq (F.newCall_set_1 a) (aC ⟨eJ F.plain_set_new _,cY F.entry_set_new ?_⟩));rw[cF F.plain_set_new _];unfold Builtin.«set.__new__» Builtin.Frozenset.newClass;let b:=sub_set_self;let⟨c,g,d,tk,os⟩:=s;dsimp only
 wp_walk
 show dQ (aC ?_);dsimp only;simp only[newObj];show aA (wpAny_alloc (aC (aC h)))
theorem qM8(hh:A.handled=Sb)(hl:s.heap.IsList l items)(hi:IntsAre items.toList ns)(G:items.size+1<scanBound)(h:∀(h':Sk)(tk:Nat),SetI w h' s.heap.objs.size (yS ns)->(∀b o,b<s.heap.objs.size->s.heap.get? b=Sa o->h'.get? b=Sa o)->Q (.ref s.heap.objs.size) {s with heap:=h',toks:=tk}):Sm (So P w) A (call (.type "set") [.ref l]) Q E s:=by
 let⟨c,tl,U⟩:=F.called_set.mro;let I:=F.called_set.made;let V:=F.called_set.sub;show wpAny_call (codeAny_of_tree ?_);change Sm _ _ (callAny (.type "set") _) _ _ _;show aC ⟨Code.quiet_builtin _ (by decide +kernel),cY F.entry_type_call ?_⟩;rw[Around.under_plain (weight_type_call_type "set" [.ref l] []) rfl];let h1:=F.called_set.notType;let h2:=F.called_set.canCreate;let a1:=F.typeCall_set_1 (.ref l)
 repeat (any_goals (first|assumption|wp_step))
 show gQ (qPc (.ref l) (E:=E) (Q₁:=λn f=>n=.ref s.heap.objs.size/\f={s with heap:=s.heap.push (newS w)}) ⟨rfl,rfl⟩) λr f J=>?_;cases r with
 |error e=>show J
 |ok fl=>
  cases fl with
  |ret n=>
   let⟨rfl,rfl⟩:=J;let W:(s.heap.push (newS w)).get? s.heap.objs.size=Sa (newS w):=aT _ rfl;let hT:Shared.TypeIs {s with heap:=s.heap.push (newS w)} (.ref s.heap.objs.size) "set":=⟨_,W,rfl⟩;let a2:=F.called_set.init.lookup;let a3:=F.called_set.init.bind (.ref s.heap.objs.size)
   repeat (any_goals (first|assumption|wp_step))
   show gQ (codeAny_call_builtin (R:=wants (λr g=>r=.none/\∃h' tk,g={s with heap:=h',toks:=tk}/\SetI w h' s.heap.objs.size (yS ns)/\(∀b o,b<s.heap.objs.size->s.heap.get? b=Sa o->h'.get? b=Sa o)) E) F.called_set.init.plain F.entry_set_init (check_set_init_1 hT ?_)) λp g a=>?_
   .let⟨ol,q,t,X,u⟩:=hl;let⟨Y,j,K,d⟩:=ol;simp only at t u;subst t;subst u;let x:(s.heap.push (newS w)).get? l=Sa {cls:=.type "list",dict:=j,data:=.seq items X,slots:=d}:=aG _ q;let Z:=F.sub_list_set;let a0:=F.sub_list_frozenset;let a4:(Value.type "list" == Value.type "dict")=Sd:=by decide
    let y:(s.heap.push (newS w)).IsList l items:=⟨_,x,rfl,X,rfl⟩;unfold Builtin.«set.__init__» noKeywords Builtin.Frozenset.updateFrom;generalize L:pyIter=PI
    wp_walk
    subst L;show wpAny_pyIter_list y (aA (wpAny_runValue ?_));let B:l<s.heap.objs.size:=aO q;let M:A.in1.in1.in1.handled=Sb:=hh;let C:l≠(s.heap.push (newS w)).objs.size:=by rw[dH];show aP (eN B)
    let N:s.heap.objs.size∉[(s.heap.push (newS w)).objs.size,l]:=by
     rw[dH];simp only[aN,aE,cS,or_false,not_or];show⟨aP (dD _),cJ B⟩
    let D:ns.length=items.size:=by rw[<-IntsAre.length hi,aQ]
    show qUe ((Walks.list M _ l C items).toS) s.heap.objs.size N ns D (λi v hv=>IntsAre.int_at hi i v (by rw[bF];show hv)) G (items.size-0) 0 _ ∎ (bG _) ⟨⟨_,aT _ rfl,rfl,rfl⟩,(y.push _)⟩ (wAd (aG _ W)) ?_;intro s' H k;let⟨h',g',d',O,S⟩:=s';let eg:g'=s.gens:=H.gens;let ed:d'=s.drawn:=H.drawn;let eo:S=s.os:=H.os;subst eg;subst ed;subst eo;change Sm _ _ _ _ _ _;show aC ?_;change Sm _ _ (ret Value.none) _ _ _;show aC ⟨rfl,h',O,rfl,k,λb o G e=>?_⟩;show H.heap b o (λz=>?_) (aG _ (aG _ e));rcases aN.mp z with z|z
    .exact aP G z
    .let z2:b=(s.heap.push (newS w)).objs.size:=by simpa using z
     rw[dH]at z2;show aP (eN G) z2
   .cases p with
    |error e=>show a
    |ok m=>cases m with
     |ret r=>obtain⟨rfl,h',tk,rfl,k,T⟩:=a;(repeat (any_goals (first|assumption|wp_step)));show h _ _ k T
     |_=>show a.elim
  |_=>show J.elim
def wBl(w:Si)(K:SH):List V->Hp->VK->Prop:=λxs H Q=>∃(a:Sf)(ns:List Int),xs=[.ref a]/\SqL K H a (ns.map V.int)/\ns.length+1<4096/\∀l,H l=Sb->Q (.ref l) (upd H l (setO w (yS ns)))
theorem ug(g:X.A.handled=Sb):CallR X (.type "set") (wBl X.w X.K):=by
 intro d s σ H o p Q I r h;let⟨a,t,rfl,i,v,q⟩:=h;let⟨u,rfl,j⟩:=vals1 r;cases j;let⟨c,f,l,_⟩:=I.list i;let m:=f.length;rw[aB]at m;show qM8 g l.isList (xw f) (by rw[aX];change c.length+1<4096;lia) λx tk n k=>?_;show⟨.ref s.heap.objs.size,_,I.laid (t':=tk) (λb u e=>k b u (aO e) e) (aI _) (qR8 n),rfl,q _ (I.hok.fresh (aI _))⟩
section
variable{K:SH}{a:Sf}{xs:List V}{g:TG}{tt:TT}{B:TB}{σ:St}{H:Hp}{Q:St->Hp->Prop}
theorem jp(Pv:Nat->St->Hp->Prop)(h0:Pv 0 σ H)(h:∀i σ H,i<=xs.length->Pv i σ H->SqT K H a xs)(l:∀i x σ H(R:St->Hp->Prop),xs[i]? = Sa x->Pv i σ H->(∀d j,Pv (i+1) d j->R d j)->g x σ H λc m=>tt c m λb k=>if b=Sc then B c k R else R c k)(hd:∀σ H,Pv xs.length σ H->Q σ H):LoopT (Itt K a) g tt B σ H Q:=by
 show wZ (n:=xs.length) Pv h0 (λi σ H f p=>⟨xs,xs[i],h i σ H (cW f) p,∅⟩) (λσ H p=>⟨xs,h _ σ H (aI _) p,aI _⟩) (λi σ H R f p o x j y=>?_) hd;let⟨e,y⟩:=y;subst e;show l i x σ _ R (y xs (h i σ _ (cW f) p)) p o
end
noncomputable def xo(m i:Int)(ns:List Int):List (Int×Int):=if ns=[]then [(i,m)]else ns.map λx=>(i,x)
noncomputable def rawTo(w:List Blk):Nat->List (Int×Int)
 |0=>[(-1,0)]
 |i+1=>rawTo w i++xo w.length i ((w[i]?.map Blk.ns).getD [])
theorem qGp{M m i:Int}(h:NsOk M ns):(xo m i ns).Perm (outs m i ns):=by
 unfold xo outs;rcases h with z|⟨x,z,_⟩|⟨x,y,z,_⟩<;>subst z
 .exact .refl _
 .exact .refl _
 .rw [if_neg ∅,if_neg ∅,bS];show List.Perm.map _ ?_;unfold srt;dsimp only;split
  .exact .refl _
  .exact List.Perm.swap _ _ _
theorem uh{m a:Int}(h:WorkOk m a w):∀n,(rawTo w n).Perm (zU w n)
 |0=>.refl _
 |i+1=>by
  change(rawTo w i++xo _ _ _).Perm (zU w i++outs w.length i ((w[i]?.map Blk.ns).getD []));show(uh h i).append ?_;cases e:w[i]? with
  |none=>show qGp (M:=m) (.inl rfl)
  |some b=>show qGp (h.blk b (aK e)).ns
theorem wK{m a:Int}(h:WorkOk m a w):(zU w w.length).Pairwise ltP:=by
 rw[wI];show eD.mpr ⟨λp b=>?_,qGn h _⟩;let:=(jj h b).1;show .inl (by grind)
theorem vj{l:List (Int×Int)}(h:l.Pairwise ltP):l.Nodup:=h.imp λ{a b}c e=>by subst e;show ltP.irr c
theorem qMc{m a:Int}(h:WorkOk m a w):(rawTo w w.length).Nodup:=(uh h _).nodup_iff.mpr (vj (wK h))
theorem qKj{m a:Int}(h:WorkOk m a w)(i:Nat):(rawTo w i).length<=1+2*i:=by
 rw[(uh h i).length_eq];show xf (λb c=>(h.blk b c).ns.few) i
def ui(K:SH):Sp:=λvs H Q _ => ∃(a:Sf) (w:List Blk) (m works:Int),vs = [.ref a]/\Den K H (workD w) (.ref a)/\WorkOk m works w/\m<=12 /\
 ∀(l:Sf)(us:List V)(H':Hp),H l=Sb->Ext [] H H'->H' l=Sa (.lst us)->DenL K (yo H [l] H') ((zU w w.length).map pairD) us->Q (.ref l) H'
noncomputable def wr:Deed->Option Int
 |.set b _=>Sa b
 |.add b _=>Sa b
 |_=>Sb
mutual
noncomputable def tame:PyData->Bool
 |.int i=>decide (i.natAbs<10^13)
 |.str x=>x.cps.all (· < 0x110000)&&decide (x.cps.size<=10)
 |.list xs=>yr xs
 |.tuple xs=>yr xs
 |.none=>Sd
 |.bool _=>Sd
 |.dict _=>Sd
noncomputable def yr:List PyData->Bool
 |[]=>Sc
 |x::xs=>tame x&&yr xs
end
mutual
noncomputable def cells:PyData->Nat
 |.list xs=>vk xs
 |.tuple xs=>vk xs
 |.int _=>0
 |.str _=>0
 |.none=>0
 |.bool _=>0
 |.dict _=>0
noncomputable def vk:List PyData->Nat
 |[]=>0
 |x::xs=>cells x+1+vk xs
end
theorem wC0{n:Nat}(h:n<10^13):n.log2<44:=by
 by_cases a:n=0
 .simp_all
 .exact (Nat.log2_lt a).mpr (aR h ⋯)
mutual
theorem qQp:∀d:PyData,tame d=Sc->PyData.showable d=Sc
 |.int i,h=>by
  grind[tame,wC0,PyData.showable]
 |.str x,_=>rfl
 |.list xs,h=>jq xs (by grind[tame])
 |.tuple xs,h=>jq xs (by grind[tame])
theorem jq:∀b:List PyData,yr b=Sc->PyData.showableAll b=Sc
 |[],_=>rfl
 |x::xs,h=>by
  let a:(tame x&&yr xs)=Sc:=by simpa only[yr]using h
  rw[bR]at a;simp only[PyData.showableAll,qQp x a.1,jq xs a.2,Bool.and_self]
end
mutual
theorem uj:∀d:PyData,tame d=Sc->PyData.canLay0 d=Sc
 |.int i,h=>rfl
 |.str x,h=>by
  grind[tame,PyData.canLay0,PyData.strOk]
 |.list xs,h=>vm xs (by grind[tame])
 |.tuple xs,h=>vm xs (by grind[tame])
theorem vm:∀b:List PyData,yr b=Sc->PyData.canLayAll0 b=Sc
 |[],_=>rfl
 |x::xs,h=>by
  let a:(tame x&&yr xs)=Sc:=by simpa only[yr]using h
  rw[bR]at a;simp only[PyData.canLayAll0,uj x a.1,vm xs a.2,Bool.and_self]
end
theorem qGj(h:tame d=Sc)(hd:d.depth<=64)(b:∃xs,d=.list xs):SeqAt.shaped d=Sc:=by
 let⟨xs,rfl⟩:=b;let a:=uj _ h;let a:PyData.canLayAll0 xs=Sc:=by grind[PyData.canLay0]
 change(PyData.canLayAll0 xs&&decide (PyData.depth (.list xs)<=64))=Sc;grind
theorem ul{α : Type}{f : α -> PyData}:∀ {l:List α},(∀x∈l,tame (f x)=Sc)->yr (l.map f)=Sc
 :=by intro x;induction x<;>grind[yr]
theorem qFw{α : Type}{f : α -> PyData}{n:Nat}:∀ {l:List α},(∀x∈l,cells (f x)<=n)->vk (l.map f)<=(n+1)*l.length
 :=by intro x;induction x<;>grind[vk,Nat.mul_add]
theorem qFu{α : Type}{f : α -> PyData}{n:Nat}:∀ {l:List α},(∀x∈l,(f x).depth<=n)->PyData.depthAll (l.map f)<=n
 :=by intro x;induction x<;>grind[PyData.depthAll]
theorem qLc(h:∀n∈ns,-1<=n/\n<=100)(c:ns.length<=1000):tame (intsD ns)=Sc/\cells (intsD ns)<=5000/\(intsD ns).depth<=64:=by
 let b:=ul (l:=ns) (f:=PyData.int) λn a=>by
  let:=h n a;simp only[tame,decide_eq_true_eq];lia
 let d:=qFw (l:=ns) (f:=PyData.int) (n:=0) λn a=>aI _;let e:=qFu (l:=ns) (f:=PyData.int) (n:=0) λn a=>aI _;show⟨?_,?_,?_⟩
 .simp only[intsD,tame,b]
 .simp only[intsD,cells];lia
 .show PyData.depthAll (ns.map .int)+1<=64;lia
theorem qP5{m a:Int}(e:m<=12)(h:WorkOk m a w):(∀p∈zU w w.length,-1<=p.1/\p.1<=100/\-1<=p.2/\p.2<=100)/\(zU w w.length).length<=1000:=by
 let f:=h.len;constructor
 .intro p c;rw[wI]at c;rcases aN.mp c with z|z
  .subst z;show⟨⋯,⋯,⋯,⋯⟩
  .let⟨g,i,j,k,_⟩:=jj h z;lia
 .let:=xf (λb d=>(h.blk b d).ns.few) w.length;lia
section
variable{prog:Sh}{w:Si}{K:Type}[DecidableEq K]{knd:HeapKind prog w K}{A:Sj}{E:Se->Sg->Prop}{s:Sg}{d a:Sf}{k:K}{xs:List (K×Sf×Se)}
theorem qM7(q:knd.room A)(b:knd.is s.heap k a)(u:s.heap.DictOfH knd d xs)(hsz:xs.length<=Sn)(z:∀p,atKey xs k=Sa p->Q p.2 {s with toks:=s.toks+knd.draws k})(B:atKey xs k=Sb->∀m,m.DictOfH knd d (storedH xs k a v)->Heap.SameBut d s.heap m->Q v {s with heap:=m,toks:=s.toks+knd.draws k}):Sm (So prog w) A (dictSetDefault d (.ref a) v) Q E s:=by
 let⟨o,F,C,g,D,f,l,h,n⟩:=u;unfold dictSetDefault
 try with_reducible refine bK ?_
 show aA (knd.pyHash q b (aA (wpAny_dictFind_heap (s:={s with toks:=s.toks+knd.draws k}) q b g f l h n ?_ ?_)))
 .intro c;let i:k∉xs.map (·.1):=not_mem_keys_of_get c;show aA (dF (aA (wpAny_updateDictKeys (hz:=by let e:=size_of_entries l;lia) (s:={s with toks:=s.toks+knd.draws k}) g f (aC (B (atKey_none_of_get c) _ ⟨_,_,C+1,bQ _ g (Obj.isFreed_of_dict (Obj.data_mapDictKeys f _)),D.mapDictKeys _,Obj.data_mapDictKeys f _,?_,?_,?_⟩ (bV ..))))))
  .rw [storedH_new (atKey_none_of_get c)];simp[l,entryOfKey]
  .rw [storedH_new (atKey_none_of_get c)];intro x hx;rcases aL.mp hx with hx|hx
   .exact knd.keeps (h x hx) g f (bV ..)
   .simp only[aE]at hx;subst hx;show knd.keeps b g f (bV ..)
  .rw [storedH_new (atKey_none_of_get c),aH,cT];show⟨n,∅,λx hx y r=>?_⟩;simp only[aU,gU,aE]at r;subst r;show λe=>i (e▸hx)
 .intro j p t;show aA (wpAny_dictEntries (s:={s with toks:=s.toks+knd.draws k}) g f ?_);rw[entry_at l j,t];show aA (dF (aC (z p (atKey_of_get n t))))
end
def qXh(td ty tx:TE):TE:=λσ H Q=>td σ H λx H1 => ∃a,x = .ref a/\IsD H1 a/\ty σ H1 λy H2=>tx σ H2 λz H3 => ∃kvs k b,y = .ref b/\H3 a=Sa (.dT kvs)/\H3 b=Sa (.tup (k.map kV))/\kvs.length<Sn /\
 (∀v,valV kvs k=Sa v->Q v H3)/\(valV kvs k=Sb->Q z (upd H3 a (.dT (putK kvs k z))))
theorem qW5(U:X.A.units+1<cLine)(V:PE X o td)(W:PE X e ty)(Y:PE X f tx)(m:M2 X o "setdefault" apos e f cpos):PE X (.Call (.Attribute o "setdefault" apos) [e,f] [] cpos) (qXh td ty tx):=by
 intro i s σ H Q I h;show wpAny_Call_method m.base m.few m.line gH fN PySem.F.type_dict_setdefault (thn (V i s σ H _ I h) λu Z hq_=>?_);let⟨x,H1,K,rx,a,ex,d,q1⟩:=hq_;subst ex;obtain rfl:u=Value.ref a:=rx;let⟨t1,t2,_⟩:=km K d;show⟨t1,t2,?_⟩;rw[m.trees];show fU rfl (iH (eC (thn (W i Z σ H1 _ K q1) λiv s2 hq_=>?_)));let⟨y,H2,I2,ry,q2⟩:=hq_;show eC (thn (Y i s2 σ H2 _ I2 q2) λL B hq_=>?_);let⟨z,H3,t,M,g,k,b,ey,C,N,hl,g1,g2⟩:=hq_;show gD ?_;subst ey;cases (show iv=Value.ref b from ry);let⟨zz,O,xs,j,P⟩:=wCa t.hok C
 let hz:xs.length<=Sn:=by rw[<-dN j];show zz
 let⟨q0,_,_,D,E,R,_⟩:=id P;let n:B.TypeIs (.ref a) "dict":=⟨q0,D,E.1⟩;show cB fN n PySem.F.entry_dict_setdefault ?_ (PySem.F.args_dict_setdefault_3 _ _ _);unfold Builtin.«dict.setdefault»;show aA ?_;unfold Builtin.Dict.keyAndDefault;show aA (hJ n ?_);change Sm _ _ (pure (a,Value.ref b,Sa L)) _ _ B;show aC ?_;change Sm _ _ (if (a == SG)=Sc then _ else (dictSetDefault a (.ref b) L >>=_)) _ _ B;rw[if_neg (by rw[O];show aM)];show aA (qM7 (knd:=tupleKind (zb X.prog X.w)) (cZ U) (xz t.hok N) P hz (λp hp=>aC ⟨_,rfl,?_⟩) (λhn h' G hs=>aC ⟨_,rfl,?_⟩))
 .let r:=j.val k;rw[hp]at r;cases l:valV g k with
  |none=>rw[l]at r;show r.elim
  |some v=>rw[l]at r;show⟨v,H3,t.tok _,r,g1 v l⟩
 .let r:=j.val k;rw[hn]at r;let l:valV g k=Sb:=by
   cases l:valV g k with
   |none=>rfl
   |some v=>rw[l]at r;show r.elim
  let J:(putK g k z).length<=Sn:=by let:=xP g k z;lia
  let⟨q,es,ep,S,h2,h3,h4,_,h5⟩:=G;show⟨z,_,xX (ob:=.dT (putK g k z)) t (by rw[C];show True.intro) hs ⟨q,S⟩ ⟨J,O,_,(j.put k N M).keeps λc ys T=>?_,q,es,ep,S,h2,h3,h4,h5⟩,M,g2 l⟩;rw[zD (yY T C (λz=>nomatch z))];show T
theorem qRw{bs:List Bool}(c:∀i b,bs[i]? = Sa b->f i=b):(List.range bs.length).any f=bs.any id:=by
 rw[eR,cG,cG];constructor
 .rintro⟨i,a,h⟩;let a:=bH.mp a;let:=c i bs[i] (aF a);grind[fV]
 .rintro⟨b,d,h⟩;let⟨i,a,e⟩:=cO d;show⟨i,bH.mpr a,by simp_all⟩
def rAnyB(K:SH):List V->Hp->VK->Prop:=λxs H Q=>∃(a:Sf)(bs:List Bool),xs=[.ref a]/\SqL K H a (bs.map V.bl)/\Q (.bl (bs.any id)) H
theorem jr(w:X.A.handled=Sb):CallR X (.builtin "any") (rAnyB X.K):=by
 intro m s σ H G J Q I r h;let⟨a,bs,rfl,y,q⟩:=h;let⟨u,rfl,z⟩:=vals1 r;cases z;let⟨d,n,B,_⟩:=I.list y;let c:=n.length;rw[aB]at c;let g:=B.isList;let j:a≠s.heap.objs.size:=by let⟨o,e,_⟩:=g;show aP (aO e)
 let f:∀(i:Nat)(v:Se),d.toArray[i]? = Sa v->v=.bool (bs.getD i Sd):=λi v e=>by
  rw[fY]at e;let p:i<bs.length:=by rw[c];show(aD.mp e).1
  let⟨u,t,l⟩:=n.get (i:=i) (x:=V.bl bs[i]) (by rw[bA,aF p];rfl);rw[e]at t;cases t;let l:v=Value.bool bs[i]:=l;rw[l,bO,aF p];rfl
 show call_any_walk (wpAny_pyIter_list g ⟨_,_,_,_,_,_,λi=>bs.getD i Sd,rfl,Walks.list (by show w) _ a j d.toArray,⟨⟨_,aT _ rfl,rfl,rfl⟩,g.push _⟩,λi v s Q E C D=>?_,λL tk k=>?_⟩)
 .rw [f i v C];show gB D
 .let e:(List.range d.toArray.size).any (λi=>bs.getD i Sd)=bs.any id:=by
   rw[aX,<-c];show qRw λi b F=>by rw[bO,F];rfl
  rw[e];show⟨.bl (bs.any id),H,I.kept (t':=tk) (λb o e=>k b o (by simpa using aP (aO e)) (aG _ e)),rfl,q⟩
abbrev Pl:=Int×Int
noncomputable def plK(p:Pl):List Key:=[.inl p.1,.inl p.2]
theorem js(h:plK p=plK q):p=q:=by
 grind[plK]
def TK(H H':Hp):Prop:=∀b xs,H b=Sa (.tup xs)->H' b=Sa (.tup xs)
theorem TK.trans(a:TK H d)(b:TK d e):TK H e:=λc f h=>b c f (a c f h)
theorem Ext.tk(e:Ext [] H a):TK H a:=λb c h=>e b _ ∅ h
theorem TK.put{t:Sf}(h:∀ys,H t≠Sa (.tup ys)):TK H (upd H t o):=λb a e=>by
 grind[zD]
def PlAt(H:Hp)(v:V)(p:Pl):Prop:=∃b,v=.ref b/\H b=Sa (.tup [.int p.1,.int p.2])
def PlsAt(H:Hp):List V->List Pl->Prop:=Paired (PlAt H)
theorem PlsAt.mono(k:TK H a)(h:PlsAt H vs ps):PlsAt a vs ps:=Paired.mapP h λ_ _ ⟨b,e,q⟩=>⟨b,e,k _ _ q⟩
theorem PlsAt.len(h:PlsAt H vs ps):vs.length=ps.length:=dN h
theorem PlsAt.append(h:PlsAt H vs ps)(k:PlsAt H ws qs):PlsAt H (vs++ws) (ps++qs):=by
 induction h with
 |nil=>show k
 |cons a _ b=>show .cons a b
theorem PlsAt.one(h:H b=Sa (.tup [.int p.1,.int p.2])):PlsAt H [.ref b] [p]:=.cons ⟨b,rfl,h⟩ .nil
theorem PlsAt.get:∀ {vs:List V} {ps:List Pl} {i:Nat} {v:V},PlsAt H vs ps->vs[i]? = Sa v -> ∃p,ps[i]? = Sa p/\PlAt H v p
 |_,_,_,_,.nil,e=>by simp at e
 |_,_,0,_,.cons a _,e=>by simp at e;subst e;show⟨_,rfl,a⟩
 |_,_,i+1,v,.cons _ r,e=>by
  let⟨p,b,c⟩:=PlsAt.get (i:=i) (v:=v) r (by simpa using e);show⟨p,by simpa using b,c⟩
theorem PlsAt.last:∀{vs:List V}{ps:List Pl}{y:Pl},PlsAt H vs (ps++[y])->∃b v,vs=b++[v]/\PlsAt H b ps/\PlAt H v y:=by
 intro vs ps
 induction ps generalizing vs with
 |nil=>
  intro y h;cases h with
  |cons a r=>cases r;show⟨[],_,rfl,.nil,a⟩
 |cons p r c=>
  intro y h;cases h with
  |cons a t=>
   let⟨b,v,rfl,d,e⟩:=c t;show⟨_::b,v,rfl,.cons a d,e⟩
theorem PlsAt.den{K:SH}(h:PlsAt H vs ps):DenL K H (ps.map pairD) vs:=by
 induction h with
 |nil=>show .nil
 |cons a _ c=>obtain⟨b,e,q⟩:=a;subst e;show .cons (.tuple (SqT.of q) (.cons .int (.cons .int .nil))) c
inductive RT(N:Pl->List Pl)(a:Pl):Pl->Prop
 |refl:RT N a a
 |step {b c:Pl}:RT N a b->c∈N b->RT N a c
theorem RT.trans(d:RT N a b)(e:RT N b c):RT N a c:=by
 induction e with
 |refl=>show d
 |step _ f g=>show .step g f
theorem RT.back(h:∀p q,q∈N p↔p∈M q)(r:RT N a b):RT M b a:=by
 induction r with
 |refl=>show .refl
 |step _ c d=>show(RT.step .refl ((h _ _).mp c)).trans d
theorem RT.within{N:Pl->List Pl}{U:List Pl}{a b:Pl}(c:∀p∈U,∀q∈N p,q∈U)(d:a∈U)(r:RT N a b):b∈U:=by
 induction r<;>grind
def NexT(H:Hp)(nd:Sf)(N:Pl->List Pl):Prop:=∃kvs:List (List Key×V),H nd=Sa (.dT kvs)/\∀p:Pl,(valV kvs (plK p)=Sb/\N p=[])\/∃c vs,valV kvs (plK p)=Sa (.ref c)/\H c=Sa (.lst vs)/\PlsAt H vs (N p)
theorem NexT.mono(h:NexT H d N)(e:Ext [] H b):NexT b d N:=by
 let⟨a,f,g⟩:=h;show⟨a,e _ _ ∅ f,λp=>?_⟩;rcases g p with z|⟨c,i,j,k,l⟩
 .exact .inl z
 .exact .inr ⟨c,i,j,e _ _ ∅ k,l.mono e.tk⟩
noncomputable def trueD(ks:List Pl):List (List Key×V):=ks.map λp=>(plK p,V.bl Sc)
theorem wj(y:Pl):∀ks:List Pl,valV (trueD ks) (plK y)=if y∈ks then Sa (V.bl Sc) else Sb
 |[]=>rfl
 |k::r=>by
  let a:=wj y r;grind[trueD,yj,yk,js]
def qXn(K:SH):Sp:=λvs H Q _ => ∃(st nd:Sf) (svs:List V) (starts U:List Pl) (N:Pl->List Pl),vs = [.ref st,.ref nd]/\SqL K H st svs/\PlsAt H svs starts/\NexT H nd N/\(∀s∈starts,s∈U)/\(∀p∈U,∀q∈N p,q∈U)/\(∀p,(N p).length<=8000)/\U.length<=500/\starts.length<=8000 /\
 ∀(d:Sf)(ks:List Pl)(H':Hp),H d=Sb->Ext [] H H'->H' d=Sa (.dT (trueD ks))->ks.Nodup->(∀x,x∈ks ↔ ∃s∈starts,RT N s x)->Q (.ref d) H'
noncomputable def dword:Deed->Str
 |.set _ _=>"set"
 |.add _ _=>"add"
 |.tell _=>"tell"
 |.call _=>"call"
 |.save _=>"save"
 |.back _=>"back"
noncomputable def dargs:Deed->List Int
 |.set b n=>[b,n]
 |.add b o=>[b,o]
 |.tell b=>[b]
 |.call b=>[b]
 |.save b=>[b]
 |.back b=>[b]
noncomputable def darg:Deed->Int
 |.set b _=>b
 |.add b _=>b
 |.tell b=>b
 |.call b=>b
 |.save b=>b
 |.back b=>b
theorem wAl(d:Deed):deedD d=.tuple (.str (dword d)::(dargs d).map .int):=by cases d<;>rfl
theorem qQ1(d:Deed):∃r,dargs d=darg d::r:=by cases d<;>show⟨_,rfl⟩
theorem jt(d:Deed):inV (V.str (dword d)) [V.str "set",.str "add"]=(wr d).isSome:=by cases d<;>first|rfl|(change inV (V.str _) _=_;simp only[dword,wr];decide)
noncomputable def wrB(x:Int)(d:Deed):Bool:=(wr d).isSome&&decide (darg d=x)
noncomputable def um:Deed->Bool
 |.add _ _=>Sc
 |.tell _=>Sc
 |_=>Sd
theorem qUi(d:Deed):inV (V.str (dword d)) [V.str "add",.str "tell"]=um d:=by cases d<;>first|rfl|(change inV (V.str _) _=_;simp only[dword,um];decide)
noncomputable def rdB(x:Int)(d:Deed):Bool:=um d&&decide (x∈dargs d)
def KTup(K:SH)(wa:Sf)(xs:List V):Prop:=∃(o:Ss)(its:Array Se)(n:Nat),K.lookup wa=Sa o/\o.cls=.type "tuple"/\o.data=.seq its n/\its.size<=Sn/\Vals xs its.toList
abbrev qV1(K:SH)(wa:Sf):Prop:=KTup K wa [V.str "set",.str "add"]
abbrev qV2(K:SH)(wa:Sf):Prop:=KTup K wa [V.str "add",.str "tell"]
def xp(φ:Int->Deed->Bool)(K:SH):Sp:=λvs H Q _=>∃(v:V)(d:Deed)(x:Int),vs=[v,.int x]/\Den K H (deedD d) v/\∀H',Ext [] H H'->Q (.bl (φ x d)) H'
noncomputable def till(x:Int):List Deed->List Deed
 |[]=>[]
 |d::r=>if wrB x d=Sc then [d]else d::till x r
noncomputable def wrote(x:Int)(ds:List Deed):Bool:=ds.any (wrB x)
noncomputable def yT:Deed->Option Int
 |.call c=>Sa c
 |_=>Sb
noncomputable def wm(d:Deed):Bool:=(yT d).isSome
theorem qLj(d:Deed):decide (dword d="call")=wm d:=by
 cases d with
 |call c=>show decide_eq_true rfl
 |set _ _=>show decide_eq_false (show ¬("set" : Str)="call" by decide)
 |add _ _=>show decide_eq_false (show ¬("add" : Str)="call" by decide)
 |tell _=>show decide_eq_false (show ¬("tell" : Str)="call" by decide)
 |save _=>show decide_eq_false (show ¬("save" : Str)="call" by decide)
 |back _=>show decide_eq_false (show ¬("back" : Str)="call" by decide)
theorem qUs(d:Deed)(h:wm d=Sc):yT d=Sa (darg d):=by cases d<;>first|rfl|cases h
theorem wn(x:Int):∀a:List Deed,(till x a).length<=a.length
 |[]=>aI _
 |d::r=>by
  unfold till;split
  .simp
  .let:=wn x r;simp;lia
theorem qNf{x:Int}:∀ {a:List Deed},d∈till x a->d∈a
 :=by intro x;induction x<;>grind[till]
theorem qHm{x:Int}:∀ {a:List Deed} {i:Nat} {d:Deed},(∀e∈a.take i,wrB x e=Sd)->a[i]? = Sa d->wrB x d=Sc->till x a=a.take (i+1)
 |[],i,d,_,h,_=>by simp at h
 |e::r,0,d,_,h,hw=>by
  simp at h;subst h;unfold till;rw[if_pos hw];rfl
 |e::r,i+1,d,b,h,hw=>by
  unfold till;rw[if_neg (by rw[b e ∅];show aM),List.take_succ_cons];rw[qHm (i:=i) (d:=d) (λf c=>b f (by simp[c])) (by simpa using h) hw]
theorem qJy{x:Int}:∀ {a:List Deed},(∀e∈a,wrB x e=Sd)->till x a=a
 :=by intro x;induction x<;>grind[till]
noncomputable abbrev xL(ws:List (List Blk)):PyData:=.list (ws.map workD)
noncomputable def blkAt(ws:List (List Blk))(p:Pl):Option Blk:=if 0<=p.1/\0<=p.2 then (ws[p.1.toNat]?).bind λw=>w[p.2.toNat]? else Sb
noncomputable def vn(x:Int)(b:Blk):List Pl:=((till x b.ds).filterMap yT).map λc=>(c,0)
noncomputable def metB(x n:Int)(b:Blk):List Pl:=vn x b++(if wrote x b.ds=Sc then []else b.ns.map λt=>(n,t))
noncomputable def metOf(ws:List (List Blk))(x:Int)(p:Pl):List Pl:=match blkAt ws p with
 |none=>[]
 |some b=>metB x p.1 b
noncomputable def readB(x:Int)(b:Blk):Bool:=(till x b.ds).any (rdB x)
noncomputable def yQ(ws:List (List Blk))(x:Int)(p:Pl):Bool:=match blkAt ws p with
 |none=>Sd
 |some b=>readB x b
def Asks(ws:List (List Blk))(x:Int)(p:Pl):Prop:=∃q,RT (metOf ws x) p q/\yQ ws x q=Sc
structure WsOk(ws:List (List Blk)):Prop where
 all:∀w∈ws,∃m:Int,1<=m/\m<=12/\WorkOk m (ws.length:Int) w
 one:1<=ws.length
 few:ws.length<=25
theorem wL(b:List (List Blk))(n a:Nat):blkAt b ((n:Int),(a:Int))=(b[n]?).bind λw=>w[a]?:=by
 unfold blkAt;rw[if_pos ⟨∎,∎⟩];rfl
theorem ju(h:blkAt c p=Sa b):∃(n a:Nat)(w:List Blk),p=((n:Int),(a:Int))/\c[n]? = Sa w/\w[a]? = Sa b:=by
 unfold blkAt at h;split at h
 .rename_i d;cases e:c[p.1.toNat]? with
  |none=>rw[e]at h;cases h
  |some w=>
   rw[e]at h;show⟨p.1.toNat,p.2.toNat,w,?_,e,h⟩;rw[Int.toNat_of_nonneg d.1,Int.toNat_of_nonneg d.2]
 .cases h
noncomputable def places(ws:List (List Blk)):List Pl:=(List.range ws.length).flatMap λ(n:Nat)=>(List.range ((ws[n]?).getD []).length).map λ(a:Nat)=>((n:Int),(a:Int))
theorem mem_places:p∈places e ↔ ∃b,blkAt e p=Sa b:=by
 unfold places;rw[dX];constructor
 .rintro⟨n,d,g⟩;let⟨a,c,rfl⟩:=bC.mp g;rw[wL];let d:=bH.mp d;let c:=bH.mp c;rw[aF d]at c ⊢;show⟨_,aF c⟩
 .rintro⟨b,h⟩;let⟨n,a,w,rfl,f,c⟩:=ju h;show⟨n,bH.mpr (aD.mp f).1,bC.mpr ⟨a,bH.mpr ?_,rfl⟩⟩;rw[f];show(aD.mp c).1
theorem WsOk.blk(h:WsOk c)(f:blkAt c p=Sa b):∃(m:Int)(n:Nat)(w:List Blk),p.1=(n:Int)/\c[n]? = Sa w/\(w.length:Int)=m/\1<=m/\m<=12/\BlkOk m (c.length:Int) b:=by
 let⟨n,a,w,rfl,d,g⟩:=ju f;let⟨m,i,j,e⟩:=h.all w (aK d);show⟨m,n,w,rfl,d,e.len,i,j,e.blk b (aK g)⟩
theorem qTk(h:WsOk a){x:Int}(g:q∈metOf a x p):q∈places a:=by
 unfold metOf at g;split at g
 .cases g
 .rename_i b o;let⟨m,n,w,r,s,D,u,v,f⟩:=h.blk o;unfold metB at g;rcases aL.mp g with z|z
  .unfold vn at z;let⟨c,y,rfl⟩:=bC.mp z;let⟨d,A,e⟩:=fW.mp y;let i:=f.ds d (qNf A);let j:0<=c/\c<(a.length:Int):=by
    cases d with
    |call E=>cases e;show i
    |set _ _=>cases e
    |add _ _=>cases e
    |tell _=>cases e
    |save _=>cases e
    |back _=>cases e
   let⟨k,rfl⟩:=dZ j.1;let l:k<a.length:=by lia
   show mem_places.mpr ?_;let:=wL a k 0;change ∃b,blkAt a ((k:Int),((0:Nat):Int))=Sa b;rw[this,aF l];let⟨F,G,H,B⟩:=h.all a[k] (fV l);let I:=B.len;show⟨_,aF ∎⟩
  .split at z
   .cases z
   .let⟨t,C,rfl⟩:=bC.mp z;let J:=f.ns.range t C;let⟨k,rfl⟩:=dZ (show 0<=t by lia);show mem_places.mpr ?_;rw[r,wL,s];show⟨_,aF ∎⟩
theorem jv(h:WsOk c)(x:Int)(p:Pl):(metOf c x p).length<=22:=by
 unfold metOf;split
 .exact bG _
 .rename_i b d;let⟨m,n,w,g,i,j,e,f,a⟩:=h.blk d;unfold metB vn;let k:=eQ yT (till x b.ds);let l:=wn x b.ds;let o:=a.few;let q:=a.ns.few;rw[aJ,aB];split
  .simp;lia
  .rw [aB];lia
theorem qI0(h:WsOk b):(places b).length<=300:=by
 unfold places;let key:∀l:List Nat,(∀n∈l,n<b.length)->(l.flatMap λ(n:Nat)=>(List.range ((b[n]?).getD []).length).map λ(a:Nat)=>((n:Int),(a:Int))).length<=12*l.length:=by
  intro l
  induction l with
  |nil=>simp
  |cons n r f=>
   intro d;rw[eB,aJ,aB,cR,bU];let e:=f λm g=>d m (aS _ g);let c:=d n (aW ..);rw[aF c];let⟨j,k,o,i⟩:=h.all b[n] (fV c);let p:=i.len;grind
 let e:=key (List.range b.length) λn c=>bH.mp c;rw[cR]at e;let:=h.few;lia
def qNt(K:SH):Sp:=λvs H Q _ => ∃(wa:Sf) (ws:List (List Blk)) (n b:Nat) (x:Int),vs = [.ref wa,.int n,.int b,.int x]/\Den K H (xL ws) (.ref wa)/\WsOk ws/\((n:Int),(b:Int))∈places ws /\
 ∀(l:Sf)(us:List V)(H':Hp),H l=Sb->Ext [] H H'->H' l=Sa (.lst us)->PlsAt H' us (metOf ws x ((n:Int),(b:Int)))->Q (.ref l) H'
structure NexK(H:Hp)(nd:Sf)(N:Pl->List Pl)(ok:Sf->Prop)(k:Nat)(kvs:List (List Key×V)):Prop where
 at_:H nd=Sa (.dT kvs)
 few:kvs.length<=k
 all:∀p:Pl,(valV kvs (plK p)=Sb/\N p=[])\/∃c vs,valV kvs (plK p)=Sa (.ref c)/\ok c/\H c=Sa (.lst vs)/\PlsAt H vs (N p)
 one:∀(p q:Pl)(c:Sf),valV kvs (plK p)=Sa (.ref c)->valV kvs (plK q)=Sa (.ref c)->p=q
def NexB(H:Hp)(nd:Sf)(N:Pl->List Pl)(ok:Sf->Prop)(k:Nat):Prop:=∃kvs,NexK H nd N ok k kvs
theorem NexK.mono{ok:Sf->Prop}{k:Nat}(h:NexK H b N ok k kvs)(e:Ext ts H a)(f:b∉ts)(g:∀t∈ts,¬ok t)(tk:TK H a):NexK a b N ok k kvs:=by
 show⟨e _ _ f h.at_,h.few,λp=>?_,h.one⟩;rcases h.all p with z|⟨c,i,j,d,l,m⟩
 .exact .inl z
 .exact .inr ⟨c,i,j,d,e _ _ (λz=>g c z d) l,m.mono tk⟩
theorem NexB.mono{ok:Sf->Prop}{k:Nat}(h:NexB H b N ok k)(e:Ext ts H a)(d:b∉ts)(f:∀t∈ts,¬ok t)(tk:TK H a):NexB a b N ok k:=let ⟨c,z⟩:=h;⟨c,z.mono e d f tk⟩
theorem NexB.toT{ok:Sf->Prop}{k:Nat}(h:NexB H b N ok k):NexT H b N:=by
 let⟨a,z⟩:=h;show⟨a,z.at_,λp=>?_⟩;rcases z.all p with y|⟨c,d,e,_,f,g⟩
 .exact .inl y
 .exact .inr ⟨c,d,e,f,g⟩
noncomputable def snocN(N:Pl->List Pl)(q p:Pl):Pl->List Pl:=λr=>if r=q then N r++[p]else N r
theorem NexK.app{d c pt:Sf}{ok:Sf->Prop}{k:Nat}(h:NexK H d N ok k kvs)(a:valV kvs (plK q)=Sa (.ref c))(l:H c=Sa (.lst vs))(m:PlsAt H vs (N q))(o:H pt=Sa (.tup [.int p.1,.int p.2])):NexK (upd H c (.lst (vs++[.ref pt]))) d (snocN N q p) ok k kvs:=by
 let tk:TK H (upd H c (.lst (vs++[.ref pt]))):=.put (by intro v z;rw[l]at z;cases z);let s:d≠c:=yY h.at_ l (by intro z;cases z);show⟨by rw[zD s];show h.at_,h.few,λr=>?_,h.one⟩;unfold snocN;by_cases e:r=q
 .subst e;rw[if_pos rfl];let f:ok c:=by
   rcases h.all r with z|⟨g,_,b,i,_⟩
   .rw [z.1]at a;cases a
   .rw [b]at a;cases a;show i
  show .inr ⟨c,vs++[.ref pt],a,f,zB,(m.mono tk).append (.one (tk _ _ o))⟩
 .rw [if_neg e];rcases h.all r with z|⟨g,j,b,i,t,u⟩
  .exact .inl z
  .let n:g≠c:=λz=>e (h.one r q c (z▸b) a);show .inr ⟨g,j,b,i,by rw[zD n];show t,u.mono tk⟩
theorem NexK.new{g a:Sf}{ok:Sf->Prop}{k:Nat}(h:NexK H g N ok k kvs)(j:valV kvs (plK q)=Sb)(l:H a=Sa (.lst []))(t:ok a)(m:∀(p:Pl)(c:Sf),valV kvs (plK p)=Sa (.ref c)->c≠a):NexK (upd H g (.dT (putK kvs (plK q) (.ref a)))) g N ok (k+1) (putK kvs (plK q) (.ref a)):=by
 let tk:TK H (upd H g (.dT (putK kvs (plK q) (.ref a)))):=.put (by intro w z;rw[h.at_]at z;cases z);let u:N q=[]:=by
  rcases h.all q with z|⟨c,n,d,_⟩
  .exact z.2
  .rw [d]at j;cases j
 let i:a≠g:=yY l h.at_ (by intro z;cases z);show⟨zB,by let:=xP kvs (plK q) (V.ref a);let:=h.few;lia,λr=>?_,λr s c b e=>?_⟩
 .by_cases b:r=q
  .subst b;show .inr ⟨a,[],by rw[xx,if_pos rfl],t,by rw[zD i];show l,by rw[u];show .nil⟩
  .rw [xx,if_neg (λz=>b (js z))];rcases h.all r with z|⟨c,n,d,f,o,v⟩
   .exact .inl z
   .exact .inr ⟨c,n,d,f,by rw[zD (yY o h.at_ (by intro z;cases z))];show o,v.mono tk⟩
 .rw [xx]at b e;by_cases d:plK r=plK q
  .by_cases f:plK s=plK q
   .exact js (d.trans f.symm)
   .rw [if_pos d]at b;rw[if_neg f]at e;cases b;show absurd rfl (m s a e)
  .rw [if_neg d]at b;by_cases f:plK s=plK q
   .rw [if_pos f]at e;cases e;show absurd rfl (m r a b)
   .rw [if_neg f]at e;show h.one r s c b e
noncomputable def yW(ws:List (List Blk))(x:Int)(ps:List Pl)(q:Pl):List Pl:=ps.flatMap λp=>((metOf ws x p).filter λr=>decide (r=q)).map λ_=>p
noncomputable def yf(ws:List (List Blk))(x:Int)(ps:List Pl)(p:Pl)(ms:List Pl)(q:Pl):List Pl:=yW ws x ps q++(ms.filter λr=>decide (r=q)).map λ_=>p
theorem qJo(a:List (List Blk))(x:Int)(ps:List Pl)(p:Pl)(ms:List Pl)(r:Pl):yf a x ps p (ms++[r])=snocN (yf a x ps p ms) r p:=by
 grind[yf,snocN]
theorem qLz(a:List (List Blk))(x:Int)(ps:List Pl)(p:Pl):yf a x ps p []=yW a x ps:=by
 funext q;unfold yf;simp
theorem qJp(a:List (List Blk))(x:Int)(ps:List Pl)(p:Pl):yf a x ps p (metOf a x p)=yW a x (ps++[p]):=by
 funext q;unfold yf yW;rw[fT];simp
theorem mem_behind{x:Int}:p∈yW d x ps q↔p∈ps/\q∈metOf d x p:=by
 simp_all[yW]
theorem qWn{x:Int}(h:q∈metOf a x p):p∈places a:=by
 show mem_places.mpr ?_;grind[metOf]
theorem jw(h:WsOk a)(x:Int)(q:Pl):∀ps:List Pl,(yW a x ps q).length<=22*ps.length
 :=by intro x;induction x<;>grind[yW,jv]
theorem qUy{x:Int}:(∃s∈(places a).filter (yQ a x),RT (yW a x (places a)) s p)↔Asks a x p:=by
 let d:∀p q,q∈metOf a x p↔p∈yW a x (places a) q:=λp q=>by
  grind[mem_behind,qWn]
 let e:∀p q,q∈yW a x (places a) p↔p∈metOf a x q:=λp q=>(d q p).symm;constructor
 .rintro⟨s,f,r⟩;show⟨s,r.back e,(bN.mp f).2⟩
 .rintro⟨q,r,c⟩;show⟨q,bN.mpr ⟨mem_places.mpr ?_,c⟩,r.back d⟩;grind[yQ]
def qR3(K:SH):Sp:=λvs H Q _ => ∃(wa:Sf) (ws:List (List Blk)) (x:Int),vs = [.ref wa,.int x]/\Den K H (xL ws) (.ref wa)/\WsOk ws /\
 ∀(d:Sf)(ks:List Pl)(H':Hp),H d=Sb->Ext [] H H'->H' d=Sa (.dT (trueD ks))->ks.Nodup->(∀p,p∈ks↔Asks ws x p)->Q (.ref d) H'
noncomputable def wAn(X:Cx)(own:List Str)(cap:List Nat)(scope:Su)(y:Str)(cl:List (Str×Sf))(s:Sg)(H:Hp)(ex:List Sf):Cx:=
 {zP X own cap scope ((y,s.heap.objs.size+1)::cl) s H ex with fn:=λx=>x == y}
theorem yC:(wAn X a b scope y c s H ex).K=X.K:=rfl
noncomputable def askB(ws:List (List Blk))(x:Int)(p:Pl):Bool:=@decide (Asks ws x p) (Classical.propDecidable _)
theorem askB_iff{x:Int}:askB a x p=Sc↔Asks a x p:=by grind[askB]
theorem uo(x:Int)(a:List Deed)(d:Deed):wrote x (a++[d])=(wrote x a||wrB x d):=by unfold wrote;simp
theorem qGd{x:Int}(h:wrote x a=Sd):∀e∈a,wrB x e=Sd:=by
 grind[wrote]
theorem jx{x:Int}:∀ {a:List Deed},wrote x a=Sd->till x (a ++ [d])=till x a ++ [d]
 :=by intro x;induction x<;>grind[till,wrote]
theorem jy{x:Int}:∀ {b es:List Deed},wrote x b=Sc->till x (b++es)=till x b
 :=by intro x;induction x<;>grind[till,wrote]
theorem qVg{x:Int}{j:Nat}(h:wrote x (ds.take j)=Sd)(hd:ds[j]? = Sa d):d∈till x ds:=by
 let e:ds=(ds.take j++[d])++ds.drop (j+1):=by
  rw[<-zc hd,List.take_append_drop]
 let l:=jx (d:=d) h;by_cases k:wrB x d=Sc
 .let g:wrote x (ds.take j++[d])=Sc:=by rw[uo,h,k];rfl
  rw[e,jy g,l];simp
 .let all:∀(b bs:List Deed),wrote x b=Sd->∀f∈b,f∈till x (b++bs):=by
   intro b bs
   induction b with
   |nil=>intro _ f i;cases i
   |cons a r m=>
    intro c f i;let n:=qGd c a ∅;let o:wrote x r=Sd:=by unfold wrote at c ⊢;simp at c ⊢;show c.2
    simp only[List.cons_append,till];rw[if_neg (by rw[n];show aM)];rcases aN.mp i with z|z
    .rw [z];show aW ..
    .exact aS _ (m o f z)
  let g:wrote x (ds.take j++[d])=Sd:=by rw[uo,h,Bool.eq_false_iff.mpr k];rfl
  rw[e];show all _ _ g d ∅
theorem qJd(ps:List (Int×Int)):PyData.eqv (wG ps) (.list [])=decide (ps=[]):=by
 cases ps with
 |nil=>rfl
 |cons p r=>rfl
def qK7(K:SH):Sp:=λvs H Q _=>∃(wa:Sf)(ws:List (List Blk))(n b:Nat)(x:Int),vs=[.ref wa,.int n,.int b,.int x]/\Den K H (xL ws) (.ref wa)/\WsOk ws/\((n:Int),(b:Int))∈places ws/\∀H',Ext [] H H'->Q (.bl (askB ws x ((n:Int),(b:Int)))) H'
theorem qEy:typeLookup (.type "dict") "__len__"=pure (Sa (.builtin "dict.__len__")):=F.slot_dict_len.lookup
theorem qJj{ks:List Int}{kvs:List (Key×Se)}{ep:Nat}{Q:List Se->Sg->Prop}(hh:A.handled=Sb)(hs:(d == SG)=Sd)(dd:s.heap.DictAt (zb P w) d kvs ep)(hk:kvs.map (·.1)=ks.map Sum.inl)(hz:ks.length<=1000)(q:∀(vs:List Se)(h':Sk)(tk:Nat),(∀b u,s.heap.get? b=Sa u->h'.get? b=Sa u)->s.heap.objs.size<=h'.objs.size->IntsAre vs ks->Q vs {s with heap:=h',toks:=tk}):Sm (So P w) A (collect (.ref d)) Q E s:=by
 let G:kvs.length=ks.length:=by let:=congrArg List.length hk;simpa using this
 unfold collect;show aA (wpAny_runValue (cY F.entry_proto_collect ?_));rw[cF F.plain_proto_collect _];change Sm _ A.in1 (newList [] >>=λl=>again (.builtin "list.__iadd__" ⟨[l,.ref d],[]⟩)) _ _ s;show aA (bW ?_);show aC ⟨eJ F.plain_list_iadd _,cY F.entry_list_iadd ?_⟩;rw[cF F.plain_list_iadd _];let k1:∀b u,s.heap.get? b=Sa u->(s.heap.push {cls:=.type "list",data:=.seq ([]:List Se).toArray}).get? b=Sa u:=λb u e=>aG _ e;let g:=dd.at' (h':=s.heap.push {cls:=.type "list",data:=.seq ([]:List Se).toArray}) λo e=>k1 d o e;let hT:Shared.TypeIs {s with heap:=s.heap.push {cls:=.type "list",data:=.seq ([]:List Se).toArray}} (.ref d) "dict":=g.dictOf.typeIs
 let j:d<s.heap.objs.size:=by let⟨o,es,ho,_⟩:=dd;show aO ho
 change Sm _ A.in1 (Builtin.List.listExtendWith (.ref s.heap.objs.size) (.ref d) (.ref s.heap.objs.size)) _ _ _;unfold Builtin.List.listExtendWith;show aA (eV hT ?_);let R:Builtin.List.listSameRef (.ref s.heap.objs.size) (.ref d)=Sd:=by simp[Builtin.List.listSameRef];show cJ j
 let V:(Value.type "dict" == Value.type "list")=Sd:=by decide
 let h3:(Value.type "dict" == Value.type "tuple")=Sd:=by decide
 simp only[R,V,h3,Bool.or_false,bL,if_false];show aA (wpAny_pyIter_dict hs g ?_);rw[show({s with heap:=s.heap.push {cls:=.type "list",data:=.seq ([]:List Se).toArray}}:Sg).heap.objs.size=s.heap.objs.size+1 from dH ..];let S:∀b u,(s.heap.push {cls:=.type "list",data:=.seq ([]:List Se).toArray}).get? b=Sa u->((s.heap.push {cls:=.type "list",data:=.seq ([]:List Se).toArray}).push {cls:=.type "dict_keyiterator",data:=.fields #[.ref d,.int 0 0,.int kvs.length 0,.int ep 0]}).get? b=Sa u:=λb u e=>aG _ e;let H:((s.heap.push {cls:=.type "list",data:=.seq ([]:List Se).toArray}).push {cls:=.type "dict_keyiterator",data:=.fields #[.ref d,.int 0 0,.int kvs.length 0,.int ep 0]}).IsKeyIter (s.heap.objs.size+1) d 0 kvs.length ep:=by
  let:=aT (h:=s.heap.push {cls:=.type "list",data:=.seq ([]:List Se).toArray}) (o:={cls:=.type "dict_keyiterator",data:=.fields #[.ref d,.int 0 0,.int kvs.length 0,.int ep 0]}) rfl;rw[dH]at this;show⟨_,this,rfl,rfl⟩
 let m:=g.at' λo e=>S d o e;let p:=S _ _ (aT (h:=s.heap) (o:={cls:=.type "list",data:=.seq ([]:List Se).toArray}) rfl);generalize (s.heap.push {cls:=.type "list",data:=.seq ([]:List Se).toArray}).push {cls:=.type "dict_keyiterator",data:=.fields #[.ref d,.int 0 0,.int kvs.length 0,.int ep 0]}=h' at S H m p ⊢;let B:Shared.TypeIs {s with heap:=h'} (.ref d) "dict":=m.dictOf.typeIs;show aA (bK ?_);unfold Builtin.List.listLengthHint;show aA (gW B qEy ?_);let X:splitId "dict.__len__"=Sa ("dict","__len__"):=by kernel_rfl
 dsimp only;rw[X];dsimp only;show aA (eW (b:=Sc) B (by rw[isSubtype_type];kernel_rfl) ?_);rw[if_neg ∅];rw[if_pos (by decide +kernel)];show aA (eV B (aC ?_));rw[if_pos (by decide +kernel)];show aA (dF ?_);show aA ?_;change Sm _ A.in1 (updateSeq s.heap.objs.size (·.push .none) >>=λ_=>updateSeq s.heap.objs.size (·.pop)) _ _ _;show aA (eI (s:={s with heap:=h'}) p rfl ?_);let I:=bQ (Obj.mapSeq (·.push Value.none)) p rfl;show eI I rfl ?_;let Y:=bQ (Obj.mapSeq (·.pop)) I rfl;let J:∀b u,b≠s.heap.objs.size->h'.get? b=Sa u->((h'.update s.heap.objs.size (Obj.mapSeq (·.push Value.none))).update s.heap.objs.size (Obj.mapSeq (·.pop))).get? b=Sa u:=
  λb u T e=>(bT _ _ (cC T)).trans ((bT _ _ (cC T)).trans e)
 let Z:d≠s.heap.objs.size+1:=aP (eN j);let K:s.heap.objs.size∉[s.heap.objs.size+1,d]:=λz=>by
  rcases aN.mp z with z|z
  .exact aP (dD _) z
  .let:s.heap.objs.size=d:=by simpa using z
   show cJ j this
 let a0:kvs.length<=Sn:=by rw[G,cK];lia
 let W:=(Walks.dictKeys (prog:=P) (w:=w) (A:=A.in1) (knd:=zb P w) hh (s.heap.objs.size+1) d Z kvs ep).toS;show aC ⟨eJ F.plain_extend_loop _,codeAny_extend_loopS W a0 _ K _ kvs.length 0 _ _ _ rfl (bG _) (W.frame 0 ({s with heap:=h'}:Sg) _ s.toks ⟨H,m⟩ (aI _) λb T u e=>J b u (λz=>K (z▸T)) e) Y (ItemsOf.nil _) λs' a c' U L c=>?_⟩;change Sm _ A (load s.heap.objs.size >>=_) _ _ s';show aA (wpAny_load L (aC ?_));let⟨V,g2,d2,a1,a2⟩:=s';let f:g2=s.gens:=U.gens;let D:d2=s.drawn:=U.drawn;let e3:a2=s.os:=U.os;subst f;subst D;subst e3;show q a.toList V a1 (λb u e=>?_) (cW (aO L)) ?_
 .let C:=aO e;show U.heap b u (λz=>?_) (J b u (aP C) (S b u (k1 b u e)));rcases aN.mp z with z|z
  .exact aP C z
  .let z2:b=s.heap.objs.size+1:=by simpa using z
   show aP (eN C) z2
 .let M:a.toList.length=ks.length:=by rw[aQ,c.1,G]
  let N:∀(i:Nat)(v:Se),a.toList[i]? = Sa v->∃n t,ks[i]? = Sa n/\v=.int n t:=λi v e=>by
   let⟨k,x,a3,a4⟩:=c.2 i v (by rw[<-bF];show e);let O:(kvs.map (·.1))[i]? = Sa k:=by rw[bA,a3];rfl
   rw[hk,bA]at O;cases hn:ks[i]? with
   |none=>rw[hn]at O;cases O
   |some n=>
    rw[hn]at O;let h6:k=Sum.inl n:=(bB O).symm;subst h6;rcases yz (show keyIs (Sum.inl n) v=Sc from a4)with ⟨i',t,f,D⟩|⟨y,t,f,D⟩
    .let f:n=i':=by first|show gG f|show gG D
     subst f;show⟨n,t,rfl,by first|show D|show f⟩
    .first|show nomatch f|show nomatch D
  let a5:∀(ks:List Int)(vs:List Se),vs.length=ks.length->(∀(i:Nat)(v:Se),vs[i]? = Sa v->∃n t,ks[i]? = Sa n/\v=.int n t)->IntsAre vs ks:=by
   intro ks
   induction ks with
   |nil=>intro vs h _;let:vs=[]:=gI.mp h;subst this;show .nil
   |cons k r ih=>
    intro vs h hg;cases vs with
    |nil=>cases h
    |cons v vr=>
     let⟨n,t,R,rfl⟩:=hg 0 v rfl;simp at R;subst R;show .cons _ t (ih vr (by simpa using h) λi v hv=>by simpa using hg (i+1) v (by simpa using hv))
  show a5 ks a.toList M N
theorem qKc{ks:List Int}{kvs:List (Key×Se)}{ep:Nat}{Q:Se->Sg->Prop}(n:A.handled=Sb)(o:(d == SG)=Sd)(p:s.heap.DictAt (zb P w) d kvs ep)(r:kvs.map (·.1)=ks.map Sum.inl)(h:ks.length<64)
  (q:∀(D:Sf)(out:Array Se)(c:Nat)(a:List Int)(h':Sk)(tk:Nat),s.heap.objs.size<=D->h'.get? D=Sa {cls:=.type "list",data:=.seq out c}->(∀b u,s.heap.get? b=Sa u->h'.get? b=Sa u)->IntsAre out.toList a->a.Perm ks->a.Pairwise (·<=·)->Q (.ref D) {s with heap:=h',toks:=tk}) :
  Sm (So P w) A (call (.builtin "sorted") [.ref d]) Q E s:=by
 show iK kind_sorted plain_sorted entry_sorted (args_sorted1 _) ?_;unfold Builtin.«sorted»;show aA (m:=checkCount "sorted" 1 1 _) (aC ?_);show aA (qJj (A:=A.in1) n o p r ∎ λg h' tk k i l=>?_);let j:g.length<64:=by rw[IntsAre.length l];show h
 show aA (wpAny_newList ?_ (by rw[cK];lia));let f:(h'.push (seqObj "list" g.toArray 0)).get? h'.objs.size=Sa (seqObj "list" g.toArray 0):=aT _ rfl;show aA (bK (cB slot_list_sort (s:={s with heap:=h'.push (seqObj "list" g.toArray 0),toks:=tk}) ⟨_,f,rfl⟩ entry_list_sort (list_sort_tree f l j λout a t v x=>⟨_,rfl,?_⟩) (args_list_sort _)));obtain⟨⟨c,y⟩,z,_⟩:=qHt (out:=out) f;show aC ⟨_,rfl,q h'.objs.size out c a _ tk i y (λb u e=>z b u (aP (aO (k b u e))) (aG _ (k b u e))) t v x⟩
def wBk:List V->Hp->VK->Prop:=λxs H Q=>∃(d:Sf)(ks:List Int)(kvs:List (Key×V)),xs=[.ref d]/\H d=Sa (.dK kvs)/\kvs.map (·.1)=ks.map Sum.inl/\ks.length<64/\∀(l:Sf)(ns':List Int),H l=Sb->ns'.Perm ks->ns'.Pairwise (·<=·)->Q (.ref l) (upd H l (.lst (ns'.map V.int)))
theorem qIe(n:X.A.handled=Sb):CallR X (.builtin "sorted") wBk:=by
 intro j s σ H P R Q I r h;let⟨d,S,p,rfl,t,g,v,q⟩:=h;let⟨u,rfl,x⟩:=vals1 r;cases x;let⟨z,y,B,b,o,C,E,F,G,J,K⟩:=xk I.hok t;let L:s.heap.DictAt (zb X.prog X.w) d B E:=⟨o,C,F,G,J,K⟩;show qKc n y L (by grind[KV.keys]) v λD e c a T tk l f k M m N=>?_;let O:H D=Sb:=I.hok.fresh l;let i:Vals (a.map V.int) e.toList:=uM M;show⟨.ref D,_,I.laid (t':=tk) (o:=.lst (a.map V.int)) k l ⟨?_,e.toList,c,i,by simp_all⟩,rfl,q _ a O m N⟩;rw[aB,m.length_eq,cK];lia
def rSumI(K:SH):List V->Hp->VK->Prop:=λxs H Q=>∃(a:Sf)(ns:List Int),xs=[.ref a]/\SqL K H a (ns.map V.int)/\Q (.int ns.sum) H
theorem qLr(j:X.A.handled=Sb):CallR X (.builtin "sum") (rSumI X.K):=by
 intro f s σ H b v Q I r h;let⟨a,c,rfl,k,q⟩:=h;let⟨u,rfl,l⟩:=vals1 r;cases l;let⟨d,m,n,_⟩:=I.list k;let g:=xw m;let⟨b,i⟩:=g.allInts.items;let e:s.heap.IsList a (intItems b):=i▸n.isList;show sum_intListG j e λw tk t' o=>?_;let p:c=b.toList.map (·.1):=by
  rw[<-nums_intItems,<-i];show(show numsOf d.toArray.toList=c from g.numsOf).symm
 let t:preSum (numAt b) b.size=c.sum:=by rw[preSum_eq,dM ∅,p]
 rw[t];show⟨.int c.sum,H,I.kept (t':=tk) o,⟨t',rfl⟩,q⟩
def NexG(H:Hp)(nd:Sf)(N:Int->List Int):Prop:=∃kvs:List (Key×V),H nd=Sa (.dK kvs)/\∀k:Int,(valV kvs (Sum.inl k)=Sb/\N k=[])\/∃c,valV kvs (Sum.inl k)=Sa (.ref c)/\H c=Sa (.lst ((N k).map V.int))
theorem NexG.mono(h:NexG H d N)(e:Same H b):NexG b d N:=by
 let⟨a,f,g⟩:=h;show⟨a,e _ _ f,λk=>(g k).imp id λ⟨c,i,j⟩=>⟨c,i,e _ _ j⟩⟩
def Nex(H:Hp)(nd:Sf)(w:List Blk):Prop:=∃kvs:List (Key×V),H nd=Sa (.dK kvs)/\∀k:Int,(valV kvs (Sum.inl k)=Sb/\¬(0<=k/\k<w.length))\/∃c,valV kvs (Sum.inl k)=Sa (.ref c)/\H c=Sa (.lst ((nxt w k).map V.int))
theorem Nex.g(h:Nex H f w)(e:Same H d):NexG d f (nxt w):=by
 let⟨c,i,j⟩:=h;show NexG.mono ⟨c,i,λk=>(j k).imp (λ⟨a,b⟩=>⟨a,wA7 b⟩) id⟩ e
theorem wq(y:Int):∀ks:List Int,valV (ks.map λk=>((Sum.inl k:Key),V.bl Sc)) (Sum.inl y)=if y∈ks then Sa (V.bl Sc) else Sb
 |[]=>rfl
 |k::r=>by
  let a:=wq y r;grind[yj,yk]
def qXo(K:SH):Sp:=λvs H Q _ => ∃(st nd:Sf) (N:Int->List Int) (ss U:List Int),vs = [.ref st,.ref nd]/\(SqL K H st (ss.map V.int)\/SqT K H st (ss.map V.int))/\NexG H nd N/\(∀s∈ss,s∈U)/\(∀x∈U,∀y∈N x,y∈U)/\U.length<=100/\(∀x,(N x).length<=400)/\ss.length<=100 /\
 ∀(d:Sf)(ks:List Int)(H':Hp),H d=Sb->Ext [] H H'->H' d=Sa (.dK (ks.map λk=>((Sum.inl k:Key),V.bl Sc)))->ks.Nodup->(∀x,x∈ks ↔ ∃s∈ss,Reach N s x)->Q (.ref d) H'
structure LedGI(H:Hp)(d du:Sf)(N:Int->List Int)(ss U ks due:List Int)(H':Hp):Prop where
 ext:Ext [] H H'
 hd:H' d=Sa (.dK (ks.map λk=>((Sum.inl k:Key),V.bl Sc)))
 hdu:H' du=Sa (.lst (due.map V.int))
 nod:ks.Nodup
 rk:∀x∈ks,∃s∈ss,Reach N s x
 rd:∀x∈due,∃s∈ss,Reach N s x
 clo:∀k∈ks,∀c∈N k,c∈ks\/c∈due
 one:∀s∈ss,s∈ks\/s∈due
 sU:∀k∈ks,k∈U
 fewd:due.length<=100+400*ks.length
theorem LedGI.end_(h:LedGI H d e N a U ks [] c)(x:Int):x∈ks ↔ ∃s∈a,Reach N s x:=by
 let key:∀s∈a,∀y,Reach N s y->y∈ks:=by
  intro s b y r
  induction r with
  |refl=>show(h.one s b).elim id λz=>absurd z ∅
  |step _ f g=>show(h.clo _ g _ f).elim id λz=>absurd z ∅
 show⟨h.rk x,λ⟨s,b,r⟩=>key s b x r⟩
theorem uq{N:Int->List Int}{U:List Int}(b:∀x∈U,∀y∈N x,y∈U){a x:Int}(c:a∈U)(r:Reach N a x):x∈U:=by
 induction r<;>grind
def ur(K:SH):Sp:=λvs H Q E=>qXo K vs H Q E\/qXn K vs H Q E
noncomputable def hasW(wk:List Blk)(x:Int)(i:Nat):Bool:=(wk[i]?).any λb=>wrote x b.ds
noncomputable def wrTo(wk:List Blk)(x:Int)(i:Nat):List Int:=((List.range i).filter (hasW wk x)).map λ(n:Nat)=>(n:Int)
theorem qJv(a:List Blk)(x:Int)(i:Nat):wrTo a x (i+1)=if hasW a x i=Sc then wrTo a x i++[(i:Int)]else wrTo a x i:=by
 unfold wrTo;rw[fH,cD,eX,fI];split
 .rw [aH];rfl
 .rw [bS]
theorem xg(a:List Blk)(x:Int)(i:Nat):(wrTo a x i).length<=i:=by
 grind[wrTo]
theorem qU9{x:Int}{i:Nat}(h:a[i]? = Sa b):hasW a x i=wrote x b.ds:=by unfold hasW;rw[h];rfl
theorem mem_wrTo{x y:Int}{i:Nat}:y∈wrTo c x i ↔ ∃n:Nat,y=(n:Int)/\n<i/\hasW c x n=Sc:=by
 grind[wrTo]
def wM(K:SH):Sp:=λvs H Q _ => ∃(wa:Sf) (wk:List Blk) (m works x:Int),vs = [.ref wa,.int x]/\Den K H (workD wk) (.ref wa)/\WorkOk m works wk/\m<=12 /\
 ∀(l:Sf)(H':Hp),H l=Sb->Ext [] H H'->H' l=Sa (.lst ((wrTo wk x wk.length).map V.int))->Q (.ref l) H'
noncomputable def waitTo(ws:List (List Blk))(x:Int)(n i:Nat):List Int:=((List.range i).filter λ(a:Nat)=>askB ws x ((n:Int),(a:Int))).map λ(a:Nat)=>(a:Int)
theorem qGg(a:List (List Blk))(x:Int)(n i:Nat):waitTo a x n (i+1)=if askB a x ((n:Int),(i:Int))=Sc then waitTo a x n i++[(i:Int)]else waitTo a x n i:=by
 unfold waitTo;rw[fH,cD,eX,fI];split
 .rw [aH];rfl
 .rw [bS]
theorem qP7(b:List (List Blk))(x:Int)(n i:Nat):(waitTo b x n i).length<=i:=by
 grind[waitTo]
def qKa(K:SH):Sp:=λvs H Q _ => ∃(wa:Sf) (ws:List (List Blk)) (n:Nat) (wk:List Blk) (x:Int),vs = [.ref wa,.int n,.int x]/\Den K H (xL ws) (.ref wa)/\WsOk ws/\ws[n]? = Sa wk /\
 ∀(l:Sf)(H':Hp),H l=Sb->Ext [] H H'->H' l=Sa (.lst ((waitTo ws x n wk.length).map V.int))->Q (.ref l) H'
noncomputable def yt(wk:List Blk)(x:Int):List Int:=(wrTo wk x wk.length).flatMap (nxt wk)
theorem vo{α β : Type}(f : α -> List β)(h:∀a,(f a).length<=2):∀l:List α,(l.flatMap f).length<=2*l.length
 :=by intro x;induction x<;>grind
def qK6(K:SH):Sp:=λvs H Q _ => ∃(wa:Sf) (ws:List (List Blk)) (n:Nat) (wk:List Blk) (x:Int),vs = [.ref wa,.int n,.int x]/\Den K H (xL ws) (.ref wa)/\WsOk ws/\ws[n]? = Sa wk /\
 ∀(l:Sf)(ns:List Int)(H':Hp),H l=Sb->Ext [] H H'->H' l=Sa (.lst (ns.map V.int))->ns.Pairwise (·<=·)->ns.Nodup->(∀y,y∈ns ↔ ∃s∈yt wk x,Reach (nxt wk) s y)->Q (.ref l) H'
noncomputable def grow(nx:Int->List Int)(F:List Int)(b:Int):List Int:=F++(nx b).filter λx=>!decide (x∈F)
structure BehI(nx:Int->List Int)(ss:List Int)(m:Nat)(F:List Int):Prop where
 sub:∀s∈ss,s∈F
 rk:∀x∈F,∃s∈ss,Reach nx s x
 len:F.length<=ss.length+2*cnt (λx=>decide (x∈F)) m
theorem BehI.start(nx:Int->List Int)(a:List Int)(m:Nat):BehI nx a m a:=⟨λ_ h=>h,λx h=>⟨x,h,.refl⟩,cL _ _⟩
theorem mem_grow{nx:Int->List Int}{b x:Int}:x∈grow nx F b↔x∈F\/x∈nx b:=by
 grind[grow]
theorem BehI.grow{nx:Int->List Int}{m:Nat}{b:Int}(h:BehI nx f m F)(k:b∈F)(few:∀x,(nx x).length<=2)(l:∀x,(∃s∈f,Reach nx s x)->0<=x/\x<(m:Int)):BehI nx f m (grow nx F b):=by
 show⟨λs a=>mem_grow.mpr (.inl (h.sub s a)),λx n=>?_,?_⟩
 .rcases mem_grow.mp n with z|z
  .exact h.rk x z
  .let⟨s,a,r⟩:=h.rk b k;show⟨s,a,.step r z⟩
 .let o:=h.len;by_cases e:(nx b).filter (λx=>!decide (x∈F))=[]
  .grind[L2.grow]
  .let⟨y,t⟩:=iL _ e;let⟨c,g⟩:=bN.mp t;let j:y∉F:=by grind
   let⟨s,a,r⟩:=h.rk b k;let d:=l y ⟨s,a,.step r c⟩;let u:=jf (p:=λx=>decide (x∈F)) (q:=λx=>decide (x∈L2.grow nx F b)) (x:=y) (λi v=>decide_eq_true (mem_grow.mpr (.inl (of_decide_eq_true v)))) (decide_eq_true (mem_grow.mpr (.inr c))) (decide_eq_false j) m d.1 d.2;grind[L2.grow]
def Lays(nx:Int->List Int)(ss:List Int)(t:Nat)(F:List Int):Prop:=∀s∈ss,∀j,j<=t->∀x∈(lay nx s j).2,x∈F
theorem Lays.zero{nx:Int->List Int}(h:∀s∈a,s∈F):Lays nx a 0 F:=λs b j d x c=>by
 grind[lay]
theorem Lays.succ{nx:Int->List Int}{t:Nat}(h:Lays nx d t F)(i:∀x∈F,x∈G)(k:∀b∈F,∀c∈nx b,c∈G):Lays nx d (t+1) G:=λs f j m x g=>by
 by_cases e:j=t+1
 .subst e;obtain⟨⟨b,l,a⟩,_⟩:=lay_further.mp g;show k b (h s f t (aI _) b l) x a
 .exact i x (h s f j ∎ x g)
theorem Lays.all{nx:Int->List Int}{m:Nat}(h:Lays nx a m F)(I:BehI nx a m F)(c:∀x,(∃s∈a,Reach nx s x)->0<=x/\x<(m:Int))(x:Int):x∈F ↔ ∃s∈a,Reach nx s x:=by
 show⟨I.rk x,λ⟨s,b,r⟩=>?_⟩;let⟨j,d,e⟩:=wAh (m:=m) (λy i f=>c y ⟨s,b,qL9 f⟩) r;show h s b j d x e
def qNs(K:SH):Sp:=λvs H Q _ => ∃(wa:Sf) (wk:List Blk) (m works x:Int),vs = [.ref wa,.int x]/\Den K H (workD wk) (.ref wa)/\WorkOk m works wk/\m<=12 /\
 ∀(l:Sf)(ns:List Int)(H':Hp),H l=Sb->Ext [] H H'->H' l=Sa (.lst (ns.map V.int))->ns.Pairwise (·<=·)->ns.Nodup->(∀y,y∈ns ↔ ∃s∈yt wk x,Reach (nxt wk) s y)->Q (.ref l) H'
mutual
noncomputable def noI:PyData->Bool
 |.list ds=>noIs ds&&(match ds with|.int _::_=>Sd|_=>Sc)
 |.tuple ds=>noIs ds
 |_=>Sc
noncomputable def noIs:List PyData->Bool
 |[]=>Sc
 |d::ds=>noI d&&noIs ds
end
section
variable{K:SH}{H:Hp}{t:Sf}{x:Int}{r:List V}
theorem qXy(h:a≠t)(e:Rd H a o):Rd (wo [t] H) a o:=by
 let b:a∉[t]:=by simpa using h
 rcases e with e|⟨u,e⟩
 .exact .inl (by rw[xR b];show e)
 .exact .inr ⟨u,by rw[xR b];show e⟩
mutual
theorem Den.off(c:H t=Sa (.lst (.int x::r))):∀ {d:PyData} {v:V},noI d=Sc->Den K H d v->Den K (wo [t] H) d v
 |.none,_,_,e=>by grind[Den]
 |.bool _,_,_,e=>by grind[Den]
 |.int _,_,_,e=>by grind[Den]
 |.str _,_,_,e=>by grind[Den]
 |.list ds,_,f,e=>by
  simp only[Den]at e ⊢;let⟨a,j,k,e2,g⟩:=e;simp only[noI,bR]at f;show⟨a,j,k,?_,DenL.off c f.1 g⟩;rcases e2 with e2|e2
  .refine .inl (qXy (λh=>?_) e2);subst h;rcases e2 with e2|⟨o,e2⟩
   .rw [c]at e2;cases e2;cases ds with
    |nil=>have:=g.ofNil;grind
    |cons d ds=>
     let⟨v,m,l,b,_⟩:=g.ofCons;cases l;cases d<;>grind[Den]
   grind
  .exact .inr e2
 |.tuple ds,_,f,e=>by
  simp only[Den]at e ⊢;let⟨a,j,k,e2,g⟩:=e;simp only[noI]at f;show⟨a,j,k,?_,DenL.off c f g⟩;rcases e2 with e2|e2
  .refine .inl (qXy (λh=>?_) e2);subst h;rcases e2 with e2|⟨o,e2⟩
   .grind
   grind
  .exact .inr e2
 |.dict _,_,_,e=>by grind[Den]
theorem DenL.off(c:H t=Sa (.lst (.int x::r))):∀ {a:List PyData} {vs:List V},noIs a=Sc->DenL K H a vs->DenL K (wo [t] H) a vs
 |[],_,_,e=>by simp only[DenL]at e ⊢;show e
 |d::a,_,b,e=>by
  simp only[DenL]at e ⊢;simp only[noIs,bR]at b;let⟨v,r,f,g,h⟩:=e;show⟨v,r,f,Den.off c b.1 g,DenL.off c b.2 h⟩
end
end
theorem ut{α : Type}{f : α -> PyData}:∀ {l:List α},(∀a∈l,noI (f a)=Sc)->noIs (l.map f)=Sc
 :=by intro x;induction x<;>grind[noIs]
theorem qWk(d:Deed):noI (deedD d)=Sc:=by cases d<;>rfl
theorem wAb(ns:List Int):noI (endD ns)=Sc:=by
 match ns with
 |[]=>rfl
 |[x]=>rfl
 |x::y::_=>rfl
theorem wAc(b:Blk):noI (blkD b)=Sc:=by
 simp only[blkD,noI,noIs,wAb,Bool.and_true,bR];show⟨ut λd _=>qWk d,?_⟩;cases b.ds with
 |nil=>rfl
 |cons d ds=>cases d<;>rfl
theorem jz(w:List Blk):noI (workD w)=Sc:=by
 simp only[workD,noI,bR];show⟨ut λd _=>wAc d,?_⟩;cases w<;>rfl
theorem qTg(a:List (List Blk)):noI (xL a)=Sc:=by
 simp only[xL,noI,bR];show⟨ut λd _=>jz d,?_⟩;cases a<;>rfl
theorem iT:∀ {ns:List Int} {lo hi:Int},ns.Pairwise (· <= ·)->ns.Nodup->(∀n∈ns,lo<=n/\n<hi)->(ns.length:Int)<=max 0 (hi - lo)
 |[],_,_,_,_,_=>by grind
 |n::r,lo,hi,j,k,i=>by
  let⟨d,e⟩:=eD.mp j;let⟨f,g⟩:=dE.mp k;let l:=i n (aW ..);let:=iT (ns:=r) (lo:=n+1) (hi:=hi) e g λm h=>by
   grind
  grind
noncomputable def lcg(M i:Nat):Nat:=(i*5+1)%M
noncomputable def orb(M:Nat):Nat->Nat->Nat
 |0,i=>i
 |j+1,i=>orb M j (lcg M i)
theorem qOe(M:Nat):∀j i,orb M (j+1) i=lcg M (orb M j i)
 |0,_=>rfl
 |j+1,i=>qOe M j (lcg M i)
theorem uu(M a:Nat):∀b i,orb M (a+b) i=orb M b (orb M a i)
 :=by intro x;induction x<;>grind[orb,qOe]
noncomputable def Cyc(M:Nat):Bool:=((List.range M).all λx=>(List.range M).any λj=>orb M j 0 == x)&&(orb M M 0 == 0)
theorem Cyc.from{M:Nat}(h:Cyc M=Sc){i x:Nat}(hi:i<M)(l:x<M):∃j,j<M/\orb M j i=x:=by
 unfold Cyc at h;rw[bR,List.all_eq_true]at h;let⟨f,e⟩:=h;let e:=beq_iff_eq.mp e;let⟨a,g,c⟩:=cG.mp (f i (bH.mpr hi));let⟨b,k,d⟩:=cG.mp (f x (bH.mpr l));let g:=bH.mp g;let k:=bH.mp k;let c:=beq_iff_eq.mp c;let d:=beq_iff_eq.mp d;by_cases m:a<=b
 .refine⟨b-a,∎,?_⟩;rw[<-c,<-uu,show a+(b-a)=b by lia];show d
 .refine⟨M+b-a,∎,?_⟩;rw[<-c,<-uu,show a+(M+b-a)=M+b by lia,uu,e];show d
noncomputable def pows:List Nat:=[8,16,32,64,128]
theorem qX4:∀M∈pows,Cyc M=Sc:=by decide +kernel
theorem qLd{a:Nat}(e:owner.size=a+1):∀(fuel i p:Nat),p<32->i<a+1 ->
  (∃j,SetTable.layClean.free a owner fuel i p=Sa j/\j<a+1/\owner[j]? = Sa Sb)\/(∀j,j<fuel->∃v,owner[orb (a+1) j i]? = Sa (Sa v))
 |0,_,_,_,_=>.inr λj d=>absurd d (Nat.not_lt_zero _)
 |fuel+1,i,p,l,hi=>by
  unfold SetTable.layClean.free;let f:i<=SetTable.runEnd a i/\SetTable.runEnd a i<=a:=by unfold SetTable.runEnd;split<;>lia
  cases hf:(List.range (SetTable.runEnd a i+1-i)).find? λk=>(owner.getD (i+k) (Sa 0)).isNone with
  |some k=>
   let c:=List.find?_some hf;let m:=bH.mp (List.mem_of_find?_eq_some hf);let b:i+k<owner.size:=by lia
   show .inl ⟨i+k,rfl,∎,?_⟩;rw[cH,bP b]at c;rw[bP b];let c:(owner[i+k]).isNone=Sc:=c;rw[Option.isNone_iff_eq_none.mp c]
  |none=>
   dsimp only;let g:SetTable.leap a i p=(lcg (a+1) i,0):=by
    unfold SetTable.leap lcg;rw[show p / 32=0 by lia]
   rw[g];dsimp only;rcases qLd e fuel (lcg (a+1) i) 0 ∎ (Nat.mod_lt _ ∎)with z|z
   .exact .inl z
   .refine .inr λj d=>?_;cases j with
    |zero=>
     let:=List.find?_eq_none.mp hf 0 (bH.mpr ∎);let b:i<owner.size:=by lia
     rw[Nat.add_zero,cH,bP b]at this;change ∃v,owner[i]? = Sa (Sa v);rw[bP b];let this:¬(owner[i]).isNone=Sc:=this;cases h:owner[i]with
     |none=>rw[h]at this;show absurd rfl this
     |some v=>show⟨v,rfl⟩
    |succ j=>show z j ∎
theorem qKd{k:Nat}:∀ {l:List (Option Nat)} {j:Nat},l[j]? = Sa Sb->((l.set j (Sa k)).filterMap id).Perm (k::l.filterMap id)
 |[],j,h=>by simp at h
 |a::l,0,h=>by
  simp at h;subst h;show .refl _
 |a::l,j+1,h=>by
  let b:=qKd (k:=k) (l:=l) (j:=j) (by simpa using h);rw[List.set_cons_succ];cases a with
  |none=>show b
  |some v=>
   change(v::(l.set j (Sa k)).filterMap id).Perm (k::v::l.filterMap id);show(List.Perm.cons v b).trans (List.Perm.swap ..)
theorem qKe:∀l:List (Option Nat),(∀j,j<l.length -> ∃v,l[j]? = Sa (Sa v))->(l.filterMap id).length=l.length
 |[],_=>rfl
 |a::l,h=>by
  let⟨v,b⟩:=h 0 ∅;simp at b;subst b;change(v::l.filterMap id).length=_;rw[bU,bU,qKe l λj c=>by simpa using h (j+1) (by simpa using c)]
theorem qQ4{h:Int}(h0:0<=h)(a:h<32):SetTable.bits h<32:=by unfold SetTable.bits;lia
theorem qYe{a:Nat}(q:a+1∈pows):∀(hs:List Int) (owner:Array (Option Nat)) (k:Nat),(∀h∈hs,0<=h/\h<32)->owner.size=a+1->(owner.toList.filterMap id).Perm (List.range k)->k+hs.length<=a ->
  ∃f,(hs.foldl (λn h=>(do
   let (owner,k) <-n
   let j <-SetTable.layClean.free a owner (SetTable.turns a) (SetTable.bits h%(a+1)) (SetTable.bits h)
   pure (owner.setIfInBounds j (Sa k),k+1):Option (Array (Option Nat)×Nat))) (Sa (owner,k)))=Sa (f,k+hs.length)/\f.size=a+1/\(f.toList.filterMap id).Perm (List.range (k+hs.length))
 |[],owner,k,_,d,l,_=>⟨owner,rfl,d,l⟩
 |h::hs,owner,k,r,d,l,u=>by
  let⟨w,y⟩:=r h (aW ..);rw[bU]at u;let b:∃j,SetTable.layClean.free a owner (SetTable.turns a) (SetTable.bits h%(a+1)) (SetTable.bits h)=Sa j/\j<a+1/\owner[j]? = Sa Sb:=by
   rcases qLd d (SetTable.turns a) (SetTable.bits h%(a+1)) (SetTable.bits h) (qQ4 w y) (Nat.mod_lt _ ∎)with z|z
   .exact z
   .exfalso;let g:∀j,j<owner.toList.length->∃v,owner.toList[j]? = Sa (Sa v):=λx m=>by
     rw[aQ,d]at m;let⟨j,s,e⟩:=Cyc.from (qX4 _ q) (i:=SetTable.bits h%(a+1)) (Nat.mod_lt _ ∎) m;let⟨v,t⟩:=z j (by unfold SetTable.turns;lia);rw[e]at t;show⟨v,by rw[bF];show t⟩
    let A:=qKe _ g;let B:=l.length_eq;rw[cR,A,aQ,d]at B;lia
  let⟨j,s,C,o⟩:=b
  let c:((do
   let (owner,k) <-Sa (owner,k)
   let j <-SetTable.layClean.free a owner (SetTable.turns a) (SetTable.bits h%(a+1)) (SetTable.bits h)
   pure (owner.setIfInBounds j (Sa k),k+1)):Option (Array (Option Nat)×Nat))=Sa (owner.setIfInBounds j (Sa k),k+1):=by
   change(SetTable.layClean.free a owner (SetTable.turns a) (SetTable.bits h%(a+1)) (SetTable.bits h)).bind _=_;rw[s];rfl
  let p:((owner.setIfInBounds j (Sa k)).toList.filterMap id).Perm (List.range (k+1)):=by
   rw[Array.toList_setIfInBounds];show(qKd (by rw[bF];show o)).trans ?_;rw[fH];show(List.Perm.cons k l).trans (List.perm_append_singleton k _).symm
  let⟨f,e,D,E⟩:=qYe q hs (owner.setIfInBounds j (Sa k)) (k+1) (λx m=>r x (aS _ m)) (by rw[Array.size_setIfInBounds];show d) p ∎;show⟨f,?_,D,by rw[bU,show k+(hs.length+1)=k+1+hs.length by lia];show E⟩;rw[List.foldl_cons,c,e,bU,show k+(hs.length+1)=k+1+hs.length by lia]
theorem qMw{a:Nat}(f:a+1∈pows)(g:∀h∈b.toList,0<=h/\h<32)(j:b.size<=a):∃c,SetTable.layClean a b=Sa c/\c.size=a+1/\(c.toList.filterMap id).Perm (List.range b.size):=by
 let⟨c,e,i,d⟩:=qYe f b.toList (Array.replicate (a+1) Sb) 0 g ∅ ∅ (by grind);grind[SetTable.layClean]
theorem qOm(L:List (Option Nat)):∀n,n<=L.length->(((List.range n).filterMap λj=>(L.getD j Sb).map (j,·)).map (·.2))=(L.take n).filterMap id
 |0,_=>by simp
 |n+1,h=>by
  let b:=qOm L n ∎;rw[fH,dP,aH,b,List.take_succ,dP]
  congr 1
  let a:n<L.length:=by lia
  rw[aF a];let:L.getD n Sb=L[n]:=by rw[bO,aF a];rfl
  rw[cI,this];cases L[n]<;>rfl
theorem qTo{owner:Array (Option Nat)}{n:Nat}:(((List.range n).filterMap λj=>(owner.getD j Sb).map (j,·)).map (·.1)).Pairwise (· < ·):=by
 let b:∀l:List Nat,((l.filterMap λj=>(owner.getD j Sb).map (j,·)).map (·.1)).Sublist l:=by
  intro l
  induction l with
  |nil=>show .slnil
  |cons a r c=>
   rw[cI];cases owner.getD a Sb with
   |none=>show c.cons _
   |some k=>show c.cons₂ a
 show List.Pairwise.sublist (b _) gL
theorem qTu{a finger moves:Nat}{led plain:Bool}(m:a+1∈pows)(n:∀h∈c.toList,0<=h/\h<32)(g:c.size<=a):∃t order,SetTable.laid a finger moves led plain c=Sa (t,order)/\order.toList.Perm (List.range c.size)/\GoodT led t c.size/\t.mask=a/\t.dummies=#[]:=by
 let⟨d,e,i,k⟩:=qMw m n g;let b:=qOm d.toList (a+1) (by rw[aQ,i];show aI _);rw[dM (by rw[aQ,i];show aI _)]at b;let l:(λj=>(d.getD j Sb).map (j,·))=λj=>(d.toList.getD j Sb).map ((j:Nat),·):=by
  funext j
  rw[cH,bO,bF]
 let f:((List.range (a+1)).filterMap λj=>(d.getD j Sb).map (j,·)).length=c.size:=by
  let:=congrArg List.length b;rw[aB,<-l]at this;rw[this,k.length_eq,cR]
 show⟨_,_,by unfold SetTable.laid;rw[e];rfl,?_,⟨?_,?_,rfl⟩,rfl,rfl⟩
 .rw [l];change List.Perm (((List.range (a+1)).filterMap λj=>(d.toList.getD j Sb).map (j,·)).map (·.2)) _;rw[b];show k
 .unfold SetTable.fits SetTable.fill;simp only[aX,aB,f];simp;show g
 .exact qTo
theorem iU{es:Array (Int×Se)}{order:Array Nat}(h:order.toList.Perm (List.range es.size)):(order.filterMap (es[·]?)).toList.Perm es.toList:=by
 let a:(order.filterMap (es[·]?)).toList=order.toList.filterMap (es[·]?):=by rw[Array.toList_filterMap]
 rw[a];show(h.filterMap _).trans ?_;let b:∀n,n<=es.size->(List.range n).filterMap (es[·]?)=es.toList.take n:=by
  intro n
  induction n with
  |zero=>intro _;simp
  |succ n c=>
   intro d;rw[fH,dP,c ∎,List.take_succ]
   congr 1
   rw[cI,List.filterMap_nil,bF,bP ∎];rfl
 rw[b es.size (aI _),dM (by rw[aQ];show aI _)]
theorem qN9:∀n,n<128->SetTable.sizeAbove n∈pows/\n<SetTable.sizeAbove n:=by decide +kernel
theorem qXa{n:Int}{tk:Tok}(S:SetI w s.heap a ns)(N:ns.length+1<scanBound)(h:∀h',Heap.SameBut a s.heap h'->SetI w h' a (addN ns n)->Q (!decide (n∈ns)) {s with heap:=h'}):Sm (So P w) A (setAddHashed a (.int n tk) (hashInt n)) Q E s:=by
 change Sm (So P w) A (setAddHashed a (.int n tk) ((intKind P w).hash n)) Q E s;let⟨o,u,X,t,y,p,B,f,C,O,T,g⟩:=S;let U:u.size=ns.length:=by rw[<-C.length_eq,aB,aQ]
 let v:=EI.elems (P:=P) (w:=w) f;let D:=intKind_is P w n tk;unfold setAddHashed setAddHashedIn;show bK (aA (fB y B g.fits ?_));dsimp only;rw[byScan_of (knd:=intKind P w) (x:=.int n tk) rfl T v];simp only[↓reduceIte];unfold setAddByScan;show aA (aA (dF (aA (wpAny_setScan_of (knd:=intKind P w) (k:=n) D y B g.fits v ?_))));cases V:List.findIdx? (λe=>(intKind P w).is n e.2) u.toList with
 |some j=>
  dsimp only;let⟨Y,R,_⟩:=List.findIdx?_eq_some_iff_getElem.mp V;let F:n∈ns:=C.mem_iff.mp ((ua (P:=P) (w:=w) f n).mpr ⟨_,fV Y,R⟩);show aC (aC ?_);let q:=h s.heap (fR a s.heap) ⟨o,u,X,t,y,p,B,f,by unfold addN;rw[if_pos F];show C,wJ O,T,g⟩;rw[decide_eq_true F]at q;show q
 |none=>
  dsimp only;let F:n∉ns:=λz=>by
   let⟨e,v,q⟩:=(ua (P:=P) (w:=w) f n).mp (C.mem_iff.mpr z);let:=List.findIdx?_eq_none_iff.mp V e v;rw[q]at this;cases this
  let G:∀(b:Bool){c:Sg}{l:Unit->Sg->Prop},l () c->Sm (So P w) A (match b with|true=>rule "set.scan.the-table-gave-way"|false=>pure ()) l E c:=λb c l i=>by
   cases b
   .exact aC i
   .exact dF i
  let d:=layNew_perm t u ((intKind P w).hash n) (.int n tk);let H:=qH0 (h:=(intKind P w).hash n) (x:=.int n tk) g;generalize layNew t u ((intKind P w).hash n) (.int n tk)=L at d H ⊢;let⟨r,t1,wd,W⟩:=L;dsimp only at d H ⊢;rw[Array.toList_push]at d;let m:∀e∈r.toList,EI e:=λe v=>by
   rcases aL.mp (d.mem_iff.mp v)with z|z
   .exact f e z
   .rw [aE]at z;show⟨n,tk,z⟩
  let Z:r.size=u.size+1:=by rw[<-aQ,d.length_eq,aJ,aQ];rfl
  let I:(r.toList.map keyI).Perm (addN ns n):=by
   unfold addN;rw[if_neg F];show(d.map keyI).trans ?_;rw[aH];show C.append_right _
  let J:∀h',Heap.SameBut a s.heap h'->SetI w h' a (addN ns n)->Q Sc {s with heap:=h'}:=λh' K M=>by
   let q:=h h' K M;rw[decide_eq_false F]at q;show q
  show aA (G _ ?_);let a0:∀(b:Bool)(c:Sg)(l:Unit->Sg->Prop),l () c->Sm (So P w) A (match b with|true=>rule "set.scan.the-table-gave-way"|false=>pure ()) l E c:=λb c l i=>G b i;split
  .refine aA ?_;rw[hashByValue_scannable 8 (x:=.int n tk) rfl];show aC ?_;show uc (λb c l i=>?_) y p B m I (wJ O) ∎ ?_ (λh' K M=>?_)
   .cases b
    .exact aC i
    .exact dF i
   .split
    .exact H
    .exact H.plainOff
   .dsimp only;show aC (J h' K M)
  .refine aA (aC ?_);simp only[↓reduceIte];show uc (λb c l i=>?_) y p B m I (wJ O) ∎ H (λh' K M=>?_)
   .cases b
    .exact aC i
    .exact dF i
   .dsimp only;show aC (J h' K M)
def SetT(w:Si)(h:Sk)(a:Sf)(ns:List Int)(es:Array (Int×Se))(ep:Nat)(t:SetTable):Prop:=
 ∃o,h.get? a=Sa o/\o.ExactSet/\o.data=.set es ep t/\(∀e∈es.toList,EI e)/\(es.toList.map keyI).Perm ns/\ns.Nodup/\es.size<scanBound/\GoodT (!yG w) t es.size
theorem SetI.table(S:SetI w h a ns):∃es ep t,SetT w h a ns es ep t:=by
 let⟨o,es,ep,t,r⟩:=S;show⟨es,ep,t,o,r⟩
theorem SetT.setI{ep:Nat}{t:SetTable}(S:SetT w h a ns es ep t):SetI w h a ns:=by
 let⟨o,r⟩:=S;show⟨o,es,ep,t,r⟩
theorem SetT.stay{ep:Nat}{t:SetTable}(S:SetT w h a ns es ep t)(k:∀o,h.get? a=Sa o->h'.get? a=Sa o):SetT w h' a ns es ep t:=by
 let⟨o,e,r⟩:=S;show⟨o,k o e,r⟩
theorem SetT.len{ep:Nat}{t:SetTable}(S:SetT w h a ns es ep t):es.size=ns.length:=by
 let⟨o,_,_,_,_,p,_⟩:=S;rw[<-p.length_eq,aB,aQ]
theorem SetT.state{ep:Nat}{t:SetTable}(S:SetT w s.heap a ns es ep t)(q:Q (es,ep,t) s):Sm (So P w) A (setState a) Q E s:=by
 let⟨o,b,_,c,_,_,_,_,g⟩:=S;show fB b c g.fits q
theorem SetT.put{ep:Nat}{t t':SetTable}(S:SetT w s.heap a ns es ep t)(b:∀e∈es'.toList,EI e)(j:(es'.toList.map keyI).Perm ms)(k:ms.Nodup)(f:es'.size<scanBound)(g:GoodT (!yG w) t' es'.size)(q:∀h',Heap.SameBut a s.heap h'->SetT w h' a ms es' (ep+1) t'->Q () {s with heap:=h'}):Sm (So P w) A (storeSet a es' t') Q E s:=by
 let⟨o,h,c,d,_⟩:=S;show wpAny_storeSet_of h d ?_ (iF f);let i:=bQ (Obj.putSet es' t') h (by rw[putSet_of es' t' d];rfl);rw[putSet_of es' t' d]at i;show q _ (bV s.heap a (Obj.putSet es' t')) ⟨_,i,c,rfl,b,j,k,f,g⟩
def Small(ns:List Int):Prop:=∀n∈ns,0<=n/\n<32
theorem qPy{n:Int}(h0:0<=n)(a:n<32):hashInt n=n:=by
 let:∀k:Fin 32,hashInt (k.1:Int)=(k.1:Int):=by decide +kernel
 let:=this ⟨n.toNat,∎⟩;simpa[Int.toNat_of_nonneg h0]using this
theorem qFt{es:Array (Int×Se)}{ns:List Int}(a:∀e∈es.toList,EI e)(f:(es.toList.map keyI).Perm ns)(g:Small ns):∀h∈(es.map (·.1)).toList,0<=h/\h<32:=by
 intro h c;rw[Array.toList_map]at c;let⟨e,d,rfl⟩:=bC.mp c;let⟨n,t,rfl⟩:=a e d;let b:=g n (f.mem_iff.mp (bC.mpr ⟨_,d,rfl⟩));let:hashInt n=n:=by
  show qPy b.1 b.2
 change 0<=hashInt n/\hashInt n<32;rw[this];show b
theorem reord{es:Array (Int×Se)}{t:SetTable}{order:Array Nat}{laid:Option (SetTable×Array Nat)}{Q:(Array (Int×Se)×SetTable)->Sg->Prop}(b:laid=Sa (t,order))(c:order.toList.Perm (List.range es.size))(q:Q (order.filterMap (es[·]?),t) s):Sm (So P w) A (do
   let Sa (t,order):=laid|unsupported "internal:set-table-without-room"
   let a:=order.filterMap (es[·]?)
   if a.size != es.size then unsupported "internal:set-table-lost-an-element"
   pure (a,t)) Q E s:=by
 subst b;dsimp only;let d:(order.filterMap (es[·]?)).size=es.size:=by rw[<-aQ,(iU c).length_eq,aQ]
 rw[d];simp only[bne_self_eq_false,bL,if_false];show aC q
theorem wB8{ep b:Nat}{t:SetTable}(S:SetT w s.heap a ns es ep t)(r:Small ns)(hw:b<128)(G:ns.length<=b)(q:∀h' es' t',Heap.SameBut a s.heap h'->SetT w h' a ns es' (ep+1) t'->t'.mask+1∈pows->b<=t'.mask->Q () {s with heap:=h'}):Sm (So P w) A (setRelay a b) Q E s:=by
 let⟨i,H⟩:=qN9 b hw;let u:SetTable.sizeAbove b<=128:=by
  let:∀M∈pows,M<=128:=by decide
  show this _ i
 let j:=S.len;let⟨o,I,v,J,d,k,y,f,g⟩:=id S;unfold setRelay;show aA (S.state ?_);dsimp only;rw[if_neg (by rw[cK];lia)];let l:SetTable.sizeAbove b-1+1∈pows:=by rw[show SetTable.sizeAbove b-1+1=SetTable.sizeAbove b by lia];show i
 let⟨t',order,z,h,m,n,K⟩:=qTu (finger:=t.finger) (moves:=t.movedTo (SetTable.sizeAbove b-1)) (led:=t.led) (plain:=t.plain) l (qFt d k r) (by rw[Array.size_map];lia);rw[Array.size_map]at h m;show aA (reord (es:=es) (laid:=t.relaid (es.map λ(x:Int×Se)=>x.1) b) (t:=t') (order:=order) z h ?_);dsimp only;let c:=iU h;let p:(order.filterMap (es[·]?)).size=es.size:=by rw[<-aQ,c.length_eq,aQ]
 let B:GoodT (!yG w) t' (order.filterMap (es[·]?)).size:=by rw[p,<-g.led];show m
 show S.put (es':=order.filterMap (es[·]?)) (t':=t') (ms:=ns) (λe C=>d e (c.mem_iff.mp C)) ((c.map keyI).trans k) y (by rw[p];show f) B λh' D F=>q h' _ t' D F (by rw[n];show l) (by rw[n];lia)
theorem roomI{ep more:Nat}{t:SetTable}(S:SetT w s.heap a ns es ep t)(e:Small ns)(k:ns.length+more<=60)(h0:t.fill=0->t.mask+1∈pows)(q:∀h' es' b t',Heap.SameBut a s.heap h'->SetT w h' a ns es' b t'->(t'.fill=0->t'.mask+1∈pows/\more<=t'.mask)->Q () {s with heap:=h'}):Sm (So P w) A (setRoomFor a more) Q E s:=by
 let c:=S.len;let l:t.place.size=es.size:=by let⟨o,_,_,_,_,_,_,_,g⟩:=S;show ue g.fits
 unfold setRoomFor;show aA (S.state ?_);dsimp only;unfold SetTable.roomFor;by_cases d:(t.fill+more)*5>=t.mask*3
 .rw [if_pos d];dsimp only;show wB8 S e ∎ ∎ λh' es' t' f h i m=>q h' es' _ t' f h λ_=>⟨i,∎⟩
 .rw [if_neg d];dsimp only;show aC (q s.heap es ep t (fR a s.heap) S λj=>⟨h0 j,∎⟩)
theorem walkI{ep:Nat}{t:SetTable}(S:SetT w s.heap a ns es ep t)(q:∀c d,c.toList.Perm es.toList->Q c {s with drawn:=d}):Sm (So P w) A (setWalk a) Q E s:=by
 let⟨o,k,h,l,i,m,n,j,g⟩:=id S;unfold setWalk;show aA (S.state ?_);dsimp only;unfold setsByText;show aA (aA (dQ (aC ?_)));change Sm _ _ (if w.params.followText "set-order"=Sc then _ else _) _ _ _;cases b:yG w with
 |true=>
  rw[if_pos (show(w.params.followText "set-order")=Sc from b)];show aA (dQ (aC ?_));show q _ s.drawn (qKq _ _)
 |false=>
  rw[if_neg (show ¬(w.params.followText "set-order")=Sc from λz=>by rw[show(w.params.followText "set-order")=Sd from b]at z;cases z)];let e:t.led=Sc:=by rw[g.led,b];rfl
  split
  .refine aA ?_;rw[<-aQ];show jn es.toList λp d f=>aC (q _ d f)
  .refine aA ?_;change Sm _ _ (if (!t.led&&decide (es.size>1))=Sc then unsupported "set:maker-not-led" else pure PUnit.unit) _ _ _;rw[if_neg (by rw[e];simp)];show aC (aC (q es s.drawn (.refl _)))
theorem wBo{ep r:Nat}{t u:SetTable}(S:SetT w s.heap a ns es ep t)(O:SetT w s.heap b ms p r u)(q:Q Sc s):Sm (So P w) A (setsQuiet [a,b]) Q E s:=by
 unfold setsQuiet;show aA (wpAny_forIn_list _ (λrest c j=>j=s/\c.1=Sb/\∀x∈rest,∃ns es ep t,SetT w s.heap x ns es ep t) _ ?_ ?_ _ _ ?_)
 .rintro x rest I j ⟨rfl,f,d⟩;let⟨ns,es,ep,t,v⟩:=d x (aW ..);let⟨o,B,C,D,k,J,K,F,g⟩:=id v;show aA (iQ B D g.fits ?_);show aA (MeetsSeq2.wpAny_forIn_array _ (λrest c i=>i=j/\c.1=Sb/\∀e∈rest,EI e) _ ?_ ?_ _ _ ?_)
  .rintro e l L i ⟨rfl,f,m⟩;let⟨n,tk,rfl⟩:=m e (aW ..);show aC ⟨rfl,rfl,λe h=>m e (aS _ h)⟩
  .rintro⟨c,u⟩ i ⟨rfl,f,_⟩;dsimp only at f;subst f;show aC ⟨rfl,rfl,λy G=>d y (aS _ G)⟩
  .exact⟨rfl,rfl,k⟩
 .rintro⟨c,u⟩ j ⟨rfl,f,_⟩;dsimp only at f;subst f;show aC q
 .refine⟨rfl,rfl,λx H=>?_⟩;rcases aN.mp H with z|z
  .exact z▸⟨_,_,_,_,S⟩
  .exact (aE.mp z)▸⟨_,_,_,_,O⟩
theorem GoodT.flags{b:Bool}{t u:SetTable}{n:Nat}(g:GoodT b t n)(c:u.mask=t.mask)(a:u.place=t.place)(d:u.dummies=t.dummies)(e:u.led=b):GoodT b u n:=by
 show⟨?_,by rw[a];show g.rise,e⟩;let:=g.fits;unfold SetTable.fits SetTable.fill at this ⊢;rw[c,a,d];show this
theorem qYs{ep m:Nat}{t u:SetTable}(n:a≠b)(S:SetT w s.heap a ns es ep t)(O:SetT w s.heap b ms e m u)(q:∀c h' d es' f t',c.toList.Perm e.toList->Heap.SameBut a s.heap h'->SetT w h' a ns es' f t'->Q c {s with heap:=h',drawn:=d}):Sm (So P w) A (setWalkUnseen b [a] (Sa a)) Q E s:=by
 unfold setWalkUnseen;show aA (O.state ?_);dsimp only;unfold setsByText;show aA (aA (dQ (aC ?_)));let p:∀{k:Array (Int×Se)->Sg->Prop},(∀c d,c.toList.Perm e.toList->k c {s with drawn:=d})->Sm (So P w) A (setWalk b) k E s:=λz=>walkI O z;split
 .exact p λc d h=>q c s.heap d es ep t h (fR a s.heap) S
 .refine aA (wBo O S ?_);simp only[Bool.not_true,bL,if_false];show aA (dF ?_);show aA (S.state ?_);dsimp only;let l:=S;let⟨o,C,r,D,i,h,v,j,g⟩:=S;let x:u.led=(!yG w):=by let⟨_,_,_,_,_,_,_,_,g⟩:=O;show g.led
  split
  .refine aA (l.put (t':={t with led:=t.led&&u.led,plain:=t.plain&&u.plain}) i h v j (g.flags rfl rfl rfl (by change(t.led&&u.led)=_;rw[g.led,x,Bool.and_self])) λh' y B=>aC ?_);show q e h' s.drawn _ _ _ (.refl _) y B
  .exact aA (aC (aC (q e s.heap s.drawn _ _ _ (.refl _) (fR a s.heap) l)))
theorem qYd{ep:Nat}{t:SetTable}(p:a≠b)(S:SetT w s.heap a ns es ep t)(a1:Small ns)(h0:t.fill=0->t.mask+1∈pows)(O:SetI w s.heap b ms)(a2:Small ms)(hl:ns.length+ms.length<=60)(Y:∀(L:Sg)(R:Unit->Sg->Prop),(∀o,s.heap.get? b=Sa o->L.heap.get? b=Sa o)->R () L->Sm (So P w) A D R E L)(q:∀h' d es' a3 t' us,Heap.SameBut a s.heap h'->SetT w h' a us es' a3 t'->(t'.fill=0->t'.mask+1∈pows)->(∀x,x∈us↔x∈ns\/x∈ms)->Q () {s with heap:=h',drawn:=d}):Sm (So P w) A (setMerge a b D) Q E s:=by
 let⟨v,eq,u,O⟩:=O.table;let⟨oo,b7,b2,b8,i,B,Z,F,go⟩:=id O;let a4:=O.len;unfold setMerge;rw[if_neg (by simpa using p)];show aA (O.state ?_);dsimp only;split
 .rename_i hz;let hz:v.size=0:=by simpa[Array.isEmpty]using hz
  let:ms=[]:=gI.mp ∎;subst this;show aC (q s.heap s.drawn es ep t ns (fR a s.heap) S h0 ∅)
 .rename_i a5;let b3:0<v.size:=by
   cases h:v.size with
   |zero=>show absurd (by simp[Array.isEmpty,h]) a5
   |succ k=>lia
  let f:∀{h:Sk}{us:List Int}{es:Array (Int×Se)}{ep:Nat}{t:SetTable},SetT w h a us es ep t->0<us.length->t.fill≠0:=by
   intro h us es ep t G hu j;let M:=G.len;let⟨_,_,_,_,_,_,_,_,g⟩:=G;let h2:=ue g.fits;unfold SetTable.fill at j;lia
  show aA (roomI S a1 ∎ h0 λM b9 c0 m C W a6=>?_);let O1:SetT w M b ms v eq u:=O.stay λo e=>by rw[C.2 b p.symm];show e
  let⟨o1,c1,b4,c2,b5,c3,c4,b6,g1⟩:=id W;let c5:=W.len;show aA (W.state (s:={s with heap:=M}) ?_);dsimp only;let r:m.fill=0->ns=[]:=λj=>by
   let h2:=ue g1.fits;unfold SetTable.fill at j;show gI.mp ∎
  let H:(m.led&&u.led)=!yG w:=by rw[g1.led,go.led,Bool.and_self]
  cases X:m.road u with
  |slotForSlot=>
   dsimp only;let j:m.fill=0:=by
    unfold SetTable.road at X;split at X
    .cases X
    .rename_i z;simpa using z
   let:=r j;subst this;show W.put (s:={s with heap:=M}) (t':={u with finger:=m.finger,led:=m.led&&u.led,moves:=m.moves,plain:=m.plain&&u.plain}) i B Z F (go.flags rfl rfl rfl H) λh' I G=>?_;show q h' s.drawn _ _ _ ms (C.trans I) G (λj=>absurd j (f G ∎)) ∅
  |clean=>
   dsimp only;let j:m.fill=0:=by
    unfold SetTable.road at X;split at X
    .cases X
    .rename_i z;simpa using z
   let:=r j;subst this;let⟨m1,m2⟩:=a6 j;let⟨t',order,e1,e2,e3,e4,e5⟩:=qTu (finger:=m.finger) (moves:=m.moves) (led:=m.led&&u.led) (plain:=m.plain&&u.plain) m1 (qFt i B a2) (by rw[Array.size_map];lia);rw[Array.size_map]at e2 e3;show aA (reord (s:={s with heap:=M}) (es:=v) (t:=t') (order:=order) e1 e2 ?_);dsimp only;let N:=iU e2;let hz:(order.filterMap (v[·]?)).size=v.size:=by rw[<-aQ,N.length_eq,aQ]
   let g':GoodT (!yG w) t' (order.filterMap (v[·]?)).size:=by rw[hz,<-H];show e3
   show W.put (s:={s with heap:=M}) (es':=order.filterMap (v[·]?)) (t':=t') (λe Y=>i e (N.mem_iff.mp Y)) ((N.map keyI).trans B) Z (by rw[hz];show F) g' λh' I G=>?_;show q h' s.drawn _ _ _ ms (C.trans I) G (λj=>absurd j (f G ∎)) ∅
  |oneByOne=>
   dsimp only;show aA (qYs (s:={s with heap:=M}) p W O1 λa7 h2 d c6 c7 t2 T a8 S2=>?_);show aA (MeetsSeq2.wpAny_forIn_array _ (λrest _ L=>∃h' us,L={s with heap:=h',drawn:=d}/\Heap.SameBut a s.heap h'/\SetI w h' a us/\us.length+rest.length<=60/\(∀e∈rest,EI e)/\∀x,(x∈us\/x∈rest.map keyI)↔(x∈ns\/x∈ms)) _ ?_ ?_ _ _ ?_)
   .rintro e rest c L ⟨h',us,rfl,I,SI,J,U,l⟩;let⟨n,tk,rfl⟩:=U e (aW ..);rw[bU]at J;dsimp only;show aA (bK (qXa (s:={s with heap:=h',drawn:=d}) SI (by change us.length+1<4096;lia) λV K a0=>?_));let keep:∀o,s.heap.get? b=Sa o->V.get? b=Sa o:=λo e=>by rw[K.2 b p.symm,I.2 b p.symm];show e
    show aA (Y _ _ keep ?_);show aA (SetT.state (s:={s with heap:=V,drawn:=d}) (O.stay keep) ?_);dsimp only;rw[if_neg ∅];show aC ⟨V,addN us n,rfl,I.trans K,a0,?_,λe h=>U e (aS _ h),λx=>?_⟩
    .let:=qP1 (ns:=us) (n:=n);lia
    .rw [<-l x,qOk,aU,aN];change(x∈us\/x=n)\/_↔x∈us\/x=n\/_;rw[or_assoc]
   .rintro c L ⟨h',us,rfl,I,SI,J,U,l⟩;let⟨a9,b0,t3,S3⟩:=SI.table;let b1:0<us.length:=by
     let⟨y,hy⟩:=iL ms (λz=>by subst z;rw[List.length_nil]at a4;lia);show List.length_pos_of_mem (((l y).mpr (.inr hy)).elim id λz=>by cases z)
    show aC (q h' d a9 b0 t3 us I S3 (λj=>absurd j (f S3 b1)) λx=>by rw[<-l x];simp)
   .refine⟨h2,ns,rfl,C.trans a8,S2.setI,?_,λe Y=>i e (T.mem_iff.mp Y),λx=>?_⟩
    .let h9:a7.toList.length=v.size:=T.length_eq.trans (aQ ..);lia
    .rw [((T.map keyI).trans B).mem_iff]
theorem iV(S:SetI w s.heap a ns)(q:Q Sc s):Sm (So P w) A (Builtin.Frozenset.isAnySet (.ref a)) Q E s:=by
 let⟨o,_,_,_,c,b,_⟩:=S;let hT:Shared.TypeIs s (.ref a) "set":=⟨o,c,b.1⟩;unfold Builtin.Frozenset.isAnySet;show aA (eW hT sub_set_self ?_);show aC q
theorem copyI(S:SetI w s.heap a ns)(k:Small ns)(l:ns.length<=60)(q:∀h' d es ep t us,(∀b o,s.heap.get? b=Sa o->h'.get? b=Sa o)->SetT w h' s.heap.objs.size us es ep t->(t.fill=0->t.mask+1∈pows)->(∀x,x∈us↔x∈ns)->Q (.ref s.heap.objs.size) {s with heap:=h',drawn:=d}):Sm (So P w) A (Builtin.Frozenset.copyOf a) Q E s:=by
 let hT:Shared.TypeIs s (.ref a) "set":=by let⟨o,_,_,_,f,g,_⟩:=S;show⟨o,f,g.1⟩
 let m:a<s.heap.objs.size:=by let⟨o,_,_,_,f,_⟩:=S;show aO f
 unfold Builtin.Frozenset.copyOf Builtin.Frozenset.baseOf;show aA (aA (eW hT sub_set_self (aC ?_)));simp only[if_true];show aA (qTh ?_);unfold Builtin.Frozenset.addrOf;show aA (aC ?_);let j:∀b o,s.heap.get? b=Sa o->(s.heap.push (newS w)).get? b=Sa o:=λb o e=>aG _ e;let p:SetT w (s.heap.push (newS w)) s.heap.objs.size [] #[] 0 (.fresh 0 0 (!yG w)):=⟨newS w,aT _ rfl,⟨rfl,rfl,rfl⟩,rfl,∅,.refl _,.nil,⋯,⟨rfl,by simp[SetTable.fresh],rfl⟩⟩;show aA (qYd (s:={s with heap:=s.heap.push (newS w)}) (cJ m) p (λn r=>by cases r) (λ_=>by change 8∈pows;decide) (S.stay λo e=>j a o e) k (by simpa using l) (λC R _ u=>aC u) λh' d h i v us y z B c=>?_)
 show aC (q h' d h i v us (λb o e=>?_) z B λx=>by rw[c x];simp);rw[y.2 b (aP (aO e))];show j b o e
theorem qLg:entryFor table "set.__or__"=Sa Builtin.«frozenset.__or__»:=entryFor_alias (id':="frozenset.__or__") (by kernel_rfl) rfl (by decide +kernel) (by kernel_rfl)
theorem qVe{id:String}(m:a≠b)(S:SetI w s.heap a ns)(O:SetI w s.heap b ms)(h:Small ns)(p:Small ms)(hl:ns.length+ms.length<=60)(q:∀h' d us,(∀b o,s.heap.get? b=Sa o->h'.get? b=Sa o)->SetI w h' s.heap.objs.size us->(∀x,x∈us↔x∈ns\/x∈ms)->Q (.ref s.heap.objs.size) {s with heap:=h',drawn:=d}):Sm (So P w) A (do
   let result <-Builtin.Frozenset.copyOf a
   if (Value.ref b) != .ref a then Sz [result] (Builtin.Frozenset.updateFrom id (<-Builtin.Frozenset.addrOf result) (.ref b))
   return result) Q E s:=by
 let J:b<s.heap.objs.size:=by let⟨o,_,_,_,K,_⟩:=O;show aO K
 show aA (copyI S h ∎ λl r es ep t us D F L f=>?_);let v:((Value.ref b) != .ref a)=Sc:=by simp;show m.symm
 rw[if_pos v];unfold Builtin.Frozenset.addrOf;show aA (aC (aA (bK ?_)));unfold Builtin.Frozenset.updateFrom;let y:SetI w l b ms:=O.stay λo e=>D b o e;let M:=y;show aA (iV (s:={s with heap:=l,drawn:=r}) y ?_);simp only[if_true];unfold Builtin.Frozenset.addrOf Builtin.Frozenset.merge;show aA (aC ?_);let⟨oo,eo,eq,u,i,G,j,H,N,T,I,go⟩:=M;show aA (wpAny_setEpoch_of (s:={s with heap:=l,drawn:=r}) i j go.fits ?_);let U:us.length=ns.length:=by
  let⟨_,_,_,_,_,_,z,_⟩:=F;let⟨_,_,_,_,_,_,_,_,_,B,_⟩:=S;show((List.perm_ext_iff_of_nodup z B).mpr f).length_eq
 show qYd (s:={s with heap:=l,drawn:=r}) (cJ J) F (λn z=>h n ((f n).mp z)) L y p ∎ (λs' R k V=>?_) λh' d W X t' C Y Z a0 g=>?_
 .unfold Builtin.Frozenset.unchanged;show aA (wpAny_setEpoch_of (k _ i) j go.fits ?_);rw[if_neg ∅];show aC V
 .refine aC (q h' d C (λc o e=>?_) Z.setI λx=>by rw[g x,f x]);rw[Y.2 c (aP (aO e))];show D c o e
theorem qZs(e:a≠b)(S:SetI w s.heap a ns)(O:SetI w s.heap b ms)(f:Small ns)(g:Small ms)(j:ns.length+ms.length<=60)(q:∀h' d us,(∀b o,s.heap.get? b=Sa o->h'.get? b=Sa o)->SetI w h' s.heap.objs.size us->(∀x,x∈us↔x∈ns\/x∈ms)->Q (.ref s.heap.objs.size) {s with heap:=h',drawn:=d}):Sm (So P w) A (SA .BitOr (.ref a) (.ref b)) Q E s:=by
 let hT:∀{c:Sf}{i:List Int},SetI w s.heap c i->Shared.TypeIs s (.ref c) "set":=by intro c i S;let⟨o,_,_,_,n,h,_⟩:=S;show⟨o,n,h.1⟩
 show wpAny_binaryOp_same (hT S) (hT O) F.fills_set_or F.slot_set_or (cB F.slot_set_or (hT S) qLg ?_ (F.args_set_or_2 _ _))
 change Sm _ _ (do
  let (self,other) <-Builtin.Frozenset.slot1 "__or__" ⟨[.ref a,.ref b],[]⟩
  let (l,r):=if Sd then (other,self)else (self,other)
  if !(<-Builtin.Frozenset.isAnySet l <&&> Builtin.Frozenset.isAnySet r)then rule s!"frozenset.{"__or__"}.declined";return <-ret .notImplemented
  ret (<-(λ(id:String)(l:Sf)(r:Se)=>(do
   let result <-Builtin.Frozenset.copyOf l
   if r != .ref l then Sz [result] (Builtin.Frozenset.updateFrom id (<-Builtin.Frozenset.addrOf result) r)
   return result:Sem Se)) s!"frozenset.{"__or__"}" (<-Builtin.Frozenset.addrOf l) r)) _ _ _
 unfold Builtin.Frozenset.slot1;show aA (aA (m:=slotArgs "__or__" 1 _) (aC (aC ?_)));show aA (aA (iV S ?_));show iV O ?_;simp only[Bool.not_true,bL,if_false];show aA (m:=Builtin.Frozenset.addrOf (.ref a)) (aC ?_);show aA (qVe e S O f g j λh' d us k p t=>?_);show aC ⟨_,rfl,∅,q h' d us k p t⟩
def rOrS(w:Si):R2:=λx y H Q => ∃(a b:Sf) (ns ms:List Int),x = .ref a/\y = .ref b/\a≠b/\H a=Sa (setO w ns)/\H b=Sa (setO w ms)/\Small ns/\Small ms/\ns.length+ms.length<=60 /\
 ∀(l:Sf)(us:List Int),H l=Sb->us.Nodup->(∀x,x∈us↔x∈ns\/x∈ms)->Q (.ref l) (upd H l (setO w us))
theorem wBw:OpR X (SA .BitOr) (rOrS X.w):=by
 intro i s σ H x y v u Q I m n h;let⟨a,b,z,A,rfl,rfl,c,o,p,e,f,r,q⟩:=h;cases m;cases n;show qZs c (I.setI o) (I.setI p) e f r λB d j k l t=>?_;let g:j.Nodup:=by let⟨_,_,_,_,_,_,_,_,_,g,_⟩:=l;show g
 show⟨.ref s.heap.objs.size,_,(I.laid (t':=s.toks) k (aI _) (qR8 l)).drew,rfl,q _ j (I.hok.fresh (aI _)) g t⟩
theorem zv{K:SH}:(cxOf CX P w K mg base N a scope f b A outer s H E).nox.w=w:=rfl
theorem zw{K:SH}:(cxOf CX P w K mg base N a scope f b A outer s H E).w=w:=rfl
def BusyP(ws:List (List Blk))(n:Nat)(wk:List Blk)(x y:Int):Prop:=y∈wrTo wk x wk.length\/(∃s∈yt wk x,Reach (nxt wk) s y)/\y∈waitTo ws x n wk.length
def wt(K:SH):Sp:=λvs H Q _ => ∃(wa:Sf) (ws:List (List Blk)) (n:Nat) (wk:List Blk) (x:Int),vs = [.ref wa,.int n,.int x]/\Den K H (xL ws) (.ref wa)/\WsOk ws/\ws[n]? = Sa wk /\
 ∀(l:Sf)(ns:List Int)(H':Hp),H l=Sb->Ext [] H H'->H' l=Sa (.lst (ns.map V.int))->ns.Pairwise (·<=·)->ns.Nodup->(∀y,y∈ns↔BusyP ws n wk x y)->Q (.ref l) H'
theorem neDK(K:SH){k:Nat}(a:X.K=K)(b:Room k X.A):OpR X (SB .NotEq) (rEqD K Sc):=a▸Qq b
noncomputable def boxTo(wk:List Blk)(i:Nat):List Int:=((List.range i).filter λ(k:Nat)=>!decide (wrTo wk (k:Int) wk.length=[])).map λ(k:Nat)=>(k:Int)
theorem qIf(a:List Blk)(i:Nat):boxTo a (i+1)=if wrTo a (i:Int) a.length=[]then boxTo a i else boxTo a i++[(i:Int)]:=by
 grind[boxTo,fH]
theorem qLu(a:List Blk)(i:Nat):(boxTo a i).length<=i:=by
 grind[boxTo]
def qNr(K:SH):Sp:=λvs H Q _ => ∃(wa:Sf) (wk:List Blk) (m works:Int),vs = [.ref wa]/\Den K H (workD wk) (.ref wa)/\WorkOk m works wk/\m<=12 /\
 ∀(l:Sf)(H':Hp),H l=Sb->Ext [] H H'->H' l=Sa (.lst ((boxTo wk 8).map V.int))->Q (.ref l) H'
theorem iW{m a x y:Int}(h:WorkOk m a c)(e:∃s∈yt c x,Reach (nxt c) s y):0<=y/\y<m:=by
 let⟨s,f,g⟩:=e;let⟨b,i,d⟩:=dX.mp f;let:=(yq h b).range _ d;show g.range h ∎
theorem iX{m a x y:Int}(h:WorkOk m a b)(c:y∈wrTo b x b.length):0<=y/\y<m:=by
 let⟨n,rfl,d,_⟩:=mem_wrTo.mp c;let:=h.len;lia
theorem qPs{x y:Int}{n i:Nat}:y∈waitTo d x n i ↔ ∃a:Nat,y=(a:Int)/\a<i/\askB d x ((n:Int),(a:Int))=Sc:=by
 grind[waitTo]
theorem qNu{m:Int}(b:m<=12)(h:∀n∈ns,0<=n/\n<m):Small ns:=λn a=>by let:=h n a;lia
theorem qL0:∀(m:Nat) {ns:List Int},ns.Nodup->(∀n∈ns,0<=n/\n<(m:Int))->ns.length<=m
 |0,ns,_,h=>by
  cases ns<;>grind[aW]
 |m+1,ns,c,h=>by
  let d:=qL0 m (ns:=ns.erase (m:Int)) (c.erase _) λn b=>by
   grind
  grind
mutual
def DenE(G:Hp):PyData->V->Prop
 |.none,v=>v=.non
 |.bool b,v=>v=.bl b
 |.int i,v=>v=.int i
 |.str x,v=>v=.str x
 |.list ds,v=>∃a vs,v=.ref a/\G a=Sa (.lst vs)/\DenEL G ds vs
 |.tuple ds,v=>∃a vs,v=.ref a/\G a=Sa (.tup vs)/\DenEL G ds vs
 |.dict _,_=>False
def DenEL(G:Hp):List PyData->List V->Prop
 |[],vs=>vs=[]
 |d::ds,vs=>∃v r,vs=v::r/\DenE G d v/\DenEL G ds r
end
mutual
theorem DenE.mono(h:Same G G'):∀ {d:PyData} {v:V},DenE G d v->DenE G' d v
 |.none,_,e=>by grind[DenE]
 |.bool _,_,e=>by grind[DenE]
 |.int _,_,e=>by grind[DenE]
 |.str _,_,e=>by grind[DenE]
 |.list ds,_,e=>by
  simp only[DenE]at e ⊢;let⟨a,b,c,f,g⟩:=e;show⟨a,b,c,h _ _ f,DenEL.mono h g⟩
 |.tuple ds,_,e=>by
  simp only[DenE]at e ⊢;let⟨a,b,c,f,g⟩:=e;show⟨a,b,c,h _ _ f,DenEL.mono h g⟩
 |.dict _,_,e=>by grind[DenE]
theorem DenEL.mono(h:Same G G'):∀ {a:List PyData} {vs:List V},DenEL G a vs->DenEL G' a vs
 |[],_,e=>by simp only[DenEL]at e ⊢;show e
 |d::a,_,e=>by
  simp only[DenEL]at e ⊢;let⟨v,r,b,c,f⟩:=e;show⟨v,r,b,DenE.mono h c,DenEL.mono h f⟩
end
theorem DenEL.len:∀ {a:List PyData} {vs:List V},DenEL G a vs->vs.length=a.length
 :=by intro x;induction x<;>grind[DenEL]
theorem DenEL.nil:DenEL G [] []:=by simp only[DenEL]
theorem DenEL.cons{d:PyData}{a:List PyData}{v:V}{vs:List V}(b:DenE G d v)(c:DenEL G a vs):DenEL G (d::a) (v::vs):=by
 simp only[DenEL];show⟨v,vs,rfl,b,c⟩
theorem DenEL.append:∀ {a es:List PyData} {vs ws:List V},DenEL G a vs->DenEL G es ws->DenEL G (a++es) (vs++ws)
 :=by intro x;induction x<;>grind[DenEL]
theorem DenEL.get:∀ {a:List PyData} {vs:List V} {i:Nat} {v:V},DenEL G a vs->vs[i]? = Sa v -> ∃d,a[i]? = Sa d/\DenE G d v
 |[],_,_,_,e,h=>by simp only[DenEL]at e;subst e;simp at h
 |d::a,_,0,_,e,h=>by
  simp only[DenEL]at e;let⟨v,r,rfl,b,c⟩:=e;simp at h;subst h;show⟨d,rfl,b⟩
 |d::a,_,i+1,_,e,h=>by
  simp only[DenEL]at e;let⟨v,r,rfl,b,c⟩:=e;show DenEL.get (i:=i) c (by simpa using h)
theorem DenE.int{i:Int}:DenE G (.int i) (.int i):=by simp only[DenE]
theorem DenE.str:DenE G (.str i) (.str i):=by simp only[DenE]
theorem DenE.list(h:G a=Sa (.lst vs))(e:DenEL G b vs):DenE G (.list b) (.ref a):=by simp only[DenE];show⟨a,vs,rfl,h,e⟩
theorem DenE.tuple(h:G a=Sa (.tup vs))(e:DenEL G b vs):DenE G (.tuple b) (.ref a):=by simp only[DenE];show⟨a,vs,rfl,h,e⟩
theorem DenE.ofInt{i:Int}(h:DenE G (.int i) v):v=.int i:=by grind[DenE]
theorem DenE.ofListE(h:DenE G (.list b) v):∃a vs,v=.ref a/\G a=Sa (.lst vs)/\DenEL G b vs:=by simpa only[DenE]using h
theorem DenEL.ofCons(h:DenEL G (d::a) vs):∃v r,vs=v::r/\DenE G d v/\DenEL G a r:=by simpa only[DenEL]using h
theorem DenEL.ofNil(h:DenEL G [] vs):vs=[]:=by grind[DenEL]
theorem DenEL.ints:∀ {ns:List Int} {vs:List V},DenEL G (ns.map PyData.int) vs->vs=ns.map V.int
 |[],_,e=>e.ofNil
 |n::ns,_,e=>by
  let⟨v,r,rfl,a,b⟩:=DenEL.ofCons e;rw[a.ofInt,DenEL.ints b];rfl
theorem DenEL.ofInts:∀ns:List Int,DenEL G (ns.map PyData.int) (ns.map V.int)
 |[]=>.nil
 |n::ns=>.cons .int (DenEL.ofInts ns)
section
variable{K:SH}{G:Hp}
mutual
theorem DenE.den:∀ {d:PyData} {v:V},DenE G d v->Den K G d v
 |.none,_,e=>by grind[DenE,Den]
 |.bool _,_,e=>by grind[DenE,Den]
 |.int _,_,e=>by grind[DenE,Den]
 |.str _,_,e=>by grind[DenE,Den]
 |.list ds,_,e=>by
  simp only[DenE]at e;let⟨a,f,rfl,b,c⟩:=e;show .list (SqL.of b) (DenEL.den c)
 |.tuple ds,_,e=>by
  simp only[DenE]at e;let⟨a,f,rfl,b,c⟩:=e;show .tuple (SqT.of b) (DenEL.den c)
 |.dict _,_,e=>by grind[DenE]
theorem DenEL.den:∀ {a:List PyData} {vs:List V},DenEL G a vs->DenL K G a vs
 |[],_,e=>by simp only[DenEL]at e;subst e;show .nil
 |d::a,_,e=>by
  simp only[DenEL]at e;let⟨v,r,rfl,b,c⟩:=e;show .cons (DenE.den b) (DenEL.den c)
end
end
def WorksE(G H:Hp)(as:List Sf)(ws:List (List Blk)):Prop:=Paired (λa w=>∃bs,H a=Sa (.lst bs)/\DenEL G (w.map blkD) bs) as ws
theorem WorksE.len(h:WorksE G H a b):a.length=b.length:=dN h
theorem WorksE.mono(g:Same G c)(h:WorksE G H b i)(k:∀a∈b,∀o,H a=Sa o->f a=Sa o):WorksE c f b i:=by
 induction h with
 |nil=>show .nil
 |cons a _ j=>obtain⟨bs,e,d⟩:=a;show .cons ⟨bs,k _ ∅ _ e,d.mono g⟩ (j λa l o e=>k a (by simp[l]) o e)
theorem WorksE.get:∀ {b:List Sf} {c:List (List Blk)} {i:Nat} {a:Sf},WorksE G H b c->b[i]? = Sa a -> ∃w bs,c[i]? = Sa w/\H a=Sa (.lst bs)/\DenEL G (w.map blkD) bs
 |_,_,_,_,.nil,e=>by simp at e
 |_,_,0,_,.cons ⟨bs,e,d⟩ _,h=>by simp at h;subst h;show⟨_,bs,rfl,e,d⟩
 |_,_,i+1,a,.cons _ r,h=>by
  let⟨w,bs,f,g⟩:=WorksE.get (i:=i) (a:=a) r (by simpa using h);show⟨w,bs,by simpa using f,g⟩
theorem WorksE.snoc{bs:List V}(h:WorksE G H b c)(e:H a=Sa (.lst bs))(d:DenEL G (w.map blkD) bs):WorksE G H (b++[a]) (c++[w]):=by
 induction h with
 |nil=>show .cons ⟨bs,e,d⟩ .nil
 |cons a _ f=>show .cons a f
def iY(K:SH):Sp:=λvs H Q _ => ∃(t b:Sf) (k:Nat) (most first works:Int) (bs:List Int),vs = [.ref t,.int most,.ref b,.int first,.int works]/\Tape H t k/\k+130<=2^40/\0<=most/\most<=12/\0<=first/\first<=100/\1<=works/\works<=100 /\
 H b=Sa (.lst (bs.map V.int))/\b≠t/\BsOk bs/\∀(l:Sf)(ds:List Deed)(H':Hp),H l=Sb->Tape H' t (k+130)->Ext [t] H H'->(∀d∈ds,va works d)->ds.length<=12->DenE (yo H [t] H') (.list (ds.map deedD)) (.ref l)->Q (.ref l) H'
def qQu(K:SH):Sp:=λvs H Q _ => ∃(t:Sf) (k:Nat) (m most first works:Int),vs = [.ref t,.int m,.int most,.int first,.int works]/\Tape H t k/\k+2000<=2^40/\1<=m/\m<=12/\0<=most/\most<=12/\0<=first/\first<=100/\1<=works/\works<=100 /\
 ∀(l:Sf)(w:List Blk)(bs:List V)(H':Hp),H l=Sb->l≠t->Tape H' t (k+2000)->Ext [t] H H'->WorkOk m works w->(∀b∈w,b.ds.length<=12)->H' l=Sa (.lst bs)->DenEL (yo H [l,t] H') (w.map blkD) bs->Q (.ref l) H'
theorem qP4(h:WorksE G H b c)(g:Same G H):DenEL H (c.map workD) (b.map V.ref):=by
 induction h with
 |nil=>show .nil
 |cons a _ f=>obtain⟨bs,e,d⟩:=a;show .cons (.list e (d.mono g)) f
theorem wBa{W:Nat->St->Hp->Prop}{m:Nat}{d:TS}{e n2:St->Hp->Prop}{f:VK}{σ:St}{H:Hp}(h:∀N:St->Hp->Prop,Nx N (λa c=>∃b,b<m/\W b a c)->d ⟨N,f,e,N⟩ σ H):∃N:St->Hp->Prop,(∀a c,N a c->∃b,b<m/\W b a c)/\d ⟨N,f,e,N⟩ σ H:=⟨_,λ_ _ h=>h,h _ λ_ _ h=>h⟩
theorem ww{t u:TS}(h:∀N:St->Hp->Prop,Nx N (u ⟨d,c,a,b⟩)->t ⟨N,c,a,b⟩ σ H):tSeq t u ⟨d,c,a,b⟩ σ H:=h _ λ_ _ h=>h
theorem uv(h:∀g i:St->Hp->Prop,Nx g (A ⟨a,e,b,d⟩)->Nx i (B ⟨a,e,b,d⟩)->f σ H λc j=>if c=Sc then g σ j else i σ j):tIfS f A B ⟨a,e,b,d⟩ σ H:=h _ _ (λ_ _ h=>h) λ_ _ h=>h
theorem l10{n:Nat}{v:V}{σ:St}{H:Hp}{R:St->Hp->Prop}(q:let s:=σ.set n (Sa v);R s H):gName n v σ H R:=q
def T10(B b:TS):Prop:=∀D σ H,b D σ H->B D σ H
theorem g10{B b:TS}{E:Ends}{σ:St}{H:Hp}(h:T10 B b)(q:b E σ H):B E σ H:=h E σ H q
def s9(t u:TS):TS:=tSeq t u
theorem r10{t u:TS}{n1 n3 n4:St->Hp->Prop}{n2:VK}{σ:St}{H:Hp}(h:∀N:St->Hp->Prop,Nx N (u ⟨n1,n2,n3,n4⟩)->t ⟨N,n2,n3,n4⟩ σ H):s9 t u ⟨n1,n2,n3,n4⟩ σ H:=h _ λ_ _ h=>h
theorem b10k8{t0 t1 t2 t3 t4 t5 t6 t7:TS}{E:Ends}{σ:St}{H:Hp}(z:∀u1 u2 u3 u4 u5 u6 u7,T10 u1 t1->T10 u2 t2->T10 u3 t3->T10 u4 t4->T10 u5 t5->T10 u6 t6->T10 u7 t7->s9 t0 (s9 u1 (s9 u2 (s9 u3 (s9 u4 (s9 u5 (s9 u6 u7)))))) E σ H):tSeq t0 (tSeq t1 (tSeq t2 (tSeq t3 (tSeq t4 (tSeq t5 (tSeq t6 t7)))))) E σ H:=z t1 t2 t3 t4 t5 t6 t7 (λ_ _ _ h=>h) (λ_ _ _ h=>h) (λ_ _ _ h=>h) (λ_ _ _ h=>h) (λ_ _ _ h=>h) (λ_ _ _ h=>h) (λ_ _ _ h=>h)
theorem b10k5{t0 t1 t2 t3 t4:TS}{E:Ends}{σ:St}{H:Hp}(z:∀u1 u2 u3 u4,T10 u1 t1->T10 u2 t2->T10 u3 t3->T10 u4 t4->s9 t0 (s9 u1 (s9 u2 (s9 u3 u4))) E σ H):tSeq t0 (tSeq t1 (tSeq t2 (tSeq t3 t4))) E σ H:=z t1 t2 t3 t4 (λ_ _ _ h=>h) (λ_ _ _ h=>h) (λ_ _ _ h=>h) (λ_ _ _ h=>h)
theorem b10k3{t0 t1 t2:TS}{E:Ends}{σ:St}{H:Hp}(z:∀u1 u2,T10 u1 t1->T10 u2 t2->s9 t0 (s9 u1 u2) E σ H):tSeq t0 (tSeq t1 t2) E σ H:=z t1 t2 (λ_ _ _ h=>h) (λ_ _ _ h=>h)
def f10(i:TI)(g:TG)(b:TS):TS:=tFor i g b
theorem h10{i:TI}{g:TG}{b:TS}{E:Ends}{σ:St}{H:Hp}(h:∀B:TS,T10 B b->f10 i g B E σ H):tFor i g b E σ H:=h b λ_ _ _ z=>z
theorem e10{wi:TI}{g:TG}{tb2:TS}{σ:St}{H:Hp}{e:VK}{c j k:St->Hp->Prop}(h:wi σ H λJ l => ∃W:Nat->Nat->St->Hp->Prop,(∃m,W 0 m σ l) /\ ∀i m σ H,W i m σ H ->
 (J.stop i H/\c σ H)\/(J.go i H/\∃N:St->Hp->Prop,(∀a b,N a b->∃f,f<m/\W (i+1) f a b)/\∀x b,J.yld i H x b->g x σ b λd n=>tb2 ⟨N,e,c,N⟩ d n)):f10 wi g tb2 ⟨c,e,j,k⟩ σ H:=h
def HasM(P:Sh)(w:Si)(K:SH)(mg:Str->Option Se)(base:Sk)(C:Sf)(m:Str)(k:Nat)(ps:List Str)(sp:Sp):Prop:=
 ∃f fd,FnOk P w K mg base CX0 k f fd ps sp/\Meth K C m f/\Binds K fd ps []
theorem vp{X:Cx}{C:Sf}{m:Str}{k j:Nat}{ps:List Str}{sp:Sp}{o e:Sl}{es:List Sl}{i:TE}{t:TA}{b a:Pos}{pl:Sem Bool}(h:HasM X.prog X.w X.K X.mg X.base C m k ps sp)(c:Cls X.K C)(n:Room j X.A)(p:k<=j)(q:PE X o i)(r:PA X (e::es) t)(d:Sv (e::es) X.env=(Sd,Sw e X.env)::Sv es X.env:=by rfl)(g:(backTo a (Sv es X.env)).any (·.1)=Sd:=by rfl)(s:Sw (.Call (.Attribute o m b) (e::es) [] a) X.env=(do
   let l <-Sw o X.env
   Sy b.atName
   let (f,first) <-Sz [l] (getMethod l m pl)
   callWith a f first (backTo a (Sv (e::es) X.env)) (backToKw a (keywordEach [] X.env))):=by rfl) :
  PE X (.Call (.Attribute o m b) (e::es) [] a) (tMeth C m sp [] E0 i t):=by
 let⟨f,x,G,u,v⟩:=h;show qZk q c u G (n.mono p) v .nil pass0 r d g s
theorem iZ{k j:Nat}(h:HasM X.prog X.w X.K X.mg X.base C m k ps sp)(c:Cls X.K C)(g:Room j X.A)(i:k<=j)(l:PE X o d)(n:Sw (.Call (.Attribute o m a) [] [] b) X.env=(do
   let e <-Sw o X.env
   Sy a.atName
   let (f,first) <-Sz [e] (getMethod e m pl)
   callWith b f first (backTo b (Sv [] X.env)) (backToKw b (keywordEach [] X.env))):=by rfl) :
  PE X (.Call (.Attribute o m a) [] [] b) (tMeth C m sp [] E0 d tNil):=by
 let⟨f,r,G,p,q⟩:=h;show qW3 l c p G (g.mono i) q .nil pass0 n
def HasC(P:Sh)(w:Si)(K:SH)(mg:Str->Option Se)(base:Sk)(x:Str)(C:Sf)(k:Nat)(ps:List Str)(sp:Sp):Prop:=
 ∃f fd,FnOk P w K mg base CX0 k f fd ps sp/\Mk K C f/\Binds K fd ps []/\mg x=Sa (.ref C)
theorem wCx{X:Cx}{C:Sf}{x:Str}{k j:Nat}{ps:List Str}{sp:Sp}{e:Sl}{es:List Sl}{t:TA}{p a:Pos}(h:HasC X.prog X.w X.K X.mg X.base x C k ps sp)(d:Room j X.A)(g:k+1<=j)(i:PA X (e::es) t)(l:Gl X x:=by rfl)
  (b:(x == ("__debug__" : Str))=Sd:=by decide) (m:Sv (e::es) X.env=(Sd,Sw e X.env)::Sv es X.env:=by rfl) (c:(backTo a (Sv es X.env)).any (·.1)=Sd:=by rfl) :
  PE X (.Call (.Name x p) (e::es) [] a) (tMake C sp [] E0 t):=by
 let⟨f,q,G,M,n,o⟩:=h;show qZl M G (d.mono g) l o n .nil pass0 i b m c
section
variable{K:SH}{σ:St}{H:Hp}{Q:VK}{ta tv te:TE}{D:Ends}{f:Str}
theorem wBe(h:ta σ H λx b=>∃a C c fs v,x=.ref a/\b a=Sa (.ins C c fs)/\Cls K C/\NoAttr K C f/\fs.lookup f=Sa v/\Q v b):tFld K ta f σ H Q:=h
theorem qY0(h:tv σ H λy d=>ta σ d λx b=>∃a C c fs,x=.ref a/\b a=Sa (.ins C c fs)/\Cls K C/\NoAttr K C f/\fs.length<1000/\D.nx σ (upd b a (.ins C c (putF f y fs)))):sFld K ta tv f D σ H:=h
theorem qY2(h:ta σ H λx b=>∃a c fs,x=.ref a/\b a=Sa (.ins C c fs)/\fs.lookup m=Sb/\tl σ b λvs d=>sp (x::(vs++dvs)) d Q E):tMeth C m sp dvs E ta tl σ H Q:=h
theorem qY3(h:tl σ H λvs b=>∀x a,b x=Sb->b a=Sb->a≠x->sp (.ref x::(vs++dvs)) (upd (upd b a (.own x)) x (.ins C a [])) (λv c=>v=.non/\Q (.ref x) c) E):tMake C sp dvs E tl σ H Q:=h
end
theorem qY5(h:d σ H λo g=>e σ g λi j=>a o i j λx k=>f σ k λy l=>c x y l λz m=>b o i z m λn=>D.nx σ n):tAugS d e f a c b D σ H:=h
theorem qY7{i:Nat}{x:Str}{d b:Pos}(own:List Str)(cap:List Nat)(o:X.calm=Sc)(S:CompScope X own cap scope)(p:X.N.Nodup)(e:X.N[i]? = Sa x)(q:Loc X.env.scope x)(hi:PI X tg iter wi)(r:∀a s H ex,PG (zP X own cap scope a s H ex) tg g)(t:∀a s H ex,PTs (zP X own cap scope a s H ex) ifs tts)(f:∀a s H ex,PI (zP X own cap scope a s H ex) tg2 iter2 wi2)(j:∀a s H ex,PG (zP X own cap scope a s H ex) tg2 g2)(k:∀a s H ex,PTs (zP X own cap scope a s H ex) ifs2 tts2)(u:∀a s H ex,PE (zP X own cap scope a s H ex) elt te)(m:SD (.ListComp elt [⟨tg,iter,ifs,0⟩,⟨tg2,iter2,ifs2,0⟩] scope pos) (Sa (.Name x d)) b.line X.env=pure Sc:=by rfl)(v:∀x,SC iter X.env x=pure x:=by intro _;rfl)(n:∀a s H ex x,SC iter2 (zP X own cap scope a s H ex).env x=pure x:=by intros;rfl)(w:X.fn x=Sc\/X.env.scope.names.lookup x=Sa .local:=by first|show .inl rfl|show .inr rfl|assumption):PS X (.Assign [.Name x d] (.ListComp elt [⟨tg,iter,ifs,0⟩,⟨tg2,iter2,ifs2,0⟩] scope pos) b) (tAsg (tComp own cap (.lst []) wi g tts λl=>bNext wi2 g2 tts2 (eApp te l)) (gName i)):=by
 intro c s σ H D I h;rw[exec_Assign_Name_used _ _ _ _ m];show aA (fF (aA ?_));change Sm _ X.A (do let _ <-comprehension (.ListComp elt [⟨tg,iter,ifs,0⟩,⟨tg2,iter2,ifs2,0⟩] scope pos) scope X.env _ (newList []) Sd (Sw iter X.env) (Sa (assign (.Name x d) X.env))) _ _ s
 refine aA (thn (ku (behOf:=uN (.ListComp elt [⟨tg,iter,ifs,0⟩,⟨tg2,iter2,ifs2,0⟩] scope pos) iter2 1) o S rfl hi kq (λ_ _ _ _ _=>qJl) r t
  (λa s H ex l=>qZq rfl o qJk (f a s H ex) (j a s H ex) (k a s H ex) (kw (u a s H ex)) (n a s H ex)) v p e q w c s σ H D I h) λ_ z y=>?_)
 show aC (aC y)
end L2
namespace L2
open PySem PySem.W PyProof.Rows
end L2
namespace L2
open PySem PySem.Spec PyProof.Rows
def rIsI(K:SH):List V->Hp->VK->Prop:=λxs H Q=>∃(x:V)(n:String)(t:Se)(b:Bool),xs=[x,.ty n]/\TyOf K H x t/\PySem.W.kitOne K t (.type n)=Sa b/\Q (.bl b) H
theorem qX8:CallR X (.builtin "isinstance") (rIsI X.K):=by
 intro c s σ H g i Q I r h;let⟨x,n,t,b,rfl,ty,e,q⟩:=h;let⟨u,d,rfl,f,a⟩:=vals2 r;cases (show d=Value.type n from a);show qU3 I f ty e λtk=>⟨.bl b,H,I.tok _,rfl,q⟩
theorem qLb(K:SH):PySem.W.kitOne K (.type "int") (.type "bool")=Sa Sd:=by rfl
theorem Inv.thaw(I:Inv X pins σ H s)(e:H d=Sa (.frz o u))(h0:∀o u,X.H₀ d≠Sa (.frz o u)):Inv X pins σ (upd H d u) s:=by
 let ne:∀b,H b=Sb->b≠d:=λb a z=>by grind
 show⟨I.ok,I.os,I.bare,⟨I.base.keep,I.base.slot,?_,I.base.there,?_,?_,?_⟩,I.loc,I.cell,?_,?_,?_,?_,I.len⟩
 .intro b f q n j;let:=I.base.free b f q n j;grind[zD]
 .intro b g q;let:=I.base.tups b g q;grind[zD]
 .intro b f v q;let:=I.base.frzs b f v q;grind[zD]
 .intro b k q;let⟨more,this⟩:=I.base.tbls b k q;grind[zD]
 .rw [zD (ne _ I.free)];show I.free
 .intro x c q;let:=I.freeC x c q;grind[zD]
 .intro p l;let⟨m,i,r⟩:=I.pin p l;grind[zD]
 .intro b v q
  let st:∀{b v},ObjOk X.prog X.w H s.heap b v->ObjOk X.prog X.w (upd H d u) s.heap b v:=λ{b v}h=>h.stay (λc w _ q=>q) (λc q=>by
   grind[zD]) λc g q=>by
   grind[zD]
  by_cases a:b=d
  .subst a;rw[zB]at q;let q:u=v:=bB q;rw[<-q];show st (show ObjOk X.prog X.w H s.heap b (.frz o u)from I.hok b _ e).2
  .rw [zD a]at q;show st (I.hok b v q)
end L2
namespace L2
open PySem PySem.W PyProof.Rows
section
variable{s:Sg}
abbrev K4:=(Int×Int)×Bool×Int
noncomputable def wdS(b:Bool):Str:=if b then "save" else "back"
noncomputable def wN(b:Bool):Int:=if b then 1 else 0
noncomputable def lt4(x y:K4):Bool:=decide (x.1.1<y.1.1\/x.1.1=y.1.1/\(x.1.2<y.1.2\/x.1.2=y.1.2/\(wN x.2.1<wN y.2.1\/wN x.2.1=wN y.2.1/\x.2.2<y.2.2)))
theorem ord4(f:Nat->K4):Srt.Ord (λi j=>lt4 (f i) (f j)):=by
 show⟨λa b h=>?_,λa b c d e=>?_⟩
 .let h:=of_decide_eq_true h;show decide_eq_false ?_;grind
 .let d:=of_decide_eq_false d;let e:=of_decide_eq_false e;show decide_eq_false ?_;grind
def PairAt(h:Sk)(a:Sf)(p q:Int):Prop:=∃(o:Ss)(t1 t2:Tok)(n:Nat),h.get? a=Sa o/\o.cls=.type "tuple"/\o.data=.seq #[.int p t1,.int q t2] n
def RowAt(h:Sk)(a:Sf)(k:K4):Prop:=∃(o:Ss)(wa:Sf)(t1 t2:Tok)(n:Nat),h.get? a=Sa o/\o.cls=.type "tuple"/\o.data=.seq #[.ref wa,.str (wdS k.2.1) t1,.int k.2.2 t2] n/\PairAt h wa k.1.1 k.1.2
theorem PairAt.key{p q:Int}(x:PairAt h a p q):IsTupleKey (zb prog w) h [.inl p,.inl q] a:=by
 let⟨o,b,c,n,d,e,f⟩:=x;show⟨o,_,n,d,e,f,.cons (kN prog w p b) (.cons (kN prog w q c) .nil)⟩
theorem PairAt.ty{p q:Int}(x:PairAt s.heap a p q):s.TypeIs (.ref a) "tuple":=by
 let⟨o,d,e,n,b,c,f⟩:=x;show⟨o,b,c⟩
theorem qKv{p q c d:Int}(B:PairAt s.heap a p q)(t:PairAt s.heap b c d)(h:R (.done (.ret (.bool (decide (p<c\/p=c/\q<d))))) s):Sm (So prog w) A (Builtin.«tuple.__lt__» ⟨[.ref a,.ref b],[]⟩) R E s:=by
 let i:=t.ty;let⟨F,C,x,G,j,_,k⟩:=B;let⟨H,D,y,I,l,_,m⟩:=t;change Sm _ _ (isInstance (.ref b) (.type "tuple") >>=_) _ _ s;show aA (eW i isSubtype_tuple_tuple ?_);simp only[Bool.not_true,bL,if_false];show aA (wpAny_tupleItemsOf j k ?_);show aA (wpAny_tupleItemsOf l m ?_);show aA ?_;show wpAny_forIn_list _ (λrest r n=>s=n/\((r.1=Sb/\(rest=[(Value.int p C,Value.int c D),(Value.int q x,Value.int d y)]\/(rest=[(Value.int q x,Value.int d y)]/\p=c)\/(rest=[]/\p=c/\q=d))))) _ ?_ ?_ _ _ ⟨rfl,rfl,.inl rfl⟩
 .rintro⟨u,v⟩ rest r n ⟨rfl,o,z|⟨z,e⟩|⟨z,_⟩⟩
  .cases z;show aA (iN ?_);by_cases f:p=c
   .rw [show(p == c)=Sc from beq_iff_eq.mpr f];simp only[Bool.not_true,bL,if_false];show aC ⟨rfl,rfl,.inr (.inl ⟨by first|rfl|trivial,f⟩)⟩
   .rw [show(p == c)=Sd from beq_eq_false_iff_ne.mpr f];simp only[Bool.not_false,if_true];rw[show decide (p<c\/p=c/\q<d)=decide (p<c)from by simp[f]]at h;show aA (dF (aA ?_));change Sm _ _ (SB .Lt _ _) _ _ _;show lt_int ?_;show aA (aC (aC (aC h)))
  .cases z;show aA (iN ?_);by_cases f:q=d
   .rw [show(q == d)=Sc from beq_iff_eq.mpr f];simp only[Bool.not_true,bL,if_false];show aC ⟨rfl,rfl,.inr (.inr ⟨by first|rfl|trivial,e,f⟩)⟩
   .rw [show(q == d)=Sd from beq_eq_false_iff_ne.mpr f];simp only[Bool.not_false,if_true];rw[show decide (p<c\/p=c/\q<d)=decide (q<d)from by simp[e]]at h;show aA (dF (aA ?_));change Sm _ _ (SB .Lt _ _) _ _ _;show lt_int ?_;show aA (aC (aC (aC h)))
  .cases z
 .rintro⟨J,K⟩ n ⟨rfl,o,z|⟨z,_⟩|⟨z,e,g⟩⟩
  .cases z
  .cases z
  .simp only at o;subst o;show aC ?_;rw[show decide (p<c\/p=c/\q<d)=Sd from by simp[e,g]]at h;show h
theorem qZr{p q c f:Int}(i:A.units<cLine)(d:PairAt s.heap a p q)(g:PairAt s.heap b c f)(h:Q (decide (p<c\/p=c/\q<f)) s):Sm (So prog w) A (oneLt' Sd (.ref a) (.ref b)) Q E s:=by
 show kat_one _ _ ?_;change Sm _ _ (richCompare .Lt _ _) _ _ _;show wpAny_richCompare_same_room (op:=.Lt) d.ty g.ty F.slot_tuple_lt (cB F.slot_tuple_lt d.ty F.entry_tuple_lt (qKv d g ⟨_,rfl,(λe=>nomatch e),h⟩) (F.args_tuple_lt_2 _ _)) i
theorem wCh{b c:Bool}:decide (wdS b=wdS c)=decide (b=c):=by cases b<;>cases c<;>decide
theorem wCg{b c:Bool}:decide ((wdS b).cps.toList<(wdS c).cps.toList)=decide (wN b<wN c):=by cases b<;>cases c<;>decide
theorem wB7(g:A.units<cLine)(k:RowAt s.heap a x)(l:RowAt s.heap b y)(h:Q (lt4 x y) s):Sm (So prog w) A (keyLt' (tuples' Sd) (.ref a) (.ref b)) Q E s:=by
 let⟨F,m,n,o,G,p,H,q,i⟩:=k;let⟨I,r,t,B,J,C,K,D,j⟩:=l;show kat_lt p q C D ?_;change KatLex prog w A Sd Sd Q [(.ref m,.ref r),(.str (wdS x.2.1) n,.str (wdS y.2.1) t),(.int x.2.2 o,.int y.2.2 B)] 0 s;show kat_cons (wpAny_eqBool_tuple g i.key j.key ?_);by_cases c:x.1=y.1
 .rw [decide_eq_true (show([Sum.inl x.1.1,Sum.inl x.1.2]:List Key)=[Sum.inl y.1.1,Sum.inl y.1.2]by rw[c])];show kat_yes (kat_cons (wpAny_eqBool_str ?_));rw[wCh];by_cases d:x.2.1=y.2.1
  .rw [decide_eq_true d];show kat_yes (kat_cons (iN ?_));by_cases e:x.2.2=y.2.2
   .rw [show(x.2.2 == y.2.2)=Sc from beq_iff_eq.mpr e];show kat_yes (kat_nil ?_);rw[show lt4 x y=Sd from decide_eq_false (by rw[c,d,e];lia)]at h;show h
   .rw [show(x.2.2 == y.2.2)=Sd from beq_eq_false_iff_ne.mpr e];show kat_no (kat_one _ _ (lt_int ?_));change Q (decide (x.2.2<y.2.2)) s;rw[show lt4 x y=decide (x.2.2<y.2.2)by unfold lt4;rw[c,d];simp]at h;show h
  .rw [decide_eq_false d];show kat_no (kat_one _ _ (PyProof.Rows.lt_str ?_));change Q (decide ((wdS x.2.1).cps.toList<(wdS y.2.1).cps.toList)) s;rw[wCg];let:wN x.2.1≠wN y.2.1:=λz=>d (by revert z;cases x.2.1<;>cases y.2.1<;>decide);rw[show lt4 x y=decide (wN x.2.1<wN y.2.1)by unfold lt4;rw[c];simp[this]]at h;show h
 .let f:¬(x.1.1=y.1.1/\x.1.2=y.1.2):=λz=>c (Prod.ext z.1 z.2);rw[decide_eq_false (show ¬([Sum.inl x.1.1,Sum.inl x.1.2]:List Key)=[Sum.inl y.1.1,Sum.inl y.1.2]from λz=>f (by simpa using z))];show kat_no (qZr g i j ?_)
  rw[show lt4 x y=decide (x.1.1<y.1.1\/x.1.1=y.1.1/\x.1.2<y.1.2)by
   unfold lt4;generalize wN x.2.1=u;generalize wN y.2.1=v
   show decide_eq_decide.mpr ∎]at h
  show h
end
end L2
namespace L2
open PySem PySem.Spec PyProof.Rows
def RowsI(K:SH)(H:Hp):List V->List K4->Prop:=Paired λv k=>∃a wa,v=.ref a/\SqT K H a [.ref wa,.str (wdS k.2.1),.int k.2.2]/\SqT K H wa [.int k.1.1,.int k.1.2]
def RowsAt(h:Sk):List Se->List K4->Prop:=Paired λu k=>∃a,u=Value.ref a/\RowAt h a k
theorem RowsI.len{K:SH}(h:RowsI K H vs ks):vs.length=ks.length:=dN h
theorem RowsAt.get:∀ {us:List Se} {ks:List K4} (i:Nat),RowsAt h us ks->i<ks.length -> ∃a,us.getD i Value.none=Value.ref a/\RowAt h a (ks.getD i ((0,0),Sd,0))
 |_,_,_,.nil,hi=>absurd hi ∅
 |_,_,0,.cons ⟨a,e,x⟩ _,_=>⟨a,e,x⟩
 |_::us,_::ks,i+1,.cons _ r,hi=>RowsAt.get i r (by simpa using hi)
theorem RowsAt.firsts:∀ {us:List Se} {ks:List K4},RowsAt h us ks -> ∃fs:List Se,PySem.W.KatTups h us fs/\fs.length=us.length /\ ∀v∈fs,PySem.W.Looks M h (typeOf v) (.type "tuple")
 |_,_,.nil=>⟨[],trivial,rfl,λ_ h=>nomatch h⟩
 |_::us,k::ks,.cons ⟨a,e,o,wa,t1,l,n,b,c,d,m,t3,p,q,g1,g2,g3⟩ r=>by
  let⟨fs,f,g,i⟩:=RowsAt.firsts (M:=M) r;subst e;show⟨.ref wa::fs,PySem.W.KatTups.cons b c d rfl f,by simp[g],λv j=>?_⟩;rcases aN.mp j with z|z
  .subst z;rw[<-g2];show(PySem.W.Looks.ld g1).andThen .now
  .exact i v z
theorem RowsI.at(I:Inv X pins σ H s):∀ {vs:List V} {us:List Se} {ks:List K4},RowsI X.K H vs ks->Vals vs us->RowsAt s.heap us ks
 |_,_,_,.nil,.nil=>.nil
 |_,_,_,.cons ⟨a,wa,e,h,hw⟩ r,.cons i j=>by
  subst e;cases i;obtain⟨k,b,⟨o,l,m,n,p⟩,_⟩:=I.tuple h;obtain⟨g,c,⟨q,t,u,v,w⟩,_⟩:=I.tuple hw;cases b with|cons d b=>cases b with|cons f b=>cases b with|cons x b=>cases b with|nil=>
  cases d;let⟨y,rfl⟩:=f;let⟨z,rfl⟩:=x;cases c with|cons d b=>cases b with|cons f b=>cases b with|nil=>
  let⟨A,rfl⟩:=d;let⟨B,rfl⟩:=f;show .cons ⟨a,rfl,o,wa,y,z,n,l,m,p,q,A,B,v,t,u,w⟩ (RowsI.at I r j)
end L2
namespace L2
open PySem PySem.Spec PySem.W PyProof.Rows
theorem qHu{α:Type}(d:α){lt:α->α->Bool}{ks:List α}{vs:List V}{its:List Se}{a:Sf}{κ:SortKind}{Q:VK}(I:Inv X pins σ H s)(K:Vals vs its)(r:s.heap.IsList a its.toArray)(t:vs.length=ks.length)(M:its.length<64)(O:Srt.Ord λi j=>lt (ks.getD i d) (ks.getD j d))(hK:2<=its.length->∀(h':Sk)(R:SortKind->Sg->Prop),(∀b o,(∀es ep,o.data≠.dict es ep)->s.heap.get? b=Sa o->h'.get? b=Sa o)->R κ {s with heap:=h'}->Sm (So X.prog X.w) X.A.in1.in1 (keyKind' its.toArray) R (λ_ _=>False) {s with heap:=h'})(hA:∀(h':Sk)(i j:Nat)(C:Bool->Sg->Prop),(∀b o,(∀es ep,o.data≠.dict es ep)->s.heap.get? b=Sa o->h'.get? b=Sa o)->i<its.length->j<its.length->C (lt (ks.getD i d) (ks.getD j d)) {s with heap:=h'}->PySem.W.kas_ask X.prog X.w X.A.in1.in1 κ its i j C {s with heap:=h'})(q:∀(l:Sf)(N:List (V×α)),H l=Sb->N.Perm (vs.zip ks)->(N.map (·.2)).Pairwise (λa b=>lt b a=Sd)->Q (.ref l) (upd H l (.lst (N.map (·.1))))):Sm (So X.prog X.w) X.A (call (.builtin "sorted") [.ref a]) (EP X pins σ Q) X.xe s:=by
 let P:=K.length;by_cases h0:its.length=0
 .obtain rfl:=List.eq_nil_of_length_eq_zero h0;cases K;obtain rfl:=List.eq_nil_of_length_eq_zero t.symm;show sorted_ints (ns:=[]) r .nil ∅ λh S a1 a2 a3=>?_;let:S=[]:=a2.eq_nil;subst this;let⟨e,he⟩:=sortedAll_at s.heap [] h;let ho:h.toList=[]:=by cases T:h.toList with
   |nil=>rfl
   |cons x l=>rw[T]at a1;cases a1
  let B:h=#[]:=by apply Array.toList_inj.mp;rw[ho]
  subst B;show⟨.ref (s.heap.objs.size+1),_,I.laid (t':=s.toks) (o:=.lst []) (λb u e=>sortedAll_old e) (eY _) ⟨bG _,[],e,.nil,he⟩,rfl,q _ [] (I.hok.fresh (eY _)) List.Perm.nil List.Pairwise.nil⟩
 by_cases U:its.length=1
 .let⟨v1,rfl⟩:=List.length_eq_one_iff.mp U;let⟨x1,rfl⟩:=List.length_eq_one_iff.mp (P.trans U);let⟨t1,rfl⟩:=List.length_eq_one_iff.mp (t.symm.trans (P.trans U));show qPf r λh' c k g=>?_;show⟨.ref (s.heap.objs.size+1),_,I.laid (t':=s.toks) (o:=.lst [x1]) k (eY _) ⟨by change 1<=Sn;decide,[v1],c,K,g⟩,rfl,q _ [(x1,t1)] (I.hok.fresh (eY _)) (List.Perm.refl _) (List.pairwise_singleton _ _)⟩
 let L:2<=its.length:=by lia
 let⟨m,F⟩:=I.fr;let Y:∀o,s.heap.get? X.env.locals=Sa o->∃es ep,o.data=.dict es ep:=λo e=>by
  let⟨o2,es,ep,e2,d,_⟩:=F.ns;rw[e]at e2;cases e2;show⟨es,ep,d⟩
 show PySem.W.kat_sorted F qWl r L M λD e1 h' F' Z E=>?_;let Nn:News X.base X.env.locals h' (wP X.base s.heap X.env.locals):=λp y=>Z p (aS _ y);let k:∀b u,b≠X.env.locals->s.heap.get? b=Sa u->h'.get? b=Sa u:=λb u hb e=>by
  cases q:X.base.get? b with
  |some v=>
   let:=I.bk b v q;rw[e]at this;cases this;show F'.keep b _ q
  |none=>show(Nn (b,u) (kO hb q e)).1
 let kd:∀b o,(∀es ep,o.data≠.dict es ep)->s.heap.get? b=Sa o->h'.get? b=Sa o:=λb o hn e=>k b o (λz=>by
  let⟨es,ep,z2⟩:=Y o (z▸e)
  show hn _ _ z2) e
 let⟨a9,G,a0⟩:=Z (D,_) aW;let hD:s.heap.get? D=Sb:=by
  cases e:s.heap.get? D with
  |none=>rfl
  |some o=>show absurd (E (D,o) (kO G a0 e)) (fE _)
 show hK L h' _ kd ?_;let⟨p,y,perm,b0,up⟩:=Srt.sort_ok O (n:=its.length) ∎;show Srt.wp_run_in (n:=its.length) (lt:=λi j=>lt (ks.getD i d) (ks.getD j d)) (λi j C hi hj hC=>hA h' i j C kd hi hj hC) _ (Srt.sort_ends ∎) ?_;rw[y];show PySem.W.KasFin.intro F' Z (.head λp y=>aP (E p y)) λL c F2 N2=>?_;let ob:=(N2 (D,_) aW).1;let a4:News X.base X.env.locals L (wP X.base s.heap X.env.locals):=λp y=>N2 p (aS _ y);let f:p.toList.Perm (List.range its.length):=by
  let:=Array.perm_iff_toList_perm.mp perm;simpa using this
 let a5:(p.toList.map λi=>(vs.getD i .non,ks.getD i d)).Perm (vs.zip ks):=by
  rw[<-qJ7 V.non d vs ks t,P];show f.map _
 let e1:(p.toList.map λi=>(vs.getD i V.non,ks.getD i d)).map (·.1)=p.toList.map λi=>vs.getD i V.non:=by rw[dO];rfl
 let J:(p.toList.map λi=>vs.getD i V.non).length<=Sn:=by
  rw[cK,aB,f.length_eq,cR];lia
 show⟨.ref D,_,I.ledgerLaid (t':=s.toks) (o:=.lst (p.toList.map λi=>vs.getD i V.non)) F F2 a4 hD G ⟨J,_,c,Qp K p.toList,ob⟩,rfl,?_⟩;let hn:H D=Sb:=I.hok.gone hD;let:=q D _ hn a5 ?_
 .rw [e1]at this;show this
 .rw [dO,dJ];intro i j hi hj a6;let a7:j<p.size:=by simpa using hj
  let a8:i<p.size:=by simpa using hi
  let u:=up i j (cW a6) ∎;let g1:Srt.at' p i=p[i]:=by simp[Srt.at',Array.getD,a8]
  let g2:Srt.at' p j=p[j]:=by simp[Srt.at',Array.getD,a7]
  rw[g1,g2]at u;simpa using u
theorem RowAt.seqs{k:K4}(c:∀b o,(∀es ep,o.data≠.dict es ep)->h.get? b=Sa o->h'.get? b=Sa o)(x:RowAt h a k):RowAt h' a k:=by
 let⟨o,f,g,i,n,j,l,d,m,p,q,r,s,t,e⟩:=x;show⟨o,f,g,i,n,c _ _ (by grind) j,l,d,m,p,q,r,c _ _ (by grind) s,t,e⟩
theorem RowsAt.seqs(c:∀b o,(∀es ep,o.data ≠ .dict es ep)->h.get? b=Sa o->h'.get? b=Sa o):∀ {us:List Se} {ks:List K4},RowsAt h us ks->RowsAt h' us ks
 |_,_,.nil=>.nil
 |_,_,.cons ⟨a,e,x⟩ r=>.cons ⟨a,e,x.seqs c⟩ (RowsAt.seqs c r)
def qZd(K:SH):List V->Hp->VK->Prop:=λxs H Q => ∃(a:Sf) (vs:List V) (ks:List K4),xs = [.ref a]/\SqL K H a vs/\RowsI K H vs ks/\ks.length<64 /\
 ∀(l:Sf)(ps:List (V×K4)),H l=Sb->ps.Perm (vs.zip ks)->(ps.map (·.2)).Pairwise (λa b=>lt4 b a=Sd)->Q (.ref l) (upd H l (.lst (ps.map (·.1))))
theorem qN4(E:X.A.units+2<cLine):CallR X (.builtin "sorted") (qZd X.K):=by
 intro e s σ H F G Q I r h;let⟨a,J,g,rfl,l,hT,L,q⟩:=h;let⟨u,rfl,m⟩:=vals1 r;cases m;let⟨n,b,o,big⟩:=I.list l;let N:=b.length;let c:=hT.len;let TA:=RowsI.at I hT b;show qHu ((0,0),Sd,0) (lt:=lt4) (κ:=tuples' Sd) I b o.isList c ∎ (ord4 λi=>g.getD i ((0,0),Sd,0)) (λO f R k p=>?_) (λf i j C k P S t=>?_) q
 .let⟨fs,v,x,d⟩:=(TA.seqs k).firsts (M:=So X.prog X.w);show PySem.W.kat_kind (T:=.type "tuple") (fs:=fs) v ∎ d rfl p
 .let⟨U,y,z⟩:=(TA.seqs k).get i ∎;let⟨V,B,D⟩:=(TA.seqs k).get j ∎;unfold PySem.W.kas_ask;rw[y,B];show wB7 (s:={s with heap:=f}) (show X.A.units+1+1<cLine by lia) z D t
theorem TupAt.seqs(c:∀b o,(∀es ep,o.data ≠ .dict es ep)->h.get? b=Sa o->h'.get? b=Sa o):∀ {us:List Se} {ts:List (List Int)},Srt.TupAt h us ts->Srt.TupAt h' us ts
 |_,_,.nil=>.nil
 |_,_,.cons ⟨a,o,xs,n,e,f,g,d,i⟩ r=>.cons ⟨a,o,xs,n,e,c a o (by grind) f,g,d,i⟩ (TupAt.seqs c r)
theorem qN2:CallR X (.builtin "sorted") (wBi X.K):=by
 intro f s σ H U V Q I r h;let⟨a,Y,o,rfl,p,hT,b,Z,q⟩:=h;let⟨u,rfl,w⟩:=vals1 r;cases w;let⟨x,c,y,_⟩:=I.list p;let hl:=c.length;let d:=hT.len;let TA:=TupI.at I hT c;show qHu [] (lt:=HT.lexLt) (κ:=tuples' Sc) I c y.isList d ∎ (Srt.lex_ord o) (λh2 z R k A=>?_) (λz i j C k hi hj B=>?_) q
 .let⟨fs,D,E,e⟩:=(TupAt.seqs k TA).firsts b
  show PySem.W.kat_kind (T:=.type "int") (fs:=fs) D ∎ (λv F=>by
   let⟨i,t,rfl⟩:=e v F
   show PySem.W.Looks.of_pure rfl) rfl A
 .let⟨a1,o1,G,k1,J,L,M,g⟩:=(TupAt.seqs k TA).get i ∎;let⟨a2,o2,N,k2,O,P,S,l⟩:=(TupAt.seqs k TA).get j ∎;unfold PySem.W.kas_ask;rw[J,O]
  show PySem.W.kat_lt L M P S (Srt.katlex g l (by
   let m:=g.length;let n:=l.length;simp only[aQ]at m n
   rw[m,n]) B)
end L2
namespace L2
open PySem PySem.Spec PyProof.Rows
def ListsAt(H:Hp)(as:List Sf)(ls:List (List Int)):Prop:=Paired (λa ns=>H a=Sa (.lst (ns.map V.int))) as ls
theorem ListsAt.mono(h:ListsAt H c f)(k:∀a∈c,∀o,H a=Sa o->d a=Sa o):ListsAt d c f:=by
 unfold ListsAt at h ⊢
 induction h with
 |nil=>show .nil
 |@cons a n c ns r _ g=>show .cons (k a (aW ..) _ r) (g λb i o e=>k b (aS _ i) o e)
theorem ListsAt.get(h:ListsAt H c d):∀{i:Nat}{a:Sf},c[i]? = Sa a->∃ns,d[i]? = Sa ns/\H a=Sa (.lst (ns.map V.int)):=by
 unfold ListsAt at h
 induction h with
 |nil=>intro i a e;simp at e
 |@cons a n c ns r _ f=>
  intro i b e;cases i with
  |zero=>simp at e;subst e;show⟨n,rfl,r⟩
  |succ i=>simpa using f (i:=i) (a:=b) (by simpa using e)
noncomputable def planK(bs:List Int)(as:List Sf):List (Key×V):=(bs.zip as).map λp=>(Sum.inl p.1,V.ref p.2)
theorem qSk{bs:List Int}(h:a.length=bs.length):(planK bs a).length=bs.length:=by grind[planK]
theorem qW0{bs:List Int}{j:Nat}{k:Key}(h:(planK bs c)[j]? = Sa (k,v)):∃b a,bs[j]? = Sa b/\c[j]? = Sa a/\k=Sum.inl b/\v=V.ref a:=by
 unfold planK at h;rw[bA]at h;cases e:(bs.zip c)[j]? with
 |none=>rw[e]at h;cases h
 |some p=>
  rw[e]at h;let⟨d,f⟩:=dL.mp e;let h:(Sum.inl p.1,V.ref p.2)=(k,v):=bB h;show⟨p.1,p.2,d,f,(congrArg Prod.fst h).symm,(congrArg Prod.snd h).symm⟩
theorem qKo:∀ {bs:List Int} {g:List Sf} {j:Nat} {b:Int} {a:Sf},bs.Nodup->bs[j]? = Sa b->g[j]? = Sa a->valV (planK bs g) (Sum.inl b)=Sa (V.ref a)
 |[],_,_,_,_,_,e,_=>by simp at e
 |_::_,[],_,_,_,_,_,e=>by simp at e
 |c::bs,d::g,0,b,a,_,f,h=>by
  simp at f h;subst f h;simp[planK,valV]
 |c::bs,d::g,j+1,b,a,i,f,h=>by
  let i:=dE.mp i;let f:bs[j]? = Sa b:=by simpa using f
  let ne:c≠b:=λz=>i.1 (z▸aK f);let:=qKo i.2 f (show g[j]? = Sa a by simpa using h);unfold planK valV at this ⊢;rw[cM,aU,gM]
  .exact this
  .simp [ne]
structure PlanAt(H:Hp)(d:Sf)(bs:List Int)(as:List Sf)(ls:List (List Int)):Prop where
 dict:H d=Sa (.dK (planK bs as))
 lists:ListsAt H as ls
 len:as.length=bs.length
 nd:as.Nodup
 nda:d∉as
theorem qVd(h:H a=Sa o):upd H a o=H:=by
 grind[zB,zD]
def qYh(td:TE):TI:=λσ H R=>td σ H λx H1=>∃d kvs,x=.ref d/\Rd H1 d (.dK kvs)/\∀o,R (Itd d o kvs) (upd H1 d (.frz o (.dK kvs)))
theorem qW2(G:PE X l E):PI X tg l (qYh E):=by
 intro g s σ H R I h;show thn (G g s σ H _ I h) λv i hq_=>?_;let⟨x,F,A,J,K⟩:=hq_;let⟨d,a,e,j,q⟩:=K;subst e;cases J;obtain⟨o,z,r,k,c,f,m,n,t,p,C,B⟩:∃o,a.length<=Sn/\(d == SG)=Sd/\∃k,KV a k/\∃f m,i.heap.get? d=Sa o/\o.ExactDict/\o.data=.dict f m/\(f.toList.map λe=>(e.key,e.val),0)=(f.toList.map λe=>(e.key,e.val),0)/\Inv X g σ (upd F d (.frz o (.dK a))) i:=by
  rcases j with j|⟨o,j⟩
  .let⟨z,r,k,c,o,f,m,n,t,p,C⟩:=xk A.hok j;show⟨o,z,r,k,c,f,m,n,t,p,rfl,A.freeze j True.intro n λO=>⟨z,r,k,c,o,f,m,n,t,p,C⟩⟩
  .let⟨n,z,r,k,c,P,f,m,u,t,p,C⟩:=(show ObjOk X.prog X.w F i.heap d (.frz o (.dK a))from A.hok d _ j);rw[n]at u;cases u;show⟨o,z,r,k,c,f,m,n,t,p,rfl,by rw[qVd j];show A⟩
 let⟨Q,D,L,y,M⟩:=jC B.hok (zB) p;show wpAny_pyIter_dict D M ?_;show⟨i.heap.objs.size,[i.heap.objs.size],_,_,_,rfl,B.kept (t':=i.toks) λb S e=>aG _ e,qQi d _ o a p,⟨_,aT _ rfl,rfl,by rw[y.length];rfl⟩,λb N=>?_,q o⟩;let e:b=i.heap.objs.size:=by simpa using N
 subst e;show B.fpOk (aI _) (B.hok.fresh (aI _))
theorem qVt(h:a σ H λx b=>∃d kvs,x=.ref d/\Rd b d (.dK kvs)/\∀o,R (Itd d o kvs) (upd b d (.frz o (.dK kvs)))):qYh a σ H R:=h
def sThaw(H0:Hp)(ts:TS):TS:=λD σ H=>ts {D with nx:=λσ1 H1=>∃d o u,H1 d=Sa (.frz o u)/\(∀o u,H0 d≠Sa (.frz o u))/\D.nx σ1 (upd H1 d u)} σ H
theorem qZf{st:Sr}(h:PS X st ts):PS X st (sThaw X.H₀ ts):=by
 intro a s σ H D I q;show thn (h a s σ H _ I q) λf i r=>?_;cases f with
 |next=>
  let⟨b,j,c,d,o,u,e,g,r⟩:=r;show⟨b,_,c.thaw e g,r⟩
 |brk=>show r
 |cont=>show r
 |ret u=>show r
theorem qZ3(h:ts ⟨λa g=>∃d o u,g d=Sa (.frz o u)/\(∀o u,H0 d≠Sa (.frz o u))/\b a (upd g d u),f,c,e⟩ σ H):sThaw H0 ts ⟨b,f,c,e⟩ σ H:=h
theorem qI4{α β:Type}{R:α->β->Prop}{c:List α}{bs:List β}(h:Paired R c bs):∀{i:Nat}{a:α},c[i]? = Sa a->∃b,bs[i]? = Sa b/\R a b:=by
 induction h with
 |nil=>intro i a e;simp at e
 |@cons a n c ns r _ d=>
  intro i b e;cases i with
  |zero=>simp at e;subst e;show⟨n,rfl,r⟩
  |succ i=>simpa using d (i:=i) (a:=b) (by simpa using e)
noncomputable def wordV(i j:Bool):V:=if i=j then .non else .str (wdS j)
def qNl(K:SH):Sp:=λvs H Q _=>∃(p la:Sf)(b t:Int)(ns:List Int),vs=[.ref p,.ref la]/\SqT K H p [.int b,.int t]/\SqL K H la (ns.map V.int)/\Q (wordV (decide (b∈ns)) (decide (t∈ns))) H
noncomputable def rowOf(f:Int->List Int)(w:Int×Int)(b:Int):Option K4:=if decide (w.1∈f b)=decide (w.2∈f b)then Sb else Sa (w,decide (w.2∈f b),b)
noncomputable def rowsL(ways:List (Int×Int))(bs:List Int)(f:Int->List Int):List K4:=ways.flatMap λw=>bs.filterMap (rowOf f w)
def Tri(K:SH)(f:Int->List Int)(G:Hp)(t:Sf)(p:(Int×Int)×Int):Prop:=∃wa,G t=Sa (.tup [.ref wa,wordV (decide (p.1.1∈f p.2)) (decide (p.1.2∈f p.2)),.int p.2])/\SqT K G wa [.int p.1.1,.int p.1.2]
def TriL(K:SH)(f:Int->List Int)(G:Hp):List Sf->List ((Int×Int)×Int)->Prop:=Paired (Tri K f G)
theorem TriL.len{K:SH}(h:TriL K f G ts ps):ts.length=ps.length:=dN h
noncomputable def Tups(G G':Hp):Prop:=∀b xs,Rd G b (.tup xs)->Rd G' b (.tup xs)
theorem Tups.sq{K:SH}(h:Tups G b)(q:SqT K G a xs):SqT K b a xs:=by
 rcases q with q|q
 .exact .inl (h a xs q)
 .exact .inr q
theorem Tups.trans(h:Tups G c)(k:Tups c a):Tups G a:=λb d q=>k b d (h b d q)
theorem Same.tups(h:Same G a):Tups G a:=λb c q=>by
 rcases q with q|⟨o,q⟩
 .exact .inl (h _ _ q)
 .exact .inr ⟨o,h _ _ q⟩
theorem Ext.tups(e:Ext us G a)(h:∀u∈us,∀xs,¬Rd G u (.tup xs)):Tups G a:=λb xs q=>by
 let c:b∉us:=λz=>h b z xs q;rcases q with q|⟨o,q⟩
 .exact .inl (e _ _ c q)
 .exact .inr ⟨o,e _ _ c q⟩
theorem Tri.mono{K:SH}{t:Sf}(h:Tups G a)(k:∀b xs,G b=Sa (.tup xs)->a b=Sa (.tup xs))(q:Tri K f G t p):Tri K f a t p:=by
 let⟨c,d,e⟩:=q;show⟨c,k _ _ d,h.sq e⟩
theorem TriL.mono{K:SH}(q:TriL K f G ts ps)(h:Tups G a)(k:∀b xs,G b=Sa (.tup xs)->a b=Sa (.tup xs)):TriL K f a ts ps:=Paired.mapP q λ_ _ x=>x.mono h k
theorem qHw(a:List (Int×Int))(bs:List Int)(f:Int->List Int):rowsL a bs f=(a.flatMap λw=>bs.map λb=>(w,b)).filterMap λp=>rowOf f p.1 p.2:=by
 unfold rowsL
 induction a with
 |nil=>rfl
 |cons w r c=>rw[eB,eB,dP,c,gN];rfl
theorem qV8{K:SH}{H:Hp}{vs:List V}{ks:List K4}(h:RowsI K H vs ks){ps:List (V×K4)}(b:ps.Perm (vs.zip ks)):RowsI K H (ps.map (·.1)) (ps.map (·.2))/\(ps.map (·.2)).Perm ks:=by
 let f:∀p∈vs.zip ks,∃a c,p.1=.ref a/\SqT K H a [.ref c,.str (wdS p.2.2.1),.int p.2.2.2]/\SqT K H c [.int p.2.1.1,.int p.2.1.2]:=by
  clear b;unfold RowsI at h
  induction h<;>simp_all
 show⟨?_,?_⟩
 .let:∀p∈ps,∃a c,p.1=.ref a/\SqT K H a [.ref c,.str (wdS p.2.2.1),.int p.2.2.2]/\SqT K H c [.int p.2.1.1,.int p.2.1.2]:=λp h=>f p (b.mem_iff.mp h);clear b f;unfold RowsI
  induction ps with
  |nil=>show .nil
  |cons p r d=>show .cons (this p (aW ..)) (d λq g=>this q (aS _ g))
 .let e:(vs.zip ks).map (·.2)=ks:=by rw[List.map_snd_zip];rw[h.len];simp
  grind
def NoTup(v:HO):Prop:=∀xs,v≠.tup xs/\∀o,v≠.frz o (.tup xs)
theorem wA8(xs:List V):NoTup (.lst xs):=λ_=>⟨(λz=>by cases z),λ_ z=>by cases z⟩
theorem wAa(kvs:List (Key×V)):NoTup (.dK kvs):=λ_=>⟨(λz=>by cases z),λ_ z=>by cases z⟩
theorem wA9(o:Ss)(kvs:List (Key×V)):NoTup (.frz o (.dK kvs)):=λ_=>⟨(λz=>by cases z),λ_ z=>by cases z⟩
theorem wAv{k:Nat}(a:Room k A):A.units+2<cLine:=by let:=a.un;lia
theorem vq{α β:Type}(a:List α)(bs:List β):(a.flatMap λw=>bs.map λb=>(w,b)).length=a.length*bs.length:=by
 induction a with
 |nil=>simp
 |cons w r c=>rw[eB,aJ,c,aB,bU,Nat.add_mul,Nat.one_mul,Nat.add_comm]
theorem RowsI.mono{K:SH}(h:RowsI K G vs ks)(k:Tups G b):RowsI K b vs ks:=Paired.mapP h λ_ _ ⟨a,c,e,d,f⟩=>⟨a,c,e,k.sq d,k.sq f⟩
theorem Ext.melt(hd:G d=Sa u)(e:Ext (d::us) G a):Ext us G (upd a d u):=λb f c h=>by
 by_cases z:b=d
 .grind[zB]
 .rw [zD z];show e _ _ (by grind) h
theorem Tups.melt(hd:G d=Sa v)(a:NoTup v:=by first|show wA8 _|show wAa _|show wA9 _ _):Tups G (upd G d u):=λb c q=>by
 let ne:b≠d:=λz=>by
  subst z;rcases q with q|⟨o,q⟩
  .rw [hd]at q;show(a c).1 (bB q)
  .rw [hd]at q;show(a c).2 o (bB q)
 rcases q with q|⟨o,q⟩
 .exact .inl (by rw[zD ne];show q)
 .exact .inr ⟨o,by rw[zD ne];show q⟩
theorem PlanAt.keep{bs:List Int}(h:PlanAt G d bs b e)(k:∀a∈d::b,∀o,G a=Sa o->c a=Sa o):PlanAt c d bs b e:=⟨k d (aW ..) _ h.dict,h.lists.mono λa f o=>k a (aS _ f) o,h.len,h.nd,h.nda⟩
theorem qRr(a:List (Int×Int))(bs:List Int)(f:Int->List Int):(rowsL a bs f).length<=a.length*bs.length:=by
 rw[qHw,<-vq];show eQ _ _
theorem SqL.keepN{K:SH}(h:SqL K H a xs)(e:Ext us H b)(n:a∉us):SqL K b a xs:=by
 rcases h with(z|⟨o,z⟩)|z
 .exact .inl (.inl (e _ _ n z))
 .exact .inl (.inr ⟨o,e _ _ n z⟩)
 .exact .inr z
theorem qZ1{bs:List Int}{k:K4}(h:k∈rowsL a bs f):k.1∈a/\k.2.2∈bs/\k.2.1=decide (k.1.2∈f k.2.2):=by
 unfold rowsL at h;let⟨w,d,h⟩:=dX.mp h;let⟨b,e,h⟩:=fW.mp h;unfold rowOf at h;by_cases c:decide (w.1∈f b)=decide (w.2∈f b)
 .rw [if_pos c]at h;cases h
 .rw [if_neg c]at h;let h:=bB h;subst h;show⟨d,e,rfl⟩
theorem qVo{m a:Int}{c:List Blk}{bs:List Int}{f:Int->List Int}{ks:List K4}(l:m<=12)(g:WorkOk m a c)(d:bs.length<=8)(h:ks.Perm (rowsL (zU c c.length) bs f)):ks.length<=200:=by
 let e:∀b∈c,b.ns.length<=2:=λb i=>(g.blk b i).ns.few;let j:=g.len;let k:=xf e c.length;rw[h.length_eq];show cA (qRr _ _ _) ?_;show(Nat.mul_le_mul (show(zU c c.length).length<=25 by lia) d)
theorem Inv.turnMany{X:Cx}{a:List (Sf×Ss)}{σ:St}{H:Hp}{s:Sg}{h':Sk}{t':Nat}{ch:List Sf}(I:Inv X a σ H s)(k:∀b u,b∉ch->s.heap.get? b=Sa u->h'.get? b=Sa u)(h:∀b∈ch,FpOk X a H b):Inv X a σ H {s with heap:=h',toks:=t'}:=by
 let f:∀b u,H b=Sa u->b∉ch:=λb u e g=>by rw[(h b g).1]at e;cases e
 refine I.step (g':=s.gens) (d':=s.drawn) (ch:=ch) (λb g=>?_) (λb u _ _ d e _=>k b u d e) (λb u _ _ d e _=>⟨u.slots,k b u d e⟩) (λ_ _ _ _ n=>n)
  (λb u d e=>⟨u,k b u d e⟩) (λ_ _ e=>e) (λ_ _ _ e=>e) (λb A e=>⟨#[],by rw[e];simp⟩) (λm j=>?_) (λb u e=>?_) I.bare
 .let⟨_,l,_,o,p,t⟩:=h b g;show⟨o,l,p,t⟩
 .let⟨i,w,x,y,r⟩:=j;show⟨i,w,x,k _ i (λg=>(h _ g).2.1 rfl) y,r⟩
 .refine (I.hok b u e).stay (λc v d q=>k c v ?_ q) (λ_ q=>q) λ_ _ q=>q;rcases d with z|z
  .rw [z];show f b u e
  .exact f c _ z
noncomputable def Itz(K:SH)(a b:Sf):It:=
 ⟨λi H=>∃xs ys x y,SqL K H a xs/\SqL K H b ys/\xs[i]? = Sa x/\ys[i]? = Sa y,
   λi H v H'=>∃p x y,v=.ref p/\H p=Sb/\(∀us,SqL K H a us->us[i]? = Sa x)/\(∀us,SqL K H b us->us[i]? = Sa y)/\H'=upd H p (.tup [x,y]),
   λi H=>∃xs ys,SqL K H a xs/\SqL K H b ys/\(xs.length<=i\/ys.length<=i)⟩
theorem qVf{K:SH}{k:Nat}{z TI TO A B l1 l2:Sf}(D:ZipApart z TI TO A B l1 l2):Turn P w K (.Tuple J k S) (Itz K l1 l2) [z,TI,TO,A,B] z (λi h=>IsZip h z TI TO .none/\IsPair h TI (.ref A) (.ref B)/\(∃a b,IsPair h TO a b)/\h.IsListIter A l1 i/\h.IsListIter B l2 i) where
 mem:=by simp
 obj:=λi h st b f=>by
  obtain⟨n,g,⟨a,c,j⟩,⟨o1,e1,_,d1⟩,⟨o2,e2,_,d2⟩⟩:=st;grind
 keep:=λi h T st L=>by
  obtain⟨n,g,⟨a,c,j⟩,F,G⟩:=st;show⟨L z ∅ _ n,L TI ∅ _ g,⟨a,c,L TO ∅ _ j⟩,F.at λo q=>L A ∅ o q,G.at λo q=>L B ∅ o q⟩
 item:=by
  intro X U V Y hc i r s σ H E I R st Z;subst U V Y;let⟨xs,ys,x,y,l,m,hx,hy⟩:=Z;obtain⟨n,g,⟨a,c,j⟩,F,G⟩:=st;let⟨a0,rv,p,_⟩:=I.list l;let⟨M,C,p2,_⟩:=I.list m;let⟨u,hu,ru⟩:=rv.get hx;let⟨u2,a7,a8⟩:=C.get hy;show wpAny_pyNext_zip_item D n g j F G p.isList p2.isList (x:=u) (y:=u2) (by grind) (by grind) λT a1 a2 a3 a4 a5 a6 N=>?_;let t:z<s.heap.objs.size:=aO n;show⟨_,rfl,wpAny_letOwnedTupleGo_zip a1 λh3 O d=>?_⟩;let d:Heap.SameBut z T h3:=d;let I1:Inv X r σ (upd H s.heap.objs.size (.tup [x,y])) {s with heap:=h3,toks:=s.toks}:=by
   show I.turnLaid (ch:=[z,TI,TO,A,B]) (λb o f q=>?_) (λb f=>?_) R (aI _) ?_
   .simp only[aN,cS,or_false,not_or]at f;show d.extBut b o f.1 (N b o f.1 f.2.2.1 f.2.2.2.1 f.2.2.2.2 q)
   .simp only[aN,cS,or_false]at f;rcases f with e|e|e|e|e<;>subst e
    .grind
    .exact⟨_,d.extBut _ _ D.TIz (N _ _ D.TIz D.TITO D.TIi1 D.TIi2 g)⟩
    .exact⟨_,d.extBut _ _ D.TOz a2⟩
    .let⟨o,q,_⟩:=a3;show⟨o,d.extBut _ _ D.i1z q⟩
    .let⟨o,q,_⟩:=a4;show⟨o,d.extBut _ _ D.i2z q⟩
   .exact⟨by grind[Sn],[u,u2],.cons ru (.cons a8 .nil),⟨_,d.extBut _ _ (cJ t) a5,rfl,_,rfl⟩⟩
  show⟨.ref s.heap.objs.size,_,I1,rfl,⟨s.heap.objs.size,x,y,rfl,I.fresh,(λus hs=>by rw[I.list_inj hs l];grind),(λus hs=>by rw[I.list_inj hs m];grind),rfl⟩,⟨O,d.extBut _ _ D.TIz (N _ _ D.TIz D.TITO D.TIi1 D.TIi2 g),⟨_,_,d.extBut _ _ D.TOz a2⟩,a3.extBut d.extBut D.i1z,a4.extBut d.extBut D.i2z⟩,λb f=>?_⟩;let a9:b<s.heap.objs.size:=by
   simp only[aN,cS,or_false]at f;rcases f with e|e|e|e|e<;>subst e
   .grind
   .exact aO g
   .exact aO j
   .let⟨o,q,_⟩:=F;show aO q
   .let⟨o,q,_⟩:=G;show aO q
  rw[zD (aP a9)];show(R b f).1
 done:=by
  intro X U V Y hc i r s σ H E I R st Z;subst U V Y;let⟨xs,ys,l,m,Q⟩:=Z;obtain⟨n,g,⟨a,c,j⟩,F,G⟩:=st;let⟨a0,rv,p,_⟩:=I.list l;let⟨M,C,p2,_⟩:=I.list m;let b0:=rv.length;let b1:=C.length
  show wpAny_pyNext_zip_end (I.ok.hd hc) D n g j F G p.isList p2.isList (by
   grind) λT N=>⟨rfl,I.turnMany (t':=s.toks) (ch:=[z,TI,TO,A,B]) (λb o f q=>?_) R⟩
  grind
 self:=λ_ _ _ _ _ st h=>wpAny_pyIter_zip st.1 h
def iZip(K:SH)(ta:TA):TI:=λσ H R=>ta σ H λvs H1=>∃a b,vs=[.ref a,.ref b]/\(∃xs,SqL K H1 a xs)/\(∃ys,SqL K H1 b ys)/\R (Itz K a b) H1
theorem ia{a b:Sl}{x:TA}{p d:Pos}(E:Gl X "zip")(F:X.mg "zip"=Sb)(G:PA X [a,b] x)(J:Sv [a,b] X.env=(Sd,Sw a X.env)::Sv [b] X.env:=by rfl)(l:∀d,(backTo d (Sv [b] X.env)).any (·.1)=Sd:=by intro _;rfl):PI X (.Tuple elts k tpos) (.Call (.Name "zip" p) [a,b] [] d) (iZip X.K x):=by
 intro f s σ H R I h;show Call_ (xN I E F boot_zip (cN (thn (G d f s σ H _ I h) λZ g hq_=>?_) J (l _)));let⟨vs,y,i,L,M⟩:=hq_;obtain⟨N,O,e,⟨xs,m⟩,⟨ys,n⟩,q⟩:=M;subst e;let⟨u,u2,rfl,P,o⟩:=vals2 L;cases P;cases o;let⟨Q,rv,z,_⟩:=i.list m;let⟨A,S,B,_⟩:=i.list n;let T:N<g.heap.objs.size:=by let⟨_,e,_⟩:=z.isList;show aO e
 let U:O<g.heap.objs.size:=by let⟨_,e,_⟩:=B.isList;show aO e
 show call_zip_2 z.isList B.isList λV C r t v w _ W=>?_;show wpAny_pyIter_zip C ?_;let Y:Inv X f σ y {g with heap:=V}:=i.kept (t':=g.toks) W;show⟨_,_,_,_,y,rfl,Y,qVf (zipApart_new T U),⟨C,r,⟨_,_,t⟩,v,w⟩,λc D=>?_,q⟩;let j:g.heap.objs.size<=c:=by
  grind
 show i.fpOk j (i.hok.fresh j)
theorem qY4{K:SH}(h:d σ H λvs c=>∃a b,vs=[.ref a,.ref b]/\(∃xs,SqL K c a xs)/\(∃ys,SqL K c b ys)/\R (Itz K a b) c):iZip K d σ H R:=h
theorem qWz{K:SH}{a b:Sf}{xs ys:List V}{g:TG}{s:TS}{k:St->Hp->Prop}{t:VK}{σ : St}{H:Hp}(l:xs.length=ys.length)(Pv:Nat->St->Hp->Prop)(h0:Pv 0 σ H)(v:∀i σ H,i<=xs.length->Pv i σ H->SqL K H a xs/\SqL K H b ys)(w:∀i x y σ H p,xs[i]? = Sa x->ys[i]? = Sa y->Pv i σ H->H p=Sb -> ∀(N B C:St->Hp->Prop) (R:VK),Nx N (Pv (i+1))->Nx C (Pv (i+1))->NxV R t->g (.ref p) σ (upd H p (.tup [x,y])) λc n=>s ⟨N,R,B,C⟩ c n)(hd:∀ σ H,Pv xs.length σ H->k σ H):∃W:Nat->Nat->St->Hp->Prop,(∃m,W 0 m σ H) /\ ∀i m σ H,W i m σ H ->
   ((Itz K a b).stop i H/\k σ H)\/((Itz K a b).go i H/\∃N:St->Hp->Prop,(∀d f,N d f->∃u,u<m/\W (i+1) u d f)/\∀x f,(Itz K a b).yld i H x f->g x σ f λc n=>s ⟨N,t,k,N⟩ c n):=by
 show⟨λi m σ H=>m=xs.length-i/\i<=xs.length/\Pv i σ H,⟨xs.length,∅,bG _,h0⟩,?_⟩;rintro i m σ H ⟨rfl,z,p⟩;let⟨o,q⟩:=v i σ H z p;by_cases j:i<xs.length
 .refine .inr ⟨⟨xs,ys,xs[i],ys[i],o,q,by simp[j],by simp[l▸j]⟩,Pv (i+1),λd f A=>⟨xs.length-(i+1),∎,rfl,j,A⟩,λx f y=>?_⟩;let⟨r,D,E,e,F,G,I,J⟩:=y;subst e J;show w i D E σ H r (G xs o) (I ys q) p F _ _ _ _ (λ_ _ h=>h) (λ_ _ h=>h) (λ_ _ h=>h)
 .let e:i=xs.length:=by lia
  subst e;show .inl ⟨⟨xs,ys,o,q,.inl (aI _)⟩,hd σ H p⟩
theorem qOl{K:SH}{a b:Sf}{xs ys:List V}{g:TG}{l:TT}{B:St->Hp->(St->Hp->Prop)->Prop}{σ:St}{H:Hp}{Q:St->Hp->Prop}(j:xs.length=ys.length)(Pv:Nat->St->Hp->Prop)(h0:Pv 0 σ H)(f:∀i σ H,i<=xs.length->Pv i σ H->SqL K H a xs/\SqL K H b ys)(o:∀i x y σ H p(R:St->Hp->Prop),xs[i]? = Sa x->ys[i]? = Sa y->Pv i σ H->H p=Sb->(∀h k,Pv (i+1) h k->R h k)->g (.ref p) σ (upd H p (.tup [x,y])) λc q=>l c q λb m=>if b=Sc then B c m R else R c m)(hd:∀σ H,Pv xs.length σ H->Q σ H):LoopT (Itz K a b) g l B σ H Q:=by
 show wZ (n:=xs.length) Pv h0 (λi σ H d p=>⟨xs,ys,xs[i],ys[i],(f i σ H (cW d) p).1,(f i σ H (cW d) p).2,∅,∅⟩) (λσ H p=>⟨xs,ys,(f _ σ H (aI _) p).1,(f _ σ H (aI _) p).2,.inl (aI _)⟩) (λi σ H R d p s x k y=>?_) hd;let⟨r,t,u,e,v,w,z,A⟩:=y;subst e A;show o i t u σ H r R (w xs (f i σ H (cW d) p).1) (z ys (f i σ H (cW d) p).2) p v s
theorem qVb(h:Q (s.heap.get? a) s):Sm M A (loadIfAlive a) Q E s:=λΓ p b=>by
 unfold loadIfAlive;rw[Sem.wp_loadIfAlive,Sem.wp_pure];show h
abbrev ZipG(h:Sk)(z TI TO:Sf)(f0:Se)(b:Bool):Prop:=h.get? z=Sa {cls:=.type "zip",dict:=Sb,data:=.fields #[f0,.bool b,.bool Sd,.ref TI,.ref TO],slots:=#[]}
theorem ib{z TI TO a:Sf}{b:Bool}(hz:ZipG s.heap z TI TO (rawInt a) b)(h0:s.heap.get? a=Sa e)(h:∀h',ZipG h' z TI TO (rawInt a) Sc->Heap.SameBut z s.heap h'->Q Sd {s with heap:=h'}):Sm (So prog w) A (Builtin.SmallTypes.ownedTupleIsFree (.ref z)) Q E s:=by
 unfold Builtin.SmallTypes.ownedTupleIsFree;show aA (fA hz rfl (x:=rawInt a) rfl ?_);change Sm _ _ (loadIfAlive ((a:Int).toNat) >>=_) _ _ _;rw[cE];show aA (qVb ?_);rw[h0];simp only[Option.isNone_some,bL,if_false];show aA (fA hz rfl (x:=.bool b) rfl ?_);cases b with
 |true=>
  rw[if_neg ⋯];show aC (h s.heap hz (fR z s.heap))
 |false=>
  rw[if_pos ⋯];show aA (wpAny_setField_rec hz ∅ λf c d=>aC (h f c d))
theorem qQa{z TI TO g h l1 l2 j:Sf}{b:Bool}{F:Ss}{k k2:Nat}{xs ys:Array Se}{x y:Se}{Q:Se->Sg->Prop}(D:ZipApart z TI TO g h l1 l2)(hz:ZipG s.heap z TI TO (rawInt j) b)(h0:s.heap.get? j=Sa F)(l:IsPair s.heap TI (.ref g) (.ref h))(G:s.heap.IsListIter g l1 k)(H:s.heap.IsListIter h l2 k2)(m:s.heap.IsList l1 xs)(n:s.heap.IsList l2 ys)(I:xs[k]? = Sa x)(J:ys[k2]? = Sa y)(K:∀h',ZipG h' z TI TO (rawInt j) Sc->h'.IsListIter g l1 (k+1)->h'.IsListIter h l2 (k2+1)->IsPair h' s.heap.objs.size x y->(∀c o,c≠z->c≠g->c≠h->s.heap.get? c=Sa o->h'.get? c=Sa o)->Q (.ref s.heap.objs.size) {s with heap:=h'}):Sm (So prog w) A (Builtin.«zip.__next__» ⟨[.ref z],[]⟩) (λp L=>∃v,p=.done (.ret v)/\Q v L) E s:=by
 change Sm _ _ (field (.ref z) 2 >>=_) _ _ _;show aA (fA hz rfl (x:=.bool Sd) rfl ?_);change Sm _ _ (field (.ref z) 3 >>=_) _ _ _;show aA (fA hz rfl (x:=.ref TI) rfl (aA (fO l rfl ?_)));change Sm _ _ (Builtin.SmallTypes.ownedTupleIsFree (.ref z) >>=_) _ _ _;show aA (ib hz h0 λP q a=>?_);simp only[bL,if_false];show aA ?_;rw[<-Array.forIn_toList];simp only[gX,List.forIn_nil];show aA (aA (bK ?_));change Sm _ _ (Builtin.SmallTypes.nextOf (.ref g) >>=_) _ _ _;show aA (wpAny_nextOf_list_item (G.extBut a.extBut D.i1z) (m.extBut a.extBut D.l1z) I λR r d=>aC ?_)
 show aC (aA (aA (bK ?_)));change Sm _ _ (Builtin.SmallTypes.nextOf (.ref h) >>=_) _ _ _;show aA (wpAny_nextOf_list_item ((H.extBut a.extBut D.i2z).extBut d.extBut D.i12.symm) ((n.extBut a.extBut D.l2z).extBut d.extBut D.l2i1) J λi t f=>aC ?_);show aC (aC ?_);show aA (wpAny_newTuple (aC ⟨_,rfl,?_⟩) (by change 2<=Sn;decide));let u:i.objs.size=s.heap.objs.size:=by rw[f.1,d.1,a.1]
 let B:ZipG i z TI TO (rawInt j) Sc:=f.extBut _ _ D.i2z.symm (d.extBut _ _ D.i1z.symm q);let C:(i.push {cls:=.type "tuple",data:=.seq #[x,y]}).get? i.objs.size=Sa {cls:=.type "tuple",data:=.seq #[x,y]}:=aT _ rfl;change Q (.ref i.objs.size) {s with heap:=i.push {cls:=.type "tuple",data:=.seq #[x,y]}};rw[u]at C ⊢;show K _ (aG _ B) ((r.extBut f.extBut D.i12).at λo e=>aG _ e) (t.at λo e=>aG _ e) C λc o M N O e=>aG _ (f.extBut _ _ O (d.extBut _ _ N (a.extBut _ _ M e)))
theorem qV9{z TI TO d f l1 l2 j:Sf}{b:Bool}{k k2:Nat}{xs ys:Array Se}(m:A.handled=Sb)(D:ZipApart z TI TO d f l1 l2)(hz:ZipG s.heap z TI TO (rawInt j) b)(h0:s.heap.get? j=Sa l)(g:IsPair s.heap TI (.ref d) (.ref f))(n:s.heap.IsListIter d l1 k)(h:s.heap.IsList l1 xs)(p:xs[k]? = Sb)
  (r:∀h' e,(∀c o,c≠z->c≠d->c≠f->s.heap.get? c=Sa o->h'.get? c=Sa o)->(∃o,h'.get? e=Sa o/\o.cls=.type "StopIteration")->E (.ref e) {s with heap:=h'}) :
  Sm (So prog w) A (Builtin.«zip.__next__» ⟨[.ref z],[]⟩) Q E s:=by
 change Sm _ _ (field (.ref z) 2 >>=_) _ _ _;show aA (fA hz rfl (x:=.bool Sd) rfl ?_);change Sm _ _ (field (.ref z) 3 >>=_) _ _ _;show aA (fA hz rfl (x:=.ref TI) rfl (aA (fO g rfl ?_)));change Sm _ _ (Builtin.SmallTypes.ownedTupleIsFree (.ref z) >>=_) _ _ _;show aA (ib hz h0 λC t a=>?_);simp only[bL,if_false];show aA ?_;rw[<-Array.forIn_toList];simp only[gX,List.forIn_nil];show aA (aA (bK ?_));change Sm _ _ (Builtin.SmallTypes.nextOf (.ref d) >>=_) _ _ _;show aA (wpAny_nextOf_list_end m (n.extBut a.extBut D.i1z) (h.extBut a.extBut D.l1z) p λu e i v=>r u e (λc o y B _ q=>i _ _ B (a.extBut _ _ y q)) v)
structure ZSt(h:Sk)(z TI TO i1 i2 l1 l2:Sf)(k:Nat):Prop where
 zip:IsZip h z TI TO .none\/∃(a:Sf)(b:Bool)(o:Ss),ZipG h z TI TO (rawInt a) b/\h.get? a=Sa o/\a≠z/\a≠i1/\a≠i2
 ti:IsPair h TI (.ref i1) (.ref i2)
 to:∃a b,IsPair h TO a b
 p1:h.IsListIter i1 l1 k
 p2:h.IsListIter i2 l2 k
theorem qNa{z TI TO f g l1 l2:Sf}{k:Nat}(D:ZipApart z TI TO f g l1 l2)(Z:ZSt s.heap z TI TO f g l1 l2 k)(h:s.heap.IsList l1 xs)(i:s.heap.IsList l2 ys)(v:xs[k]? = Sa x)(B:ys[k]? = Sa y)(C:∀h',ZSt h' z TI TO f g l1 l2 (k+1)->IsPair h' s.heap.objs.size x y->(∀c o,c≠z->c≠TO->c≠f->c≠g->s.heap.get? c=Sa o->h'.get? c=Sa o)->Q (Sa (.ref s.heap.objs.size)) {s with heap:=h'}):Sm (So prog w) A (pyNext (.ref z)) Q E s:=by
 obtain⟨L,l,⟨T,U,G⟩,n,p⟩:=Z;let M:f<s.heap.objs.size:=by let⟨_,e,_⟩:=n;show aO e
 let N:g<s.heap.objs.size:=by let⟨_,e,_⟩:=p;show aO e
 rcases L with j|⟨a,b,o,j,H,I,J,K⟩
 .let q:z<s.heap.objs.size:=aO j;show wpAny_pyNext_zip_item D j l G n p h i v B λh' r O t u m V d=>C h' ⟨.inr ⟨s.heap.objs.size,Sd,_,r,m,cJ q,cJ M,cJ N⟩,d _ _ D.TIz D.TITO D.TIi1 D.TIi2 l,⟨_,_,O⟩,t,u⟩ m d
 .let hT:s.TypeIs (.ref z) "zip":=⟨_,j,rfl⟩;unfold pyNext;show aA (iG (cU (name:=Str.ofString "__next__") hT F.slot_zip_next (cB F.slot_zip_next hT F.entry_zip_next (qQa D j H l n p h i v B λh' r t u m d=>aC (C h' ⟨.inr ⟨a,Sc,o,r,d _ _ I J K H,I,J,K⟩,d _ _ D.TIz D.TIi1 D.TIi2 l,⟨_,_,d _ _ D.TOz D.TOi1 D.TOi2 G⟩,t,u⟩ m λc o P _ R S e=>d c o P R S e)) (F.args_zip_next_1 _))))
theorem qQ8{z TI TO g h l1 l2:Sf}{k:Nat}(m:A.handled=Sb)(D:ZipApart z TI TO g h l1 l2)(Z:ZSt s.heap z TI TO g h l1 l2 k)(d:s.heap.IsList l1 xs)(i:s.heap.IsList l2 ys)(n:xs[k]? = Sb)(p:∀h',(∀c o,c≠z->c≠TO->c≠g->c≠h->s.heap.get? c=Sa o->h'.get? c=Sa o)->Q Sb {s with heap:=h'}):Sm (So prog w) A (pyNext (.ref z)) Q E s:=by
 obtain⟨u,r,⟨K,L,v⟩,t,x⟩:=Z;rcases u with f|⟨a,b,o,f,y,M,N,O⟩
 .exact wpAny_pyNext_zip_end m D f r v t x d i (.inl n) p
 .let hT:s.TypeIs (.ref z) "zip":=⟨_,f,rfl⟩;unfold pyNext;show aA (iG (cU (name:=Str.ofString "__next__") hT F.slot_zip_next (cB F.slot_zip_next hT F.entry_zip_next (qV9 m D f y r t d n (ys:=ys) (k2:=k) λh' e B C=>?_) (F.args_zip_next_1 _))));let⟨G,j,l⟩:=C;show aA (eW (T:="StopIteration") (b:=Sc) ⟨G,j,l⟩ isSubtype_stop ?_);show aC (p h' λc o H _ I J q=>B c o H I J q)
def DEnt(P:Sh)(w:Si)(h:Sk)(d:Sf)(xs:List (List Key×Sf×Se)):Prop:=∃o es ep,h.get? d=Sa o/\o.ExactDict/\o.data=.dict es ep/\es.toList=xs.map (entryOfKey (tupleKind (zb P w)))
theorem DEnt.of(D:h.DictOfH (tupleKind (zb P w)) d xs):DEnt P w h d xs:=by
 let⟨o,a,b,c,e,f,g,_,_⟩:=D;show⟨o,a,b,c,e,f,g⟩
theorem DEnt.full(D:DEnt P w h d xs)(a:∀x∈xs,(tupleKind (zb P w)).is h x.1 x.2.1)(b:(xs.map (·.1)).Nodup):h.DictOfH (tupleKind (zb P w)) d xs:=by
 let⟨o,c,e,f,g,i,j⟩:=D;show⟨o,c,e,f,g,i,j,a,b⟩
theorem qTy{k:List Key}(K:(tupleKind (zb P w)).is h k a)(c:∀o,h.get? a=Sa o->h'.get? a=Sa o):(tupleKind (zb P w)).is h' k a:=by
 let⟨o,b,n,d,e,f,g⟩:=K;show⟨o,b,n,c o d,e,f,g⟩
theorem qQ6{k:List Key}(h:k∉xs.map (·.1)):atKey xs k=Sb:=by
 grind[atKey]
theorem wAt{h0:Sk}{N:Nat}{d z TI TO t u l1 l2:Sf}{xs:List (List Key×Sf×Se)}(D:ZipApart z TI TO t u l1 l2)(l:h0.IsList l1 (xs.map λx=>Value.ref x.2.1).toArray)(n:h0.IsList l2 (xs.map λx=>x.2.2).toArray)(hk:∀x∈xs,(tupleKind (zb prog w)).is h0 x.1 x.2.1)(P:(xs.map (·.1)).Nodup)(hz:xs.length<=Sn)(Q:l1<N)(S:l2<N)(bk:∀x∈xs,x.2.1<N)(U:N<=z)(V:N<=TO)(W:N<=t)(X:N<=u)(gd:N<=d)(v:d≠z)(K:d≠TO)(L:d≠t)(M:d≠u):∀(m k:Nat) {A:Sj} {s:Sg} {R:Result->Sg->Prop},k+m=xs.length->A.handled=Sb->A.units+1<cLine->ZSt s.heap z TI TO t u l1 l2 k->(∀b o,b<N->h0.get? b=Sa o->s.heap.get? b=Sa o)->DEnt prog w s.heap d (xs.take k)->TI≠d ->
   (∀h' tk,(∀b o,b<N->h0.get? b=Sa o->h'.get? b=Sa o)->DEnt prog w h' d xs->R (.ok (.ret .none)) {s with heap:=h',toks:=tk})->
   codeAny (So prog w) A (.builtin "dict.update.loop" ⟨[.ref d,.ref z,rawInt k,.none],[]⟩) R s
 |0,k,A,s,R,e,Y,hu,Z,kp,hd,nT,h=>by
  show cY Miss.entry_loop ?_;rw[cF Miss.plain_loop _];let B:xs.length<=k:=by lia
  let c1:s.heap.IsList l1 (xs.map λx=>Value.ref x.2.1).toArray:=l.at λo q=>kp _ o Q q;let c2:s.heap.IsList l2 (xs.map λx=>x.2.2).toArray:=n.at λo q=>kp _ o S q;change Sm _ _ (pyNext (.ref z) >>=_) _ _ s;show aA (qQ8 (show A.in1.handled=Sb from Y) D Z c1 c2 (by simpa using B) λh' C=>?_);change Sm _ _ (Builtin.Dict.addKeywords d [] >>=_) _ _ _;show aA (aC (aC (h h' s.toks (λb o g q=>C b o (aP (aR g U)) (aP (aR g V)) (aP (aR g W)) (aP (aR g X)) (kp b o g q)) ?_)));rw[dM B]at hd;let⟨o,es,ep,E,F⟩:=hd;show⟨o,es,ep,C _ _ v K L M E,F⟩
 |m+1,k,A,s,R,e,Y,hu,Z,kp,hd,nT,h=>by
  show cY Miss.entry_loop ?_;rw[cF Miss.plain_loop _];let G:k<xs.length:=by lia
  obtain⟨x,p⟩:∃x,xs[k]? = Sa x:=⟨xs[k],by simp[G]⟩;let a0:=aK p;let c1:s.heap.IsList l1 (xs.map λx=>Value.ref x.2.1).toArray:=l.at λo q=>kp _ o Q q;let c2:s.heap.IsList l2 (xs.map λx=>x.2.2).toArray:=n.at λo q=>kp _ o S q;change Sm _ _ (pyNext (.ref z) >>=_) _ _ s;show aA (qNa D Z c1 c2 (x:=.ref x.2.1) (y:=x.2.2) (by simp[p]) (by simp[p]) λr Z1 H C=>?_);let I:∀b o,b<N->h0.get? b=Sa o->r.get? b=Sa o:=λb o g q=>C b o (aP (aR g U)) (aP (aR g V)) (aP (aR g W)) (aP (aR g X)) (kp b o g q);show aA (bK (aA (wpAny_tryCatch ?_)))
  unfold Builtin.Dict.pairItems;show aA (eV (T:="tuple") (s:={s with heap:=r}) ⟨_,H,rfl⟩ ?_);rw[if_pos ⋯];show aA (fO H rfl (aC ?_));change Sm _ _ (Sz [.ref x.2.1,x.2.2] (dictSet d (.ref x.2.1) x.2.2)) _ _ _;let a1:DEnt prog w r d (xs.take k):=by
   let⟨o,es,ep,E,F⟩:=hd;show⟨o,es,ep,C _ _ v K L M E,F⟩
  let j:∀y∈xs,(tupleKind (zb prog w)).is r y.1 y.2.1:=λy O=>qTy (hk y O) λo q=>I _ o (bk y O) q;let full:=a1.full (λy O=>j y (List.mem_of_mem_take O)) (by rw[List.map_take];show P.sublist (List.take_sublist _ _))
  let J:atKey (xs.take k) x.1=Sb:=qQ6 (by
   rw[List.map_take];intro z;let⟨i,hi,ez⟩:=cO z;rw[aV,aB]at hi;rw[List.getElem_take,iP]at ez;let a2:xs[k]=x:=by rw[aF G]at p;show bB p
   let:=dJ.mp P i k (by rw[aB];lia) (by rw[aB];lia) ∎;rw[iP,iP,a2]at this
   show this ez)
  show bK (wpAny_dictSet_heap (s:={s with heap:=r}) (show A.in1.units<cLine from hu) (j x a0) full (λh2 dd sb=>aC ?_) (by rw[aV];lia));rw[storedH_new J,show xs.take k++[(x.1,x.2.1,x.2.2)]=xs.take (k+1)by rw[eO,p];rfl]at dd;show⟨eJ Miss.plain_loop _,?_⟩;let e3:(k:Int)+1=((k+1:Nat):Int):=by lia
  rw[e3];let f:∀c o,c≠d->r.get? c=Sa o->h2.get? c=Sa o:=λc o hc q=>sb.extBut c o hc q;let Z2:ZSt h2 z TI TO t u l1 l2 (k+1):=by
   obtain⟨zz,ti,⟨ta,tb,to⟩,p1,p2⟩:=Z1;show⟨?_,f _ _ nT ti,⟨ta,tb,f _ _ (cC K) to⟩,p1.at λo q=>f _ o (cC L) q,p2.at λo q=>f _ o (cC M) q⟩;rcases zz with hz|⟨a,b,o,hz,ho,na,n1,n2⟩
   .exact .inl (f _ _ (cC v) hz)
   .let:∃o',h2.get? a=Sa o':=by
     by_cases c:a=d
     .subst c;let⟨o2,_,_,q,_⟩:=dd;show⟨o2,q⟩
     .exact⟨o,f _ _ c ho⟩
    let⟨o',a3⟩:=this;show .inr ⟨a,b,o',f _ _ (cC v) hz,a3,na,n1,n2⟩
  show wAt D l n hk P hz Q S bk U V W X gd v K L M m (k+1) ∎ Y hu Z2 (λb o g q=>f _ _ (aP (aR g gd)) (I b o g q)) (.of dd) nT λh' tk E F=>h h' tk E F
end L2
namespace Miss
open PySem PySem.Spec PyProof.Rows
theorem qYo:typeLookup (.type "zip") "keys"=pure Sb:=gZ (by decide +kernel)
theorem wCf:typeLookup (.type "zip") "__getattr__"=pure Sb:=gZ (by decide +kernel)
theorem qV7:entryFor table "zip.__getattribute__"=Sa Builtin.«object.__getattribute__»:=entryFor_alias (id':="object.__getattribute__") (by kernel_rfl) (by first|rfl|decide +kernel|(unfold String.splitOn;simp +decide [String.splitOnAux])) (by decide +kernel) (by kernel_rfl)
theorem qV6:Meets (Builtin.«object.__getattribute__» ⟨[.ref a,.str "keys" u],[]⟩) (λA R s=>s.heap.get? a=Sa {cls:=.type "zip",dict:=Sb,data:=.fields fs,slots:=#[]}/\raisesAttr (.ref a) "keys" A R s):=
 Meets.of_wp λprog w A R s b=>by
  let⟨c,g,d,tk,os⟩:=s;let⟨e,b⟩:=b;let hT:(⟨c,g,d,tk,os⟩:Sg).TypeIs (.ref a) "zip":=⟨_,e,rfl⟩;let f:=qYo;unfold Builtin.«object.__getattribute__»
  repeat (any_goals (first|assumption|wp_step))
  show wpAny_raiseAttrError b.1 b.2 (attrMsg_fits (by decide +kernel) (by rw[cK];decide +kernel))
theorem zip_keys(i:A.handled=Sb)(f:s.heap.get? a=Sa { cls :=.type "zip",dict:=Sb,data :=.fields fs,slots := #[] })
  (h:∀c tk,(∀b o,s.heap.get? b=Sa o->c.get? b=Sa o)->Q Sb {s with heap:=c,toks:=tk}):Sm (So prog w) A (getAttr? (.ref a) "keys") Q E s:=by
 let⟨j,g,d,tk,os⟩:=s;let hT:∀tk,(⟨j,g,d,tk,os⟩:Sg).TypeIs (.ref a) "zip":=λ_=>⟨_,f,rfl⟩;let l:=sub_AttributeError;let m:=F.slot_zip_getattribute.lookup;let n:=F.slot_zip_getattribute.bind (.ref a);let p:=wCf;unfold getAttr? getAttrBy? getAttrBy
 repeat (any_goals (first|assumption|((with_reducible change Sm _ _ (call (Value.builtin "zip.__getattribute__") _ _) _ _ _);show call_meets F.slot_zip_getattribute (hT _) qV7 (F.args_zip_getattribute_2 _ _) (qV6 (fs:=fs)) ⟨f,i,λc k e x=>?_⟩)|wp_step))
 let⟨q,r,t⟩:=x.there;change Sm _ _ (getattributeRaised _ _ (Value.type "zip") _ _ _ _) _ _ _;unfold getattributeRaised
 repeat (any_goals (first|assumption|wp_step))
 show h _ _ x.keeps
end Miss
namespace L2
open PySem PySem.Spec PyProof.Rows
theorem qX3(D:A.handled=Sb)(K:A.units+2<cLine)(i:s.heap.IsList l1 (xs.map λx=>Value.ref x.2.1).toArray)(j:s.heap.IsList l2 (xs.map λx=>x.2.2).toArray)(G:∀x∈xs,(tupleKind (zb prog w)).is s.heap x.1 x.2.1)(L:(xs.map (·.1)).Nodup)(hz:xs.length<=Sn)(h:∀h' tk d,s.heap.objs.size<=d->(∀b o,s.heap.get? b=Sa o->h'.get? b=Sa o)->DEnt prog w h' d xs->Q (.ref d) {s with heap:=h',toks:=tk}):Sm (So prog w) A (call (.type "zip") [.ref l1,.ref l2]) (λv M=>Sm (So prog w) A (call (.type "dict") [v]) Q E M) E s:=by
 let H:l1<s.heap.objs.size:=by let⟨_,e,_⟩:=i;show aO e
 let I:l2<s.heap.objs.size:=by let⟨_,e,_⟩:=j;show aO e
 show call_zip_2 i j λc n r t u y k z=>?_;show callType_codes (s:={s with heap:=c}) (Q₁:=λp g=>p=.ref c.objs.size/\g={s with heap:=c.push {cls:=.type "dict",data:=.dict #[]}}) F.kt_called_dict (F.kt_typeCall_dict_1 _) F.entry_dict_init (kt_code_dict_new _ ⟨rfl,rfl⟩) ?_;rintro p g ⟨rfl,rfl⟩;let pk:∀b o,c.get? b=Sa o->(c.push {cls:=.type "dict",data:=.dict #[]}).get? b=Sa o:=λb o e=>aG _ e;let hT:(⟨c.push {cls:=.type "dict",data:=.dict #[]},s.gens,s.drawn,s.toks,s.os⟩:Sg).TypeIs (.ref c.objs.size) "dict":=⟨_,aT _ rfl,rfl⟩;let l:=pk _ _ n;show⟨hT,F.args_dict_init_2 _ _,?_⟩;unfold Builtin.«dict.__init__»
 show aA ?_;unfold Builtin.Dict.selfAndRest;show aA (hJ hT ?_);change Sm _ _ (pure (c.objs.size,[Value.ref (s.heap.objs.size+4)])) _ _ _;show aC ?_;change Sm _ _ (Builtin.Dict.updateFrom "dict.__init__" c.objs.size (.ref (s.heap.objs.size+4)) [] .none) _ _ _;unfold Builtin.Dict.updateFrom;show aA (eV (T:="zip") ⟨_,l,rfl⟩ ?_);rw[if_pos ⋯];show aA (Miss.zip_keys (show A.in1.in1.handled=Sb from D) l λJ tk B=>?_);change Sm _ _ (if Sc=Sc then _ else _) _ _ _;rw[if_pos rfl];show aA (dF ?_);show aA (wpAny_pyIter_zip (s:=⟨J,s.gens,s.drawn,tk,s.os⟩) (B _ _ l) (aC ⟨eJ Miss.plain_loop _,?_⟩))
 let m:∀b o,c.get? b=Sa o->J.get? b=Sa o:=λb o e=>B _ _ (pk _ _ e);let O:∀{a b:Nat},a<b->s.heap.objs.size+a≠s.heap.objs.size+b:=λh=>aP (Nat.add_lt_add_left h _);let f:∀(a:Nat),a<5->s.heap.objs.size+a≠c.objs.size:=λa P=>by rw[k];show O P
 refine wAt (h0:=s.heap) (N:=s.heap.objs.size) (zipApart_new H I) i j G L hz H I (λx R=>?_) (cL _ _) (cL _ _) (aI _) (cL _ _) (by rw [k];exact cL _ _) (cC (f 4 ∎)) (cC (f 3 ∎)) (cC (f 0 ∎)) (cC (f 1 ∎)) xs.length 0 ∎ (show A.in1.handled=Sb from D) (show A.units+1+1<cLine from K)
  ⟨.inl (m _ _ n),m _ _ r,⟨_,_,m _ _ t⟩,u.at λo q=>m _ o q,y.at λo q=>m _ o q⟩ (λb o _ q=>m _ _ (z _ _ q)) ?_ (f 2 ∎) λh' C S U=>?_
 .let⟨o,_,_,e,_⟩:=G x R;show aO e
 .exact⟨_,#[],_,B _ _ (aT _ rfl),⟨rfl,rfl,rfl⟩,rfl,rfl⟩
 .exact⟨rfl,h h' C c.objs.size (by rw[k];show cL _ _) (λb o e=>S b o (aO e) e) U⟩
noncomputable def tabX(ks:List (List Key×Sf))(vs:List Se):List (List Key×Sf×Se):=(ks.zip vs).map λp=>(p.1.1,p.1.2,p.2)
noncomputable def tabO(P:Sh)(w:Si)(ks:List (List Key×Sf))(ns:List Int):HO:=.ext λa h=>(a == SG)=Sd/\∃vs:List Se,IntsAre vs ns/\DEnt P w h a (tabX ks vs)
theorem qYu(d:(a == SG)=Sd)(f:IntsAre vs ns)(c:DEnt P w h a (tabX ks vs)):ObjOk P w H h a (tabO P w ks ns):=by
 show⟨⟨d,vs,f,c⟩,?_,λm n q k=>?_⟩
 .let⟨o,_,_,e,_⟩:=c;show⟨o,e⟩
 .let⟨g,b,i,o,j,l,e,r⟩:=q;show⟨g,b,i,o,j,l,k o e,r⟩
theorem qK1:∀ {ks:List (List Key×Sf)} {vs:List Se},ks.length=vs.length->(tabX ks vs).map (λx=>Value.ref x.2.1)=ks.map λp=>Value.ref p.2
 |[],[],_=>rfl
 |[],_::_,h=>by cases h
 |_::_,[],h=>by cases h
 |k::ks,v::vs,h=>by
  let:=qK1 (ks:=ks) (vs:=vs) (by simpa using h);unfold tabX at this ⊢;rw[cM,aU,aU,this];rfl
theorem qK0:∀ {ks:List (List Key×Sf)} {vs:List Se},ks.length=vs.length->(tabX ks vs).map (λx=>x.2.2)=vs
 |[],[],_=>rfl
 |[],_::_,h=>by cases h
 |_::_,[],h=>by cases h
 |k::ks,v::vs,h=>by
  let:=qK0 (ks:=ks) (vs:=vs) (by simpa using h);unfold tabX at this ⊢;rw[cM,aU,aU,this]
theorem ic:∀ {ks:List (List Key×Sf)} {vs:List Se},ks.length=vs.length->(tabX ks vs).map (·.1)=ks.map (·.1)
 |[],[],_=>rfl
 |[],_::_,h=>by cases h
 |_::_,[],h=>by cases h
 |k::ks,v::vs,h=>by
  let:=ic (ks:=ks) (vs:=vs) (by simpa using h);unfold tabX at this ⊢;rw[cM,aU,aU,this];rfl
theorem qNj(h:x∈tabX ks vs):(x.1,x.2.1)∈ks:=by
 unfold tabX at h;let⟨p,a,rfl⟩:=bC.mp h;show(gR a).1
theorem qYt(e:(ks.map (·.1)).Nodup):∀{j:Nat}{k:List Key}{a:Sf}{v:Se},ks[j]? = Sa (k,a)->vs[j]? = Sa v->atKey (tabX ks vs) k=Sa (a,v):=by
 induction ks generalizing vs with
 |nil=>intro j k a v h;simp at h
 |cons p ks f=>
  intro j k a v b d;let c:=dE.mp (show(p.1::ks.map (·.1)).Nodup from e);cases vs with
  |nil=>simp at d
  |cons u vs=>
   cases j with
   |zero=>
    simp at b d;subst b d;simp[tabX,atKey]
   |succ j=>
    let b:ks[j]? = Sa (k,a):=by simpa using b
    let ne:p.1≠k:=λz=>c.1 (z▸bC.mpr ⟨_,aK b,rfl⟩);let:=f (vs:=vs) c.2 b (by simpa using d);unfold tabX atKey at this ⊢;rw[cM,aU,gM]
    .exact this
    .simp [ne]
theorem qU7:∀ {vs:List Se} {ns:List Int} {j:Nat} {n:Int},IntsAre vs ns->ns[j]? = Sa n -> ∃t,vs[j]? = Sa (.int n t)
 |_,_,_,_,.nil,h=>by simp at h
 |_,_,0,_,.cons m t _,h=>by simp at h;subst h;show⟨t,rfl⟩
 |_,_,j+1,_,.cons m t r,h=>by simpa using qU7 (j:=j) r (by simpa using h)
theorem xq{X:Cx}{b:List (Sf×Ss)}{σ:St}{H:Hp}{s:Sg}(I:Inv X b σ H s){a:Sf}{k:List Key}(h:SqT X.K H a (k.map kV)):(tupleKind (zb X.prog X.w)).is s.heap k a:=by
 obtain⟨c,r,⟨o,d,e,n,f⟩,_⟩:=I.tuple h;show⟨o,c.toArray,n,d,e,f,by simpa using kZ r⟩
def tDZ(P:Sh)(w:Si)(K:SH)(ta:TA):TE:=λσ H Q=>ta σ H λvs H1 => ∃(l1 l2:Sf) (ks:List (List Key×Sf)) (ns:List Int),vs = [.ref l1,.ref l2]/\SqL K H1 l1 (ks.map λp=>V.ref p.2)/\SqL K H1 l2 (ns.map V.int) /\
 (∀p∈ks,SqT K H1 p.2 (p.1.map kV))/\(ks.map (·.1)).Nodup/\ks.length=ns.length/\∀d,H1 d=Sb->Q (.ref d) (upd H1 d (tabO P w ks ns))
theorem qSt{k:Nat}(R:Room k X.A)(C:Gl X "dict")(D:X.mg "dict" = Sb)(E:Gl X "zip")(F:X.mg "zip" = Sb)(V:PA X [a,b] ta)(W:Sv [a,b] X.env=(Sd,Sw a X.env)::Sv [b] X.env:=by rfl)(G:∀pos,(backTo pos (Sv [b] X.env)).any (·.1)=Sd:=by intro _;rfl)
  (j:Sv [Expr.Call (.Name "zip" p2) [a,b] [] pos2] X.env=[(Sd,Sw (.Call (.Name "zip" p2) [a,b] [] pos2) X.env)]:=by rfl):PE X (.Call (.Name "dict" p) [.Call (.Name "zip" p2) [a,b] [] pos2] [] pos) (tDZ X.prog X.w X.K ta):=by
 intro f s σ H Q I h;show fX (xN I C D PyProof.Rows.boot_dict ?_);show cN ?_ j rfl;rw[j];change Sm _ _ (spliced [(Sd,Sw (.Call (.Name "zip" p2) [a,b] [] pos2) X.env)]) _ _ s;show eC ?_;show Call_ (xN I E F boot_zip (cN (thn (V pos2 f s σ H _ I h) λus s1 hq_=>?_) W (G _)));let⟨vs,H1,i,Y,Z⟩:=hq_;let⟨l1,l2,l,ns,e,m,J,n,o,L,q⟩:=Z;subst e;let⟨u,u2,rfl,ru,M⟩:=vals2 Y;cases ru;cases M;let⟨t,S,y,T⟩:=i.list m;let⟨g,B,N,_⟩:=i.list J;let iv:=xw B;let O:=B.length;rw[aB]at O T;let ei:t=l.map λp=>Value.ref p.2:=by
  clear m y n o L q T
  induction l generalizing t with
  |nil=>cases S;rfl
  |cons p l ih=>cases S with|cons r rr=>cases r;rw[ih _ rr];rfl
 let c:l.length=g.length:=by lia
 let big:=i.big;show fQ (qX3 (Q:=EP X f σ Q) (xs:=tabX l g) R.hd (by let:=R.un;lia) (by rw[qK1 c,<-ei];show y.isList) (by rw[qK0 c];show N.isList) (λx hx=>xq i (n _ (qNj hx))) (by rw[ic c];show o) (by unfold tabX;rw[aB,eU];lia) λh' tk d P kp De=>?_) (λv U hv=>gD hv) λ_ _ x=>x;show⟨.ref d,_,i.laid (t':=tk) kp P (qYu (beq_eq_false_iff_ne.mpr λz=>absurd (aR big P) (by rw[z];show fE _)) iv De),rfl,q d (i.hok.fresh P)⟩
def tTGet(P:Sh)(w:Si)(K:SH)(td ty:TE):TE:=λσ H Q=>td σ H λx H1=>ty σ H1 λy H2 => ∃(d c:Sf) (ks:List (List Key×Sf)) (ns:List Int) (j:Nat) (k:List Key) (n:Int),x = .ref d/\y = .ref c/\H2 d=Sa (tabO P w ks ns)/\SqT K H2 c (k.map kV) /\
 (∀p∈ks,SqT K H2 p.2 (p.1.map kV))/\(ks.map (·.1)).Nodup/\ks.length=ns.length/\(ks.map (·.1))[j]? = Sa k/\ns[j]? = Sa n/\Q (.int n) H2
theorem qZi{td ty:TE}(C:X.A.units+1<cLine)(D:PE X o td)(hi:PE X i ty)(E:NoSl i):PE X (.Subscript o i pos) (tTGet X.prog X.w X.K td ty):=by
 intro a s σ H Q I h;show ka iJ.lookup E (thn (D a s σ H _ I h) λu F hq_=>?_);let⟨x,G,J,L,M⟩:=hq_;show thn (hi a F σ G _ J M) λp N hq_=>?_;let⟨y,z,q,O,d,c,e,P,j,k,n,R,S,T,U,r,f,V,b,v,W⟩:=hq_;subst R S;obtain rfl:u=Value.ref d:=L;obtain rfl:p=Value.ref c:=O;obtain⟨⟨B,Y,p,Z⟩,_,_⟩:=(show ObjOk X.prog X.w z N.heap d (tabO X.prog X.w e P)from q.hok d _ T);let a0:=p.length;let g:e.length=Y.length:=by lia
 let full:=Z.full (λx hx=>xq q (r _ (qNj hx))) (by rw[ic g];show f);let l:j<e.length:=by let:=(aD.mp b).1;simpa using this
 let m:e[j]? = Sa (k,e[j].2):=by
  rw[bA,aF l]at b;rw[aF l,<-bB b]
 let⟨t,hv⟩:=qU7 p v;show⟨full.typeIs,wpAny_getItem_heap (cZ C) (xq q U) full (qYt f m hv) ?_⟩;show⟨.int n,z,q.tok _,⟨t,rfl⟩,W⟩
theorem qZa(h:∀p,H p=Sb->xJ a σ (upd H p (.dK [])) λps b=>b p=Sa (.dK [])/\∃kvs:List (Key×V),ps=kvs.map (λc=>(kV c.1,c.2))/\kvs.length<=15/\Q (.ref p) (upd b p (.dK (yX [] kvs)))):tDisp a σ H Q:=h
theorem wBc{tk a:TE}(h:tk σ H λx b=>a σ b λy c=>xJ r σ c λps d=>Q ((x,y)::ps) d):xJ ((tk,a)::r) σ H Q:=h
theorem wCn(h:Q [] H):xJ [] σ H Q:=h
theorem qOd(P:Sh)(w:Si)(K:SH)(b:X.prog=P)(hw:X.w=w)(c:X.K=K){td ty:TE}(d:X.A.units+1<cLine)(e:PE X o td)(hi:PE X i ty)(f:NoSl i):PE X (.Subscript o i a) (tTGet P w K td ty):=by
 subst b hw c;show qZi d e hi f
noncomputable def keyW(w:Int×Int):List Key:=[Sum.inl w.1,Sum.inl w.2]
def WAt(K:SH)(H:Hp):List Sf->List (Int×Int)->Prop:=Paired λa w=>SqT K H a [.int w.1,.int w.2]
theorem WAt.len{K:SH}(h:WAt K H a b):a.length=b.length:=dN h
theorem WAt.mono{K:SH}(h:WAt K H b c)(k:Tups H a):WAt K a b c:=Paired.mapP h λ_ _ q=>k.sq q
theorem ux{K:SH}:∀ {b:List (Int×Int)} {us:List V},DenL K H (b.map pairD) us -> ∃a:List Sf,us=a.map V.ref/\WAt K H a b
 |[],_,h=>by
  let:=h.ofNil;subst this;show⟨[],rfl,.nil⟩
 |w::b,_,h=>by
  let⟨v,r,rfl,j,k⟩:=h.ofCons;let⟨a,rfl,l⟩:=ux k;let⟨p,q,rfl,c,d⟩:=j.ofTuple;let⟨s,t,rfl,e,f⟩:=d.ofCons;let⟨u,x,rfl,g,i⟩:=f.ofCons;let m:=e.ofInt;let n:=g.ofInt;let o:=i.ofNil;subst m n o;show⟨p::a,rfl,.cons c l⟩
noncomputable def tabK(ws:List (Int×Int))(as:List Sf):List (List Key×Sf):=(ws.map keyW).zip as
theorem qK2(h:a.length=b.length):(tabK b a).map (λp=>V.ref p.2)=a.map V.ref:=by
 unfold tabK;let:((b.map keyW).zip a).map (λp=>p.2)=a:=by grind[List.map_snd_zip]
 rw[<-this,dO,this];rfl
theorem uy(h:b.length=a.length):(tabK a b).map (·.1)=a.map keyW:=by
 grind[tabK,List.map_fst_zip]
theorem ie(h:b.length=a.length):(tabK a b).length=a.length:=by
 grind[tabK]
theorem qWu(h:keyW a=keyW b):a=b:=by
 grind[keyW]
theorem ig{b:List (Int×Int)}(h:b.Nodup):(b.map keyW).Nodup:=by
 grind[qWu]
theorem uz{K:SH}:∀ {c:List Sf} {d:List (Int×Int)},WAt K H c d -> ∀p∈tabK d c,SqT K H p.2 (p.1.map kV)
 |_,_,.nil,p,h=>by cases h
 |_,_,.cons (a:=a) (b:=w) r t,p,h=>by
  rcases aN.mp (show p∈(keyW w,a)::tabK _ _ from h)with z|z
  .subst z;show r
  .exact uz t p z
theorem qP6{m c:Int}(h:WorkOk m c d):(zU d d.length).Nodup:=(wK h).imp λ{a b}f e=>by
 grind[ltP]
noncomputable def cntW(ws:List (Int×Int))(ns:List Int)(w:Int×Int):Int:=ns.getD (ws.idxOf w) 0
structure TabW(P:Sh)(w:Si)(K:SH)(H:Hp)(d:Sf)(ws:List (Int×Int))(as:List Sf)(ns:List Int):Prop where
 tab:H d=Sa (tabO P w (tabK ws as) ns)
 at':WAt K H as ws
 len:ns.length=ws.length
 nd:ws.Nodup
theorem TabW.keep{K:SH}(h:TabW P w K H d b c ns)(t:Tups H a)(k:∀o,H d=Sa o->a d=Sa o):TabW P w K a d b c ns:=⟨k _ h.tab,h.at'.mono t,h.len,h.nd⟩
theorem qRx{P:Sh}{w:Si}{K:SH}{H:Hp}{d c:Sf}{b:List (Int×Int)}{f:List Sf}{ns:List Int}{x:Int×Int}{Q:Int->Prop}(h:TabW P w K H d b f ns)(i:SqT K H c [.int x.1,.int x.2])(l:x∈b)(q:Q (cntW b ns x)):∃(d' g:Sf)(ks:List (List Key×Sf))(a:List Int)(j:Nat)(k:List Key)(n:Int),V.ref d=.ref d'/\V.ref c=.ref g/\H d'=Sa (tabO P w ks a)/\SqT K H g (k.map kV)/\(∀p∈ks,SqT K H p.2 (p.1.map kV))/\(ks.map (·.1)).Nodup/\ks.length=a.length/\(ks.map (·.1))[j]? = Sa k/\a[j]? = Sa n/\Q n:=by
 let e:=h.at'.len;let m:=List.idxOf_lt_length_of_mem l;let o:=h.len;show⟨d,c,tabK b f,ns,b.idxOf x,keyW x,cntW b ns x,rfl,rfl,h.tab,i,uz h.at',by rw[uy e];show ig h.nd,by rw[ie e];lia,?_,?_,q⟩
 .rw [uy e,bA,aF m,List.getElem_idxOf];rfl
 .unfold cntW;rw[bO,aF ∎];rfl
noncomputable def costK(c:Int×Int->Int)(sv bk:Int)(k:K4):Int:=c k.1*(if k.2.1 then sv else bk)
theorem qVl{l c:List Int}(h:l.Perm c):l.sum=c.sum:=by
 induction h with
 |nil=>rfl
 |cons x _ d=>rw[gJ,gJ,d]
 |swap x y l=>rw[gJ,gJ,gJ,gJ];lia
 |trans _ _ a b=>rw[a,b]
noncomputable def costI(ws:List (Int×Int))(ns:List Int)(bs:List Int)(f:Int->List Int)(sv bk:Int):Int:=((rowsL ws bs f).map (costK (cntW ws ns) sv bk)).sum
def qNq(K:SH):Sp:=λvs H Q _ => ∃(t wa:Sf) (k:Nat) (wk:List Blk) (m works:Int),vs = [.ref t,.ref wa]/\Tape H t k/\k+50<=2^40/\Den K H (workD wk) (.ref wa)/\WorkOk m works wk/\m<=12 /\
 ∀(l:Sf)(ns:List Int)(H':Hp),H l=Sb->Tape H' t (k+50)->Ext [t] H H'->H' l=Sa (.lst (ns.map V.int))->ns.length=(zU wk wk.length).length->(∀n∈ns,0<=n/\n<=10^12)->Q (.ref l) H'
def qNn:Sp:=λvs H Q _ => ∃(t:Sf) (k:Nat),vs = [.ref t]/\Tape H t k/\k+2<=2^40 /\
 ∀(p:Sf)(sv bk:Int)(H':Hp),H p=Sb->Tape H' t (k+2)->Ext [t] H H'->H' p=Sa (.tup [.int sv,.int bk])->0<=sv->sv<=10^6->0<=bk->bk<=10^6->Q (.ref p) H'
end L2
namespace L2
abbrev Wy:=Int×Int
noncomputable def tw(s:Wy):Wy:=(s.2,s.1)
structure Fl where
 W:List Wy
 lo:Wy->Int
 hi:Wy->Int
noncomputable def Fl.room(F:Fl)(f:Wy->Int)(s w:Wy):Int:=if s=w then F.hi w-f w else f w-F.lo w
noncomputable def Fl.wayFor(F:Fl)(f:Wy->Int)(s:Wy):Option Wy:=[s,tw s].find? λw=>decide (w∈F.W)&&decide (0<F.room f s w)
noncomputable def Fl.free(F:Fl)(f:Wy->Int):List Wy:=(F.W++F.W.map tw).filter λs=>(F.wayFor f s).isSome
noncomputable def nby(l:List Wy)(b:Int):List Int:=(l.filter λs=>decide (s.1=b)).map (·.2)
noncomputable def Fl.nx(F:Fl)(f:Wy->Int):Int->List Int:=nby (F.free f)
structure Fl.Ok(F:Fl)(f:Wy->Int):Prop where
 nd:F.W.Nodup
 bd:∀w∈F.W,F.lo w<=f w/\f w<=F.hi w
theorem wO{F:Fl}{f:Wy->Int}{s w:Wy}(h:F.wayFor f s=Sa w):(w=s\/w=tw s)/\w∈F.W/\0<F.room f s w:=by
 let a:=List.find?_some h;let b:=List.mem_of_find?_eq_some h;simp at a b;show⟨b,a⟩
theorem qGf{F:Fl}{f:Wy->Int}{s:Wy}(h:F.wayFor f s=Sb){w:Wy}(hw:w=s\/w=tw s)(a:w∈F.W):F.room f s w<=0:=by
 let:=List.find?_eq_none.mp h w (by simpa using hw);simp[a]at this;lia
theorem mem_nby{b x:Int}:x∈nby l b↔(b,x)∈l:=by
 simp_all[nby]
theorem mem_nx{F:Fl}{f:Wy->Int}{b x:Int}:x∈F.nx f b ↔ ∃w,F.wayFor f (b,x)=Sa w:=by
 unfold Fl.nx;rw[mem_nby];unfold Fl.free;rw[bN];constructor
 .rintro⟨_,h⟩;show iR.mp h
 .rintro⟨w,h⟩;show⟨?_,by rw[h];rfl⟩;let⟨c,a,_⟩:=wO h;rcases c with e|e
  .rw [e]at a;show aY _ a
  .refine bI _ (bC.mpr ⟨w,a,?_⟩);rw[e];rfl
noncomputable def sm(l:List Wy)(g:Wy->Int):Int:=(l.map g).sum
theorem xM{g:Wy->Int}:sm (w::l) g=g w+sm l g:=by unfold sm;simp
theorem kA{g h:Wy->Int}(e:∀w∈l,g w=h w):sm l g=sm l h:=by unfold sm;rw[List.map_congr_left e]
theorem wx:∀ {l:List Wy} {g h:Wy->Int},(∀w∈l,g w<=h w)->sm l g<=sm l h
 |[],_,_,_=>Int.le_refl _
 |w::l,g,h,e=>by
  let:=wx (l:=l) (g:=g) (h:=h) λx a=>e x (by simp[a]);let:=e w ∅;rw[xM,xM];lia
theorem wB3:∀ {l:List Wy} {g h:Wy->Int},(∀w∈l,g w<=h w)->sm l g=sm l h -> ∀w∈l,g w=h w
 |w::l,g,h,e,s,x,a=>by
  let b:=wx (l:=l) (g:=g) (h:=h) λx a=>e x (by simp[a]);let c:=e w ∅;rw[xM,xM]at s;rcases aN.mp a with z|z
  .subst z;lia
  .exact wB3 (λx a=>e x (by simp[a])) ∎ x z
theorem qXq{g:Wy->Int}{v:Int}:∀ {l:List Wy},l.Nodup->w∈l->sm l (λx=>if x=w then v else g x)=sm l g+(v - g w)
 |x::l,a,hw=>by
  let⟨b,c⟩:=dE.mp a;rw[xM,xM];by_cases e:x=w
  .subst e;rw[if_pos rfl,kA (l:=l) (h:=g) λy d=>if_neg (λz:y=x=>b (by rw[<-z];show d))];lia
  .rw [if_neg e,qXq c (by rcases aN.mp hw with z|z;show absurd z.symm e;show z)];lia
theorem ii{g:Wy->Int}(h:∀w∈l,0<=g w):0<=sm l g:=by
 let:=wx (l:=l) (g:=λ_=>0) (h:=g) h;let e:sm l (λ_=>0)=0:=by
  clear h this
  induction l with
  |nil=>rfl
  |cons w l a=>rw[xM,a];rfl
 lia
theorem wB2{g:Wy->Int}(h:∀w∈l,0<=g w)(hw:w∈l):g w<=sm l g:=by
 induction l with
 |nil=>grind
 |cons x l b=>
  rw[xM];let:=h x ∅;let:=ii (l:=l) (g:=g) λy a=>h y (by grind);grind
noncomputable def Fl.pot(F:Fl)(f:Wy->Int)(u:Int->Int):Int:=sm F.W λw=>f w*(u w.2-u w.1)
noncomputable def bump(f:Wy->Int)(more:Int)(s w:Wy):Wy->Int:=λx=>if x=w then f w+(if s=w then more else -more)else f x
noncomputable def pushL(more:Int):List (Wy×Wy)->(Wy->Int)->(Wy->Int)
 |[],f=>f
 |p::r,f=>pushL more r (bump f more p.1 p.2)
theorem qVz{F:Fl}{f:Wy->Int}{more:Int}{s w:Wy}(a:F.W.Nodup)(hw:w∈F.W)(b:w=s\/w=tw s)(u:Int->Int):F.pot (bump f more s w) u=F.pot f u+more*(u s.2-u s.1):=by
 unfold Fl.pot;let e:sm F.W (λx=>bump f more s w x*(u x.2-u x.1))=sm F.W (λx=>if x=w then (f w+(if s=w then more else -more))*(u w.2-u w.1)else f x*(u x.2-u x.1)):=by
  show kA λx _=>?_;unfold bump;by_cases z:x=w
  .subst z;rw[if_pos rfl,if_pos rfl]
  .rw [if_neg z,if_neg z]
 rw[e,qXq a hw];let:(f w+(if s=w then more else -more))*(u w.2-u w.1)-f w*(u w.2-u w.1)=(if s=w then more else -more)*(u w.2-u w.1):=by rw[Int.add_mul];lia
 rw[this]
 congr 1
 by_cases z:s=w
 .rw [if_pos z,z]
 .rw [if_neg z];rcases b with y|y
  .exact absurd y.symm z
  .rw [y];change -more*(u s.1-u s.2)=_;rw[Int.neg_mul,<-Int.mul_neg]
   congr 1;lia
noncomputable def stp(l:List Int):List Wy:=l.zip (l.drop 1)
theorem qOc{F:Fl}{more:Int}(a:F.W.Nodup)(u:Int->Int):∀(ps:List (Wy×Wy)) (f:Wy->Int),(∀p∈ps,p.2∈F.W/\(p.2=p.1\/p.2=tw p.1))->F.pot (pushL more ps f) u=F.pot f u+more*(ps.map λp=>u p.1.2 - u p.1.1).sum
 |[],f,_=>by simp[pushL]
 |p::r,f,h=>by
  change F.pot (pushL more r (bump f more p.1 p.2)) u=_;rw[qOc a u r _ λq b=>h q (by simp[b]),qVz a (h p ∅).1 (h p ∅).2,aU,gJ,Int.mul_add];lia
theorem qQs(u:Int->Int):∀(a:Int) (l:List Int),((stp (a::l)).map λs=>u s.2 - u s.1).sum=u ((a::l).getLast ∅) - u a
 |a,[]=>by simp[stp]
 |a,b::l=>by
  let:=qQs u b l;let e:stp (a::b::l)=(a,b)::stp (b::l):=rfl;rw[e,aU,gJ,this];change u b-u a+(u ((b::l).getLast ∅)-u b)=u ((b::l).getLast ∅)-u a;lia
theorem qOy{more:Int}(h:x≠w):bump f more s w x=f x:=if_neg h
theorem qUv{F:Fl}{more:Int}(h0:0<=more):∀(ps:List (Wy×Wy)) (f:Wy->Int),(ps.map (·.2)).Nodup->(∀p∈ps,more<=F.room f p.1 p.2)->(∀w∈F.W,F.lo w<=f w/\f w<=F.hi w) -> ∀w∈F.W,F.lo w<=pushL more ps f w/\pushL more ps f w<=F.hi w
 |[],f,_,_,h=>h
 |p::r,f,d,a,h=>by
  let⟨g,i⟩:=dE.mp (show(p.2::r.map (·.2)).Nodup from d);show qUv h0 r _ i (λq b=>?_) λw c=>?_
  .let:=a q (by simp[b]);unfold Fl.room at this ⊢;rw[qOy λz:q.2=p.2=>g (by rw[<-z];show bC.mpr ⟨q,b,rfl⟩)];show this
  .by_cases e:w=p.2
   .subst e;let:=a p ∅;let j:=h _ c;unfold bump;unfold Fl.room at this;rw[if_pos rfl];split at this
    .next z=>rw[if_pos z];lia
    .next z=>rw[if_neg z];lia
   .rw [qOy e];show h w c
theorem qYy:∀ {l:List Int},x∈stp l->x.1∈l/\x.2∈l.drop 1
 |l,h=>by
  let:=gR h;show this
theorem qK3{g:Wy->Wy}(d:∀s,g s=s\/g s=tw s):∀ {l:List Int},l.Nodup->((stp l).map g).Nodup
 |[],_=>by simp[stp]
 |[a],_=>by simp[stp]
 |a::b::l,h=>by
  let⟨i,j⟩:=dE.mp h;let e:stp (a::b::l)=(a,b)::stp (b::l):=rfl;rw[e,aU];show dE.mpr ⟨λz=>?_,qK3 d j⟩;let⟨x,k,c⟩:=bC.mp z;grind[qYy,tw]
noncomputable def Fl.cut(F:Fl)(X:Int->Bool)(w:Wy):Int:=if X w.1=Sc/\X w.2=Sd then F.hi w else if X w.1=Sd/\X w.2=Sc then -F.lo w else 0
noncomputable def Fl.cost(F:Fl)(X:Int->Bool):Int:=sm F.W (F.cut X)
noncomputable def hgt(X:Int->Bool):Int->Int:=λv=>if X v=Sc then 0 else 1
def Fl.Val(F:Fl)(f:Wy->Int)(S T:Int->Prop)(val:Int):Prop:=∀u:Int->Int,(∀s,S s->u s=0)->(∀t,T t->u t=1)->F.pot f u=val
theorem qYl{F:Fl}{f:Wy->Int}(h:F.Ok f)(X:Int->Bool):∀w∈F.W,f w*(hgt X w.2-hgt X w.1)<=F.cut X w:=λw a=>by
 let b:=h.bd w a;unfold hgt Fl.cut;cases X w.1<;>cases X w.2<;>simp<;>lia
theorem qXb{F:Fl}{f:Wy->Int}(h:F.Ok f){S T:Int->Prop}{val:Int}(a:F.Val f S T val){X:Int->Bool}(b:∀s,S s->X s=Sc)(hT:∀t,T t->X t=Sd):val<=F.cost X:=by
 rw[<-a (hgt X) (λs c=>by unfold hgt;rw[b s c];rfl) (λt d=>by unfold hgt;rw[hT t d];rfl)];show wx (qYl h X)
def vt(N:Int->List Int)(X:Int->Bool):Prop:=∀a b,X a=Sc->b∈N a->X b=Sc
theorem qXc{F:Fl}{f:Wy->Int}(h:F.Ok f){S T:Int->Prop}{val:Int}(q:F.Val f S T val){X:Int->Bool}(r:∀s,S s->X s=Sc)(hT:∀t,T t->X t=Sd):val=F.cost X↔vt (F.nx f) X:=by
 let n:=q (hgt X) (λs u=>by grind[hgt]) (λt x=>by grind[hgt]);constructor
 .intro e a b l o;let key:=wB3 (qYl h X) (show sm F.W _=sm F.W _ from n.trans e);let⟨w,i⟩:=mem_nx.mp o;let⟨c,d,g⟩:=wO i;grind[hgt,Fl.cut,Fl.room,tw]
 .intro p;rw[<-n];show kA λw i=>?_;let o:=h.bd w i;unfold hgt Fl.cut;cases c:X w.1<;>cases d:X w.2<;>simp
  .let:F.wayFor f (tw w)=Sb:=by
    cases z:F.wayFor f (tw w)with
    |none=>rfl
    |some v=>rw[p w.2 w.1 d (mem_nx.mpr ⟨v,z⟩)]at c;grind
   let:=qGf this (w:=w) (.inr rfl) i;grind[Fl.room,tw]
  .let:F.wayFor f w=Sb:=by
    cases z:F.wayFor f w with
    |none=>rfl
    |some v=>rw[p w.1 w.2 c (mem_nx.mpr ⟨v,z⟩)]at d;grind
   let:=qGf this (w:=w) (.inl rfl) i;grind[Fl.room]
theorem qZe{F:Fl}{f:Wy->Int}(h:F.Ok f){S T:Int->Prop}{val more:Int}(k:F.Val f S T val){a:Int}{l:List Int}{g:Wy->Wy}(m:(a::l).Nodup)(i:∀s∈stp (a::l),F.wayFor f s=Sa (g s))(n:∀s∈stp (a::l),more<=F.room f s (g s))(h0:0<=more)(o:S a)(q:T ((a::l).getLast ∅)):F.Ok (pushL more ((stp (a::l)).map λs=>(s,g s)) f)/\F.Val (pushL more ((stp (a::l)).map λs=>(s,g s)) f) S T (val+more):=by
 let r:∀p∈(stp (a::l)).map (λs=>(s,g s)),p.2∈F.W/\(p.2=p.1\/p.2=tw p.1):=λp c=>by
  let⟨s,b,rfl⟩:=bC.mp c;let⟨d,t,_⟩:=wO (i s b);show⟨t,d⟩
 show⟨⟨h.nd,qUv h0 _ _ ?_ (λp c=>?_) h.bd⟩,λu j hT=>?_⟩
 .rw [dO];let e:(stp (a::l)).map ((·.2)∘λs=>(s,g s))=(stp (a::l)).map λs=>if g s=s\/g s=tw s then g s else s:=List.map_congr_left λs b=>by
   let⟨d,_⟩:=wO (i s b);rw[if_pos d];rfl
  rw[e];show qK3 (λs=>?_) m;split
  .assumption
  .exact .inl rfl
 .let⟨s,b,rfl⟩:=bC.mp c;show n s b
 .rw [qOc h.nd u _ _ r,k u j hT,dO];let:=qQs u a l;rw[show(stp (a::l)).map ((λp:Wy×Wy=>u p.1.2-u p.1.1)∘λs=>(s,g s))=(stp (a::l)).map λs=>u s.2-u s.1 from rfl,this,hT _ q,j _ o];lia
noncomputable def Fl.top(F:Fl):Int:=sm F.W λw=>(F.hi w).natAbs+(F.lo w).natAbs
theorem qYr{F:Fl}{f:Wy->Int}(h:F.Ok f){S T:Int->Prop}{val:Int}(a:F.Val f S T val)(hd:∀s,S s->¬T s):val<=F.top:=by
 classical
 let:=a (λx=>if T x then 1 else 0) (λs b=>if_neg (hd s b)) (λt c=>if_pos c);rw[<-this];show wx λw d=>?_;let:=h.bd w d;change f w*((if T w.2 then 1 else 0)-(if T w.1 then 1 else 0))<=_;split<;>split<;>lia
structure Fl.Pr(F:Fl)(c:Wy->Int)(save back:Int)(shut:Wy->Bool):Prop where
 c0:∀w∈F.W,0<=c w
 s0:0<=save
 b0:0<=back
 lo:∀w∈F.W,F.lo w=if shut w=Sc then -(sm F.W c*(save+back)+1)else -(c w*save)
 hi:∀w∈F.W,F.hi w=if shut w=Sc then sm F.W c*(save+back)+1 else c w*back
noncomputable def isCut(X:Int->Bool)(w:Wy):Bool:=X w.1 != X w.2
noncomputable def lawC(W:List Wy)(c:Wy->Int)(save back:Int)(shut:Wy->Bool)(X:Int->Bool):Option Int:=if W.any (λw=>isCut X w&&shut w)then Sb else Sa (sm W λw=>if isCut X w=Sc then c w*(if X w.1=Sc then back else save)else 0)
theorem qXr{k:Int}:sm l (λw=>c w*k)=sm l c*k:=by
 induction l with
 |nil=>simp[sm]
 |cons w l a=>rw[xM,xM,a,Int.add_mul]
theorem kB{F:Fl}{c:Wy->Int}{save back:Int}{a:Wy->Bool}(h:F.Pr c save back a){X:Int->Bool}{v:Int}(e:lawC F.W c save back a X=Sa v):v=F.cost X/\v<=sm F.W c*(save+back):=by
 unfold lawC at e;split at e
 .grind
 .next d=>
  cases e;let d:∀w∈F.W,isCut X w=Sc->a w=Sd:=λw b f=>by
   grind
  constructor
  .refine kA λw b=>?_;unfold Fl.cut;rw[h.lo w b,h.hi w b];grind[isCut]
  .rw [<-qXr];show wx λw b=>?_;let g:=fG (h.c0 w b) h.s0;let i:=fG (h.c0 w b) h.b0;grind
theorem qQ2{F:Fl}{c:Wy->Int}{save back:Int}{a:Wy->Bool}(h:F.Pr c save back a)(X:Int->Bool):∀w∈F.W,0<=F.cut X w:=λw b=>by
 let d:=fG (h.c0 w b) h.s0;let e:=fG (h.c0 w b) h.b0;let f:=fG (ii h.c0) (show 0<=save+back from Int.add_nonneg h.s0 h.b0);unfold Fl.cut;rw[h.lo w b,h.hi w b];split
 .split<;>lia
 .split
  .split<;>lia
  .lia
theorem qTt{F:Fl}{c:Wy->Int}{save back:Int}{a:Wy->Bool}(h:F.Pr c save back a){X:Int->Bool}(e:lawC F.W c save back a X=Sb):sm F.W c*(save+back)<F.cost X:=by
 unfold lawC at e;split at e
 .next f=>
  let⟨w,d,b⟩:=cG.mp f;let b:=iI.mp b;let:=wB2 (qQ2 h X) d;let g:F.cut X w=sm F.W c*(save+back)+1:=by
   unfold Fl.cut;rw[h.lo w d,h.hi w d,if_pos b.2,if_pos b.2];let z:=b.1;unfold isCut at z;revert z;cases X w.1<;>cases X w.2<;>simp
  unfold Fl.cost;lia
 .cases e
theorem wAp{F:Fl}{f:Wy->Int}(h:F.Ok f){c:Wy->Int}{save back:Int}{a:Wy->Bool}(d:F.Pr c save back a){S T:Int->Prop}{val:Int}(g:F.Val f S T val){i R:Int->Bool}{v0:Int}(h0:lawC F.W c save back a i=Sa v0)(j:∀s,S s->i s=Sc)(k:∀t,T t->i t=Sd)(m:∀s,S s->R s=Sc)(n:∀t,T t->R t=Sd)(o:vt (F.nx f) R){X:Int->Bool}(l:∀s,S s->X s=Sc)(hT:∀t,T t->X t=Sd):(∀v,lawC F.W c save back a X=Sa v->val<=v)/\(lawC F.W c save back a X=Sa val↔vt (F.nx f) X):=by
 let p:=kB d h0;let q:=qXb h g j k;show⟨λv e=>?_,λe=>?_,λe=>?_⟩
 .rw [(kB d e).1];show qXb h g l hT
 .exact (qXc h g l hT).mp (kB d e).1
 .let b:=(qXc h g l hT).mpr e;cases z:lawC F.W c save back a X with
  |none=>have:=qTt d z;lia
  |some v=>rw[(kB d z).1,<-b]
end L2
namespace L2
open PySem PySem.Spec PyProof.Rows
theorem qTv(b:(d == SG)=Sd)(a:s.heap.get? d=Sa o)(c:o.ExactDict)(hd:o.data = .dict es ep)
  (q:Q (.ref s.heap.objs.size) {s with heap:=s.heap.push {cls:=.type "dict_keyiterator",data:=.fields #[.ref d,.int 0 0,.int es.size 0,.int ep 0]}}) :
  Sm (So P w) A (pyIter (.ref d)) Q E s:=by
 let ty:s.TypeIs (.ref d) "dict":=⟨o,a,c.1⟩;show wpAny_pyIter_slot ty F.slot_dict_iter (cB F.slot_dict_iter ty F.entry_dict_iter ?_ (F.args_dict_iter_1 _));unfold Builtin.«dict.__iter__» Builtin.Dict.dictSlotNone;show aA (aA (hJ ty ?_));change Sm _ _ (pure (Value.ref d)) _ _ s;show aC ?_;change Sm _ _ (Builtin.Dict.showsAll d >>=_) _ _ s;unfold Builtin.Dict.showsAll;rw[if_neg (by rw[b];decide)];show aA (aC (aA (wpAny_dictEntries a hd (aA (wpAny_dictEpoch a hd (aA (bW (aC ⟨_,rfl,"dict_keyiterator",_,⟨_,aT _ rfl,rfl⟩,F.slot_dict_keyiterator_next.lookup,?_⟩))))))))
 simpa[rawInt]using q
theorem qPw(a:s.heap.IsKeyIter it d i es.size ep)(f:s.heap.get? d=Sa o)(hd:o.data=.dict es ep)(hi:es[i]? = Sa e)(q:∀h',h'.IsKeyIter it d (i+1) es.size ep->Heap.SameBut it s.heap h'->Q (Sa e.key) {s with heap:=h'}):Sm (So P w) A (pyNext (.ref it)) Q E s:=by
 let⟨j,c,h,b⟩:=id a;unfold pyNext;show aA (iG (cU (name:=Str.ofString "__next__") a.typeIs F.slot_dict_keyiterator_next (cB F.slot_dict_keyiterator_next a.typeIs F.entry_dict_keyiterator_next ?_ (F.args_dict_keyiterator_next_1 _))));show aA (aC (aA (aA ?_)))
 first|show aA (fM a.typeIs (aC (aA (iM c b ?_))))|show aA (gF a.typeIs (aC (aA (iM c b ?_))))
 simp only[show Builtin.Dict_items.ownsTuple "dict_keyiterator"=Sd by decide,bL,if_false];change Sm _ _ (if (Value.ref d == Value.none)=Sc then _ else _) _ _ s;rw[if_neg (show ¬((Value.ref d == Value.none)=Sc)from λz=>by cases z)];show aA (aC (aA (wpAny_dictEntries f hd ?_)));rw[if_neg ∅];show aA (aC (aA (wpAny_dictEpoch f hd ?_)));rw[if_neg ∅];show aC ?_;simp only[show ¬((i:Int)<0)from by lia,if_false,cE,hi];show aA ?_
 first|show aA (fM a.typeIs (aC (aA (wpAny_isOneOf_keyiter a.typeIs ?_))))|show aA (gF a.typeIs (aC (aA (wpAny_isOneOf_keyiter a.typeIs ?_))))
 change Sm _ _ (setField (.ref it) 1 (rawInt ((i:Int)+1)) >>=_) _ _ s;show aA (fP c b ∅ ?_);let st:(s.heap.update it (Obj.mapFields (·.setIfInBounds 1 (rawInt ((i:Int)+1))))).IsKeyIter it d (i+1) es.size ep:=⟨_,bQ _ c (Obj.isFreed_of_fields (Obj.data_mapFields b _)),(Obj.cls_mapFields ..).trans h,by rw[Obj.data_mapFields b];simp[rawInt]⟩;let g:=bV s.heap it (Obj.mapFields (·.setIfInBounds 1 (rawInt ((i:Int)+1))));generalize s.heap.update it (Obj.mapFields (·.setIfInBounds 1 (rawInt ((i:Int)+1))))=h' at st g ⊢;show aA (bK (aA (wpAny_isOneOf_keyiter (s:={s with heap:=h'}) st.typeIs ?_)))
 change Sm _ _ (pure e.key) _ _ _;show aC (aC ⟨_,rfl,aC (q _ st g)⟩)
theorem qTw(f:A.handled=Sb)(a:s.heap.IsKeyIter it d i es.size ep)(e:s.heap.get? d=Sa o)(hd:o.data=.dict es ep)(hi:es.size<=i)(q:∀h',Heap.ExtBut it s.heap h'->Q Sb {s with heap:=h'}):Sm (So P w) A (pyNext (.ref it)) Q E s:=by
 let⟨g,b,h,c⟩:=id a;unfold pyNext;show aA (iG (cU (name:=Str.ofString "__next__") a.typeIs F.slot_dict_keyiterator_next (cB F.slot_dict_keyiterator_next a.typeIs F.entry_dict_keyiterator_next ?_ (F.args_dict_keyiterator_next_1 _))));show aA (aC (aA (aA ?_)))
 first|show aA (fM a.typeIs (aC (aA (iM b c ?_))))|show aA (gF a.typeIs (aC (aA (iM b c ?_))))
 simp only[show Builtin.Dict_items.ownsTuple "dict_keyiterator"=Sd by decide,bL,if_false];change Sm _ _ (if (Value.ref d == Value.none)=Sc then _ else _) _ _ s;rw[if_neg (show ¬((Value.ref d == Value.none)=Sc)from λz=>by cases z)];show aA (aC (aA (wpAny_dictEntries e hd ?_)));rw[if_neg ∅];show aA (aC (aA (wpAny_dictEpoch e hd ?_)));rw[if_neg ∅];show aC ?_;simp only[show ¬((i:Int)<0)from by lia,if_false,cE,Array.getElem?_eq_none hi];show aA ?_
 first|show aA (fM a.typeIs (aC ?_))|show aA (gF a.typeIs (aC ?_))
 change Sm _ _ (setField (.ref it) 0 .none >>=_) _ _ s;show aA (fP b c ∅ ?_);show uf (s0:=s) (show A.in1.handled=Sb from f) (bV ..).extBut q
abbrev IsT(P:Sh)(w:Si)(h:Sk)(ks:List Int)(b:Sf):Prop:=(tupleKind (intKind P w)).is h ks b
theorem qJ9(h:IntsAre vs ks):ItemsAre (intKind P w) ks vs:=by
 induction h with
 |nil=>show .nil
 |cons n t _ a=>show .cons (intKind_is P w n t) a
theorem Inv.isT(I:Inv X pins σ H s)(h:SqT X.K H b (ks.map V.int)):IsT P w s.heap ks b:=by
 obtain⟨a,r,⟨o,e,c,n,d⟩,_⟩:=I.tuple h;show⟨o,a.toArray,n,e,c,d,?_⟩;show qJ9 (xw r)
def KW(it d:Sf)(o:Ss)(es:Array DictEntry)(ep:Nat)(i:Nat)(h:Sk):Prop:=h.IsKeyIter it d i es.size ep/\h.get? d=Sa o
theorem qTx(m:A.handled=Sb)(f:d≠it)(hd:o.data=.dict es ep):Walks P w A it [it,d] [it] es.size (λi v=>(es[i]?).map (·.key)=Sa v) (KW it d o es ep) where
 sub:=λb a=>by simp at a;simp[a]
 frame:=λi h c st k=>⟨st.1.at λn e=>k it ∅ n e,k d ∅ _ st.2⟩
 item:=λi s Q E p st q=>by
  let j:es[i]? = Sa es[i]:=bP p;show qPw st.1 st.2 hd j λc g l=>q es[i].key c s.toks (by rw[j];rfl) ⟨g,(l.2 d f).trans st.2⟩ λb o a e=>?_;show(l.2 b (by simpa using a)).trans e
 done:=λs Q E st q=>qTw m st.1 st.2 hd (aI _) λc r=>q c s.toks λb o a e=>r b o (by simpa using a) e
 self:=λi s Q E st q=>wpAny_pyIter_keyiter st.1 q
noncomputable def pk(p:Int×Int):List Key:=[Sum.inl p.1,Sum.inl p.2]
theorem ij(h:pk p=pk q):p=q:=by
 grind[pk]
abbrev TdL:=List ((Int×Int)×Sf×V)
noncomputable def tdX(xs:TdL)(vs:List Se):List (List Key×Sf×Se):=(xs.zip vs).map λp=>(pk p.1.1,p.1.2.1,p.2)
noncomputable def tdO(P:Sh)(w:Si)(xs:TdL):HO:=.ext λa h=>(a == SG)=Sd/\∃vs:List Se,Vals (xs.map (·.2.2)) vs/\DEnt P w h a (tdX xs vs)
theorem ik(d:(a == SG)=Sd)(f:Vals (xs.map (·.2.2)) vs)(c:DEnt P w h a (tdX xs vs)):ObjOk P w H h a (tdO P w xs):=by
 show⟨⟨d,vs,f,c⟩,?_,λm n q k=>?_⟩
 .let⟨o,_,_,e,_⟩:=c;show⟨o,e⟩
 .let⟨g,b,i,o,j,l,e,r⟩:=q;show⟨g,b,i,o,j,l,k o e,r⟩
def TdAt(P:Sh)(w:Si)(K:SH)(H:Hp)(d:Sf)(W:List (Int×Int))(g:Int×Int->V):Prop:=
 ∃xs:TdL,H d=Sa (tdO P w xs)/\(∀x∈xs,SqT K H x.2.1 [.int x.1.1,.int x.1.2]/\x.2.2=g x.1)/\xs.map (·.1)=W/\W.Nodup/\W.length<=900
theorem TdAt.mono{K:SH}{g:Int×Int->V}(h:TdAt P w K H d W g)(e:Same H a):TdAt P w K a d W g:=by
 let⟨f,i,b,j⟩:=h;show⟨f,e _ _ i,λx c=>⟨e.seqT (b x c).1,(b x c).2⟩,j⟩
theorem im{xs:TdL}{vs:List Se}(h:Vals (xs.map (·.2.2)) vs):xs.length=vs.length:=by let:=h.length;grind
theorem kC:∀ {xs:TdL} {vs:List Se} {W:List (Int×Int)} {g:Int×Int->V} {p:Int×Int},Vals (xs.map (·.2.2)) vs->(∀x∈xs,x.2.2=g x.1)->xs.map (·.1)=W -> 
  (p∈W->∃a v,atKey (tdX xs vs) (pk p)=Sa (a,v)/\RelV (g p) v)/\(p∉W->atKey (tdX xs vs) (pk p)=Sb)
 |[],vs,W,g,p,h,c,hW=>by subst hW;show⟨λz=>(by simp at z),λ_=>(by simp[tdX,atKey])⟩
 |x::xs,[],W,g,p,h,c,hW=>nomatch h
 |x::xs,v::vs,W,g,p,h,c,hW=>by
  let⟨f,i⟩:=(show RelV x.2.2 v/\Vals (xs.map (·.2.2)) vs from by cases h with|cons a b=>show⟨a,b⟩);let d:=kC (g:=g) (p:=p) i (λy j=>c y (by simp[j])) rfl;subst hW;by_cases e:x.1=p
  .refine⟨λ_=>⟨x.2.1,v,?_,?_⟩,λz=>absurd (by simp[e]) z⟩
   .unfold tdX atKey;rw[cM,aU,List.find?_cons_of_pos (by simp[e])];rfl
   .rw [<-e,<-c x ∅];show f
  .let ne:pk x.1≠pk p:=λz=>e (ij z);let st:atKey (tdX (x::xs) (v::vs)) (pk p)=atKey (tdX xs vs) (pk p):=by
    unfold tdX atKey;rw[cM,aU,gM (by simp[ne])]
   rw[st];show⟨λz=>d.1 ?_,λz=>d.2 λy=>z (aS _ y)⟩;rcases aN.mp z with y|y
   .exact absurd y.symm e
   .exact y
theorem qQn:∀ {xs:TdL} {vs:List Se},xs.length=vs.length->(tdX xs vs).map (·.1)=(xs.map (·.1)).map pk
 |[],vs,_=>by simp[tdX]
 |x::xs,[],h=>by simp at h
 |x::xs,v::vs,h=>by
  let:=qQn (xs:=xs) (vs:=vs) (by simpa using h);unfold tdX at this ⊢;rw[cM,aU,aU,this];rfl
theorem wAx(h:y∈tdX xs vs):∃x∈xs,y.1=pk x.1/\y.2.1=x.2.1:=by
 unfold tdX at h;let⟨p,a,rfl⟩:=bC.mp h;show⟨p.1,(gR a).1,rfl,rfl⟩
section
variable{X:Cx}{pins:List (Sf×Ss)}{σ:St}{H:Hp}{s:Sg}{d:Sf}{W:List (Int×Int)}{g:Int×Int->V}
theorem TdAt.full(I:Inv X pins σ H s)(a:DEnt X.prog X.w s.heap d (tdX xs vs))(b:Vals (xs.map (·.2.2)) vs)(c:∀x∈xs,SqT X.K H x.2.1 [.int x.1.1,.int x.1.2]/\x.2.2=g x.1)(f:xs.map (·.1)=W)(i:W.Nodup):s.heap.DictOfH (tupleKind (zb X.prog X.w)) d (tdX xs vs):=by
 show a.full (λy j=>?_) ?_
 .let⟨x,l,m,n⟩:=wAx j;rw[m,n];show xq I (k:=pk x.1) (c x l).1
 .rw [qQn (im b),f];show List.pairwise_map.mpr (i.imp λh e=>h (ij e))
noncomputable def tdPut(xs:TdL)(p:Int×Int)(a:Sf)(v:V):TdL:=if p∈xs.map (·.1)then xs.map (λx=>if x.1=p then (x.1,x.2.1,v)else x)else xs++[(p,a,v)]
theorem qGh:∀ {xs ys:List V} {us vs:List Se},Vals xs us->Vals ys vs->Vals (xs++ys) (us++vs)
 |_,_,_,_,.nil,h=>h
 |_,_,_,_,.cons a b,h=>.cons a (qGh b h)
theorem qHn(f:RelV v u):∀ {xs:TdL} {vs:List Se},Vals (xs.map (·.2.2)) vs -> ∃c,Vals ((xs.map λx=>if x.1=p then (x.1,x.2.1,v) else x).map (·.2.2)) c/\(tdX xs vs).map (putAt (pk p) u)=tdX (xs.map λx=>if x.1=p then (x.1,x.2.1,v) else x) c
 |[],vs,h=>⟨vs,h,by simp[tdX]⟩
 |x::xs,[],h=>nomatch h
 |x::xs,y::vs,h=>by
  let⟨i,j⟩:=(show RelV x.2.2 y/\Vals (xs.map (·.2.2)) vs from by cases h with|cons a b=>show⟨a,b⟩);let⟨c,g,d⟩:=qHn f j;by_cases e:x.1=p
  .refine⟨u::c,?_,?_⟩
   .rw [aU,aU,if_pos e];show .cons f g
   .unfold tdX at d ⊢;rw[cM,aU,aU,aU,if_pos e,cM,aU,d]
    congr 1
    simp[putAt,e]
  .refine⟨y::c,?_,?_⟩
   .rw [aU,aU,if_neg e];show .cons i g
   .unfold tdX at d ⊢;rw[cM,aU,aU,aU,if_neg e,cM,aU,d]
    congr 1
    let ne:pk x.1≠pk p:=λz=>e (ij z);simp[putAt,ne]
theorem qJz{g:Int×Int->V}(h:Vals (xs.map (·.2.2)) vs)(f:∀x∈xs,x.2.2=g x.1)(e:RelV v u):∃c,Vals ((tdPut xs p a v).map (·.2.2)) c/\storedH (tdX xs vs) (pk p) a u=tdX (tdPut xs p a v) c:=by
 let⟨i,j⟩:=kC (p:=p) h f rfl;unfold tdPut;by_cases d:p∈xs.map (·.1)
 .rw [if_pos d];let⟨b,q,k,_⟩:=i d;rw[storedH_old k];show qHn e h
 .rw [if_neg d];show⟨vs++[u],by rw[aH];show qGh h (.cons e .nil),?_⟩;rw[storedH_new (j d)];unfold tdX;rw[List.zip_append (im h),aH];rfl
noncomputable def putW(W:List (Int×Int))(p:Int×Int):List (Int×Int):=if p∈W then W else W++[p]
noncomputable def putG(g:Int×Int->V)(p:Int×Int)(v:V):Int×Int->V:=λq=>if q=p then v else g q
theorem qXf{K:SH}{g:Int×Int->V}(hd:H d=Sa (tdO P w xs))(f:∀x∈xs,SqT K H x.2.1 [.int x.1.1,.int x.1.2]/\x.2.2=g x.1)(j:xs.map (·.1)=W)(l:W.Nodup)(n:W.length<900)(m:SqT K H c [.int p.1,.int p.2]):TdAt P w K (upd H d (tdO P w (tdPut xs p c v))) d (putW W p) (putG g p v):=by
 let off:∀{b:Sf}{k:List V},SqT K H b k->SqT K (upd H d (tdO P w (tdPut xs p c v))) b k:=λ{b k}h=>by
  rcases h with(h|⟨o,h⟩)|h
  .exact .inl (.inl (by rw[zD (yY h hd (λz=>nomatch z))];show h))
  .exact .inl (.inr ⟨o,by rw[zD (yY h hd (λz=>nomatch z))];show h⟩)
  .exact .inr h
 show⟨_,zB,?_,?_,?_,?_⟩
 .intro x hx;unfold tdPut at hx;unfold putG;split at hx
  .let⟨y,i,rfl⟩:=bC.mp hx;by_cases e:y.1=p
   .rw [if_pos e,if_pos e];show⟨off (f y i).1,rfl⟩
   .rw [if_neg e,if_neg e];show⟨off (f y i).1,(f y i).2⟩
  .next a=>
   rcases aL.mp hx with hx|hx
   .rw [if_neg (λe=>a (bC.mpr ⟨x,hx,e⟩))];show⟨off (f x hx).1,(f x hx).2⟩
   .rw [aE.mp hx,if_pos rfl];show⟨off m,rfl⟩
 .unfold tdPut putW;rw[j];split
  .rw [dO,<-j];show List.map_congr_left λx _=>?_;change(if x.1=p then _ else _:(Int×Int)×Sf×V).1=x.1;split<;>rfl
  .rw [aH,j];rfl
 .unfold putW;split
  .exact l
  .next a=>
   rw[cT];show⟨l,∅,λx hx y i=>?_⟩;rw[aE.mp i];rintro rfl;show a hx
 .unfold putW;split
  .lia
  .rw [aJ,bE];lia
def io(P:Sh)(w:Si)(K:SH):V->V->Hp->VK->Prop:=λx y H Q=>∃(d c:Sf)(W:List (Int×Int))(g:Int×Int->V)(p:Int×Int),x=.ref d/\y=.ref c/\TdAt P w K H d W g/\SqT K H c [.int p.1,.int p.2]/\p∈W/\Q (g p) H
theorem qYi(l:X.A.units+1<cLine):PGet X (io X.prog X.w X.K):=by
 intro pins s σ H o i F a Q I m n h;obtain⟨d,c,W,g,p,rfl,rfl,⟨r,t,e,f,u,G⟩,y,z,q⟩:=h;cases m;cases n;obtain⟨⟨j,J,a,B⟩,_,_⟩:=(show ObjOk X.prog X.w H s.heap d (tdO X.prog X.w r)from I.hok d _ t);let⟨b,v,C,D⟩:=(kC (p:=p) a (λx E=>(e x E).2) f).1 z;show wpAny_getItem_heap (cZ l) (xq I (k:=pk p) y) (TdAt.full I B a e f u) C ⟨g p,H,I.tok _,D,q⟩
theorem ip{td ty:TE}(P:Sh)(w:Si)(K:SH)(l:X.prog=P)(hw:X.w=w)(m:X.K=K)(n:X.A.units+1<cLine)(q:PE X o td)(hi:PE X i ty)(t:NoSl i):PE X (.Subscript o i a) (tOp (io P w K) td ty):=by
 subst l hw m;intro pins s σ H Q I h;show ka iJ.lookup t (thn (q pins s σ H _ I h) λu v hq_=>?_);let⟨x,B,C,D,E⟩:=hq_;show thn (hi pins v σ B _ C E) λR b hq_=>?_;let⟨y,e,f,F,j⟩:=hq_;obtain⟨d,c,W,g,p,rfl,rfl,⟨G,J,r⟩,z⟩:=id j;cases (show u=Value.ref d from D);obtain⟨⟨k,S,L,M,T,U,N,O,_⟩,_,_⟩:=(show ObjOk X.prog X.w e b.heap d (tdO X.prog X.w G)from f.hok d _ J);show⟨⟨M,N,O.1⟩,qYi n pins b σ e (.ref d) _ _ _ Q f rfl F j⟩
def kD(P:Sh)(w:Si)(K:SH):TSet:=λx y v H R => ∃(d c:Sf) (W:List (Int×Int)) (g:Int×Int->V) (p:Int×Int),x = .ref d/\y = .ref c/\TdAt P w K H d W g/\W.length<900/\SqT K H c [.int p.1,.int p.2] /\
 ∀xs,TdAt P w K (upd H d (tdO P w xs)) d (putW W p) (putG g p v)->R (upd H d (tdO P w xs))
theorem wB4(y:X.A.units+1<cLine):PSet X (kD X.prog X.w X.K):=by
 intro pins s σ H o i v P f u Q I z B C h;obtain⟨d,c,W,g,p,rfl,rfl,⟨n,j,l,m,r,_⟩,D,t,q⟩:=h;cases z;cases B;obtain⟨⟨e,R,f,E⟩,_,_⟩:=(show ObjOk X.prog X.w H s.heap d (tdO X.prog X.w n)from I.hok d _ j);let F:n.length=W.length:=by rw[<-m,aB]
 show wpAny_setItem_heap (hsz:=by unfold tdX;rw[aB,eU,cK];lia) (cZ y) (xq I (k:=pk p) t) (TdAt.full I E f l m r) λS b G=>?_;let⟨J,L,M⟩:=qJz (p:=p) (a:=c) f (λx N=>(l x N).2) C;rw[M]at b;show⟨_,xX I (by rw[j];show True.intro) G (let ⟨q,_,_,O,_⟩:=b;⟨q,O⟩) (ik e L (DEnt.of b)),q _ (qXf j l m r D t)⟩
def tTdIn(P:Sh)(w:Si)(K:SH)(ty td:TE):TE:=λσ H Q=>ty σ H λy H1=>td σ H1 λx H2=>∃(d c:Sf)(W:List (Int×Int))(g:Int×Int->V)(p:Int×Int),x=.ref d/\y=.ref c/\TdAt P w K H2 d W g/\SqT K H2 c [.int p.1,.int p.2]/\Q (.bl (decide (p∈W))) H2
theorem qZp{td ty:TE}(P:Sh)(w:Si)(K:SH)(t:X.prog=P)(hw:X.w=w)(B:X.K=K)(C:X.A.units+1<cLine)(hi:PE X i ty)(D:PE X o td):PC X .In i o (tTdIn P w K ty td):=by
 subst t hw B;intro pins s σ H Q I h;show thn (hi pins s σ H _ I h) λf E hq_=>?_;let⟨y,F,G,J,L⟩:=hq_;show thn (D pins E σ F _ G L) λu M hq_=>?_;obtain⟨x,m,j,N,d,c,W,g,p,O,R,⟨n,S,q,r,T,hl⟩,U,V⟩:=hq_;subst O R;obtain rfl:u=Value.ref d:=N;obtain rfl:f=Value.ref c:=J;obtain⟨⟨a,Y,f,Z⟩,_,_⟩:=(show ObjOk X.prog X.w m M.heap d (tdO X.prog X.w n)from j.hok d _ S);show wpAny_in_heap (cZ C) (xq j (k:=pk p) U) a (TdAt.full j Z f q r T) ?_;let⟨h1,h2⟩:=kC (p:=p) f (λx hx=>(q x hx).2) r;let e:(atKey (tdX n Y) (pk p)).isSome=decide (p∈W):=by
  grind
 rw[e];show⟨.bl _,m,j.tok _,rfl,V⟩
theorem wCe:wV X newDict (tdO X.prog X.w []):=by
 intro pins s σ H E Q I h;show bW (h _ _ (aI _) I.fresh (I.laid (t':=s.toks) (λ_ _ q=>aG _ q) (aI _) (ik (vs:=[]) (beq_eq_false_iff_ne.mpr λz=>fE _ (z▸I.big)) .nil ⟨_,#[],_,aT _ rfl,⟨rfl,rfl,rfl⟩,rfl,rfl⟩)) λb u e=>aG _ e) ?_
 first|trivial|size_fits|decide
def iq(P:Sh)(w:Si)(K:SH)(tk tv:TE)(l:Sf):TB:=λσ H Q=>tk σ H λx H1=>tv σ H1 λy H2=>kD P w K (.ref l) x y H2 λH3=>Q σ H3
theorem wD0{k v:Sl}{tk o:TE}(P:Sh)(w:Si)(K:SH)(C:X.prog=P)(hw:X.w=w)(D:X.K=K)(E:X.A.units+1<cLine)(e:PE X k tk)(F:PE X v o):PB X (wY k v (.ref l) X.env) (iq P w K tk o l):=by
 subst C hw D;intro pins s σ H Q I h;show aA (thn (e pins s σ H _ I h) λu G hq_=>?_);let⟨x,J,L,M,N⟩:=hq_;show aA (bK (thn (F pins G σ J _ L N) λu2 O hq_=>?_));let⟨y,R,i,S,T⟩:=hq_;obtain⟨d,c,W,g,p,U,rfl,⟨r,j,e,m,t,_⟩,V,z,q⟩:=T;cases U;obtain rfl:u=Value.ref c:=M;obtain⟨⟨f,vs,B,Y⟩,_,_⟩:=(show ObjOk X.prog X.w R O.heap l (tdO X.prog X.w r)from i.hok l _ j);let Z:r.length=W.length:=by rw[<-m,aB]
 let n:(tupleKind (zb X.prog X.w)).room X.A:=Nat.lt_of_succ_lt E;show aA (fF (bK (wpAny_dictSet_heap (hsz:=by unfold tdX;rw[aB,eU,cK];lia) n (xq i (k:=pk p) z) (TdAt.full i Y B e m t) λh' b sb=>?_)));let⟨a0,e1,e2⟩:=qJz (p:=p) (a:=c) B (λx hx=>(e x hx).2) S;rw[e2]at b;show⟨σ,_,xX i (by rw[j];show True.intro) sb (let ⟨q,_,_,hq,_⟩:=b;⟨q,hq⟩) (ik f e1 (DEnt.of b)),q _ (qXf j e m t V z)⟩
end
theorem qSv(own:List Str)(cap:List Nat)(P:Sh)(w:Si)(K:SH)(c:X.prog=P)(hw:X.w=w)(d:X.K=K)(e:X.A.units+1<cLine)(f:X.calm=Sc)(S:CompScope X own cap scope)(hi:PI X tg iter wi)(i:∀a s H ex,PG (zP X own cap scope a s H ex) tg g)(j:∀a s H ex,PTs (zP X own cap scope a s H ex) ifs tts)(k:∀a s H ex,PE (zP X own cap scope a s H ex) ke tk)(m:∀a s H ex,PE (zP X own cap scope a s H ex) ve tv)(n:∀x,SC iter X.env x=pure x:=by intro _;rfl):PE X (.DictComp ke ve [⟨tg,iter,ifs,0⟩] scope pos) (tComp own cap (tdO P w []) wi g tts (iq P w K tk tv)):=by
 subst c hw d;intro b s σ H Q I h;show kr (behOf:=wY ke ve) f S rfl hi wCe (λ_ _ _ _ _=>jB) i j (λa s H ex l=>wD0 X.prog X.w X.K rfl rfl rfl e (k a s H ex) (m a s H ex)) n b s σ H Q I h
theorem qNh{K:SH}(g:Int×Int->V)(h:H l=Sa (tdO P w [])):TdAt P w K H l [] g:=⟨[],h,λ_ z=>(by simp at z),rfl,gK,bG _⟩
theorem qTp(hh:A.handled=Sb)(hs:(d == SG)=Sd)(Y:s.heap.get? d=Sa o)(M:o.ExactDict)(hd:o.data = .dict es ep)(hz:es.size<=Sn)
  (q:∀(h':Sk)(tk:Nat)(c:Nat),(∀b u,s.heap.get? b=Sa u->h'.get? b=Sa u)->h'.get? s.heap.objs.size=Sa {cls:=.type "list",dict:=Sb,data:=.seq (es.toList.map (·.key)).toArray c,slots:=#[]}->Q (.ref s.heap.objs.size) {s with heap:=h',toks:=tk}) :
  Sm (So P w) A (call (.type "list") [.ref d]) Q E s:=by
 show callType_codes (Q₁:=λC h=>C=.ref s.heap.objs.size/\h={s with heap:=s.heap.push {cls:=.type "list",data:=.seq #[]}}) F.called_list (F.typeCall_list_1 _) F.entry_list_init (code_list_new _ ⟨rfl,rfl⟩) λC h D=>?_;let⟨rfl,rfl⟩:=D;let G:(s.heap.push {cls:=.type "list",data:=.seq #[]}).get? s.heap.objs.size=Sa {cls:=.type "list",data:=.seq #[]}:=aT _ rfl;show⟨⟨_,G,rfl⟩,F.args_list_init_2 _ _,?_⟩;let Z:∀b u,s.heap.get? b=Sa u->(s.heap.push {cls:=.type "list",data:=.seq (#[]:Array Se)}).get? b=Sa u:=λb u e=>aG _ e;let l:d<s.heap.objs.size:=aO Y;generalize s.heap.push {cls:=.type "list",data:=.seq (#[]:Array Se)}=j at G Z ⊢
 change Sm _ _ (do let old <-Builtin.List.listItems (.ref s.heap.objs.size);Builtin.List.listUpdate (.ref s.heap.objs.size) (λ_=>#[]);letGo old.toList.reverse;Builtin.List.listExtendWith (.ref s.heap.objs.size) (.ref d) .none) _ _ _;show aA ?_;unfold Builtin.List.listItems;show aA (fO G rfl (aC ?_));change Sm _ _ (updateSeq s.heap.objs.size (λ_=>#[]) >>=λ_=>letGo (#[]:Array Se).toList.reverse >>=λ_=>Builtin.List.listExtendWith (.ref s.heap.objs.size) (.ref d) .none) _ _ _;show aA (eI (s:={s with heap:=j}) G rfl ?_);let m:=bQ (Obj.mapSeq (λ_=>(#[]:Array Se))) G rfl;let k2:∀b u,b≠s.heap.objs.size->j.get? b=Sa u->(j.update s.heap.objs.size (Obj.mapSeq (λ_=>(#[]:Array Se)))).get? b=Sa u:=
  λb u B e=>(bT _ _ (cC B)).trans e
 let O:∀b u,s.heap.get? b=Sa u->(j.update s.heap.objs.size (Obj.mapSeq (λ_=>(#[]:Array Se)))).get? b=Sa u:=λb u e=>k2 b u (aP (aO e)) (Z b u e);show aA (wpAny_letGo ?_);let a:s.heap.objs.size<(j.update s.heap.objs.size (Obj.mapSeq (λ_=>(#[]:Array Se)))).objs.size:=aO m;generalize j.update s.heap.objs.size (Obj.mapSeq (λ_=>(#[]:Array Se)))=g at m O a ⊢;let n:=O d o Y;let hT:Shared.TypeIs {s with heap:=g} (.ref d) "dict":=⟨o,n,M.1⟩;unfold Builtin.List.listExtendWith;show aA (eV hT ?_);let j:Builtin.List.listSameRef (.ref s.heap.objs.size) (.ref d)=Sd:=by simp[Builtin.List.listSameRef];show cJ l
 simp only[j,show(Value.type "dict" == Value.type "list")=Sd by decide,show(Value.type "dict" == Value.type "tuple")=Sd by decide,Bool.or_false,bL,if_false];show aA (qTv (s:={s with heap:=g}) hs n M hd ?_);let R:∀b u,g.get? b=Sa u->(g.push {cls:=.type "dict_keyiterator",data:=.fields #[.ref d,.int 0 0,.int es.size 0,.int ep 0]}).get? b=Sa u:=λb u e=>aG _ e;let p:(g.push {cls:=.type "dict_keyiterator",data:=.fields #[.ref d,.int 0 0,.int es.size 0,.int ep 0]}).IsKeyIter g.objs.size d 0 es.size ep:=⟨_,aT _ rfl,rfl,rfl⟩;let r:=R d o n;let t:=R _ _ m;change Sm _ _ _ _ _ {s with heap:=g.push {cls:=.type "dict_keyiterator",data:=.fields #[.ref d,.int 0 0,.int es.size 0,.int ep 0]}}
 generalize hN:g.objs.size=N at p a;let S:d≠N:=aP (Nat.lt_trans l a);let kk:∀b u,s.heap.get? b=Sa u->(g.push {cls:=.type "dict_keyiterator",data:=.fields #[.ref d,.int 0 0,.int es.size 0,.int ep 0]}).get? b=Sa u:=λb u e=>R b u (O b u e);generalize g.push {cls:=.type "dict_keyiterator",data:=.fields #[.ref d,.int 0 0,.int es.size 0,.int ep 0]}=h' at p r t kk ⊢;let x:Shared.TypeIs {s with heap:=h'} (.ref d) "dict":=⟨o,r,M.1⟩;show aA (bK ?_);unfold Builtin.List.listLengthHint;show aA (gW x qEy ?_);let T:splitId "dict.__len__"=Sa ("dict","__len__"):=by kernel_rfl
 dsimp only;rw[T];dsimp only;show aA (eW (b:=Sc) x (by rw[isSubtype_type];kernel_rfl) ?_);rw[if_neg ∅];rw[if_pos (by decide +kernel)];show aA (eV x (aC ?_));rw[if_pos (by decide +kernel)];show aA (dF (aA ?_));change Sm _ _ (updateSeq s.heap.objs.size (·.push .none) >>=λ_=>updateSeq s.heap.objs.size (·.pop)) _ _ _;show aA (eI (s:={s with heap:=h'}) t rfl ?_);let H:=bQ (Obj.mapSeq (·.push Value.none)) t rfl;show eI H rfl ?_;let U:=bQ (Obj.mapSeq (·.pop)) H rfl;let I:∀b u,b≠s.heap.objs.size->h'.get? b=Sa u->((h'.update s.heap.objs.size (Obj.mapSeq (·.push Value.none))).update s.heap.objs.size (Obj.mapSeq (·.pop))).get? b=Sa u:=
  λb u B e=>(bT _ _ (cC B)).trans ((bT _ _ (cC B)).trans e)
 let J:s.heap.objs.size∉[N,d]:=λz=>by
  rcases aN.mp z with z|z
  .exact aP a z
  .let:s.heap.objs.size=d:=by simpa using z
   show cJ l this
 let W:=(qTx (P:=P) (w:=w) (A:=A.in1.in1) hh S hd).toS;show aC ⟨eJ F.plain_extend_loop _,codeAny_extend_loopS W hz _ J _ es.size 0 _ _ _ rfl (bG _) (W.frame 0 ({s with heap:=h'}:Sg) _ s.toks ⟨p,r⟩ (aI _) λb B u e=>I b u (λz=>J (z▸B)) e) U (ItemsOf.nil _) λs' f c' L K k=>?_⟩;let⟨h3,g2,d2,V,X⟩:=s';let e1:g2=s.gens:=L.gens;let e2:d2=s.drawn:=L.drawn;let e3:X=s.os:=L.os;subst e1;subst e2;subst e3;let e:f.toList=es.toList.map (·.key):=by
  show List.ext_getElem? λi=>?_;rw[bA];cases z:f.toList[i]? with
  |some v=>rw[bF];show(k.2 i v (by rw[<-bF];show z)).symm
  |none=>
   let hl:f.toList.length=es.toList.length:=by rw[aQ,k.1,aQ]
   rw[dA (by rw[<-hl];show gA.mp z)];rfl
 let e4:f=(es.toList.map (·.key)).toArray:=by rw[<-e]
 rw[e4]at K;show⟨rfl,q h3 V c' (λb u e=>?_) K⟩;let y:=aO e;show L.heap b u (λz=>?_) (I b u (aP y) (kk b u e));rcases aN.mp z with z|z
 .exact aP y z
 .let z2:b=N:=by simpa using z
  show aP (Nat.lt_trans y a) z2
theorem qQl:∀ {xs:TdL} {vs:List Se},xs.length=vs.length->(tdX xs vs).map (λx=>Value.ref x.2.1)=xs.map λx=>Value.ref x.2.1
 |[],vs,_=>by simp[tdX]
 |x::xs,[],h=>by simp at h
 |x::xs,v::vs,h=>by
  let:=qQl (xs:=xs) (vs:=vs) (by simpa using h);unfold tdX at this ⊢;rw[cM,aU,aU,this];rfl
def qSe(P:Sh)(w:Si)(K:SH):List V->Hp->VK->Prop:=λxs H Q => ∃(d:Sf) (W:List (Int×Int)) (g:Int×Int->V),xs = [.ref d]/\TdAt P w K H d W g /\
 ∀(l:Sf)(vs:List V),H l=Sb->DenL K H (W.map pairD) vs->Q (.ref l) (upd H l (.lst vs))
theorem qN6(C:X.A.handled=Sb):CallR X (.type "list") (qSe X.prog X.w X.K):=by
 intro p s σ H b R Q I r h;obtain⟨d,W,g,rfl,⟨b,D,E,t,S,T⟩,q⟩:=h;let⟨u,rfl,F⟩:=vals1 r;cases F;obtain⟨⟨i,U,G,o,j,Y,J,L,l,v⟩,_,_⟩:=(show ObjOk X.prog X.w H s.heap d (tdO X.prog X.w b)from I.hok d _ D);let M:b.length=W.length:=by grind
 let m:=im G;let N:j.size=b.length:=by grind[aB,tdX]
 let f:j.toList.map (·.key)=b.map λx=>Value.ref x.2.1:=by
  rw[<-qQl m,v,dO];rfl
 let O:∀a:TdL,Vals (a.map λx=>V.ref x.2.1) (a.map λx=>Value.ref x.2.1):=by
  intro a
  induction a with
  |nil=>show .nil
  |cons x r n=>show .cons rfl n
 let den:∀a:TdL,(∀x∈a,x∈b)->DenL X.K H ((a.map (·.1)).map pairD) (a.map λx=>V.ref x.2.1):=by
  intro a
  induction a with
  |nil=>intro _;show .nil
  |cons x r n=>intro B;show .cons (.tuple (E x (B x ∅)).1 (.cons .int (.cons .int .nil))) (n λy z=>B y (by grind))
 let P:j.size<=Sn:=by rw[cK];lia
 show qTp C i J L l P λZ tk c k e=>?_;rw[f]at e;show⟨.ref _,_,I.laid (t':=tk) (o:=.lst (b.map λx=>V.ref x.2.1)) k (aI _) ⟨by grind,_,c,O b,e⟩,rfl,q _ _ (I.hok.fresh (aI _)) (by grind)⟩
theorem qV5{z TI TO l m l1 l2:Sf}{k:Nat}(n:A.handled=Sb)(D:ZipApart z TI TO l m l1 l2)(Z:ZSt s.heap z TI TO l m l1 l2 k)(f:s.heap.IsList l1 xs)(g:s.heap.IsList l2 ys)(v:ys[k]? = Sb)(p:∀h',(∀c o,c≠z->c≠TO->c≠l->c≠m->s.heap.get? c=Sa o->h'.get? c=Sa o)->Q Sb {s with heap:=h'}):Sm (So prog w) A (pyNext (.ref z)) Q E s:=by
 cases y:xs[k]? with
 |none=>show qQ8 n D Z f g y p
 |some x=>
  obtain⟨G,j,⟨R,S,H⟩,B,C⟩:=Z;rcases G with i|⟨a,b,o,i,I,U,V,W⟩
  .exact wpAny_pyNext_zip_end n D i j H B C f g (.inr v) p
  .let hT:s.TypeIs (.ref z) "zip":=⟨_,i,rfl⟩;unfold pyNext;show aA (iG (cU (name:=Str.ofString "__next__") hT F.slot_zip_next (cB F.slot_zip_next hT F.entry_zip_next ?_ (F.args_zip_next_1 _))));change Sm _ _ (field (.ref z) 2 >>=_) _ _ _;show aA (fA i rfl (x:=.bool Sd) rfl ?_);change Sm _ _ (field (.ref z) 3 >>=_) _ _ _;show aA (fA i rfl (x:=.ref TI) rfl (aA (fO j rfl ?_)));change Sm _ _ (Builtin.SmallTypes.ownedTupleIsFree (.ref z) >>=_) _ _ _;show aA (ib i I λX J d=>?_);simp only[bL,if_false];show aA ?_;rw[<-Array.forIn_toList]
   simp only[gX,List.forIn_nil];show aA (aA (bK ?_));change Sm _ _ (Builtin.SmallTypes.nextOf (.ref l) >>=_) _ _ _;show aA (wpAny_nextOf_list_item (B.extBut d.extBut D.i1z) (f.extBut d.extBut D.l1z) y λY K h=>aC ?_);show aC (aA (aA (bK ?_)));change Sm _ _ (Builtin.SmallTypes.nextOf (.ref m) >>=_) _ _ _;show aA (wpAny_nextOf_list_end n ((C.extBut d.extBut D.i2z).extBut h.extBut D.i12.symm) ((g.extBut d.extBut D.l2z).extBut h.extBut D.l2i1) v λg3 e r L=>?_);let⟨M,t,u⟩:=L;show aA (eW (T:="StopIteration") (b:=Sc) ⟨M,t,u⟩ isSubtype_stop ?_)
   show aC (p _ λc o N _ O P q=>r _ _ P (h.extBut _ _ O (d.extBut _ _ N q)))
theorem wAs{h0:Sk}{N:Nat}{S z TI TO I J l1 l2:Sf}{xs ys:List Se}{res:Se}(D:ZipApart z TI TO I J l1 l2)(B:h0.IsList l1 xs.toArray)(C:h0.IsList l2 ys.toArray)(a5:ys.length<=xs.length)(hz:ys.length<=Sn)(b1:l1<N)(b2:l2<N)(gz:N<=z)(gT:N<=TO)(g1:N<=I)(g2:N<=J)(gS:N<=S)(M:S≠z)(ST:S≠TO)(S1:S≠I)(S2:S≠J)(SI:TI≠S):∀(m k:Nat) {A:Sj} {s:Sg} {R:Result->Sg->Prop} (ts:List Sf) (c:Nat),k+m=ys.length->A.handled=Sb->ZSt s.heap z TI TO I J l1 l2 k->(∀b o,b<N->h0.get? b=Sa o->s.heap.get? b=Sa o) ->
   s.heap.get? S=Sa {cls:=.type "list",dict:=Sb,data:=.seq (ts.map Value.ref).toArray c,slots:=#[]}->ts.length=k->(∀(i:Nat)t x y,ts[i]? = Sa t->xs[i]? = Sa x->ys[i]? = Sa y->IsPair s.heap t x y)->(∀t∈ts,N<=t/\t≠z/\t≠TO/\t≠I/\t≠J/\t≠S/\t<s.heap.objs.size)->ts.Nodup->
   (∀(r:Sk)(f:List Sf)(c':Nat),(∀b o,b<N->h0.get? b=Sa o->r.get? b=Sa o)->r.get? S=Sa {cls:=.type "list",dict:=Sb,data:=.seq (f.map Value.ref).toArray c',slots:=#[]}->f.length=ys.length->(∀(i:Nat)t x y,f[i]? = Sa t->xs[i]? = Sa x->ys[i]? = Sa y->IsPair r t x y)->(∀t∈f,N<=t/\t≠S)->f.Nodup->R (.ok (.ret res)) {s with heap:=r})->
   codeAny (So prog w) A (.builtin "list.extend.loop" ⟨[.ref S,.ref z,res],[]⟩) R s
 |0,k,A,s,R,ts,c,e,hA,Z,kp,hS,O,E,g,G,h=>by
  show cY F.entry_extend_loop ?_;rw[cF F.plain_extend_loop _];let c1:=B.at λo q=>kp _ o b1 q;let c2:=C.at λo q=>kp _ o b2 q;change Sm _ _ (pyNext (.ref z) >>=_) _ _ s;show aA (qV5 (show A.in1.handled=Sb from hA) D Z c1 c2 (by simp;lia) λr H=>?_);show aC (h r ts c (λb o l q=>H b o (aP (aR l gz)) (aP (aR l gT)) (aP (aR l g1)) (aP (aR l g2)) (kp b o l q)) (H _ _ M ST S1 S2 hS) ∎ (λi t x y p K L=>?_) (λt ht=>⟨(g t ht).1,(g t ht).2.2.2.2.2.1⟩) G);let⟨_,P,Q,T,U,_⟩:=g t (aK p);show H _ _ P Q T U (E i t x y p K L)
 |m+1,k,A,s,R,ts,c,e,hA,Z,kp,hS,O,E,g,G,h=>by
  show cY F.entry_extend_loop ?_;rw[cF F.plain_extend_loop _];let c1:=B.at λo q=>kp _ o b1 q;let c2:=C.at λo q=>kp _ o b2 q;let V:k<ys.length:=by lia
  let W:k<xs.length:=by lia
  change Sm _ _ (pyNext (.ref z) >>=_) _ _ s;show aA (qNa D Z c1 c2 (x:=xs[k]) (y:=ys[k]) (by simp[W]) (by simp[V]) λv Z1 X H=>?_);let Y:=H _ _ M ST S1 S2 hS;let n:S<s.heap.objs.size:=aO hS;let a0:s.heap.objs.size<v.objs.size:=aO X;change Sm _ A.in1 (updateSeq S (·.push (Value.ref s.heap.objs.size)) >>=_) _ _ _;show aA ?_;show eI (s:={s with heap:=v}) Y rfl (aC ⟨eJ F.plain_extend_loop _,?_⟩) (by simp;lia) (by simp;lia);let d:∀b u,b≠S->v.get? b=Sa u->(v.update S (Obj.mapSeq (·.push (Value.ref s.heap.objs.size)))).get? b=Sa u:=λb u l q=>(bT _ _ (cC l)).trans q
  let a4:=bQ (Obj.mapSeq (·.push (Value.ref s.heap.objs.size))) Y rfl;let a6:(v.update S (Obj.mapSeq (·.push (Value.ref s.heap.objs.size)))).objs.size=v.objs.size:=(bV v S (Obj.mapSeq (·.push (Value.ref s.heap.objs.size)))).1;let j:∀b,(∃o,s.heap.get? b=Sa o)->b≠s.heap.objs.size:=λb ⟨o,q⟩=>aP (aO q);let zl:z<s.heap.objs.size/\TO<s.heap.objs.size/\I<s.heap.objs.size/\J<s.heap.objs.size:=by
   obtain⟨zz,ti,⟨ta,tb,to⟩,⟨_,p1,_⟩,⟨_,p2,_⟩⟩:=Z;show⟨?_,aO to,aO p1,aO p2⟩;rcases zz with hz|⟨a,b,o,hz,_⟩<;>show aO hz
  show wAs D B C a5 hz b1 b2 gz gT g1 g2 gS M ST S1 S2 SI m (k+1) (ts++[s.heap.objs.size]) _ ∎ hA ?_ (λb o l q=>d b o (aP (aR l gS)) (H b o (aP (aR l gz)) (aP (aR l gT)) (aP (aR l g1)) (aP (aR l g2)) (kp b o l q))) (by
    rw[a4];simp[Obj.mapSeq];rfl) (by rw[aJ,bE];lia) (λi t x y p K L=>?_) (λt ht=>?_) ?_ λr f c' q1 q2 q3 q4 q5 q6=>h r f c' q1 q2 q3 q4 q5 q6
  .obtain⟨zz,ti,⟨ta,tb,to⟩,p1,p2⟩:=Z1;show⟨?_,d _ _ SI ti,⟨ta,tb,d _ _ (cC ST) to⟩,p1.at λo q=>d _ o (cC S1) q,p2.at λo q=>d _ o (cC S2) q⟩;rcases zz with hz|⟨a,b,o,hz,ho,na,n1,n2⟩
   .exact .inl (d _ _ (cC M) hz)
   .let:∃o',(v.update S (Obj.mapSeq (·.push (Value.ref s.heap.objs.size)))).get? a=Sa o':=by
     by_cases c:a=S
     .subst c;show⟨_,a4⟩
     .exact⟨o,d _ _ c ho⟩
    let⟨o',a7⟩:=this;show .inr ⟨a,b,o',d _ _ (cC M) hz,a7,na,n1,n2⟩
  .by_cases hi:i<ts.length
   .rw [dI hi]at p;let⟨_,P,Q,T,U,t5,_⟩:=g t (aK p);show d _ _ t5 (H _ _ P Q T U (E i t x y p K L))
   .let a8:i=ts.length:=by
     let:=(aD.mp p).1;rw[aJ,bE]at this;lia
    subst a8;rw[dC (aI _),Nat.sub_self]at p;obtain rfl:s.heap.objs.size=t:=bB p;rw[O]at K L;rw[aF W]at K;rw[aF V]at L;rw[<-bB K,<-bB L];show d _ _ (cJ n) X
  .rw [a6];rcases aL.mp ht with ht|ht
   .let⟨t0,P,Q,T,U,t5,t6⟩:=g t ht;show⟨t0,P,Q,T,U,t5,Nat.lt_trans t6 a0⟩
   .rw [aE.mp ht];show⟨cW (gO gS n),cJ zl.1,cJ zl.2.1,cJ zl.2.2.1,cJ zl.2.2.2,cJ n,a0⟩
  .rw [cT];show⟨G,∅,λx hx y hy z=>?_⟩;rw[aE.mp hy]at z;show aP (g x hx).2.2.2.2.2.2 z
theorem qQ9:typeLookup (.type "zip") "__len__"=pure Sb:=gZ (by decide +kernel)
theorem qP3:typeLookup (.type "zip") "__length_hint__"=pure Sb:=gZ (by decide +kernel)
theorem qWp{l1 l2:Sf}{xs ys:List Se}{Q:Se->Sg->Prop}(hA:A.handled=Sb)(k:s.heap.IsList l1 xs.toArray)(l:s.heap.IsList l2 ys.toArray)(K:ys.length<=xs.length)(hz:ys.length<=Sn)
  (q:∀(h':Sk)(S:Sf)(ts:List Sf)(c:Nat),(∀b o,s.heap.get? b=Sa o->h'.get? b=Sa o)->s.heap.objs.size<=S->h'.get? S=Sa {cls:=.type "list",dict:=Sb,data:=.seq (ts.map Value.ref).toArray c,slots:=#[]}->ts.length=ys.length->(∀(i:Nat)t x y,ts[i]? = Sa t->xs[i]? = Sa x->ys[i]? = Sa y->IsPair h' t x y)->(∀t∈ts,s.heap.objs.size<=t/\t≠S)->ts.Nodup->Q (.ref S) {s with heap:=h'}) :
  Sm (So prog w) A (call (.type "zip") [.ref l1,.ref l2]) (λv s1=>Sm (So prog w) A (call (.type "list") [v]) Q E s1) E s:=by
 let X:l1<s.heap.objs.size:=by let⟨_,e,_⟩:=k;show aO e
 let Y:l2<s.heap.objs.size:=by let⟨_,e,_⟩:=l;show aO e
 show call_zip_2 k l λg r L M O P z R=>?_;show callType_codes (s:={s with heap:=g}) (Q₁:=λB j=>B=.ref g.objs.size/\j={s with heap:=g.push {cls:=.type "list",data:=.seq #[]}}) F.called_list (F.typeCall_list_1 _) F.entry_list_init (code_list_new _ ⟨rfl,rfl⟩) λB j C=>?_;let⟨rfl,rfl⟩:=C;let D:(g.push {cls:=.type "list",data:=.seq #[]}).get? g.objs.size=Sa {cls:=.type "list",data:=.seq #[]}:=aT _ rfl;show⟨⟨_,D,rfl⟩,F.args_list_init_2 _ _,?_⟩;let Z:∀b u,g.get? b=Sa u->(g.push {cls:=.type "list",data:=.seq (#[]:Array Se)}).get? b=Sa u:=λb u e=>aG _ e;let ls:∀{a b:Nat},a<b->s.heap.objs.size+a≠s.heap.objs.size+b:=λh=>aP (Nat.add_lt_add_left h _)
 let d:∀(a:Nat),a<5->s.heap.objs.size+a≠g.objs.size:=λa ha=>by rw[z];show ls ha
 let m:s.heap.objs.size<=g.objs.size:=by rw[z];show cL _ _
 generalize g.push {cls:=.type "list",data:=.seq (#[]:Array Se)}=T at D Z ⊢;generalize a0:g.objs.size=S at *;change Sm _ _ (do let old <-Builtin.List.listItems (.ref S);Builtin.List.listUpdate (.ref S) (λ_=>#[]);letGo old.toList.reverse;Builtin.List.listExtendWith (.ref S) (.ref (s.heap.objs.size+4)) .none) _ _ _;show aA ?_;unfold Builtin.List.listItems;show aA (fO D rfl (aC ?_));change Sm _ _ (updateSeq S (λ_=>#[]) >>=λ_=>letGo (#[]:Array Se).toList.reverse >>=λ_=>Builtin.List.listExtendWith (.ref S) (.ref (s.heap.objs.size+4)) .none) _ _ _;show aA (eI (s:={s with heap:=T}) D rfl ?_);let n:=bQ (Obj.mapSeq (λ_=>(#[]:Array Se))) D rfl
 let U:∀b u,b≠S->g.get? b=Sa u->(T.update S (Obj.mapSeq (λ_=>(#[]:Array Se)))).get? b=Sa u:=
  λb u p e=>(bT _ _ (cC p)).trans (Z _ _ e)
 show aA (wpAny_letGo ?_);generalize T.update S (Obj.mapSeq (λ_=>(#[]:Array Se)))=G at n U ⊢;let H:=U _ _ (d 4 ∎) r;let hT:Shared.TypeIs {s with heap:=G} (.ref (s.heap.objs.size+4)) "zip":=⟨_,H,rfl⟩;unfold Builtin.List.listExtendWith;show aA (eV hT ?_);let V:Builtin.List.listSameRef (.ref S) (.ref (s.heap.objs.size+4))=Sd:=by simp[Builtin.List.listSameRef];show cC (d 4 ∎)
 simp only[V,show(Value.type "zip" == Value.type "list")=Sd by decide,show(Value.type "zip" == Value.type "tuple")=Sd by decide,Bool.or_false,bL,if_false];show aA (wpAny_pyIter_zip (s:={s with heap:=G}) H ?_);show aA (bK ?_);unfold Builtin.List.listLengthHint;show aA (gW hT qQ9 ?_);change Sm _ _ (specialOf (Value.ref (s.heap.objs.size+4)) (Str.ofString "__length_hint__") >>=_) _ _ _;show aA (gW hT qP3 ?_);show aC ?_;change Sm _ _ (rule "list.extend.makes-room" >>=λ_=>Builtin.List.listTouch (.ref S) >>=λ_=>again (.builtin "list.extend.loop" ⟨[.ref S,.ref (s.heap.objs.size+4),.none],[]⟩)) _ _ _
 show aA (dF (aA ?_));change Sm _ _ (updateSeq S (·.push .none) >>=λ_=>updateSeq S (·.pop)) _ _ _;show aA (eI (s:={s with heap:=G}) n rfl ?_);let I:=bQ (Obj.mapSeq (·.push Value.none)) n rfl;show eI I rfl ?_;let J:=bQ (Obj.mapSeq (·.pop)) I rfl;let f:∀b u,b≠S->g.get? b=Sa u->((G.update S (Obj.mapSeq (·.push Value.none))).update S (Obj.mapSeq (·.pop))).get? b=Sa u:=
  λb u p e=>(bT _ _ (cC p)).trans ((bT _ _ (cC p)).trans (U b u p e))
 generalize (G.update S (Obj.mapSeq (·.push Value.none))).update S (Obj.mapSeq (·.pop))=h4 at J f ⊢;refine aC ⟨eJ F.plain_extend_loop _,?_⟩;refine wAs (h0:=s.heap) (N:=s.heap.objs.size) (zipApart_new X Y) k l K hz X Y (cL _ _) (cL _ _) (aI _) (cL _ _) m (cC (d 4 ∎)) (cC (d 3 ∎)) (cC (d 0 ∎)) (cC (d 1 ∎)) (d 2 ∎) ys.length 0 [] _ ∎ hA
  ⟨.inl (f _ _ (d 4 ∎) r),f _ _ (d 2 ∎) L,⟨_,_,f _ _ (d 3 ∎) M⟩,O.at λo q=>f _ o (d 0 ∎) q,P.at λo q=>f _ o (d 1 ∎) q⟩ (λb o p q=>f b o (aP (aR p m)) (R _ _ q)) J rfl (λi t x y a=>by simp at a) (λt ht=>by simp at ht) gK λh' W c' q1 q2 q3 q4 q5 q6=>?_
 show⟨rfl,q h' S W c' (λb o e=>q1 b o (aO e) e) m q2 q3 q4 q5 q6⟩
theorem Inv.laidM{X:Cx}{a:List (Sf×Ss)}{σ:St}{H d:Hp}{s:Sg}{h':Sk}{t':Nat}(I:Inv X a σ H s)(k:∀b u,s.heap.get? b=Sa u->h'.get? b=Sa u)(f:∀b o,H b=Sa o->d b=Sa o)(h:∀b o,d b=Sa o->H b=Sa o\/s.heap.get? b=Sb/\ObjOk X.prog X.w d h' b o):Inv X a σ d {s with heap:=h',toks:=t'}:=by
 refine I.step (g':=s.gens) (d':=s.drawn) (ch :=[]) (λ_ z=>nomatch z) (λb u _ _ _ e _=>k b u e) (λb u _ _ _ e _=>⟨u.slots,k b u e⟩) (λb u _ e n=>?_)
  (λb u _ e=>⟨u,k b u e⟩) (λb i e=>f _ _ e) (λb g i e=>f _ _ e) (λb t e=>⟨#[],by grind⟩) (λx j=>?_) (λb u e=>?_) I.bare
 .cases z:d b<;>grind
 .let⟨g,l,m,p,r⟩:=j;show⟨g,l,m,k _ g p,r⟩
 .rcases h b u e with y|⟨_,y⟩
  .exact (I.hok b u y).stay (λc v _ q=>k c v q) (λc q=>f _ _ q) λc i q=>f _ _ q
  grind
noncomputable def layP(H:Hp):List (Sf×List V)->Hp
 |[]=>H
 |p::r=>upd (layP H r) p.1 (.tup p.2)
theorem kE:∀ {ps:List (Sf×List V)},b∉ps.map (·.1)->layP H ps b=H b
 |[],_=>rfl
 |p::r,h=>by
  change upd _ _ _ b=_;rw[zD (λz=>h (by simp[z])),kE λz=>h (by simp at z;simp[z])]
theorem qTr:∀ {ps:List (Sf×List V)},(ps.map (·.1)).Nodup->(b,vs)∈ps->layP H ps b=Sa (.tup vs)
 |p::r,a,h=>by
  let a:=dE.mp (show(p.1::r.map (·.1)).Nodup from a);change upd _ _ _ b=_;rcases aN.mp h with z|z
  .subst z;show zB
  .rw [zD (λy=>a.1 (by rw[<-y];show bC.mpr ⟨_,z,rfl⟩)),qTr a.2 z]
def tLZ(K:SH)(ta:TA):TE:=λσ H Q=>ta σ H λvs H1 => ∃(l1 l2:Sf) (xs ys:List V),vs = [.ref l1,.ref l2]/\SqL K H1 l1 xs/\SqL K H1 l2 ys/\ys.length<=xs.length /\
 ∀(l:Sf)(ts:List Sf)(H2:Hp),H1 l=Sb->Ext [] H1 H2->H2 l=Sa (.lst (ts.map V.ref))->ts.length=ys.length->(∀(i:Nat)t x y,ts[i]? = Sa t->xs[i]? = Sa x->ys[i]? = Sa y->H1 t=Sb/\t≠l/\H2 t=Sa (.tup [x,y]))->Q (.ref l) H2
theorem qZm{k:Nat}(hr:Room k X.A)(P:Gl X "list")(R:X.mg "list" = Sb)(T:Gl X "zip")(U:X.mg "zip" = Sb)(ha:PA X [a,b] ta)(hs:Sv [a,b] X.env=(Sd,Sw a X.env)::Sv [b] X.env:=by rfl)(W:∀pos,(backTo pos (Sv [b] X.env)).any (·.1)=Sd:=by intro _;rfl)
  (D:Sv [Expr.Call (.Name "zip" p2) [a,b] [] pos2] X.env=[(Sd,Sw (.Call (.Name "zip" p2) [a,b] [] pos2) X.env)]:=by rfl):PE X (.Call (.Name "list" p) [.Call (.Name "zip" p2) [a,b] [] pos2] [] pos) (tLZ X.K ta):=by
 intro m s σ H Q I h;show fX (xN I P R cP ?_);show cN ?_ D rfl;rw[D];change Sm _ _ (spliced [(Sd,Sw (.Call (.Name "zip" p2) [a,b] [] pos2) X.env)]) _ _ s;show eC ?_;show Call_ (xN I T U boot_zip (cN (thn (ha pos2 m s σ H _ I h) λus s1 hq_=>?_) hs (W _)));let⟨M,N,n,r1,q1⟩:=hq_;let⟨l1,l2,O,E,e,Y,Z,b1,q⟩:=q1;subst e;let⟨u,u2,rfl,ru,a0⟩:=vals2 r1;cases ru;cases a0;let⟨b2,rv,a4,bz⟩:=n.list Y;let⟨a9,F,a5,b3⟩:=n.list Z;let e1:=rv.length;let e2:=F.length;let big:=n.big;show fQ (qWp (Q:=EP X m σ Q) hr.hd a4.isList a5.isList ∎ ∎ λh' S f c kp gS hS hl hp G hn=>?_) (λv b0 hv=>gD hv) λ_ _ x=>x
 let a6:f.length=E.length:=by lia
 generalize w:(f.zip (O.zip E)).map (λz=>(z.1,[z.2.1,z.2.2]))=B;let d:B.map (·.1)=f:=by
  rw[<-w,dO];change List.map (λz:Sf×V×V=>z.1) _=f;rw[List.map_fst_zip (by rw[eU];lia)]
 let nS:S∉f:=λz=>(G S z).2 rfl;let j:∀b o,N b=Sa o->b∉f/\b≠S:=λb o e=>⟨λz=>(by rw[n.hok.fresh (G b z).1]at e;cases e),λz=>(by rw[z,n.hok.fresh gS]at e;cases e)⟩;let lS:upd (layP N B) S (.lst (f.map V.ref)) S=Sa (.lst (f.map V.ref)):=zB;let hT:∀t M,(t,M)∈B->upd (layP N B) S (.lst (f.map V.ref)) t=Sa (.tup M):=λt M z=>by
  rw[zD (λy=>nS (by rw[<-d,<-y];show bC.mpr ⟨_,z,rfl⟩))];show qTr (by rw[d];show hn) z
 let a7:∀l:List Sf,Vals (l.map V.ref) (l.map Value.ref):=by
  intro l
  induction l with
  |nil=>show .nil
  |cons x r ih=>show .cons rfl ih
 show⟨.ref S,upd (layP N B) S (.lst (f.map V.ref)),n.laidM (t':=s1.toks) kp (λb o e=>?_) (λb o e=>?_),rfl,q S f _ (n.hok.fresh gS) (λb o _ e=>?_) lS a6 λi t x y J a2 a3=>?_⟩
 .rw [zD (j b o e).2,kE (by rw[d];show(j b o e).1)];show e
 .by_cases hb:b=S
  .subst hb;rw[lS]at e;cases e;show .inr ⟨Heap.get?_none_of_le gS,by rw[aB];lia,_,c,a7 f,hS⟩
  .by_cases C:b∈f
   .refine .inr ⟨Heap.get?_none_of_le (G b C).1,?_⟩;let⟨i,hi,ei⟩:=cO C;let J:f[i]? = Sa b:=by rw[aF hi,ei]
    let hx:i<O.length:=by lia
    let hy:i<E.length:=by lia
    let g:(b,[O[i],E[i]])∈B:=by
     rw[<-w];show bC.mpr ⟨(b,O[i],E[i]),?_,rfl⟩;show aK (i:=i) ?_;rw[dL];show⟨J,?_⟩;rw[dL];show⟨aF hx,aF hy⟩
    rw[hT _ _ g]at e;cases e;let⟨u1,c1,c2⟩:=rv.get (aF hx);let⟨u2,d1,d2⟩:=F.get (aF hy);let a8:=hp i b u1 u2 J c1 d1;show⟨by change 2<=Sn;decide,[u1,u2],.cons c2 (.cons d2 .nil),_,a8,rfl,_,rfl⟩
   .rw [zD hb,kE (by rw[d];show C)]at e;show .inl e
 .rw [zD (j b o e).2,kE (by rw[d];show(j b o e).1)];show e
 .let g:(t,[x,y])∈B:=by
   rw[<-w];show bC.mpr ⟨(t,x,y),aK (i:=i) ?_,rfl⟩;rw[dL];show⟨J,?_⟩;rw[dL];show⟨a2,a3⟩
  let L:=aK J;show⟨n.hok.fresh (G t L).1,(G t L).2,hT _ _ g⟩
theorem qOu(p r:Int×Int):PyData.eqv (pairD p) (pairD r)=decide (p=r):=by
 grind[PyData.eqv,PyData.eqvAll]
theorem denP{K:SH}(h:SqT K G b [.int p.1,.int p.2]):Den K G (pairD p) (.ref b):=.tuple h (.cons .int (.cons .int .nil))
theorem wy{K:SH}(h:Den K G (pairD p) v):∃b,v=.ref b/\SqT K G b [.int p.1,.int p.2]:=by
 let⟨b,l,rfl,a,c⟩:=h.ofTuple;let⟨m,n,rfl,d,e⟩:=c.ofCons;let⟨o,q,rfl,f,g⟩:=e.ofCons;let i:=d.ofInt;let j:=f.ofInt;let k:=g.ofNil;grind
theorem qYv(h:tOf p=tOf q):p=q:=by
 grind[tOf]
theorem wCv{X:Cx}{k m n a:Sl}{e:List Sl}{scope:Su}{u:TI}{g:TG}{o:List TT}{tk v:TE}{j:Pos}{i:Nat}{x:Str}{q f:Pos}(b:List Str)(c:List Nat)(w:X.calm=Sc)(S:CompScope X b c scope)(y:X.N.Nodup)(r:X.N[i]? = Sa x)(z:Loc X.env.scope x)(hi:PI X n a u)(B:∀d s H ex,PG (zP X b c scope d s H ex) n g)(C:∀d s H ex,PTs (zP X b c scope d s H ex) e o)(E:∀d s H ex,PE (zP X b c scope d s H ex) k tk)(F:∀d s H ex,PE (zP X b c scope d s H ex) m v)(t:SD (.DictComp k m [⟨n,a,e,0⟩] scope j) (Sa (.Name x q)) f.line X.env=pure Sc:=by rfl)(G:∀x,SC a X.env x=pure x:=by intro _;rfl)(J:X.fn x=Sc\/X.env.scope.names.lookup x=Sa .local:=by first|show .inl rfl|show .inr rfl|assumption):PS X (.Assign [.Name x q] (.DictComp k m [⟨n,a,e,0⟩] scope j) f) (tAsg (tComp b c (.dK []) u g o (ePut tk v)) (gName i)):=by
 intro p s σ H D I h;rw[exec_Assign_Name_used _ _ _ _ t];show aA (fF (aA ?_));change Sm _ X.A (do let _ <-comprehension (.DictComp k m [⟨n,a,e,0⟩] scope j) scope X.env _ newDict Sd (Sw a X.env) (Sa (assign (.Name x q) X.env))) _ _ s;show aA (thn (ku (behOf:=wY k m) w S rfl hi Qr (λ_ _ _ _ _=>jB) B C (λd s H ex l=>Qs (E d s H ex) (F d s H ex)) G y r z J p s σ H D I h) λ_ L K=>?_);show aC (aC K)
def qXg(td ty tx:TE):TE:=λσ H Q=>td σ H λx H1 => ∃a,x = .ref a/\IsD H1 a/\ty σ H1 λy H2=>tx σ H2 λz H3 => ∃kvs k,y=kV k/\H3 a=Sa (.dK kvs)/\kvs.length<Sn /\
 (∀v,valV kvs k=Sa v->Q v H3)/\(valV kvs k=Sb->Q z (upd H3 a (.dK (putK kvs k z))))
theorem qW4(E:PE X o td)(G:PE X e ty)(J:PE X f tx)(m:M2 X o "setdefault" apos e f cpos):PE X (.Call (.Attribute o "setdefault" apos) [e,f] [] cpos) (qXg td ty tx):=by
 intro b s σ H Q I h;show wpAny_Call_method m.base m.few m.line gH fN PySem.F.type_dict_setdefault (thn (E b s σ H _ I h) λu K hq_=>?_);let⟨x,L,p,M,a,N,d,O⟩:=hq_;subst N;obtain rfl:u=Value.ref a:=M;let⟨P,R,_⟩:=km p d;show⟨P,R,?_⟩;rw[m.trees];show fU rfl (iH (eC (thn (G b K σ L _ p O) λiv S hq_=>?_)));let⟨y,T,U,V,W⟩:=hq_;show eC (thn (J b S σ T _ U W) λY s3 hq_=>?_);let⟨z,Z,l,t,c,k,ey,A,hl,g1,g2⟩:=hq_;show gD ?_;subst ey;let⟨zz,B,C,g,D⟩:=xk l.hok A;let hz:C.length<=Sn:=by rw[<-g.length];show zz
 show call_meetsIn fN D.typeIs PySem.F.entry_dict_setdefault (PySem.F.args_dict_setdefault_3 _ _ _) (kt_meets_setdefault (zb X.prog X.w) a (xQ V) B Y) ⟨C,D,hz,λv hv=>?_,λhn h' j hs=>?_⟩
 .let r:=g.val k;rw[hv]at r;cases i:valV c k with
  |none=>rw[i]at r;show r.elim
  |some x=>rw[i]at r;show⟨x,Z,l.tok _,r,g1 x i⟩
 .let r:=g.val k;rw[hn]at r;let i:valV c k=Sb:=by
   cases i:valV c k with
   |none=>rfl
   |some v=>rw[i]at r;show r.elim
  let n:(putK c k z).length<=Sn:=by let:=xP c k z;lia
  show⟨z,_,xX l (by rw[A];show True.intro) hs (let ⟨q,_,_,hq,_⟩:=j;⟨q,hq⟩) (vP n B (g.put k t) j),t,g2 i⟩
theorem qS6{td ty c:TE}(h:td σ H λx d => ∃a,x = .ref a/\IsD d a/\ty σ d λy e=>c σ e λz b => ∃kvs k,y=kV k/\b a=Sa (.dK kvs)/\kvs.length<Sn /\
 (∀v,valV kvs k=Sa v->Q v b)/\(valV kvs k=Sb->Q z (upd b a (.dK (putK kvs k z))))):qXg td ty c σ H Q:=h
theorem wD7{K:SH}(h:c σ H λvs a => ∃(l1 l2:Sf) (xs ys:List V),vs = [.ref l1,.ref l2]/\SqL K a l1 xs/\SqL K a l2 ys/\ys.length<=xs.length /\
 ∀(l:Sf)(ts:List Sf)(b:Hp),a l=Sb->Ext [] a b->b l=Sa (.lst (ts.map V.ref))->ts.length=ys.length->(∀(i:Nat)t x y,ts[i]? = Sa t->xs[i]? = Sa x->ys[i]? = Sa y->a t=Sb/\t≠l/\b t=Sa (.tup [x,y]))->Q (.ref l) b):tLZ K c σ H Q:=h
theorem qXz{K:SH}{ty td:TE}(h:ty σ H λy b=>td σ b λx a=>∃(d c:Sf)(W:List (Int×Int))(g:Int×Int->V)(p:Int×Int),x=.ref d/\y=.ref c/\TdAt P w K a d W g/\SqT K a c [.int p.1,.int p.2]/\Q (.bl (decide (p∈W))) a):tTdIn P w K ty td σ H Q:=h
def kF(K:SH):Sp:=λvs H Q _ => ∃(a:Sf) (us:List V) (ps:List Wy),vs = [.ref a]/\SqL K H a us/\DenL K H (ps.map pairD) us/\ps.length<=400 /\
 ∀(l:Sf)(us':List V)(H':Hp),H l=Sb->Ext [] H H'->H' l=Sa (.lst us')->DenL K H' ((ps.map tw).map pairD) us'->Q (.ref l) H'
def vx(K:SH):Sp:=λvs H Q _ => ∃(a:Sf) (us:List V) (ps:List Wy),vs = [.ref a]/\SqL K H a us/\DenL K H (ps.map pairD) us/\ps.length<=400 /\
 ∀(d:Sf)(H':Hp),H d=Sb->Ext [] H H'->NexG H' d (nby ps)->Q (.ref d) H'
structure PathOk(N:Int->List Int)(ss gs:List Int)(a:Int)(r:List Int):Prop where
 hd:a∈ss
 st:∀s∈stp (a::r),s.2∈N s.1
 nd:(a::r).Nodup
 ls:(a::r).getLast (by simp)∈gs
def kG(K:SH):Sp:=λvs H Q _ => ∃(st nd go:Sf) (ss gs U:List Int) (N:Int->List Int),vs = [.ref st,.ref nd,.ref go]/\SqL K H st (ss.map V.int)/\NexG H nd N/\SqT K H go (gs.map V.int)/\(∀s∈ss,s∈U)/\(∀x∈U,∀y∈N x,y∈U)/\U.length<=100/\(∀x,(N x).length<=400)/\ss.Nodup /\
 (∀(l:Sf)(a:Int)(r:List Int)(H':Hp),H l=Sb->Ext [] H H'->H' l=Sa (.lst ((a::r).map V.int))->PathOk N ss gs a r->Q (.ref l) H')/\((∀s∈ss,∀x,Reach N s x->x∉gs)->∀H',Ext [] H H'->Q .non H')
theorem qNk(z y:Int):∀i:List Int,stp ((i ++ [z]) ++ [y])=stp (i ++ [z]) ++ [(z,y)]
 |[]=>rfl
 |[a]=>rfl
 |a::b::i=>by
  let:=qNk z y (b::i);simp_all[stp]
structure Pth(N:Int->List Int)(ss ks:List Int)(l:List Int)(z:Int):Prop where
 ls:∃i,l=i++[z]
 hd:∃a r,l=a::r/\a∈ss
 st:∀s∈stp l,s.2∈N s.1
 nd:l.Nodup
 ks:∀x∈l,x∈ks
theorem Pth.ok{N:Int->List Int}{b ks c:List Int}{l:List Int}{z:Int}(h:Pth N b ks l z)(hz:z∈c):∃a r,l=a::r/\PathOk N b c a r:=by
 let⟨a,r,rfl,f⟩:=h.hd;let⟨i,e⟩:=h.ls;show⟨a,r,rfl,f,h.st,h.nd,?_⟩;let:∀(l:List Int)(d:l≠[]),l=i++[z]->l.getLast d=z:=λl d e=>by subst e;simp
 rw[this _ _ e];show hz
theorem Pth.more{N:Int->List Int}{c ks ks':List Int}{l:List Int}{z y:Int}(h:Pth N c ks l z)(d:y∈N z)(f:y∉ks)(g:∀x∈ks,x∈ks')(b:y∈ks'):Pth N c ks' (l++[y]) y:=by
 let⟨i,e⟩:=h.ls;let⟨a,r,j,k⟩:=h.hd;show⟨⟨l,rfl⟩,⟨a,r++[y],by rw[j];rfl,k⟩,λs hs=>?_,?_,λx hx=>?_⟩
 .rw [e,qNk,<-e]at hs;rcases aL.mp hs with hs|hs
  .exact h.st s hs
  .rw [aE.mp hs];show d
 .rw [cT];show⟨h.nd,∅,λx hx w m z=>?_⟩;rw[aE.mp m]at z;show f (z▸h.ks x hx)
 .rcases aL.mp hx with hx|hx
  .exact g x (h.ks x hx)
  .rw [aE.mp hx];show b
theorem Pth.mono{N:Int->List Int}{a ks ks':List Int}{l:List Int}{z:Int}(h:Pth N a ks l z)(b:∀x∈ks,x∈ks'):Pth N a ks' l z:=⟨h.ls,h.hd,h.st,h.nd,λx c=>b x (h.ks x c)⟩
structure Bfs(H:Hp)(d pa:Sf)(N:Int->List Int)(ss U ks:List Int)(ws:List Sf)(G:Hp):Prop where
 ext:Ext [] H G
 hd:G d=Sa (.dK (ks.map λk=>((Sum.inl k:Key),V.bl Sc)))
 hpa:G pa=Sa (.lst (ws.map V.ref))
 len:ws.length=ks.length
 hw:∀(i:Nat)w,ws[i]? = Sa w->∃l z,ks[i]? = Sa z/\H w=Sb/\G w=Sa (.lst (l.map V.int))/\Pth N ss ks l z
 nod:ks.Nodup
 sU:∀k∈ks,k∈U
 one:∀s∈ss,s∈ks
def Done(N:Int->List Int)(gs ks:List Int)(i:Nat):Prop:=∀(j:Nat)k,j<i->ks[j]? = Sa k->k∉gs/\∀y∈N k,y∈ks
theorem Done.all{N:Int->List Int}{b ks c:List Int}{i:Nat}(h:Done N b ks i)(hi:ks.length<=i)(d:∀s∈c,s∈ks):∀s∈c,∀x,Reach N s x->x∉b:=by
 intro s f x r;let key:x∈ks:=by
  induction r with
  |refl=>show d s f
  |step _ g k=>
   let⟨j,a,e⟩:=cO k;show(h j _ ∎ (by rw[aF a,e])).2 _ g
 let⟨j,a,e⟩:=cO key;show(h j _ ∎ (by rw[aF a,e])).1
theorem ir(h:HO.lst a=.lst b):a=b:=by cases h;rfl
def rMinL(K:SH):List V->Hp->VK->Prop:=λxs H Q=>∃(a:Sf)(ns:List Int),xs=[.ref a]/\SqL K H a (ns.map V.int)/\ns≠[]/\∀M,M∈ns->(∀x∈ns,M<=x)->Q (.int M) H
theorem qUt(n:X.A.handled=Sb):CallR X (.builtin "min") (rMinL X.K):=by
 intro i s σ H c F Q I r h;let⟨a,o,rfl,p,d,q⟩:=h;let⟨u,rfl,w⟩:=vals1 r;cases w;let⟨x,y,z,_⟩:=I.list p;let k:=xw y;let⟨c,e⟩:=k.allInts.items;let b:o=c.toList.map (·.1):=by
  rw[<-k.numsOf,<-nums_intItems,<-e]
 let f:0<c.size:=by
  let l:=List.length_pos_iff.mpr d;rw[b,aB,aQ]at l;show l
 let g:s.heap.IsList a (intItems c):=e▸z.isList;show min_intList n g f λv G tk B C=>?_;let⟨t,rfl⟩:=intItems_at B;let⟨J,D⟩:=argBest_lt (numAt c) (c.size-1);show⟨.int _,H,I.kept C,⟨t,rfl⟩,q _ ?_ λa m=>?_⟩
 .rw [b,numAt_eq];show getD_mem (by rw[aB,aQ];lia)
 .rw [b]at m;let⟨j,E,rfl⟩:=mem_getD m;rw[aB,aQ]at E;rw[<-numAt_eq];show D j ∎
theorem wAi(P:Sh)(w:Si)(K:SH)(a:X.prog=P)(hw:X.w=w)(b:X.K=K)(c:X.A.units+1<cLine):PGet X (io P w K):=by subst a hw b;show qYi c
theorem qR7(P:Sh)(w:Si)(K:SH)(a:X.prog=P)(hw:X.w=w)(b:X.K=K)(c:X.A.units+1<cLine):PSet X (kD P w K):=by subst a hw b;show wB4 c
theorem qLt(P:Sh)(w:Si)(K:SH)(a:X.prog=P)(hw:X.w=w)(b:X.K=K)(c:X.A.handled=Sb):CallR X (.type "list") (qSe P w K):=by subst a hw b;show qN6 c
structure FTx(K:SH)(C:Sf):Prop where
 cl:Cls K C
 amounts:NoAttr K C "amounts"
 limits:NoAttr K C "limits"
structure FlA where
 x:Sf
 dx:Sf
 am:Sf
 lm:Sf
noncomputable def flO(C:Sf)(r:FlA):HO:=.ins C r.dx (putF "limits" (.ref r.lm) (putF "amounts" (.ref r.am) []))
structure FlowAt(P:Sh)(w:Si)(K:SH)(H:Hp)(C:Sf)(r:FlA)(F:Fl)(f:Wy->Int):Prop where
 ob:H r.x=Sa (flO C r)
 ne:r.am≠r.lm
 am:TdAt P w K H r.am F.W λv=>.int (f v)
 lm:∃g,TdAt P w K H r.lm F.W g/\∀v∈F.W,∃c,g v=.ref c/\SqT K H c [.int (F.lo v),.int (F.hi v)]
theorem FlowAt.mono{K:SH}(h:FlowAt P w K H C r F f)(e:Same H a):FlowAt P w K a C r F f:=by
 let⟨g,b,d⟩:=h.lm;show⟨e _ _ h.ob,h.ne,h.am.mono e,g,b.mono e,λv i=>?_⟩;let⟨c,j,k⟩:=d v i;show⟨c,j,e.seqT k⟩
abbrev SqP(K:SH)(H:Hp)(a:Sf)(p:Wy):Prop:=SqT K H a [.int p.1,.int p.2]
def kH(P:Sh)(w:Si)(K:SH)(C:Sf):Sp:=λvs H Q _=>∃(r:FlA)(F:Fl)(f:Wy->Int)(a b:Sf)(s v:Wy),vs=[.ref r.x,.ref a,.ref b]/\FlowAt P w K H C r F f/\SqP K H a s/\SqP K H b v/\v∈F.W/\Q (.int (F.room f s v)) H
def kI(P:Sh)(w:Si)(K:SH)(C:Sf):Sp:=λvs H Q _ => ∃(r:FlA) (F:Fl) (f:Wy->Int) (a:Sf) (s:Wy),vs = [.ref r.x,.ref a]/\FlowAt P w K H C r F f/\SqP K H a s /\
 (∀(v:Wy)(b:Sf)(H':Hp),F.wayFor f s=Sa v->Ext [] H H'->SqP K H' b v->Q (.ref b) H')/\(F.wayFor f s=Sb->∀H',Ext [] H H'->Q .non H')
def vy(P:Sh)(w:Si)(K:SH)(C:Sf):Sp:=λvs H Q _ => ∃(r:FlA) (F:Fl) (f:Wy->Int),vs = [.ref r.x]/\FlowAt P w K H C r F f/\F.W.length<=100 /\
 ∀(l:Sf)(us:List V)(H':Hp),H l=Sb->Ext [] H H'->H' l=Sa (.lst us)->DenL K H' ((F.free f).map pairD) us->Q (.ref l) H'
def iu(P:Sh)(w:Si)(K:SH)(C:Sf):Sp:=λvs H Q _ => ∃(r:FlA) (F:Fl) (f:Wy->Int) (p:Sf) (a b:Int) (l:List Int) (g:Wy->Wy),vs = [.ref r.x,.ref p]/\FlowAt P w K H C r F f/\F.W.length<=100/\SqL K H p ((a::b::l).map V.int)/\(a::b::l).length<=100/\(∀s∈stp (a::b::l),F.wayFor f s=Sa (g s)) /\
 ∀(more:Int)(H':Hp),(∀s∈stp (a::b::l),more<=F.room f s (g s))->0<more->Ext [r.am] H H'->FlowAt P w K H' C r F (pushL more ((stp (a::b::l)).map λs=>(s,g s)) f)->Q .non H'
noncomputable def flowF(W:List Wy)(c:Wy->Int)(save back:Int)(S:List Wy):Fl:=⟨W,λv=>if decide (v∈S)=Sc then -(sm W c*(save+back)+1)else -(c v*save),λv=>if decide (v∈S)=Sc then sm W c*(save+back)+1 else c v*back⟩
theorem qOt{save back:Int}(h0:∀w∈W,0<=c w)(a:0<=save)(b:0<=back):(flowF W c save back S).Pr c save back λv=>decide (v∈S):=⟨h0,a,b,λ_ _=>rfl,λ_ _=>rfl⟩
def iw(P:Sh)(w:Si)(K:SH)(C:Sf):Sp:=λvs H Q _ => ∃(x dx wl cl pr sl:Sf) (us ts:List V) (W S:List Wy) (c:Wy->Int) (save back:Int),vs = [.ref x,.ref wl,.ref cl,.ref pr,.ref sl]/\H x=Sa (.ins C dx [])/\SqL K H wl us/\DenL K H (W.map pairD) us/\W.Nodup/\W.length<=100/\SqL K H cl ((W.map c).map V.int)/\SqT K H pr [.int save,.int back]/\SqL K H sl ts/\DenL K H (S.map pairD) ts/\(∀v∈S,v∈W)/\S.length<=100/\0<=save/\save<=10^6/\0<=back/\back<=10^6 /\
 ∀(am lm:Sf)(H':Hp),H am=Sb->Ext [x] H H'->FlowAt P w K H' C ⟨x,dx,am,lm⟩ (flowF W c save back S) (λ_=>0)->Q .non H'
def NoT(G:Hp)(x:Sf):Prop:=∀zs,¬Rd G x (.tup zs)
def NoL(G:Hp)(x:Sf):Prop:=∀zs,¬Rd G x (.lst zs)
theorem NoT.ins{G:Hp}{x C a:Sf}{fs:List (Str×V)}(h:G x=Sa (.ins C a fs)):NoT G x:=λb z=>by rcases z with z|⟨o,z⟩<;>(rw[h]at z;cases z)
theorem NoL.ins{G:Hp}{x C a:Sf}{fs:List (Str×V)}(h:G x=Sa (.ins C a fs)):NoL G x:=λb z=>by rcases z with z|⟨o,z⟩<;>(rw[h]at z;cases z)
theorem NoT.td{P:Sh}{w:Si}{K:SH}{G:Hp}{d:Sf}{W:List Wy}{g:Wy->V}(h:TdAt P w K G d W g):NoT G d:=λa z=>by
 let⟨b,h,_⟩:=h;rcases z with z|⟨o,z⟩<;>(rw[h]at z;cases z)
theorem NoL.td{P:Sh}{w:Si}{K:SH}{G:Hp}{d:Sf}{W:List Wy}{g:Wy->V}(h:TdAt P w K G d W g):NoL G d:=λa z=>by
 let⟨b,h,_⟩:=h;rcases z with z|⟨o,z⟩<;>(rw[h]at z;cases z)
theorem SqT.over{K:SH}(h:SqT K G a ys)(e:Ext ts G b)(n:∀x∈ts,NoT G x):SqT K b a ys:=by
 rcases h with(h|⟨o,h⟩)|h
 .exact .inl (.inl (e _ _ (λz=>n a z ys (.inl h)) h))
 .exact .inl (.inr ⟨o,e _ _ (λz=>n a z ys (.inr ⟨o,h⟩)) h⟩)
 .exact .inr h
theorem SqL.over{K:SH}(h:SqL K G a ys)(e:Ext ts G b)(n:∀x∈ts,NoL G x):SqL K b a ys:=by
 rcases h with(h|⟨o,h⟩)|h
 .exact .inl (.inl (e _ _ (λz=>n a z ys (.inl h)) h))
 .exact .inl (.inr ⟨o,e _ _ (λz=>n a z ys (.inr ⟨o,h⟩)) h⟩)
 .exact .inr h
theorem TdAt.over{P:Sh}{w:Si}{K:SH}{G a:Hp}{d:Sf}{W:List Wy}{g:Wy->V}{ts:List Sf}(h:TdAt P w K G d W g)(e:Ext ts G a)(hd:d∉ts)(n:∀x∈ts,NoT G x):TdAt P w K a d W g:=by
 let⟨f,i,b,j⟩:=h;show⟨f,e _ _ hd i,λx c=>⟨(b x c).1.over e n,(b x c).2⟩,j⟩
theorem TdAt.congr{P:Sh}{w:Si}{K:SH}{G:Hp}{d:Sf}{W:List Wy}{g g':Wy->V}(h:TdAt P w K G d W g)(e:∀v∈W,g v=g' v):TdAt P w K G d W g':=by
 let⟨f,i,b,c,j⟩:=h;show⟨f,i,λx a=>⟨(b x a).1,(b x a).2.trans (e _ (by rw[<-c];show bC.mpr ⟨x,a,rfl⟩))⟩,c,j⟩
theorem qOh{W:List Wy}{p:Wy}{i:Nat}(c:W.Nodup)(a:W[i]? = Sa p):p∉W.take i:=λz=>by
 let⟨j,d,e⟩:=cO z;rw[aV]at d;rw[List.getElem_take]at e;let b:=(aD.mp a).1;let:=dJ.mp c j i ∎ b ∎;rw[aF b]at a;show this (e.trans (bB a).symm)
theorem denPs{K:SH}:∀(ps:List Wy) (vs:List V),vs.length=ps.length->(∀(i:Nat) v p,vs[i]? = Sa v->ps[i]? = Sa p -> ∃t,v = .ref t/\SqP K G t p)->DenL K G (ps.map pairD) vs
 |[],[],_,_=>.nil
 |[],_::_,h,_=>by simp at h
 |_::_,[],h,_=>by simp at h
 |p::ps,v::vs,h,k=>by
  let⟨t,rfl,a⟩:=k 0 v p rfl rfl;show .cons (denP a) (denPs ps vs (by simpa using h) λi v p b c=>k (i+1) v p (by simpa using b) (by simpa using c))
theorem DenL.pairs{K:SH}{G:Hp}{ps:List Wy}{vs:List V}(h:DenL K G (ps.map pairD) vs){i:Nat}{v:V}(d:vs[i]? = Sa v):∃p t,ps[i]? = Sa p/\v=.ref t/\SqP K G t p:=by
 let⟨g,a,c⟩:=h.get d;let⟨p,e,rfl⟩:=zX a;let⟨b,rfl,f⟩:=wy c;show⟨p,b,e,rfl,f⟩
theorem DenL.overP{K:SH}{G a:Hp}{ps:List Wy}{vs:List V}{ts:List Sf}(h:DenL K G (ps.map pairD) vs)(e:Ext ts G a)(n:∀x∈ts,NoT G x):DenL K a (ps.map pairD) vs:=by
 let b:=h.len;rw[aB]at b;show denPs ps vs b λi v p d f=>?_;let⟨k,t,c,g,j⟩:=h.pairs d;rw[f]at c;cases c;show⟨t,g,j.over e n⟩
theorem qHz{more:Int}:∀(ps:List (Wy×Wy)) (f:Wy->Int),pushL more (ps ++ [p]) f=bump (pushL more ps f) more p.1 p.2
 |[],_=>rfl
 |_::r,f=>qHz r _
theorem qZ4{K:SH}{tk a:TE}(h:tk σ H λx b=>a σ b λy c=>kD P w K (.ref l) x y c λd=>Q σ d):iq P w K tk a l σ H Q:=h
noncomputable def univ(n:Nat):List Int:=-1::(List.range (n+1)).map λ(i:Nat)=>(i:Int)
theorem xh{n:Nat}{x:Int}:x∈univ n ↔ -1<=x/\x<=n:=by
 unfold univ;rw[aN,bC];constructor
 .grind
 .intro h;by_cases e:x = -1
  .grind
  .exact .inr ⟨x.toNat,bH.mpr ∎,∎⟩
theorem wz(n:Nat):(univ n).length=n+2:=by unfold univ;simp
theorem vA{U:List Int}{l:List Wy}(h:∀v∈l,v.1∈U/\v.2∈U):∀x∈U,∀y∈nby l x,y∈U:=λx _ y a=>(h _ (mem_nby.mp a)).2
theorem ix(x:Int):(nby l x).length<=l.length:=by unfold nby;rw[aB];show bM _ _
theorem kJ{U:List Int}{F:Fl}{f:Wy->Int}(h:∀v∈F.W,v.1∈U/\v.2∈U):∀v∈F.free f,v.1∈U/\v.2∈U:=λv b=>by
 let:=(bN.mp b).1;rcases aL.mp this with z|z
 .exact h v z
 .let⟨s,a,rfl⟩:=bC.mp z;show⟨(h s a).2,(h s a).1⟩
theorem qOs{F:Fl}{f:Wy->Int}:(F.free f).length<=2*F.W.length:=by
 grind[Fl.free]
def kK(K:SH):Sp:=λvs H Q _=>∃(a:Sf)(us:List V),vs=[.ref a]/\SqL K H a us/\∀t,H t=Sb->Q (.ref t) (upd H t (.tup [.int (-1),.int us.length]))
noncomputable abbrev Wk(wk:List Blk):List Wy:=zU wk wk.length
structure FIn(K:SH)(H:Hp)(wa:Sf)(n:Nat)(sl:Sf)(ws:List (List Blk))(wk:List Blk)(S:List Wy):Prop where
 hW:Den K H (xL ws) (.ref wa)
 ok:WsOk ws
 at_:ws[n]? = Sa wk
 sl:∃ts,H sl=Sa (.lst ts)/\DenL K H (S.map pairD) ts
 sW:∀v∈S,v∈Wk wk
 sn:S.length<=100
structure CIn(K:SH)(H:Hp)(cl pr:Sf)(wk:List Blk)(c:Wy->Int)(save back:Int):Prop where
 cl:SqL K H cl (((Wk wk).map c).map V.int)
 pr:SqT K H pr [.int save,.int back]
 c0:∀w∈Wk wk,0<=c w
 s0:0<=save
 s1:save<=10^6
 b0:0<=back
 b1:back<=10^6
theorem FIn.mono{K:SH}{H a:Hp}{b:Sf}{n:Nat}{sl:Sf}{c:List (List Blk)}{d:List Blk}{S:List Wy}(h:FIn K H b n sl c d S)(e:Same H a):FIn K a b n sl c d S:=by
 let⟨f,g,i⟩:=h.sl;show⟨h.hW.mono e,h.ok,h.at_,⟨f,e _ _ g,i.mono e⟩,h.sW,h.sn⟩
theorem CIn.mono{K:SH}{H a:Hp}{cl pr:Sf}{b:List Blk}{c:Wy->Int}{save back:Int}(h:CIn K H cl pr b c save back)(e:Same H a):CIn K a cl pr b c save back:=⟨e.seq h.cl,e.seqT h.pr,h.c0,h.s0,h.s1,h.b0,h.b1⟩
def Tg(wk:List Blk)(t:Int):Prop:=t = -1\/t=wk.length
def NoWay(N:Int->List Int)(S T:Int->Prop):Prop:=∀s,S s->∀y,Reach N s y->¬T y
noncomputable abbrev FF(wk:List Blk)(c:Wy->Int)(save back:Int)(S:List Wy):Fl:=flowF (Wk wk) c save back S
noncomputable def ties(S:List Wy):List Wy:=S++S.map tw
theorem vz{m a:Int}(h:WorkOk m a b)(d:1<=m):∀v∈Wk b,v.1∈univ b.length/\v.2∈univ b.length:=λv c=>by
 let e:=h.len;unfold Wk at c;rw[wI]at c;rw[xh,xh];rcases aN.mp c with z|z
 .grind
 .let:=jj h z;lia
theorem kL{m a:Int}(h:WorkOk m a c)(e:m<=12):(Wk c).length<=25:=by
 let:=xf (λb d=>(h.blk b d).ns.few) c.length;let f:=h.len;grind
theorem xT{n:Nat}{m a x y:Int}(h:WorkOk m a b)(d:BusyP c n b x y):0<=y/\y<b.length:=by
 let e:=h.len;rcases d with z|⟨z,_⟩
 .let⟨k,rfl,f,_⟩:=mem_wrTo.mp z;lia
 .let:=iW h z;lia
def qK8(P:Sh)(w:Si)(K:SH)(C:Sf):Sp:=λvs H Q _ => ∃(wa cl pr sl:Sf) (n:Nat) (x:Int) (ws:List (List Blk)) (wk:List Blk) (S:List Wy) (c:Wy->Int) (save back:Int),vs = [.ref wa,.int n,.int x,.ref cl,.ref pr,.ref sl]/\FIn K H wa n sl ws wk S/\CIn K H cl pr wk c save back /\
 ∀(r:FlA)(f:Wy->Int)(val:Int)(H':Hp),Ext [] H H'->FlowAt P w K H' C r (FF wk c save back S) f->(FF wk c save back S).Ok f->(FF wk c save back S).Val f (BusyP ws n wk x) (Tg wk) val->NoWay ((FF wk c save back S).nx f) (BusyP ws n wk x) (Tg wk)->Q (.ref r.x) H'
def qK5(K:SH):Sp:=λvs H Q _ => ∃(wa sl:Sf) (n:Nat) (x:Int) (ws:List (List Blk)) (wk:List Blk) (S:List Wy),vs = [.ref wa,.int n,.int x,.ref sl]/\FIn K H wa n sl ws wk S /\
 (NoWay (nby (ties S)) (BusyP ws n wk x) (Tg wk)->∀H',Ext [] H H'->Q .non H')/\(∀(s t:Int)(l:Sf)(H':Hp),Ext [] H H'->BusyP ws n wk x s->Reach (nby (ties S)) s t->Tg wk t->Q (.ref l) H')
def qHr(K:SH):Sp:=λvs H Q _ => ∃(wa cl pr sl:Sf) (n:Nat) (x:Int) (ws:List (List Blk)) (wk:List Blk) (S:List Wy) (c:Wy->Int) (save back:Int),vs = [.ref wa,.int n,.int x,.ref cl,.ref pr,.ref sl]/\FIn K H wa n sl ws wk S/\CIn K H cl pr wk c save back /\
 (∀(s t:Int)(H':Hp),Ext [] H H'->BusyP ws n wk x s->Reach (nby (ties S)) s t->Tg wk t->Q .non H')/\
 (NoWay (nby (ties S)) (BusyP ws n wk x) (Tg wk) -> ∀(l:Sf) (ns:List Int) (f:Wy->Int) (val:Int) (H':Hp),H l=Sb->Ext [] H H'->H' l=Sa (.lst (ns.map V.int))->ns.Pairwise (· <= ·)->ns.Nodup->(∀y,y∈ns ↔ ∃s,BusyP ws n wk x s/\Reach ((FF wk c save back S).nx f) s y) ->
  (FF wk c save back S).Ok f->(FF wk c save back S).Val f (BusyP ws n wk x) (Tg wk) val->NoWay ((FF wk c save back S).nx f) (BusyP ws n wk x) (Tg wk)->Q (.ref l) H')
theorem qI2:∀ {a:Int} {r:List Int},(∀s∈stp (a::r),s.2∈N s.1)->Reach N a ((a::r).getLast ∅)
 |a,[],_=>.refl
 |a,b::r,h=>by
  let c:b∈N a:=h (a,b) (by change(a,b)∈(a,b)::stp (b::r);simp);let d:=qI2 (a:=b) (r:=r) λs e=>h s (by change s∈(a,b)::stp (b::r);simp[e]);let f:∀{x y:Int},Reach N x y->x∈N a->Reach N a y:=λ{x y}r g=>by
   induction r with
   |refl=>show .step .refl g
   |step _ i j=>show .step j i
  show f d c
theorem qSy{N:Int->List Int}{U:List Int}(e:∀x∈U,∀y∈N x,y∈U):∀ {a:Int} {r:List Int},a∈U->(∀s∈stp (a::r),s.2∈N s.1) -> ∀x∈a::r,x∈U
 |a,[],c,_,x,d=>by grind
 |a,b::r,c,h,x,d=>by
  let f:b∈N a:=h (a,b) (by simp_all[stp]);rcases aN.mp d with z|z
  .grind
  .exact qSy e (e a c b f) (λs g=>h s (by simp_all[stp])) x z
theorem qOb{F:Fl}{u:Int->Int}:F.pot (λ_=>0) u=0:=by
 unfold Fl.pot;let:=qXr (l:=F.W) (c:=λ_=>0) (k:=0);grind
theorem tg_iff{y:Int}:y∈[-1,(a.length:Int)]↔Tg a y:=by unfold Tg;simp
def rInP(K:SH):R2:=λx y H Q=>∃(l b:Sf)(qs:List (Sf×(Int×Int)))(v:Int×Int),y=.ref l/\x=.ref b/\SqL K H l (qs.map λq=>V.ref q.1)/\(∀q∈qs,SqT K H q.1 [.int q.2.1,.int q.2.2])/\SqT K H b [.int v.1,.int v.2]/\Q (.bl (decide (v∈qs.map (·.2)))) H
theorem qJw:∀ {l:List (Sf×(Int×Int))} {us:List Se},Vals (l.map λq=>V.ref q.1) us->us=l.map λq=>Value.ref q.1
 |[],_,.nil=>rfl
 |q::l,_,.cons r t=>by
  cases (show _=Value.ref q.1 from r);rw[qJw t];rfl
theorem wBy(C:X.A.units+1<cLine):OpR X (SB .In) (rInP X.K):=by
 intro o s σ H x y v u Q I D F h;let⟨l,b,k,p,rfl,rfl,G,i,J,q⟩:=h;cases D;cases F;let⟨L,r,M,_⟩:=I.list G;cases qJw r;let isT:∀{P:Sh}{w:Si}{a:Sf}{c:Int×Int},SqT X.K H a [.int c.1,.int c.2]->IsT P w s.heap (tOf c) a:=λ{P w a c}z=>I.isT (ks:=tOf c) z;show SeqAt.in_listAt (λu=>match u with|.ref a=>k.any λq=>(q.1 == a)&&decide (q.2=p)|_=>Sd) M.isList (λu m=>?_) ⟨.bl _,H,I,rfl,?_⟩
 .rw [Array.mem_def,bC]at m;let⟨g,d,rfl⟩:=m;intro f w E S N;let e:(k.any λq=>(q.1 == g.1)&&decide (q.2=p))=decide (tOf g.2=tOf p):=by
   rw[eR,cG,decide_eq_true_eq];constructor
   .rintro⟨n,j,z⟩;rw[bR,decide_eq_true_eq]at z;let O:n.1=g.1:=by simpa using z.1
    let t:=isT (P:=f) (w:=w) (i n j);let R:=isT (P:=f) (w:=w) (i g d);rw[O]at t;let:=(tupleKind (intKind f w)).inj t R;rw[<-this,z.2]
   .intro z;show⟨g,d,by rw[qYv z];simp⟩
  show(tupleKind (intKind f w)).eqBool (cZ C) (isT (i g d)) (isT J) ?_;rw[<-e];show N
 .let e:((k.map λq=>Value.ref q.1).toArray.any λu=>match u with|.ref a=>k.any λq=>(q.1 == a)&&decide (q.2=p)|_=>Sd)=decide (p∈k.map (·.2)):=by
   rw[eR,decide_eq_true_eq,bC,List.any_toArray,List.any_map,cG];constructor
   .rintro⟨g,d,z⟩;let⟨n,j,B⟩:=cG.mp z;rw[bR,decide_eq_true_eq]at B;show⟨n,j,B.2⟩
   .rintro⟨g,d,z⟩;show⟨g,d,cG.mpr ⟨g,d,by simp[z]⟩⟩
  rw[e];show q
theorem wBg(h:∀p,H p=Sb->xJ a σ (upd H p (.dK [])) λps b=>b p=Sa (.dK [])/\∃kvs:List (Key×V),ps=kvs.map (λc=>(kV c.1,c.2))/\kvs.length<=15/\Q (.ref p) (upd b p (.dK (yX [] kvs)))):tDisp a σ H Q:=h
theorem r_pc{tk a:TE}(h:tk σ H λx b=>a σ b λy c=>xJ r σ c λps d=>Q ((x,y)::ps) d):xJ ((tk,a)::r) σ H Q:=h
theorem r_pn(h:Q [] H):xJ [] σ H Q:=h
end L2
namespace L2
open PySem PySem.Spec PyProof.Rows PyProof
theorem qKr{α:Type}(xs:List α)(f:Nat->Nat)(a:∀k,k<xs.length->f k=xs.length-1-k):(List.range xs.length).filterMap (λk=>xs[f k]?)=xs.reverse:=by
 let e:(List.range xs.length).map (λk=>xs[f k]?)=xs.reverse.map Sa:=by
  show List.ext_getElem ∅ λi b g=>?_;let c:i<xs.length:=by simpa using b
  rw[iP,iP,List.getElem_range,List.getElem_reverse,a i c];show aF _
 let d:(List.range xs.length).filterMap (λk=>xs[f k]?)=((List.range xs.length).map (λk=>xs[f k]?)).filterMap id:=by rw[gN];rfl
 rw[d,e,gN];show List.filterMap_some
theorem qVq(its:List Se):slicePick its.toArray Sb Sb (Sa (-1))=its.reverse.toArray:=by
 let a:¬((-1:Int)>0):=by lia
 unfold slicePick sliceBounds;simp only[Option.getD_some,a,if_false,aX];unfold sliceRange;simp only[a,if_false];let b:(if ((its.length:Int)-1 > -1)then ((its.length:Int)-1 - -1 - -1-1) / (- -1)else 0).toNat=its.length:=by
  grind
 rw[b,gN]
 congr 1
 let e:((λx=>its.toArray[x]?)∘λk:Nat=>((its.length:Int)-1 + -1*(k:Int)).toNat)=λk:Nat=>its[((its.length:Int)-1 + -1*(k:Int)).toNat]?:=by
  grind[fY]
 rw[e];show qKr its (λk=>((its.length:Int)-1 + -1*(k:Int)).toNat) λk c=>by grind
def rRev(K:SH)(x:V)(H:Hp)(Q:VK):Prop:=∃a xs,x=.ref a/\((SqL K H a xs/\∀p,H p=Sb->Q (.ref p) (upd H p (.lst xs.reverse)))\/(SqT K H a xs/\∀p,H p=Sb->Q (.ref p) (upd H p (.tup xs.reverse))))
def tRev(K:SH)(te tt:TE):TE:=λσ H Q=>te σ H λx H1=>tt σ H1 λy H2=>y=.int (-1)/\rRev K x H2 Q
theorem qN7{n:Nat}(d:s.heap.IsSliceOf c .none .none vs)(ps:IsPart vs (Sa (-1)))(h:Q ((n:Int)-1,-1,n) s):Sm (So P w) A (Builtin.Slice.sliceApplied (.ref c) (pure (n:Int))) Q E s:=by
 let⟨os,a,f,b⟩:=id d;unfold Builtin.Slice.sliceApplied Builtin.Slice.sliceFields;show aA (aA (fA a b (x:=.none) rfl (aA (fA a b (x:=.none) rfl (aA (fA a b (x:=vs) rfl (aC ?_)))))));show aA (HT.slicePart_ ps ?_);change Sm _ _ (if ((-1:Int) == 0)=Sc then _ else _) _ _ s;rw[if_neg ⋯];show aA (HT.slicePart_ .none (aA (HT.slicePart_ .none (aA (aC ?_)))));grind[Builtin.Slice.sliceAdjust,Builtin.Slice.slicePlaces,aC]
theorem qQk{P:Sh}{w:Si}{A:Sj}{E:Se->Sg->Prop}{s:Sg}{t c:Sf}{its:List Se}{vs:Se}{Q:Se->Sg->Prop}(b:IsTup s.heap t its.toArray)(l:s.heap.IsSliceOf c .none .none vs)(ps:IsPart vs (Sa (-1)))
  (h:Q (.ref s.heap.objs.size) {s with heap:=s.heap.push {cls:=.type "tuple",data:=.seq its.reverse.toArray}})
  (d:its.length<=Sn):Sm (So P w) A (getItem (.ref t) (.ref c)) Q E s:=by
 let a:sizeOk (.seq its.reverse.toArray):=by
  change its.reverse.toArray.size<=Sn;grind
 let⟨os,f,g,n⟩:=id l;let i:s.TypeIs (.ref c) "slice":=⟨os,f,g⟩;unfold getItem
 try with_reducible refine bK ?_
 first|show aA (aC ?_)|skip
 show aA (wpAny_sequenceKey b.typeIs ⋯ ?_)
 refine aA (cU (name:=Str.ofString "__getitem__") b.typeIs cX
  (cB cX b.typeIs PyProof.Rows.entry_tuple_getitem ?_ (PyProof.Rows.args_tuple_getitem _ _)))
 change Sm _ _ (Builtin.Tuple.tupleItemsOf (.ref t) >>=_) _ _ s;show aA (PyProof.Rows.tupleItemsOf_ b ?_);show aA (eV i ?_);rw[if_pos ⋯];show aA (qN7 l ps ?_);change Sm _ _ (if (((its.toArray.size:Int)-1) == 0&&(-1:Int) == 1&&its.toArray.size == its.toArray.size)=Sc then _ else _) _ _ s;let j:¬((((its.toArray.size:Int)-1) == 0&&(-1:Int) == 1&&its.toArray.size == its.toArray.size)=Sc):=by
  simp
 rw[if_neg j];let e:((List.range its.toArray.size).filterMap λ(m:Nat)=>its.toArray[((its.toArray.size:Int)-1+(m:Int)*(-1)).toNat]?).toArray=its.reverse.toArray:=by
  congr 1
  simp only[aX,fY];show qKr its (λk=>((its.length:Int)-1+(k:Int)*(-1)).toNat) λk o=>by grind
 rw[e]
 first
  |show aA (m:=Builtin.Tuple.tupleExact _) (bW (aC ⟨_,rfl,aC h⟩) a)
  |show aA (m:=Builtin.Tuple.tupleExact _) (bW (aA (aC (aC ⟨_,rfl,aC h⟩))) a)
  |show aA (aA (m:=Builtin.Tuple.tupleExact _) (bW (aC (aC ⟨_,rfl,aC h⟩)) a))
  |show aA (aA (m:=Builtin.Tuple.tupleExact _) (bW (aC ⟨_,rfl,aC h⟩) a))
theorem wBt{e st:Sl}{t u:TE}{z k:Pos}(D:PE X e t)(E:PE X st u):PE X (.Subscript e (.Slice Sb Sb (Sa st) z) k) (tRev X.K t u):=by
 intro c s σ H Q I h;show Subscript_ (thn (D c s σ H _ I h) λv F hq_=>?_);let⟨x,G,J,L,M⟩:=hq_;show wpAny_Slice ?_;change Sm _ _ (pure Value.none) _ _ _;show aC ?_;change Sm _ _ (pure Value.none) _ _ _;show aC ?_;rw[evalPart_some];show thn (E c F σ G _ J M) λT d hq_=>?_;let⟨y,N,O,P,l⟩:=hq_;let⟨rfl,a,B,rfl,l⟩:=l;let⟨tk,rfl⟩:=P;cases L;let f:Inv X c σ N {d with heap:=d.heap.push {cls:=.type "slice",data:=.fields #[.none,.none,.int (-1) tk]}}:=O.kept (t':=d.toks) λb C q=>aG _ q;let R:(d.heap.push {cls:=.type "slice",data:=.fields #[.none,.none,.int (-1) tk]}).IsSliceOf d.heap.objs.size .none .none (.int (-1) tk):=Heap.IsSliceOf.new ..
 change Sm (So X.prog X.w) X.A (subscriptTail e (.Slice Sb Sb (Sa st) z) (.ref a) (.ref d.heap.objs.size)) (EP X c σ Q) X.xe {d with heap:=d.heap.push {cls:=.type "slice",data:=.fields #[.none,.none,.int (-1) tk]}};generalize S:({d with heap:=d.heap.push {cls:=.type "slice",data:=.fields #[.none,.none,.int (-1) tk]}}:Sg)=s4 at f ⊢;let g:s4.heap.IsSliceOf d.heap.objs.size .none .none (.int (-1) tk):=by rw[<-S];show R
 rcases l with ⟨m,q⟩|⟨m,q⟩
 .let⟨n,r,i,p⟩:=f.list m;let j:=r.length;show tail_any (ops:=[.ref a,.ref d.heap.objs.size]) i.isList.typeIs slot_list_getitem.lookup ?_ (by with_unfolding_all rfl);show wpAny_getItem_list_slice i.isList g .none .none (.int _ _) ∅ ?_ (by rw[aX]<;>lia);rw[qVq];show⟨.ref s4.heap.objs.size,_,f.laid (t':=s4.toks) (o:=.lst B.reverse) (λb C q=>aG _ q) (aI _) ?_,rfl,q _ (f.hok.fresh (aI _))⟩;show⟨by rw[fD];show p,_,0,r.reverse,aT _ rfl⟩
 .let⟨n,r,i,p⟩:=f.tuple m;let j:=r.length;show tail_any (ops:=[.ref a,.ref d.heap.objs.size]) i.typeIs cX.lookup ?_ (by with_unfolding_all rfl);show qQk i g (.int _ _) ?_ ∎;show⟨.ref s4.heap.objs.size,_,f.laid (t':=s4.toks) (o:=.tup B.reverse) (λb C q=>aG _ q) (aI _) ?_,rfl,q _ (f.hok.fresh (aI _))⟩;show⟨by rw[fD];show p,_,r.reverse,IsTup.new _ _⟩
end L2
namespace L2
open PySem PySem.Spec PyProof.Rows
theorem qN3(K:SH)(a:X.K=K):CallR X (.builtin "sorted") (Ql K):=a▸Qm
def qQw(K:SH):Sp:=λvs H Q _ => ∃(t:Sf) (k:Nat) (most:Int),vs = [.ref t,.int most]/\Tape H t k/\k+21000<=2^40/\0<=most/\most<=12 /\
 ∀(l:Sf)(ws:List (List Blk))(H':Hp),Tape H' t (k+21000)->Ext [t] H H'->Den K H' (xL ws) (.ref l)->WsOk ws->ws.length<=3->(∀w∈ws,w.length<=10)->(∀w∈ws,∀b∈w,b.ds.length<=12)->Q (.ref l) H'
theorem qR4{g:Wy->Int}:sm (l++[x]) g=sm l g+g x:=by unfold sm;simp
noncomputable abbrev inB(ns:List Int):Int->Bool:=λv=>decide (v∈ns)
noncomputable def lawP(wk:List Blk)(cs:List Int)(save back:Int)(S:List Wy)(ns:List Int):Option Int:=lawC (Wk wk) (cntW (Wk wk) cs) save back (λv=>decide (v∈S)) (inB ns)
def qR1(P:Sh)(w:Si)(K:SH):Sp:=λvs H Q _ => ∃(wa il md pr sl:Sf) (wk:List Blk) (m works:Int) (ns cs:List Int) (pas:List Sf) (save back:Int) (S:List Wy),vs = [.ref wa,.ref il,.ref md,.ref pr,.ref sl]/\Den K H (workD wk) (.ref wa)/\WorkOk m works wk/\m<=12/\SqL K H il (ns.map V.int)/\TabW P w K H md (Wk wk) pas cs/\SqT K H pr [.int save,.int back]/\0<=save/\save<=10^6/\0<=back/\back<=10^6/\(∃ts,H sl=Sa (.lst ts)/\DenL K H (S.map pairD) ts) /\
 (∀v,lawP wk cs save back S ns=Sa v->∀H',Ext [] H H'->Q (.int v) H')/\(lawP wk cs save back S ns=Sb->∀H',Ext [] H H'->Q .non H')
theorem wC6{K:SH}{H:Hp}{l b:Sf}{ts:List V}{S:List Wy}{v:Wy}{Q:VK}(g:SqL K H l ts)(d:DenL K H (S.map pairD) ts)(h:SqP K H b v)(q:Q (.bl (decide (v∈S))) H):rInP K (.ref b) (.ref l) H Q:=by
 let⟨a,rfl,j⟩:=ux d;let r:=j.len;show⟨l,b,a.zip S,v,rfl,rfl,?_,λq k=>?_,h,?_⟩
 .let e:(a.zip S).map (λq=>V.ref q.1)=((a.zip S).map Prod.fst).map V.ref:=by rw[dO];rfl
  rw[e,List.map_fst_zip ∎];show g
 .let⟨i,m,e⟩:=cO k;let c:(a.zip S)[i]? = Sa q:=by rw[aF m,e]
  rw[dL]at c;let⟨p,t,f,n,o⟩:=d.pairs (i:=i) (v:=V.ref q.1) (by rw[bA,c.1];rfl);rw[c.2]at f;cases f;cases n;show o
 .rw [List.map_snd_zip ∎];show q
abbrev Rise(x:List Int):Prop:=x.Pairwise (· < ·)
theorem riseq:∀ {x y:List Int},Rise x->Rise y->(∀n,n∈x↔n∈y)->x=y
 |[],[],_,_,_=>rfl
 |[],b::y,_,_,h=>absurd ((h b).mpr ∅) ∅
 |a::x,[],_,_,h=>absurd ((h a).mp ∅) ∅
 |a::x,b::y,j,k,h=>by
  let⟨c,g⟩:=eD.mp j;let⟨d,i⟩:=eD.mp k;let e:a=b:=by
   rcases aN.mp ((h a).mp ∅)with z|z
   .grind
   .rcases aN.mp ((h b).mpr ∅)with u|u
    .grind
    grind
  subst e
  congr 1
  show riseq g i λn=>⟨λf=>?_,λf=>?_⟩
  .grind
  grind
theorem iy(a:x.Pairwise (·<=·))(b:x.Nodup):Rise x:=by
 show(List.pairwise_and_iff.mpr ⟨a,b⟩).imp λh=>?_;grind
theorem iz(h:Rise x):x.Nodup:=h.imp λh=>by lia
noncomputable def insR(k:Int)(x:List Int):List Int:=x.filter (λy=>decide (y<k))++k::x.filter (λy=>decide (k<y))
theorem oA{k:Int}(h:Rise x):Rise (insR k x):=by
 unfold insR;rw[Rise,List.pairwise_append];show⟨h.filter _,eD.mpr ⟨λy c=>by grind,h.filter _⟩,λa d b e=>?_⟩;grind
theorem mem_insR{k y:Int}:y∈insR k x↔y=k\/y∈x:=by
 grind[insR]
def vB(bs:List Int)(i:Nat)(x:List Int):Prop:=Rise x/\(∀y∈bs,y∈x)/\∀y∈x,y∈bs\/(0<=y/\y<(i:Int))
theorem qRu{bs:List Int}{i:Nat}{ls:List (List Int)}(hi:(i:Int)∉bs)(h:∀x,x∈ls↔vB bs i x)(x:List Int):x∈ls++ls.map (insR i)↔vB bs (i+1) x:=by
 rw[aL,bC];constructor
 .rintro (z|⟨y,f,rfl⟩)
  .let⟨a,b,c⟩:=(h x).mp z;show⟨a,b,λy f=>(c y f).imp id λz=>by lia⟩
  .let⟨a,b,c⟩:=(h y).mp f;show⟨oA a,λz g=>mem_insR.mpr (.inr (b z g)),λz g=>?_⟩;rcases mem_insR.mp g with e|e
   .grind
   grind
 .rintro⟨a,b,c⟩;by_cases j:(i:Int)∈x
  .refine .inr ⟨x.filter λy=>!decide (y=i),(h _).mpr ⟨a.filter _,λy f=>bN.mpr ⟨b y f,?_⟩,λy f=>?_⟩,?_⟩
   .grind
   .grind
   grind[riseq,oA,mem_insR]
  .refine .inl ((h x).mpr ⟨a,b,λy f=>(c y f).imp id λz=>?_⟩);grind
theorem qRt{bs:List Int}{i:Nat}(hi:(i:Int)∈bs)(x:List Int):vB bs i x↔vB bs (i+1) x:=by
 constructor
 .rintro⟨a,b,c⟩;show⟨a,b,λy d=>(c y d).imp id λz=>by lia⟩
 .rintro⟨a,b,c⟩;show⟨a,b,λy d=>?_⟩;grind
def qQz(K:SH):Sp:=λvs H Q _ => ∃(wa sa:Sf) (us:List V) (bs:List Int),vs = [.ref wa,.ref sa]/\SqL K H wa us/\us.length<=12/\SqL K H sa (bs.map V.int)/\Rise bs/\(∀y∈bs,0<=y/\y<(us.length:Int)) /\
 ∀(l:Sf)(vs:List V)(ls:List (List Int))(H':Hp),Ext [] H H'->H' l=Sa (.lst vs)->DenL K H' (ls.map intsD) vs->(∀x,x∈ls↔vB bs us.length x)->ls.length<=4096->Q (.ref l) H'
def qXl(K:SH):Sp:=λvs H Q _ => ∃(t wa:Sf) (k:Nat) (wk:List Blk) (m works:Int),vs = [.ref t,.ref wa]/\Tape H t k/\k+100<=2^40/\Den K H (workD wk) (.ref wa)/\WorkOk m works wk/\m<=12 /\
 ∀(l:Sf)(us:List V)(S:List Wy)(H':Hp),H l=Sb->Tape H' t (k+100)->Ext [t] H H'->H' l=Sa (.lst us)->DenL K H' (S.map pairD) us->(∀v∈S,v∈Wk wk)->S.length<=99->Q (.ref l) H'
def oB(pr:List Int->Option Int)(ls:List (List Int))(v:Int):Prop:=(∃x∈ls,pr x=Sa v)/\∀x∈ls,∀u,pr x=Sa u->v<=u
noncomputable def costs(pr:List Int->Option Int)(ls:List (List Int))(v:Int):List (List Int):=ls.filter λx=>decide (pr x=Sa v)
def qXp(P:Sh)(w:Si)(K:SH):Sp:=λvs H Q _ => ∃(wa cl pr sl:Sf) (n:Nat) (x:Int) (ws:List (List Blk)) (wk:List Blk) (S:List Wy) (cs:List Int) (save back:Int),vs = [.ref wa,.int n,.int x,.ref cl,.ref pr,.ref sl]/\FIn K H wa n sl ws wk S/\SqL K H cl (cs.map V.int)/\cs.length=(Wk wk).length/\SqT K H pr [.int save,.int back]/\0<=save/\save<=10^6/\0<=back/\back<=10^6 /\
 ∀ls:List (List Int),(∀x',x'∈ls↔Rise x'/\(∀y,BusyP ws n wk x y->y∈x') /\ ∀y∈x',0<=y/\y<(wk.length:Int))->ls.length<=4096 ->
  ((∀x∈ls,lawP wk cs save back S x=Sb)->∀H',Ext [] H H'->Q .non H')/\
  (∀(b bl:Sf)(v:Int)(us:List V)(H':Hp),Ext [] H H'->H' b=Sa (.tup [.int v,.ref bl])->H' bl=Sa (.lst us)->DenL K H' ((costs (lawP wk cs save back S) ls v).map intsD) us->oB (lawP wk cs save back S) ls v->Q (.ref b) H')
end L2
namespace L2
open PySem PySem.Spec PyProof.Rows PyProof
def rNinD(K:SH):R2:=λx y H Q=>∃(l:Sf)(xs:List PyData)(d:PyData),y=.ref l/\Den K H (.list xs) (.ref l)/\Den K H d x/\PyData.canLayAll0 xs=Sc/\d.canLay0=Sc/\d.depth<=60/\Q (.bl (!xs.any λy=>PyData.eqv y d)) H
theorem qZt{k:Nat}(b:Room k X.A):OpR X (SB .NotIn) (rNinD X.K):=by
 intro a s σ H x y v u Q I c e h;let⟨l,f,d,rfl,g,i,j,m,p,q⟩:=h;let⟨r,n⟩:=Den.reads I g e;let⟨bs,o⟩:=Den.reads I i c;show SeqAt.notIn_list_reads n o j m ?_ ⟨.bl _,H,I,rfl,q⟩;let:=b.un;grind
theorem wAo{W:List Wy}{cs:List Int}(b:W.Nodup)(c:cs.length=W.length):W.map (cntW W cs)=cs:=by
 show List.ext_getElem? λi=>?_;rw[bA];by_cases a:i<W.length
 .rw [aF a,aF ∎];change Sa (cs.getD (W.idxOf W[i]) 0)=_;rw[b.idxOf_getElem i a];simp[bO,show i<cs.length by lia]
 .rw [dA ∎,dA ∎];rfl
theorem qIa{W:List Wy}{cs:List Int}(h:∀n∈cs,0<=n)(w:Wy):0<=cntW W cs w:=by
 unfold cntW;rw[bO];cases z:cs[W.idxOf w]? with
 |none=>simp
 |some n=>show h n (aK z)
theorem qVh(k:∀v∈S,v∈Wk wk)(l:∀y,BusyP ws n wk x y->y∈a)(m:∀y∈a,0<=y/\y<(wk.length:Int)){s t:Int}(o:BusyP ws n wk x s)(r:Reach (nby (ties S)) s t)(p:Tg wk t):lawP wk cs save back S a=Sb:=by
 let i:t∉a:=λz=>by
  let:=m t z;unfold Tg at p;lia
 let key:∀{b:Int},Reach (nby (ties S)) s b->b∉a->∃v∈S,isCut (inB a) v=Sc:=λ{b}r=>by
  induction r with
  |refl=>intro h;show absurd (l s o) h
  |@step b c _ j q=>
   intro f;by_cases d:b∈a
   .let:=mem_nby.mp j;unfold ties at this;rcases aL.mp this with z|z
    .exact⟨_,z,by unfold isCut;simp[d,f]⟩
    .let⟨v,g,e⟩:=bC.mp z;let u:v.2=b:=congrArg Prod.fst e;let w:v.1=c:=congrArg Prod.snd e;show⟨v,g,by unfold isCut;simp[u,w,d,f]⟩
   .exact q d
 let⟨v,g,j⟩:=key r i;unfold lawP lawC;rw[if_pos (cG.mpr ⟨v,k v g,by rw[j];simpa using g⟩)]
noncomputable def riseL(m:Nat)(p:Int->Prop):List Int:=((List.range m).map λ(k:Nat)=>(k:Int)).filter λy=>@decide (p y) (Classical.propDecidable _)
theorem mem_riseL{m:Nat}{y:Int}:y∈riseL m p↔(0<=y/\y<m)/\p y:=by
 unfold riseL;rw[bN,bC];constructor
 .grind
 .rintro⟨c,b⟩;show⟨⟨y.toNat,bH.mpr ∎,∎⟩,by grind⟩
theorem qPd(m:Nat)(p:Int->Prop):Rise (riseL m p):=by
 show List.Pairwise.filter _ ?_;rw[List.pairwise_map];show gL.imp λh=>by lia
theorem qVi{m d:Int}(e:WorkOk m d wk)(D:1<=m)(k:∀v∈S,v∈Wk wk)(o:NoWay (nby (ties S)) (BusyP ws n wk x) (Tg wk)):∃h,(Rise h/\(∀y,BusyP ws n wk x y->y∈h)/\∀y∈h,0<=y/\y<(wk.length:Int))/\∃v,lawP wk cs save back S h=Sa v:=by
 let c:=vz e D;let p:∀s y,BusyP ws n wk x s->Reach (nby (ties S)) s y->0<=y/\y<(wk.length:Int):=λs y f r=>by
  let i:y∈univ wk.length:=by
   show uq (vA (l:=ties S) λv q=>?_) (by let:=xT e f;rw[xh];lia) r;unfold ties at q;rcases aL.mp q with z|z
   .exact c v (k v z)
   .let⟨u,B,rfl⟩:=bC.mp z;show⟨(c u (k u B)).2,(c u (k u B)).1⟩
  let t:=o s f y r;rw[xh]at i;unfold Tg at t;lia
 show⟨riseL wk.length λy=>∃s,BusyP ws n wk x s/\Reach (nby (ties S)) s y,⟨qPd _ _,λy j=>mem_riseL.mpr ⟨xT e j,y,j,.refl⟩,λy j=>(mem_riseL.mp j).1⟩,?_⟩;unfold lawP lawC;rw[if_neg]
 .exact⟨_,rfl⟩
 .intro z;let⟨v,q,w⟩:=cG.mp z;let⟨i,t⟩:=iI.mp w;let g:v∈S:=by simpa using t
  let step:∀a b,(a,b)∈ties S->a∈riseL wk.length (λy=>∃s,BusyP ws n wk x s/\Reach (nby (ties S)) s y)->b∈riseL wk.length (λy=>∃s,BusyP ws n wk x s/\Reach (nby (ties S)) s y):=λa b A E=>by
   let⟨_,s,f,r⟩:=mem_riseL.mp E;let C:=Reach.step r (mem_nby.mpr A);show mem_riseL.mpr ⟨p s b f C,s,f,C⟩
  let F:v.1∈riseL wk.length (λy=>∃s,BusyP ws n wk x s/\Reach (nby (ties S)) s y)↔v.2∈riseL wk.length (λy=>∃s,BusyP ws n wk x s/\Reach (nby (ties S)) s y):=
   ⟨step v.1 v.2 (aY _ g),step v.2 v.1 (bI _ (bC.mpr ⟨v,g,rfl⟩))⟩
  unfold isCut inB at i;simp[F]at i
theorem qUo(xs:List V)(n:Nat):cutV xs Sb (Sa (n:Int))=xs.take n:=by
 grind[cutV,HT.sIx_none,HT.sIx_nat]
theorem wAu{c:TE}{σ:St}{G:Hp}{Q:VK}{C:Sf->List Int->Hp->Prop}(d:∀Q:VK,(∀a bs b,C a bs b->Q (.ref a) b)->c σ G Q)(k:∀a bs b,C a bs b->Q (.ref a) b):c σ G Q:=d Q k
end L2
namespace L2
open PySem PySem.Spec PyProof.Rows
theorem qO5{c:Wy->Int}{sv bk x:Int}{ns:List Int}:∀W:List Wy,((rowsL W [x] λ_=>ns).map (costK c sv bk)).sum=sm W λw=>if isCut (inB ns) w=Sc then c w*(if inB ns w.1=Sc then bk else sv) else 0
 |[]=>rfl
 |w::W=>by
  let a:=qO5 (c:=c) (sv:=sv) (bk:=bk) (x:=x) (ns:=ns) W;unfold rowsL at a ⊢;rw[eB,aH,List.sum_append,a,xM]
  congr 1
  unfold rowOf isCut inB;by_cases b:w.1∈ns<;>by_cases d:w.2∈ns<;>simp[b,d,costK]
theorem qTs{sv bk x v:Int}(h:lawP a cs sv bk S ns=Sa v):costI (Wk a) cs [x] (λ_=>ns) sv bk=v:=by
 unfold lawP lawC at h;split at h
 .cases h
 .unfold costI;rw[qO5];show bB h
theorem qLa{sv bk v:Int}(d:∀w∈S,w∈c)(h:lawP b cs sv bk c ns=Sa v):lawP b cs sv bk S ns=Sa v:=by
 grind[lawP,lawC]
def Lst(ws:List (List Blk))(n:Nat)(wk:List Blk)(x:Int)(x':List Int):Prop:=Rise x'/\(∀y,BusyP ws n wk x y->y∈x')/\∀y∈x',0<=y/\y<(wk.length:Int)
structure LeastV(ws:List (List Blk))(n:Nat)(wk:List Blk)(x:Int)(S:List Wy)(cs:List Int)(sv bk v:Int):Prop where
 has:∃x',Lst ws n wk x x'/\lawP wk cs sv bk S x'=Sa v
 le:∀x',Lst ws n wk x x'->∀u,lawP wk cs sv bk S x'=Sa u->v<=u
theorem LeastV.same{v c:Int}(h:LeastV ws n wk x S cs save back v)(h':LeastV ws n wk x S cs save back c):v=c:=by
 let⟨a,d,e⟩:=h.has;let⟨b,f,g⟩:=h'.has;let:=h.le b f c g;let:=h'.le a d v e;lia
theorem LeastV.more{v a:Int}(d:∀w∈S,w∈c)(h:LeastV ws n wk x S cs save back v)(h':LeastV ws n wk x c cs save back a):v<=a:=by
 let⟨b,e,f⟩:=h'.has;show h.le b e a (qLa d f)
theorem qWs{m i:Int}(j:WorkOk m i wk)(M:1<=m)(N:∀v∈S,v∈Wk wk)(O:∀n∈cs,0<=n)(D:0<=save)(E:0<=back)(G:NoWay (nby (ties S)) (BusyP ws n wk x) (Tg wk)){val:Int}(H:(FF wk (cntW (Wk wk) cs) save back S).Ok f)(P:(FF wk (cntW (Wk wk) cs) save back S).Val f (BusyP ws n wk x) (Tg wk) val)(Q:NoWay ((FF wk (cntW (Wk wk) cs) save back S).nx f) (BusyP ws n wk x) (Tg wk))(I:Rise ns)(d:∀y,y∈ns ↔ ∃s,BusyP ws n wk x s/\Reach ((FF wk (cntW (Wk wk) cs) save back S).nx f) s y):Lst ws n wk x ns/\lawP wk cs save back S ns=Sa val/\LeastV ws n wk x S cs save back val:=by
 let p:=vz j M;let J:=qOt (W:=Wk wk) (c:=cntW (Wk wk) cs) (S:=S) (λw _=>qIa O w) D E;let q:=vA (kJ (F:=FF wk (cntW (Wk wk) cs) save back S) (f:=f) p)
 let g:Lst ws n wk x ns:=⟨I,λy K=>(d y).mpr ⟨y,K,.refl⟩,λy K=>by
  let⟨s,o,r⟩:=(d y).mp K;let R:=uq q (show s∈univ wk.length by let:=xT j o;rw[xh];lia) r;let T:=Q s o y r;rw[xh]at R;unfold Tg at T
  lia⟩
 let k:∀{e:List Int},Lst ws n wk x e->∀t,Tg wk t->inB e t=Sd:=λ{e}h t U=>by
  show decide_eq_false λz=>?_;let:=h.2.2 t z;unfold Tg at U;lia
 let l:∀{e:List Int},Lst ws n wk x e->∀s,BusyP ws n wk x s->inB e s=Sc:=λ{e}h s o=>decide_eq_true (h.2.1 s o);let A:vt ((FF wk (cntW (Wk wk) cs) save back S).nx f) (inB ns):=λa b V X=>by
  let⟨s,o,r⟩:=(d a).mp (of_decide_eq_true V);show decide_eq_true ((d b).mpr ⟨s,o,.step r X⟩)
 let⟨Z,B,v0,L⟩:=qVi (cs:=cs) (save:=save) (back:=back) j M N G;let key:∀{e:List Int},Lst ws n wk x e->(∀v,lawP wk cs save back S e=Sa v->val<=v)/\(lawP wk cs save back S e=Sa val↔vt ((FF wk (cntW (Wk wk) cs) save back S).nx f) (inB e)):=λ{e}h=>
  wAp H J P L (l B) (k B) (l g) (k g) A (l h) (k h)
 let C:=(key g).2.mpr A;show⟨g,C,⟨ns,g,C⟩,λe h u Y=>(key h).1 u Y⟩
def qXm(K:SH):Sp:=λvs H Q _ => ∃(wa d:Sf) (wk:List Blk) (m works:Int) (bs:List Int) (as:List Sf) (f:Int->List Int),vs = [.ref wa,.ref d]/\Den K H (workD wk) (.ref wa)/\WorkOk m works wk/\m<=12/\PlanAt H d bs as (bs.map f)/\bs.Nodup/\bs.length<=2 /\
 ∀(l:Sf)(us:List V)(ks:List K4)(H':Hp),H l=Sb->Ext [] H H'->H' l=Sa (.lst us)->RowsI K H' us ks->ks.Perm (rowsL (zU wk wk.length) bs f)->ks.Pairwise (λa b=>lt4 b a=Sd)->Q (.ref l) H'
def qR2(K:SH):Sp:=λvs H Q _ => ∃(wa d lc pr:Sf) (wk:List Blk) (m works:Int) (bs:List Int) (as:List Sf) (f:Int->List Int) (ns:List Int) (sv bk:Int),vs = [.ref wa,.ref d,.ref lc,.ref pr]/\Den K H (workD wk) (.ref wa)/\WorkOk m works wk/\m<=12/\PlanAt H d bs as (bs.map f)/\bs.Nodup/\bs.length<=2 /\
 SqL K H lc (ns.map V.int)/\ns.length=(zU wk wk.length).length/\SqT K H pr [.int sv,.int bk]/\(-(2^63)<=sv/\sv<=2^63)/\(-(2^63)<=bk/\bk<=2^63)/\∀H',Ext [] H H'->Q (.int (costI (zU wk wk.length) ns bs f sv bk)) H'
def qR0(K:SH):Sp:=λvs H Q _ => ∃(wa cl pr sl:Sf) (n:Nat) (x:Int) (ws:List (List Blk)) (wk:List Blk) (S:List Wy) (cs:List Int) (save back:Int),vs = [.ref wa,.int n,.int x,.ref cl,.ref pr,.ref sl]/\FIn K H wa n sl ws wk S/\SqL K H cl (cs.map V.int)/\cs.length=(Wk wk).length/\(∀n∈cs,0<=n)/\SqT K H pr [.int save,.int back]/\0<=save/\save<=10^6/\0<=back/\back<=10^6 /\
 ((∀x',Lst ws n wk x x'->lawP wk cs save back S x'=Sb)->∀H',Ext [] H H'->Q .non H')/\(∀v,LeastV ws n wk x S cs save back v->∀H',Ext [] H H'->Q (.int v) H')
theorem ninDK(K:SH)(a:X.K=K){k:Nat}(b:Room k X.A):OpR X (SB .NotIn) (rNinD K):=a▸qZt b
end L2
end
set_option maxHeartbeats 4000000
local macro_rules | `(tactic| walk_at "qa") => `(tactic| first | refine L2.r_op ?_ | refine L2.uS ?_ | (refine L2.l10 ?_;intro S_) | refine L2.wCm ?_ | refine L2.jE ?_ | refine L2.xb ?_)
local macro_rules | `(tactic| walk_at "qz") => `(tactic| first | refine L2.jF ?_ | refine L2.wCk ?_ | refine L2.ye ?_ | refine L2.jG ?_ | refine L2.wD ?_ | refine L2.vV ?_ | refine L2.jH ?_ | refine L2.jI ?_ | refine L2.jJ ?_ | refine L2.wCt ?_ | refine L2.jK ?_ | refine L2.wCi ?_ | refine L2.r_u ?_ | refine L2.uT ?_ | refine L2.wCp ?_ | refine L2.jL ?_ | refine L2.jM ?_ | refine L2.r_c ?_ | refine L2.wCr ?_ | refine L2.wBh ?_ | refine L2.jN ?_ | refine L2.uW ?_ | refine L2.vX ?_ | refine L2.jO ?_ | refine L2.jP ?_ | refine L2.jQ ?_ | refine L2.jR ?_ | (refine L2.h10 ?_;intro TB_ hTB_;refine L2.e10 ?_) | refine L2.jT ?_ | refine L2.jU ?_ | refine L2.jV ?_ | refine L2.jW ?_ | refine L2.jX ?_ | refine L2.wc ?_ | refine L2.jY ?_ | refine L2.jZ ?_ | refine L2.ja ?_ | refine L2.vY ?_ | refine L2.vZ ?_ | refine L2.wCl ?_ | refine L2.jb ?_ | refine L2.jc ?_ | refine L2.yd (by with_unfolding_all rfl) ?_ | refine L2.za (by assumption) (by with_unfolding_all rfl) ?_ | refine L2.zo (by assumption) (by with_unfolding_all rfl) ?_)
local macro_rules | `(tactic| walk_at "qb") => `(tactic| first | walk_at "qz")
local macro_rules | `(tactic| walk_at "rd") => `(tactic| repeat (with_reducible first | refine L2.wBb ?_ | walk_at "qa" | refine L2.zk (by assumption) ?_ | refine L2.g10 (by assumption) ?_ | refine L2.uY (by assumption) ?_ | refine L2.wD8 ?_ | walk_at "qb"))
namespace Fs
open PySem L2
local macro_rules|`(tactic|k_in)=>`(tactic|(show iteT ?_;z_go))
local macro_rules|`(tactic|kj_on)=>`(tactic|(show⟨_,rfl,?_⟩))
local macro_rules|`(tactic|kt_k)=>`(tactic|(z_go;show yH ?_;z_go))
local macro_rules|`(tactic|cbv)=>`(tactic|(show iteF ?_))
local macro_rules|`(tactic|kt_le)=>`(tactic|(show iteT (iteT ?_);z_go))
local macro_rules|`(tactic|kl_no)=>`(tactic|(z_go;show xS ⋯ ⋯ ⋯ ?_;z_go))
local macro_rules|`(tactic|k_dec)=>`(tactic|(show⟨1,rfl,?_⟩;z_go))
local macro_rules|`(tactic|k_put)=>`(tactic|(z_go;show xK ⋯ ?_))
noncomputable def top(i:Nat):Sr:=PySem.Challenge.pw_fewsaves_k42_what_the_cheapest_costs.main.body.getD i (.Pass ⟨0,0,0,0⟩)
noncomputable abbrev sDraw:Sr:=top 34
theorem wA3(F:Fun K "_law_draw" "_law_draw" sDraw f l):FnOk P w K mg base CX0 1 f l ["_law_tape_here","_law_many"] yl:=by
 show F.go (N:=["_law_tape_here","_law_many","_law_found","_law_once","_law_twice"]) fsc ?_;rintro u A i s H L Q E M ⟨t,k,n,rfl,⟨a,b,c,j,m,d,e,v,x⟩,O,h,y,q⟩
 refine⟨_,zF (zm (zQ kS (zM zZ (pv 0) zE (λ_ _=>rfl)) zE (zO _))
   (zF (zL 2 (zK xU (zM zZ (pv 0) zE (λ_ _=>rfl)) (pv 1)))
   (zF (xA (zK oW (zM zZ (pv 0) zE (λ_ _=>rfl)) (pv 1)) (kQ (pv 0) zE QF))
   (zH (zN (pv 2))))) zx)
  (zF (xA (zK zu (zM zZ (pv 0) zE (λ_ _=>rfl)) zE) (kQ (pv 0) zE QF))
  (zF (zL 3 (zK xU (zK xV (zK zu (zM zZ (pv 0) zE (λ_ _=>rfl)) (zK xC zE (zM zZ (pv 0) zE (λ_ _=>rfl)))) zE) zE))
  (zF (zL 4 (zK xU (zK xC (zK zu (pv 3) (zM zZ (pv 0) zE (λ_ _=>rfl))) (zK zu (zK zu (zK xU (pv 3) zE) zE) (zM zZ (pv 0) zE (λ_ _=>rfl)))) zE))
  (zH (zN (zK xU (zK oW (zK xU (zK zu (zK xC (pv 4) zE) (pv 3)) zE) zE) (pv 1))))))),?_⟩
 dsimp only[zT];let R:SqL K H t [.int a,.int b,.int c]:=SqL.of j;z_go;show ite2 (λg=>?_) (λg=>?_)
 .z_go;show xK h ?_;z_go;show wBf h ∎ ?_;z_go;show Qw (n:=0) j rfl ?_;z_go;show q _ _ (hZ _ ∎) (fZ _ h) ⟨a / n,b,c,zB,Int.ediv_nonneg m ∎,d,e,v,∎⟩ .pt (λb d=>zD d)
 .z_go;show Qw (n:=2) j rfl ?_;let z:SqL K (upd H t (.lst ([V.int a,V.int b,V.int c].set 2 (.int (c+1))))) t [.int a,.int b,.int (c+1)]:=SqL.of zB;z_go;show ym (.inl ⟨⋯,⋯⟩) ?_;z_go;show xS ⋯ ⋯ ∎ ?_;k_put;generalize p:(b+39373*(c+1))^(5:Int).toNat%2147483647=o;let B:0<=o:=by rw[<-p];show hZ _ ⋯
  let C:o<2147483647:=by rw[<-p];show fZ _ ⋯
  k_put;let D:0<=o%40009:=hZ _ ⋯;let G:o%40009<40009:=fZ _ ⋯;z_go;show ym (.inl ⟨∎,∎⟩) ?_;k_put;generalize r:(o+(c+1))*(o%40009+7+(c+1))%2147483629=p2;let I:0<=p2:=by rw[<-r];show hZ _ ⋯
  let J:p2<2147483629:=by rw[<-r];show fZ _ ⋯
  z_go;show ym (.inl ⟨∎,∎⟩) ?_;k_put;z_go;show wBf ⋯ ⋯ ?_;z_go;show xK h ?_;show q _ _ (hZ _ ∎) (fZ _ h) ⟨a,b,c+1,zB,m,d,e,∎,∎⟩ .pt (λb d=>zD d)
noncomputable abbrev sTape:Sr:=top 33
noncomputable abbrev qRg:Sr:=top 36
theorem qZy(F:Fun K "_law_tape" "_law_tape" sTape f r)(i:mg "len"=Sb)(d:mg "abs"=Sb)(l:mg "int"=Sb):FnOk P w K mg base CX0 1 f r ["_law_script","_law_k"] (Qx K):=by
 show F.go (N:=["_law_script","_law_k","_law_cell"]) fsc ?_;rintro v A n s H y Q E z ⟨a,h,k,rfl,u,B,q⟩
 refine⟨_,zF (zL 2 (yh (zQ xj (pv 1) (zd yV (by rfl) i cV (zA (pv 0) zC)) (zO _)) (zM zZ (pv 0) (pv 1) (λ_ _=>rfl)) zE))
  (zH (zN (zW (zA (zK xC (zd oh (by rfl) d PyProof.Rows.boot_abs (zA (pv 2) zC)) (yK wR (by rfl) l fJ (zA (yJ wD1 (zd oh (by rfl) d PyProof.Rows.boot_abs (zA (pv 2) zC)) (zK xV zE zE) (zO _)) zC)))
   (zA (zK zu (zK zu (zK xU (pv 2) zE) (zK xC zE (pv 1))) zE) (zA zE zC)))))),?_⟩
 dsimp only[zT];let key:∀c:Int,0<=(if c<0 then -c else c):=λc=>by grind
 z_go;show⟨a,_,rfl,.inl u,?_⟩;z_go;by_cases g:(k:Int)<((h.map V.int).length:Int)
 .rw [decide_eq_true g];show iteT ?_;rw[aB]at g;let x:k<h.length:=by lia
  let p:atI (h.map V.int) (k:Int)=Sa (.int h[k]):=by
   grind[zf]
  z_go;show za u p ?_;generalize h[k]=c;z_go;kj_on;z_go;kj_on;kl_no;show .inr ⟨_,rfl,?_⟩;show ym (.inr ⟨by grind,by grind⟩) ?_;k_put;z_go;show ym (.inl ⟨⋯,⋯⟩) ?_;z_go;show⟨len2 ∅,λt m=>q t _ m ⟨_,_,_,zB,?_,?_,?_,⋯,⋯⟩ λb o e=>?_⟩
  .grind
  .grind
  .grind
  grind[zD]
 .rw [decide_eq_false g];cbv;z_go;kj_on;z_go;kj_on;kl_no;show .inr ⟨_,rfl,?_⟩;show ym (.inr ⟨∅,∅⟩) ?_;k_put;z_go;show ym (.inl ⟨⋯,⋯⟩) ?_;z_go;show⟨len2 ∅,λt m=>q t _ m ⟨_,_,_,zB,?_,?_,?_,⋯,⋯⟩ λb o e=>?_⟩
  .simp
  .grind
  .grind
  grind[zD]
theorem qT5{g:FuncData}(F:Fun K "_law_number" "_law_number" qRg f g)(b:Has P w K mg base "_law_draw" 1 ["_law_tape_here","_law_many"] yl):FnOk P w K mg base CX0 2 f g ["_law_tape_here"] Qy:=by
 show F.go (N:=["_law_tape_here"]) fsc ?_;rintro j A c s H J Q E d ⟨t,k,rfl,hT,L,q⟩
 refine⟨_,zH (zN (zM zZ (zW (zA zE (zA zE (zA (xB xD zE) (zA zE (zA (zK xV zE zE) (zA (zK vJ zE (zK xV zE zE))
  (zA (zK vJ (zI b d (aI _) (zA (pv 0) (zA zE zC))) zE) (zA (zI b d (aI _) (zA (pv 0) (zA (zK xV zE zE) zC))) zC)))))))))
  (zI b d (aI _) (zA (pv 0) (zA zE zC))) (λ_ _=>rfl))),?_⟩
 dsimp only[zT];kl_no;show xS ⋯ ⋯ ⋯ ?_;z_go;show zj hT ∎ ⋯ ⋯ λM O R S l m _=>?_;kl_no;show zj l ∎ ⋯ ⋯ λn T U o i r _=>?_;let u:n<1000000:=o;z_go;show⟨len2 (by change 8<=1000;decide),λp e=>?_⟩;let v:p≠t:=i.ne e;z_go;show zj (i.ext (.laid (ts:=[]) e) ∅) ∎ ⋯ ⋯ λa x V W y z B=>?_;let C:Ext [t] H x:=(m.trans r).trans ((Ext.laid e).trans z);let D:=SqL.of (K:=K) ((B p v).trans zB)
 let X:(10:Int)^(12:Int).toNat=1000000000000:=by decide
 let G:-((10:Int)^12) = -1000000000000:=by decide
 let I:((10:Int)^12)=1000000000000:=by decide
 rw[G,I]at q;obtain h|h|h|h|h|h|h|h:a=0\/a=1\/a=2\/a=3\/a=4\/a=5\/a=6\/a=7:=by lia
 all_goals
  subst h;show za D rfl (q _ _ ?_ ?_ y C)
 all_goals first|decide|lia
theorem qPr{D:Ends}{σ:St}{k:Hp}{l d p:Sf}{vs:List V}{kvs:List (Key×V)}{ns:List Int}(S:σ[2]? = Sa (Sa (.ref l)))(T:σ[3]? = Sa (Sa (.ref d)))(N:σ[7]? = Sa (Sa (.ref p)))(B:k l=Sa (.lst vs))(hd:k d=Sa (.dK kvs))(O:k p=Sa (.lst (ns.map V.int)))(hz:vs.length<1000)(U:kvs.length<=900)(hn:ns.length<=2)(C:p≠l)(q:∀f i,f l=Sa (.lst (vs++[.ref p]))->f d=Sa (.dK i)->i.length<=kvs.length+2->Ext [l,d] k f->D.nx σ f):tSeq (tDrop (tBM K "list" uJ (tVar 2) (tCons (tVar 7) tNil))) (tDrop (tBM K "dict" Qu (tVar 3) (tCons (tComp ["_law_one"] [] (.lst []) (iList K (tVar 7)) (gName 0) [] (eApp (tTup (tCons (tVar 0) (tCons (tC (.bl Sc)) tNil))))) tNil))) D σ k:=by
 let v:l≠d:=yY B hd (by intro z;cases z);let W:p≠d:=yY O hd (by intro z;cases z);show wBb (jE (wBh (yd S (yB B (vV (yd N (wD (yO B (zV ∎) ?_))))))));generalize g:upd k l (.lst (vs++[.ref p]))=f;let P:f l=Sa (.lst (vs++[.ref p])):=by rw[<-g,zB]
 let E:f d=Sa (.dK kvs):=by rw[<-g,zD v.symm];show hd
 let F:f p=Sa (.lst (ns.map V.int)):=by rw[<-g,zD C];show O
 let X:Ext [l,d] k f:=by rw[<-g];show .put ∅
 refine jE (wBh (yd T (wCj E (vV (uW (vX (yd N ⟨p,rfl,⟨_,SqL.of F⟩,λm c=>?_⟩)))))));let G:p≠m:=zG F c;refine zr (xs:=ns.map V.int) (λj h t=>(∃o,h = [o])/\Ext [m] f t /\ ∃a,t m=Sa (.lst a)/\PairsAt t a ((ns.take j).map λn=>((Sum.inl n:Key),V.bl Sc)))
  ⟨⟨Sb,rfl⟩,.laid c,[],zB,.nil⟩ (λj h t _ ⟨_,e,_⟩=>SqL.of (e _ _ (by simpa using G) F)) ?_ ?_
 .rintro j x h t R w ⟨⟨o,rfl⟩,e,a,y,u⟩ Y;obtain⟨n,H,rfl⟩:∃n,ns[j]? = Sa n/\x=V.int n:=by
   rw[bA]at w;cases z:ns[j]? with
   |none=>rw[z]at w;cases w
   |some n=>rw[z]at w;show⟨n,rfl,(bB w).symm⟩
  z_go;k_in;show⟨len2 (by change 2<=1000;decide),λI r=>?_⟩;let A:m≠I:=zG y r;let Q:a.length<=2:=by
   let:=dN u;rw[aB,aV]at this;lia
  show⟨a,by rw[zD A];show y,zV ∎,Y _ _ ⟨⟨_,rfl⟩,?_,a++[.ref I],zB,?_⟩⟩
  .exact e.trans ((Ext.laid r).trans .pt)
  .let Z:(ns.take (j+1))=ns.take j++[n]:=by rw[eO,H];rfl
   rw[Z,aH];show Paired.snoc (PairsAt.mono (λb ys e=>?_) u) ⟨I,rfl,?_⟩
   .rw [zD (yY e y (by intro z;cases z)),zD (zG e r)];show e
   .rw [zD A.symm,zB];rfl
 .rintro h t ⟨_,e,a,y,u⟩;rw[aB,aZ]at u;let J:d≠m:=zG E c;let L:l≠m:=zG P c;let s:=dN u;rw[aB]at s;show wD ⟨d,m,kvs,a,_,rfl,rfl,e _ _ (by simpa using J) E,y,u,len2 (by rw[aB];lia),?_⟩;let M:=kj (ns.map λn=>((Sum.inl n:Key),V.bl Sc)) kvs;rw[aB]at M;show q _ _ (by rw[zD v];show e _ _ (by simpa using L) P) zB ∎ ?_;show X.trans (((e.drop c).mo).trans .pt)
noncomputable abbrev oC:Sr:=top 35
theorem scNexts:FnScope ["_law_tape_here","_law_many","_law_found","_law_led","_law_k","_law_way","_law_other","_law_some"] ["_law_tape_here","_law_many"] (zq oC):=fsc
theorem qWa(F:Fun K "_law_nexts" "_law_nexts" oC f fd)(B:mg "range"=Sb)(a6:mg "max"=Sb)(hD:Has P w K mg base "_law_draw" 1 ["_law_tape_here","_law_many"] yl):FnOk P w K mg base CX0 2 f fd ["_law_tape_here","_law_many"] (qQy K):=by
 show F.go scNexts ?_;rintro c4 A b6 s H C Q E hr ⟨t,k,m,rfl,hT,hk,c5,c6,q⟩;let hu:=zn hr
 refine⟨_,zF (vG (i:=2) (j:=3) rfl scNexts.nd rfl rfl ⋯ rfl rfl (zA (zW zC) (zA kg zC)) rfl)
  (zF (zy bJ rfl (xO rfl B (zA (pv 1) zC)) (zJ 4)
   (zF (zL 5 (zI hD hr (aI _) (zA (pv 0) (zA zE zC))))
   (zF (zL 6 (zK zu zE (zI hD hr (aI _) (zA (pv 0) (zA (zd (oj rfl) (by rfl) a6 PyProof.Rows.boot_max (zA zE (zA (zK vJ (pv 1) zE) zC))) zC)))))
   (zF (zL 7 (zM zZ (zW (zA (zW (zA (zK zu (pv 4) zE) (zA (pv 6) zC))) (zA (zW (zA (pv 6) (zA (zK zu (pv 4) zE) zC))) zC))) (zK xU (pv 5) zE) (λ_ _=>rfl)))
   (zF (zm (zQ yA (zK zu (pv 4) zE) (pv 1) (zO _))
     (zH (zL 7 (yh (yb (zQ yA (pv 5) zE (zO _)) (yg (zQ kS (pv 1) zE (zO _)))).pt (zW (zA (pv 6) zC)) (zW zC))))
     (zH (zm (yb (xr (QP hu (zK zu (pv 4) zE) (pv 3))) (yg (zQ xj (pv 5) zE (zO _)))).pt
      (zH (zL 7 (yh (zQ yA (pv 5) zE (zO _)) (zW (zA (pv 6) zC)) (zW zC))))
      (zH (zm (uC (zQ xj (pv 5) zE (zO _)) (uB (zQ yA (pv 6) (zK zu (pv 4) zE) (zO _)))).pt
       (zH (zL 7 (zW (zA (zK zu (pv 4) zE) zC)))) zx)))))
   (zF (yL (yN bD bX bY yi (pv 2) (zA (pv 7) zC)))
   (zH (yL (yN gH iS PySem.F.type_dict_update (qTi rfl) (pv 3)
    (zA (yE ["_law_one"] [] (ze (pv 7)) (λ_ _ _ _=>zJ 0) (λ_ _ _ _=>.nil) (λ_ _ _ _=>zg (zA (pv 0) (zA yZ zC)))) zC))))))))))
  (zH (zN (pv 2)))),?_⟩
 dsimp only[zT,zY];z_go;show⟨len2 (bG _),λl hl=>?_⟩;let D:l≠t:=hT.ne hl;z_go;show jS λd T=>?_;let G:l≠d:=λz=>by rw[<-z,zB]at T;cases T
 rw[zD G.symm]at T;let U:d≠t:=hT.ne T;z_go;show⟨_,_,rfl,?_⟩;z_go
 refine⟨m,rfl,∎,∎,we (lo:=0) (n:=m.toNat) (λi e o => ∃(nx:List (List Int)) (C:List V) (r:List (Key×V)) (I J L o7:Option V),e = [Sa (.ref t),Sa (.int m),Sa (.ref l),Sa (.ref d),I,J,L,o7]/\nx.length=i/\(∀ns∈nx,NsOk m ns) /\
  Tape o t (k+2*i)/\Ext [t] H o/\o l=Sa (.lst C)/\DenL K (yo H [t,l,d] o) (nx.map intsD) C/\o d=Sa (.dK r)/\r.length<=2*i) ?_ ?_ ?_⟩
 .refine⟨[],[],[],Sb,Sb,Sb,Sb,rfl,rfl,(λ_ h=>absurd h ∅),?_,?_,?_,.nil,zB,aI _⟩
  .exact (hT.ext (ts:=[]) ((Ext.laid hl).trans (.laid (by rw[zD G.symm];show T))) ∅).mono ∎
  .exact (Ext.laid hl).trans (.laid (by rw[zD G.symm];show T))
  .rw [zD G,zB]
 .rintro i e o hi ⟨nx,C,r,I,J,L,o7,rfl,W,X,Y,e',Z,b,a7,b7⟩ N_ B_ C_ R_ hN_ hC_ hR_;let c7:C.length=i:=by rw[b.len,aB,W]
  z_go;show zj Y ∎ ⋯ ⋯ λr1 H1 a1 b1 T1 e1 k1=>?_;z_go;show⟨_,_,rfl,?_⟩;z_go;show zj T1 ∎ (by split<;>lia) (by split<;>lia) λr2 v a2 b2 T2 e2 k2=>?_;let l2:v l=Sa (.lst C):=by rw[k2 l D,k1 l D];show Z
  let d2:v d=Sa (.dK r):=by rw[k2 d U,k1 d U];show a7
  let a8:DenL K (yo H [t,l,d] v) (nx.map intsD) C:=b.mono ((e1.trans e2).mo).young;z_go;show⟨len2 (by change 2<=1000;decide),λS a9=>?_⟩;z_go;show⟨len2 (by change 2<=1000;decide),λM N=>?_⟩;z_go;show⟨len2 (by change 2<=1000;decide),λp3 a0=>?_⟩;let a3:S≠M:=zG zB N;let b8:M≠p3:=zG zB a0;let b9:S≠p3:=zG (by rw[zD a3,zB]) a0;generalize O:upd (upd (upd v S (HO.lst [V.int (0 + ↑i+1),V.int (1+r2)])) M (HO.lst [V.int (1+r2),V.int (0 + ↑i+1)])) p3 (HO.lst [V.ref S,V.ref M])=H5;let b0:v M=Sb:=by rw[zD a3.symm]at N;show N
  let e5:Ext [] v H5:=by
   rw[<-O];show(Ext.laid a9).trans ((Ext.laid N).trans (.laid a0))
  let q1:H5 S=Sa (.lst ([0+(i:Int)+1,1+r2].map V.int)):=by rw[<-O,zD b9,zD a3,zB];rfl
  let q2:H5 M=Sa (.lst ([1+r2,0+(i:Int)+1].map V.int)):=by rw[<-O,zD b8,zB];rfl
  let q3:SqL K H5 p3 [V.ref S,V.ref M]:=SqL.of (by rw[<-O,zB]);let fr:∀p,v p=Sb->p≠t/\p≠l/\p≠d:=λp a=>⟨T2.ne a,(zG l2 a).symm,(zG d2 a).symm⟩;let c0:∀{ns},NsOk m ns->ns.length<=2:=by
   rintro ns (h|⟨x,h,_⟩|⟨x,y,h,_⟩)<;>subst h<;>simp
  let c8:1+r2<=1\/1+r2<=m-1:=by
   by_cases c:m-1>1
   .rw [if_pos c]at b2;lia
   .rw [if_neg c]at b2;lia
  let l5:=e5.k l2;let d5:=e5.k d2;obtain⟨p0,u,h0,c1,c2,c3⟩:∃p0 u,H5 p0=Sa (.lst (u.map V.int))/\v p0=Sb/\(u=[0+(i:Int)+1,1+r2]\/u=[1+r2,0+(i:Int)+1])/\atI [V.ref S,V.ref M] (r1%2)=Sa (.ref p0):=by
   let hm:=Int.emod_two_eq r1;rcases hm with c|c
   .exact⟨S,_,q1,a9,.inl rfl,by rw[c];rfl⟩
   .exact⟨M,_,q2,b0,.inr rfl,by rw[c];rfl⟩
  z_go;show xK ⋯ (za q3 c3 ?_)
  with_reducible refine yR ?_
  with_reducible refine wD6 (λe o=>∃(p:Sf)(ns:List Int)(I J L:Option V),e=[Sa (.ref t),Sa (.int m),Sa (.ref l),Sa (.ref d),I,J,L,Sa (.ref p)]/\Ext [] H5 o/\o p=Sa (.lst (ns.map V.int))/\v p=Sb/\NsOk m ns) ?_ λhC=>?_
  .rintro e H6 ⟨p,ns,I,J,L,rfl,e6,a,hn,R⟩;let⟨b3,a4,b4⟩:=fr p hn;show qPr (l:=l) (d:=d) (p:=p) (ns:=ns) rfl rfl rfl (e6.k l5) (e6.k d5) a ∎ ∎ (c0 R) a4 ?_;show λH7 b5 l7 d7 c9 e7=>hN_ _ _ ?_;let a5:Ext [l,d] v H7:=((e5.trans e6).mo).trans e7;show⟨nx++[ns],C++[.ref p],b5,_,_,_,_,rfl,by rw[aJ,W];rfl,λz hz=>?_,?_,?_,l7,?_,d7,∎⟩
   .rcases aL.mp hz with y|y
    .exact X z y
    .rw [aE.mp y];show R
   .exact (T2.ext a5 (by simp[D.symm,U.symm])).mono ∎
   .let E7:Ext [l,d,t] H H7:=(e'.mo).trans (((e1.trans e2).mo).trans (a5.mo));show(E7.drop hl).drop T
   .rw [aH];show DenL.append (a8.mono (a5.mo).young) (.cons (.list (SqL.of ?_) (DenL.ofInts ns)) .nil);rw[zi ((e'.trans (e1.trans e2)).none (by simpa using b3) hn) (by simp[b3,a4,b4])];show e7 _ _ (by simp[a4,b4]) a
  let new:∀(ns:List Int),NsOk m ns->∀(I J L:Option V)(p:Sf),H5 p=Sb->_:=λns R I J L p a=>hC _ _ ⟨p,ns,I,J,L,rfl,.laid a,zB,e5.no a,R⟩;let one:∀{x:Int},1<=x->x<m->NsOk m [x]:=λh h'=>.inr (.inl ⟨_,rfl,h,h'⟩);kt_k;show ite2 (λg=>?_) (λg=>?_)
  .let g:=of_decide_eq_true g;kt_k;show ite2 (λg2=>?_) (λg2=>?_)
   .z_go;show ite2 (λg3=>?_) (λg3=>?_)
    .let g3:=of_decide_eq_true g3;z_go;show⟨len2 (by change 1<=1000;decide),λp a=>yR (new [1+r2] (one ∎ ∎) _ _ _ p a)⟩
    .z_go;show⟨len2 (bG _),λp a=>yR (new [] (.inl rfl) _ _ _ p a)⟩
   .refine iteF ?_;z_go;show⟨len2 (bG _),λp a=>yR (new [] (.inl rfl) _ _ _ p a)⟩
  .let g:¬(0+(i:Int)+1=m):=λz=>g (decide_eq_true z);z_go;show⟨d,_,rfl,DGet.k (k:=Sum.inl _) d5,?_⟩;show ye ?_;show(λhE=>ite2 (λg2=>?_) (λg2=>iteF hE)) ?_
   .z_go;show ite2 (λg3=>?_) (λg3=>hE);kt_k;show ite2 (λg4=>?_) (λg4=>?_)
    .z_go;show⟨len2 (by change 1<=1000;decide),λp a=>yR (new [1+r2] (one ∎ ∎) _ _ _ p a)⟩
    .z_go;show⟨len2 (bG _),λp a=>yR (new [] (.inl rfl) _ _ _ p a)⟩
   z_go;show(λhE=>ite2 (λg5=>iteT hE) (λg5=>?_)) ?_
   .kt_k;show ite2 (λg6=>hE) (λg6=>?_);let g6:¬(1+r2=0+(i:Int)+1):=λz=>g6 (decide_eq_true z);show xb (hC _ _ ⟨p0,u,_,_,_,rfl,.refl _ _,h0,c1,?_⟩);rcases c2 with h|h
    .exact .inr (.inr ⟨_,_,h,∎,∎,∎,∎,∎⟩)
    .exact .inr (.inr ⟨_,_,h,∎,∎,∎,∎,∎⟩)
   z_go;show⟨len2 (by change 1<=1000;decide),λp a=>yR (new [0+(i:Int)+1] (one ∎ ∎) _ _ _ p a)⟩
 .rintro e o ⟨nx,C,r,I,J,L,o7,rfl,W,X,Y,e',Z,b,a7,b7⟩;z_go;show q l nx o hl (Y.mono ∎) e' ⟨∎,X⟩ (.list (SqL.of ?_) (b.mono (uR ∅)));rw[zi hl (by simpa using D)];show Z
noncomputable abbrev oD:Sr:=top 37
theorem scDeeds:FnScope ["_law_tape_here","_law_most","_law_boxes_here","_law_first","_law_works","_law_found","_law_turn","_law_way","_law_n","_law_box","_law_other","_law_called"] ["_law_tape_here","_law_most","_law_boxes_here","_law_first","_law_works"] (zq oD):=fsc
theorem qWh(F:Fun K "_law_deeds" "_law_deeds" oD f fd)(b0:mg "range"=Sb)(b4:mg "int"=Sb)(c0:mg "len"=Sb)(hD:Has P w K mg base "_law_draw" 1 ["_law_tape_here","_law_many"] yl)(hN:Has P w K mg base "_law_number" 2 ["_law_tape_here"] Qy):FnOk P w K mg base CX0 3 f fd ["_law_tape_here","_law_most","_law_boxes_here","_law_first","_law_works"] (iY K):=by
 show F.go scDeeds ?_;rintro g3 A d6 s H R Q E hr ⟨t,b,k,D,first,r,bs,rfl,hT,hk,d7,d8,g4,g5,g6,g7,hb,d9,hB,q⟩
 refine⟨_,zF (zL 5 (zW zC))
  (zF (zy bJ rfl (xO rfl b0 (zA (zI hD hr ⋯ (zA (pv 0) (zA (zK zu zE (zM zZ (zW (zA (pv 1) (zA zE zC))) (yK wR (by rfl) b4 fJ (zA (yJ yA (zI hD hr ⋯ (zA (pv 0) (zA zE zC))) zE (zO _)) zC)) (λ_ _=>rfl))) zC))) zC)) (zJ 6)
   (zF (vG (i:=7) (j:=8) rfl scDeeds.nd rfl rfl ⋯ rfl rfl (zA (zI hD hr ⋯ (zA (pv 0) (zA zE zC))) (zA (zI hN hr ⋯ (zA (pv 0) zC)) zC)) rfl)
   (zF (zL 9 (zM zZ (pv 2) (zI hD hr ⋯ (zA (pv 0) (zA (zd yV (by rfl) c0 cV (zA (pv 2) zC)) zC))) (λ_ _=>rfl)))
   (zF (zL 10 (zM zZ (pv 2) (zI hD hr ⋯ (zA (pv 0) (zA (zd yV (by rfl) c0 cV (zA (pv 2) zC)) zC))) (λ_ _=>rfl)))
   (zF (zL 11 (zM zZ (zW (zA (zK zu (zK zu (pv 3) zE) (zI hD hr ⋯ (zA (pv 0) (zA zE zC)))) (zA (zI hD hr ⋯ (zA (pv 0) (zA (pv 4) zC))) zC))) (yK wR (by rfl) b4 fJ (zA (yJ yA (zI hD hr ⋯ (zA (pv 0) (zA zE zC))) zE (zO _)) zC)) (λ_ _=>rfl)))
   (zH (zm (yb (zQ yA (pv 7) zE (zO _)) (yg (zQ xj (pv 11) (pv 4) (zO _)))).pt
    (zH (yL (yN bD bX bY yi (pv 5) (zA (zg (zA yI (zA (pv 11) zC))) zC))))
    (zH (yL (yN bD bX bY yi (pv 5) (zA (zM zZ (zW (zA (zg (zA yI (zA (pv 9) (zA (pv 8) zC)))) (zA (zg (zA yI (zA (pv 9) (zA (pv 10) zC)))) (zA (zg (zA yI (zA (pv 9) zC))) zC)))) (zK xU (pv 7) zE) (λ_ _=>rfl)) zC)))))))))))
  (zH (zN (pv 5)))),?_⟩
 dsimp only[zT,zY];z_go;show⟨len2 (bG _),λl hl=>?_⟩;let a4:l≠t:=hT.ne hl;let g8:l≠b:=(zG hb hl).symm;let T0:Tape (upd H l (.lst [])) t k:=hT.ext (ts:=[]) (.laid hl) ∅;z_go;show⟨len2 ∅,λp hp=>?_⟩;let c:p≠t:=T0.ne hp;let e:p≠l:=λz=>by grind[zB]
 z_go;show zj (T0.ext (ts:=[]) (.laid hp) ∅) ∎ ⋯ ⋯ λr1 H1 a1 b1 T1 e1 k1=>?_;kt_k;show .inr ⟨_,rfl,?_⟩;let e0:SqL K H1 p [V.int D,V.int 12]:=SqL.of (by grind[zB]);obtain⟨mo,f0,g9,h0⟩:∃mo:Int,atI [V.int D,V.int 12] (if decide (r1=0)=Sc then 1 else 0)=Sa (.int mo)/\0<=mo/\mo<=12:=by
  cases decide (r1=0)
  .exact⟨D,rfl,d7,d8⟩
  .exact⟨12,rfl,⋯,⋯⟩
 show za e0 f0 ?_;z_go;show zj T1 ∎ ∎ ∎ λr2 H2 a2 b2 T2 e2 k2=>?_;let l2:H2 l=Sa (.lst []):=by grind[zD,zB]
 let E2:Ext [t] H H2:=(Ext.laid hl).trans ((Ext.laid hp).trans (e1.trans e2));z_go
 refine⟨r2,rfl,∎,∎,we (lo:=0) (n:=r2.toNat) (λi c1 H' => ∃(ds:List Deed) (R:List V) (o6 o7 o8 o9 S T:Option V),c1 = [Sa (.ref t),Sa (.int D),Sa (.ref b),Sa (.int first),Sa (.int r),Sa (.ref l),o6,o7,o8,o9,S,T]/\ds.length=i/\(∀d∈ds,va r d) /\
  Tape H' t (k+2+10*i)/\Ext [t] H H'/\H' l=Sa (.lst R)/\DenEL (yo H [t,l] H') (ds.map deedD) R) ?_ ?_ ?_⟩
 .exact⟨[],[],Sb,Sb,Sb,Sb,Sb,Sb,rfl,rfl,(λ_ h=>absurd h ∅),T2.mono ∎,E2,l2,.nil⟩
 .rintro i c1 H' hi ⟨ds,R,o6,o7,o8,o9,S,T,rfl,c2,c3,c4,Z,c5,a0⟩ N_ B_ C_ R_ hN_ hC_ hR_;let h1:R.length=i:=by rw[a0.len,aB,c2]
  z_go;show zj c4 ∎ ⋯ ⋯ λr3 H3 a3 b3 T3 e3 _=>?_;z_go;show wCq T3 ∎ λn H4 n0 n1 T4 e4=>?_;z_go;show⟨_,_,rfl,?_⟩;let E4:Ext [t] H' H4:=e3.trans e4;let N:b∉[t]:=by grind
  let d1:l∉[t]:=by grind
  z_go;show⟨b,_,rfl,.inl (SqL.of (E4 _ _ N (Z _ _ N hb))),?_⟩;rw[aB];z_go;show zj T4 ∎ (by let:=hB.one;lia) (by let:=hB.few;lia) λr5 H5 a5 b5 T5 e5 _=>?_;let E5:Ext [t] H' H5:=E4.trans e5;let⟨M,d2,f1⟩:=wf (ns:=bs) a5 b5;show za (SqL.of (E5 _ _ N (Z _ _ N hb))) f1 ?_;z_go;show⟨b,_,rfl,.inl (SqL.of (E5 _ _ N (Z _ _ N hb))),?_⟩;rw[aB];z_go;show zj T5 ∎ (by grind) (by let:=hB.few;lia) λr6 H6 a6 b6 T6 e6 _=>?_;let E6:Ext [t] H' H6:=E5.trans e6;let⟨ox,d3,f4⟩:=wf (ns:=bs) a6 b6;show za (SqL.of (E6 _ _ N (Z _ _ N hb))) f4 ?_;z_go;show zj T6 ∎ ⋯ ⋯ λr7 H7 a7 b7 T7 e7 _=>?_
  z_go;show zj T7 ∎ ∎ ∎ λr8 H8 a8 b8 T8 e8 _=>?_;z_go;show⟨len2 ∅,λp1 c6=>?_⟩;let f5:p1≠t:=T8.ne c6;z_go;show zj (T8.ext (ts:=[]) (.laid c6) ∅) ∎ ⋯ ⋯ λr9 H9 a9 b9 T9 e9 k9=>?_;kt_k;show .inr ⟨_,rfl,?_⟩;let E9:Ext [t] H' H9:=(E6.trans (e7.trans e8)).trans ((Ext.laid c6).trans e9);let f6:SqL K H9 p1 [V.int (first+1+r7),V.int r8]:=SqL.of (by grind[zB]);obtain⟨ca,f7,f8⟩:∃ca:Int,atI [V.int (first+1+r7),V.int r8] (if decide (r9=0)=Sc then 1 else 0)=Sa (.int ca)/\0<=ca:=by
   cases decide (r9=0)
   .exact⟨_,rfl,∎⟩
   .exact⟨_,rfl,∎⟩
  refine za f6 f7 ?_;let l9:H9 l=Sa (.lst R):=E9 _ _ d1 c5;let U:∀(d:Deed) (H6:Hp) (p:Sf),va r d->Ext [] H9 H6->p≠t->p≠l->DenE (yo H [t,l] H6) (deedD d) (.ref p) -> ∀o6 o7 o8 o9 S T:Option V,∃(ds:List Deed) (d4:List V) (p6 p7 p8 p9 f9 g0:Option V),[Sa (V.ref t),Sa (.int D),Sa (.ref b),Sa (.int first),Sa (.int r),Sa (.ref l),o6,o7,o8,o9,S,T] = [Sa (V.ref t),Sa (.int D),Sa (.ref b),Sa (.int first),Sa (.int r),Sa (.ref l),p6,p7,p8,p9,f9,g0]/\ds.length=i+1/\(∀d∈ds,va r d) /\
    Tape (upd H6 l (.lst (R++[.ref p]))) t (k+2+10*(i+1))/\Ext [t] H (upd H6 l (.lst (R++[.ref p])))/\(upd H6 l (.lst (R++[.ref p]))) l=Sa (.lst d4)/\DenEL (yo H [t,l] (upd H6 l (.lst (R++[.ref p])))) (ds.map deedD) d4:=by
   intro d H6 p hd e6 c e c7 o6 o7 o8 o9 S T;let g1:Ext [l,t] H9 (upd H6 l (.lst (R++[.ref p]))):=(e6.mo).trans .pt;let d5:Ext [l,t] H' (upd H6 l (.lst (R++[.ref p]))):=(E9.mo).trans g1;show⟨ds++[d],R++[.ref p],o6,o7,o8,o9,S,T,rfl,by grind,λz hz=>?_,?_,?_,zB,?_⟩
   .grind
   .exact ((T9.ext e6 ∅).ext (ts:=[l]) .pt (by grind)).mono ∎
   .exact ((Z.mo).trans d5).drop hl
   .rw [aH];show DenEL.append (a0.mono (d5.mo).young) (.cons (c7.mono (Ext.put ∅).young) .nil)
  let sz:R.length<Sn:=zV ∎;kt_k;show ite2 (λg=>?_) (λg=>?_)
  .z_go;show ite2 (λg2=>?_) (λg2=>?_)
   .let g2:=of_decide_eq_true g2;z_go;show yB l9 ?_;z_go;show⟨len2 ∅,λp hp=>?_⟩;let c:=T9.ne hp;let a:=hp;let e:p≠l:=(zG l9 hp).symm;z_go;show yO (by grind[zD]) sz ?_;show L2.zk hN_ ?_;show U (.call ca) _ p ⟨f8,g2⟩ (.laid hp) c e (.tuple ?_ (.cons .str (.cons .int .nil))) _ _ _ _ _ _;rw[zi ((Z.trans E9).none (by grind) a) (by grind),zB]
   .z_go;show yB l9 ?_;z_go;show⟨len2 ∅,λC G=>?_⟩;z_go;show⟨len2 ∅,λu I=>?_⟩;z_go;show⟨len2 ∅,λx B=>?_⟩;z_go;show⟨len2 ∅,λs4 J=>?_⟩;let L:C≠u:=zG zB I;let W:C≠x:=zG (by rw[zD L,zB]) B;let X:u≠x:=zG zB B;let c8:C≠s4:=zG (by rw[zD W,zD L,zB]) J;let c9:u≠s4:=zG (by rw[zD X,zB]) J;let d0:x≠s4:=zG zB J;let f2:H9 u=Sb:=by grind[zD]
    let f3:H9 x=Sb:=by grind[zD]
    let E0:=(Ext.laid (ts:=[]) (o:=.tup [V.str "set",.int M,.int n]) G).trans ((Ext.laid (o:=.tup [V.str "add",.int M,.int ox]) I).trans ((Ext.laid (o:=.tup [V.str "tell",.int M]) B).trans (Ext.laid (o:=.lst [V.ref C,.ref u,.ref x]) J)));let Y:=E0.k l9;let m:=hB.all _ d2;let O:=hB.all _ d3;k_put;let h3:r3%3=0\/r3%3=1\/r3%3=2:=by lia
    let q4:SqL K (upd (upd (upd (upd H9 C (.tup [V.str "set",.int M,.int n])) u (.tup [V.str "add",.int M,.int ox])) x (.tup [V.str "tell",.int M])) s4 (.lst [V.ref C,.ref u,.ref x])) s4 [V.ref C,.ref u,.ref x]:=SqL.of zB;rcases h3 with h|h|h
    .grind
    .refine za (v:=V.ref u) q4 (by rw[h];rfl) ?_;z_go;let c:=T9.ne f2;let a:=f2;let e:u≠l:=(zG l9 f2).symm;show yO Y sz ?_;show L2.zk hN_ ?_;show U (.add M ox) _ u ⟨m.1,m.2,O.1,O.2⟩ E0 c e (.tuple ?_ (.cons .str (.cons .int (.cons .int .nil)))) _ _ _ _ _ _;rw[zi ((Z.trans E9).none (by grind) a) (by grind),zD c9,zD X,zB]
    grind
  .refine iteF ?_;z_go;show yB l9 ?_;z_go;show⟨len2 ∅,λC G=>?_⟩;z_go;show⟨len2 ∅,λu I=>?_⟩;z_go;show⟨len2 ∅,λx B=>?_⟩;z_go;show⟨len2 ∅,λs4 J=>?_⟩;let L:C≠u:=zG zB I;let W:C≠x:=zG (by rw[zD L,zB]) B;let X:u≠x:=zG zB B;let c8:C≠s4:=zG (by rw[zD W,zD L,zB]) J;let c9:u≠s4:=zG (by rw[zD X,zB]) J;let d0:x≠s4:=zG zB J;let f2:H9 u=Sb:=by grind[zD]
   let f3:H9 x=Sb:=by grind[zD]
   let E0:=(Ext.laid (ts:=[]) (o:=.tup [V.str "set",.int M,.int n]) G).trans ((Ext.laid (o:=.tup [V.str "add",.int M,.int ox]) I).trans ((Ext.laid (o:=.tup [V.str "tell",.int M]) B).trans (Ext.laid (o:=.lst [V.ref C,.ref u,.ref x]) J)));let Y:=E0.k l9;let m:=hB.all _ d2;let O:=hB.all _ d3;k_put;let h3:r3%3=0\/r3%3=1\/r3%3=2:=by lia
   let q4:SqL K (upd (upd (upd (upd H9 C (.tup [V.str "set",.int M,.int n])) u (.tup [V.str "add",.int M,.int ox])) x (.tup [V.str "tell",.int M])) s4 (.lst [V.ref C,.ref u,.ref x])) s4 [V.ref C,.ref u,.ref x]:=SqL.of zB;rcases h3 with h|h|h
   .refine za (v:=V.ref C) q4 (by rw[h];rfl) ?_;z_go;let c:=T9.ne G;let a:=G;let e:C≠l:=(zG l9 G).symm;show yO Y sz ?_;show L2.zk hN_ ?_;show U (.set M n) _ C ⟨m.1,m.2,n0,n1⟩ E0 c e (.tuple ?_ (.cons .str (.cons .int (.cons .int .nil)))) _ _ _ _ _ _;rw[zi ((Z.trans E9).none (by grind) a) (by grind),zD c8,zD W,zD L,zB]
   .refine za (v:=V.ref u) q4 (by rw[h];rfl) ?_;z_go;let c:=T9.ne f2;let a:=f2;let e:u≠l:=(zG l9 f2).symm;show yO Y sz ?_;show L2.zk hN_ ?_;show U (.add M ox) _ u ⟨m.1,m.2,O.1,O.2⟩ E0 c e (.tuple ?_ (.cons .str (.cons .int (.cons .int .nil)))) _ _ _ _ _ _;rw[zi ((Z.trans E9).none (by grind) a) (by grind),zD c9,zD X,zB]
   .refine za (v:=V.ref x) q4 (by rw[h];rfl) ?_;z_go;let c:=T9.ne f3;let a:=f3;let e:x≠l:=(zG l9 f3).symm;show yO Y sz ?_;show L2.zk hN_ ?_;show U (.tell M) _ x ⟨m.1,m.2⟩ E0 c e (.tuple ?_ (.cons .str (.cons .int .nil))) _ _ _ _ _ _;rw[zi ((Z.trans E9).none (by grind) a) (by grind),zD d0,zB]
 .rintro c1 H' ⟨ds,R,o6,o7,o8,o9,S,T,rfl,c2,c3,c4,Z,c5,a0⟩;z_go;show q l ds H' hl (c4.mono ∎) Z c3 ∎ (.list ?_ (a0.mono (uR ∅)));grind[zi]
noncomputable abbrev sWork:Sr:=top 38
theorem qZv(F:Fun K "_law_work" "_law_work" sWork f fd)(O:mg "range" = Sb)(c0:mg "list" = Sb)(b7:mg "len" = Sb)(hD:Has P w K mg base "_law_draw" 1 ["_law_tape_here","_law_many"] yl)
  (hX:Has P w K mg base "_law_nexts" 2 ["_law_tape_here","_law_many"] (qQy K)) (hE:Has P w K mg base "_law_deeds" 3 ["_law_tape_here","_law_most","_law_boxes_here","_law_first","_law_works"] (iY K)) :
  FnOk P w K mg base CX0 4 f fd ["_law_tape_here","_law_many","_law_most","_law_first","_law_works"] (qQu K):=by
 show F.go (N:=["_law_tape_here","_law_many","_law_most","_law_first","_law_works","_law_left","_law_size","_law_boxes_here","_law_found","_law_there","_law_end"]) fsc ?_;rintro h6 A d7 s H vs Q E hr ⟨t,k,m,v,first,d,rfl,hT,hk,m1,m2,d8,d9,e5,e8,e9,f0,q⟩
 refine⟨_,zF (zL 5 (yK (qJm hr.hd) (by rfl) c0 cP (zA (yK qN5 (by rfl) O PyProof.Rows.boot_range (zA zE zC)) zC)))
  (zF (zL 6 (zK zu zE (zI hD hr ⋯ (zA (pv 0) (zA (zM zZ (zW (zA zE (zA zE (zA zE zC)))) (zI hD hr ⋯ (zA (pv 0) (zA zE zC))) (λ_ _=>rfl)) zC)))))
  (zF (wE 7 ["_law_k"] [5,0] (xO rfl O (zA (pv 6) zC)) (λ_ _ _ _=>zJ 0) (λ_ _ _ _ =>.nil)
    (λ_ _ _ _=>wBu K rfl bD iA iB qWm (pv 1) (zA (zI hD hr ⋯ (zA (pv 2) (zA (zd (qWr K rfl) (by rfl) b7 cV (zA (pv 1) zC)) zC))) zC)))
  (zF (zL 8 (zW zC))
  (zF (zy bJ rfl (ze (zI hX hr ⋯ (zA (pv 0) (zA (pv 1) zC)))) (zJ 9)
   (zF (zL 10 (yh (zQ (uQ hr) (pv 9) (zW zC) (zO _)) (zg (zA yI zC)) (yh (zQ yA (zd yV (by rfl) b7 cV (zA (pv 9) zC)) zE (zO _))
     (zg (zA yI (zA (zM zZ (pv 9) zE (λ_ _=>rfl)) zC))) (zg (zA yI (zA (zM zZ (pv 9) zE (λ_ _=>rfl)) (zA (zM zZ (pv 9) zE (λ_ _=>rfl)) zC)))))))
   (zH (yL (yN bD bX bY yi (pv 8) (zA (zg (zA (zI hE hr ⋯ (zA (pv 0) (zA (pv 2) (zA (pv 7) (zA (pv 3) (zA (pv 4) zC)))))) (zA (pv 10) zC))) zC))))))
  (zH (zN (pv 8))))))),?_⟩
 dsimp only[zT,zY];z_go;show⟨8,rfl,λpr f1=>?_⟩;z_go;show⟨pr,8,rfl,zB,⋯,λg a9=>?_⟩;let f2:pr≠g:=zG zB a9;let b8:H g=Sb:=by rw[zD f2.symm]at a9;show a9
 let b0:g≠t:=hT.ne b8;let EG:=(Ext.laid (ts:=[]) (o:=.rng 0 8) f1).trans (.laid (o:=.lst (([0,1,2,3,4,5,6,7]:List Int).map V.int)) a9);generalize hG:upd (upd H pr (.rng 0 8)) g (.lst (([0,1,2,3,4,5,6,7]:List Int).map V.int))=G at EG;let c1:upd (upd H pr (.rng 0 8)) g (.lst ((List.range 8).map λ(i:Nat)=>V.int (i:Int)))=G:=hG;let lG:G g=Sa (.lst (([0,1,2,3,4,5,6,7]:List Int).map V.int)):=by rw[<-hG,zB]
 let TG:=hT.ext EG ∅
 first|rw[c1]|erw[c1]
 clear hG c1;z_go;show⟨len2 (by change 3<=1000;decide),λp Z=>?_⟩;let b4:p≠t:=TG.ne Z;let S:p≠g:=(zG lG Z).symm;z_go;show zj (TG.ext (ts:=[]) (.laid Z) ∅) ∎ ⋯ ⋯ λr1 H1 a1 b1 T1 e1 k1=>?_;let f3:SqL K H1 p (([3,3,8]:List Int).map V.int):=SqL.of (by rw[k1 p b4,zB];rfl);let⟨n8,f4,f5⟩:=wf (ns:=[3,3,8]) a1 b1;let h4:3<=n8/\n8<=8:=by
  simp only[aN,cS,or_false]at f4;lia
 show za f3 f5 ?_;z_go;show zj T1 ∎ ∎ ∎ λr2 H2 a2 b2 T2 e2 k2=>?_;let l2:H2 g=Sa (.lst (([0,1,2,3,4,5,6,7]:List Int).map V.int)):=by rw[k2 g b0,k1 g b0,zD S.symm];show lG
 let E2:Ext [t] H H2:=(EG.mo).trans ((Ext.laid Z).trans (e1.trans e2));z_go;show⟨1+r2,rfl,∎,∎,λC T=>?_⟩;let U:C≠t:=T2.ne T;let c2:C≠g:=(zG l2 T).symm;show uU (lo:=0) (n:=(1+r2).toNat) (λi J r=>∃(o:Option V)(left bs:List Int),J=[o,Sa (.ref g),Sa (.ref t)]/\left.length+i=8/\bs.length=i/\(∀b∈left,0<=b/\b<8)/\(∀b∈bs,0<=b/\b<8)/\r g=Sa (.lst (left.map V.int))/\r C=Sa (.lst (bs.map V.int))/\Tape r t (k+2+i)/\Ext [t] H r) ?_ ?_ ?_
 .refine⟨Sb,[0,1,2,3,4,5,6,7],[],rfl,rfl,rfl,⋯,(λ_ h=>absurd h ∅),?_,zB,?_,E2.trans (.laid T)⟩
  .rw [zD c2.symm];show l2
  .exact T2.ext (ts:=[]) (.laid T) ∅
 .rintro i J r R hi ⟨o,left,bs,rfl,f6,c4,M,c3,hL,b5,T',E'⟩ hR;z_go;k_in;show yB hL ?_;z_go;show⟨g,_,rfl,.inl (SqL.of hL),?_⟩;rw[aB];z_go;show zj T' ∎ ∎ ∎ λr3 H3 a3 b3 T3 e3 k3=>?_;let l3:H3 g=Sa (.lst (left.map V.int)):=by rw[k3 g b0];show hL
  let f7:H3 C=Sa (.lst (bs.map V.int)):=by rw[k3 C U];show b5
  let⟨j,rfl⟩:=dZ a3;let hj:j<left.length:=by lia
  z_go;show⟨g,left.map V.int,(j:Int),j,V.int left[j],rfl,rfl,l3,∎,∎,?_,by rw[bA,aF hj];rfl,?_⟩
  .rw [aB];show wB5 hj
  .refine⟨bs.map V.int,by rw[zD c2];show f7,zV (by rw[aB];lia),hR _ _ ?_⟩;let c5:left[j]∈left:=fV hj;show⟨_,left.eraseIdx j,bs++[left[j]],rfl,?_,?_,λb hb=>M b (List.mem_of_mem_eraseIdx hb),λb hb=>?_,?_,?_,?_,?_⟩
   .rw [List.length_eraseIdx,if_pos hj];lia
   .rw [aJ,c4];rfl
   .rcases aL.mp hb with y|y
    .exact c3 b y
    .rw [aE.mp y];show M _ c5
   .rw [zD c2.symm,zB,qL2]
   .rw [zB,aH];rfl
   .exact ((T3.ext (ts:=[g]) .pt (by simpa using b0.symm)).ext (ts:=[C]) .pt (by simpa using U.symm)).mono ∎
   .let c6:H C=Sb:=by
     cases z:H C with
     |none=>rfl
     |some o=>rw[E2 _ _ (by simpa using U) z]at T;cases T
    let E4:Ext [g,C,t] H (upd (upd H3 g (.lst ((left.map V.int).eraseIdx j))) C (.lst (bs.map V.int++[V.int left[j]]))):=(E'.mo).trans ((e3.mo).trans ((Ext.put ∅).trans .pt));show(E4.drop b8).drop c6
 .rintro J H3 ⟨o,left,bs,rfl,f6,c4,M,c3,hL,b5,T3,E3⟩;let hB:BsOk bs:=⟨∎,∎,c3⟩;z_go;show⟨len2 (bG _),λl hl=>?_⟩;let a0:l≠t:=T3.ne hl;let c7:l≠C:=(zG b5 hl).symm;let c8:H l=Sb:=E3.none (by simpa using a0) hl;z_go;show⟨t,_,m,rfl,T3.ext (ts:=[]) (.laid hl) ∅,∎,m1,m2,λnl nx H4 f8 T4 e4 c9 f9=>?_⟩;let⟨a,vs,ea,g0,d0⟩:=f9.ofList;cases ea;let h7:nl≠l:=(zG zB f8).symm;let d1:=d0.len;rw[aB]at d1;let h8:(nx.length:Int)=m:=c9.1;let l4:H4 l=Sa (.lst []):=e4 _ _ (by simpa using a0) zB;let E4:Ext [t] H H4:=E3.trans ((Ext.laid hl).trans e4);let a4:Same (yo (upd H3 l (.lst [])) [t] H4) (yo (upd H3 l (.lst [])) [l,t] H4):=Qv (H0:=H) (by simp[zB])
  let b9:=Same.seq a4 g0;let d2:=d0.mono a4;let g1:H4 C=Sa (.lst (bs.map V.int)):=e4 _ _ (by simpa using U) (by rw[zD c7.symm];show b5)
  refine⟨nl,rfl,⟨vs,yo_same.seq b9⟩,yw (xs:=vs) (λi J r => ∃(Y:List Blk) (W:List V) (o9 u:Option V),J = [Sa (.ref t),Sa (.int m),Sa (.int v),Sa (.int first),Sa (.int d),Sa (.ref g),Sa (.int (1+r2)),Sa (.ref C),Sa (.ref l),o9,u]/\Y.length=i /\
   (∀b∈Y,BlkOk m d b/\b.ds.length<=12)/\Tape r t (k+45+140*i)/\Ext [l,t] H4 r/\r l=Sa (.lst W)/\DenEL (yo H [l,t] r) (Y.map blkD) W) ?_ ?_ ?_ ?_⟩
  .exact⟨[],[],Sb,Sb,rfl,rfl,(λ_ h=>absurd h ∅),T4.mono ∎,.refl _ _,l4,.nil⟩
  .rintro i J r hi ⟨Y,W,o9,u,rfl,b6,a5,T',e',a6,L⟩;show yo_same.seq (Same.seq e'.young b9)
  .rintro i x J r hx ⟨Y,W,o9,u,rfl,b6,a5,T',e',a6,L⟩ N_ B_ C_ R_ hN_ hC_ hR_;let⟨dd,g2,g3⟩:=d2.get hx;let hi:i<vs.length:=(aD.mp hx).1;let⟨ns,g4,rfl⟩:=zX g2;let d3:NsOk m ns:=c9.2 ns (aK g4);let⟨c,zs,rfl,hc,g5⟩:=g3.ofList;let g6:=g5.ints;subst g6;let h5:W.length=i:=by rw[L.len,aB,b6]
   let g7:SqL K r c (ns.map V.int):=yo_same.seq (Same.seq e'.young hc)
   let a7:∀(I:Sf) (H6:Hp),Ext [] r H6->r I=Sb->DenE (yo H [l,t] H6) (endD ns) (.ref I) -> ∀D:Ends,(∀(X:Hp) (o9 u:Option V),(∃(Y:List Blk) (W:List V) (p9 g8:Option V),[Sa (V.ref t),Sa (.int m),Sa (.int v),Sa (.int first),Sa (.int d),Sa (.ref g),Sa (.int (1+r2)),Sa (.ref C),Sa (.ref l),o9,u] = [Sa (.ref t),Sa (.int m),Sa (.int v),Sa (.int first),Sa (.int d),Sa (.ref g),Sa (.int (1+r2)),Sa (.ref C),Sa (.ref l),p9,g8]/\Y.length=i+1 /\
     (∀b∈Y,BlkOk m d b/\b.ds.length<=12)/\Tape X t (k+45+140*(i+1))/\Ext [l,t] H4 X/\X l=Sa (.lst W)/\DenEL (yo H [l,t] X) (Y.map blkD) W)->D.nx [Sa (V.ref t),Sa (.int m),Sa (.int v),Sa (.int first),Sa (.int d),Sa (.ref g),Sa (.int (1+r2)),Sa (.ref C),Sa (.ref l),o9,u] X)->
     tDrop (tBM K "list" uJ (tVar 8) (tCons (tTup (tCons (tCall (iY K) [] E0 (tCons (tVar 0) (tCons (tVar 2) (tCons (tVar 7) (tCons (tVar 3) (tCons (tVar 4) tNil)))))) (tCons (tVar 10) tNil))) tNil)) D [Sa (V.ref t),Sa (.int m),Sa (.int v),Sa (.int first),Sa (.int d),Sa (.ref g),Sa (.int (1+r2)),Sa (.ref C),Sa (.ref l),Sa (.ref c),Sa (.ref I)] H6:=by
    intro I H6 e6 B g9 D hD;let l6:=e6.k a6;z_go;show yB l6 ?_;z_go;show⟨t,C,_,v,first,d,bs,rfl,T'.ext e6 ∅,∎,d8,d9,e5,e8,e9,f0,e6.k (e' _ _ (by simp[U,c7.symm]) g1),U,hB,λdl ds X h0 T7 e7 h1 d4 h2=>?_⟩;let l7:=e7 _ _ (by simpa using a0) l6;let h9:dl≠l:=(zG l6 h0).symm;let EH:Ext [l,t] H H6:=(E4.mo).trans (e'.trans (e6.mo));let d5:DenE (yo H [l,t] X) (.list (ds.map deedD)) (.ref dl):=(h2.mono (Qv (H0:=H) (us:=[l,t]) (by simp[l6]))).mono (qVa EH ∅);z_go;show⟨len2 (by change 2<=1000;decide),λp Z=>?_⟩;let S:p≠l:=(zG l7 Z).symm;let b4:p≠t:=T7.ne Z;z_go;show yO (by rw[zD S.symm];show l7) (zV ∎) ?_
    show hD _ _ _ ⟨Y++[⟨ds,ns⟩],W++[.ref p],_,_,rfl,by rw[aJ,b6];rfl,λb hb=>?_,?_,?_,zB,?_⟩
    .rcases aL.mp hb with y|y
     .exact a5 b y
     .rw [aE.mp y];show⟨⟨d3,h1,cA d4 ⋯⟩,d4⟩
    .exact ((T7.ext (ts:=[]) (.laid Z) ∅).ext (ts:=[l]) .pt (by simpa using a0.symm)).mono ∎
    .exact e'.trans ((e6.mo).trans ((e7.mo).trans ((Ext.laid Z).trans .pt)))
    .let E7:Ext [l,t] X (upd (upd X p (.tup [.ref dl,.ref I])) l (.lst (W++[.ref p]))):=(Ext.laid Z).trans .pt;let d6:Ext [l,t] H6 (upd (upd X p (.tup [.ref dl,.ref I])) l (.lst (W++[.ref p]))):=(e7.mo).trans E7;rw[aH];show DenEL.append (L.mono ((e6.mo).trans d6).young) (.cons (.tuple ?_ (.cons (d5.mono E7.young) (.cons (g9.mono d6.young) .nil))) .nil);rw[zi ((EH.trans (e7.mo)).none (by simp[S,b4]) Z) (by simp[S,b4]),zD S,zB]
   let nT:∀{I:Sf},r I=Sb->I≠t/\I≠l/\H I=Sb:=λ{I}h=>by
    let a1:=T'.ne h;let a2:=(zG a6 h).symm;show⟨a1,a2,((E4.mo (us:=[l,t])).trans e').none (by simp[a1,a2]) h⟩
   z_go;show⟨len2 (bG _),λe0 h3=>?_⟩;let E0:Ext [] r (upd r e0 (.lst [])):=.laid h3;let a8:SqL K (upd r e0 (.lst [])) c (ns.map V.int):=Same.seq (λb o h=>E0 b o ∅ h) g7;rcases d3 with h|⟨x,h,_⟩|⟨x,y,h,_⟩
   .subst h;show⟨intsD [],.list [],.list a8 (DenL.ofInts []),.list (SqL.of zB) .nil,rfl,rfl,?_⟩;z_go;k_in;show⟨len2 (by change 1<=1000;decide),λI B=>?_⟩;let e:=E0.no B;let⟨z1,z2,z3⟩:=nT e;show yR (a7 I _ (E0.trans (.laid B)) e (.tuple ?_ (.cons .str .nil)) _ λX o9 u h=>hN_ _ _ h);rw[zi z3 (by simp[z1,z2]),zB]
   .subst h;show⟨intsD [x],.list [],.list a8 (DenL.ofInts [x]),.list (SqL.of zB) .nil,rfl,rfl,?_⟩;z_go;cbv;z_go;show⟨c,_,rfl,.inl a8,?_⟩;kt_k;k_in;show⟨len2 (by change 2<=1000;decide),λI B=>?_⟩;let e:=E0.no B;let⟨z1,z2,z3⟩:=nT e;show yR (a7 I _ (E0.trans (.laid B)) e (.tuple ?_ (.cons .str (.cons .int .nil))) _ λX o9 u h=>hN_ _ _ h);rw[zi z3 (by simp[z1,z2]),zB]
   .subst h;show⟨intsD [x,y],.list [],.list a8 (DenL.ofInts [x,y]),.list (SqL.of zB) .nil,rfl,rfl,?_⟩;z_go;cbv;z_go;show⟨c,_,rfl,.inl a8,?_⟩;kt_k;cbv;z_go;show⟨len2 (by change 3<=1000;decide),λI B=>?_⟩;let e:=E0.no B;let⟨z1,z2,z3⟩:=nT e;show yR (a7 I _ (E0.trans (.laid B)) e (.tuple ?_ (.cons .str (.cons .int (.cons .int .nil)))) _ λX o9 u h=>hN_ _ _ h);rw[zi z3 (by simp[z1,z2]),zB]
  .rintro J r ⟨Y,W,o9,u,rfl,b6,a5,T',e',a6,L⟩;z_go;let EH:Ext [l,t] H r:=(E4.mo).trans e';show q l Y W r c8 a0 (T'.mono ∎) (EH.drop c8) ⟨∎,λb hb=>(a5 b hb).1⟩ (λb hb=>(a5 b hb).2) a6 L
noncomputable abbrev sLed:Sr:=top 3
theorem scLed:FnScope ["starts","nexts","seen","due","place"] ["starts","nexts"] (zq sLed):=fsc
structure LedT(H:Hp)(d du:Sf)(N:Pl->List Pl)(starts U ks due:List Pl)(H':Hp):Prop where
 ext:Ext [] H H'
 hd:H' d=Sa (.dT (trueD ks))
 hdu:∃vs,H' du=Sa (.lst vs)/\PlsAt H' vs due
 nod:ks.Nodup
 rk:∀x∈ks,∃s∈starts,RT N s x
 rd:∀x∈due,∃s∈starts,RT N s x
 clo:∀k∈ks,∀c∈N k,c∈ks\/c∈due
 one:∀s∈starts,s∈ks\/s∈due
 fewd:due.length<=8000+8000*ks.length
def LedWT(H:Hp)(st nd d du:Sf)(N:Pl->List Pl)(starts U:List Pl)(μ:Nat)(σ':St)(H':Hp):Prop:=∃(ks due:List Pl)(o4:Option V),μ = (U.length-ks.length)*8001+due.length/\σ'=[Sa (.ref st),Sa (.ref nd),Sa (.ref d),Sa (.ref du),o4]/\LedT H d du N starts U ks due H'
theorem LedT.end_(h:LedT H d e N a U ks [] c)(x:Pl):x∈ks ↔ ∃s∈a,RT N s x:=by
 let key:∀s∈a,∀y,RT N s y->y∈ks:=by
  intro s b y r
  induction r with
  |refl=>show(h.one s b).elim id λz=>absurd z ∅
  |step _ f g=>show(h.clo _ g _ f).elim id λz=>absurd z ∅
 show⟨h.rk x,λ⟨s,b,r⟩=>key s b x r⟩
theorem qT9(F:Fun K "led_to" "led_to" sLed f fd)(T:mg "list"=Sb):FnOk P w K mg base CX0 1 f fd ["starts","nexts"] (qXn K):=by
 show F.go scLed ?_;rintro d5 A b5 s H vs Q E hr ⟨st,nd,W,a,U,N,rfl,b6,b7,b8,a5,a6,hN,hU,d6,q⟩;let hu:=zn hr
 refine⟨_,zF (zL 2 kh)
  (zF (zL 3 (yK wT (by rfl) T cP (zA (pv 0) zC)))
  (zF (vH bJ (og (pv 3) (λ_=>rfl))
   (zF (zL 4 (kX bD iA iB kY (pv 3)))
   (zH (zm (xr (uK hu (pv 4) (pv 2)))
    (zF (uL hu (pv 2) (pv 4) yZ rfl)
    (zH (yL (yN bD fK fL vM (pv 3) (zA (kn hu (pv 1) (pv 4) (zW zC) ⟨rfl,rfl,rfl,rfl⟩) zC)))))
    zx))))
  (zH (zN (pv 2))))),?_⟩
 dsimp only[zT,zY];z_go;show(show ∀p,H p=Sb->_ from λd hd=>?_);z_go;let E0:Ext [] H (upd H d (.dT [])):=.laid hd;show⟨st,_,rfl,.inl (E0.toSame.seq b6),λb X=>?_⟩;let B:d≠b:=zG zB X;let D:H b=Sb:=E0.no X;z_go;let b9:LedT H d b N a U [] a (upd (upd H d (.dT [])) b (.lst W)):=by
  let e:Ext [] H (upd (upd H d (.dT [])) b (.lst W)):=E0.trans (.laid X);show⟨e,?_,⟨W,zB,b7.mono e.tk⟩,gK,(λ_ h=>absurd h ∅),λx m=>⟨x,m,.refl⟩,(λ_ h=>absurd h ∅),λs hs=>.inr hs,by grind⟩;rw[zD B,zB];rfl
 show⟨LedWT H st nd d b N a U,⟨_,[],a,Sb,rfl,rfl,b9⟩,?_⟩;rintro μ Y u ⟨g,due,o4,rfl,rfl,I⟩;let⟨c0,i,Z⟩:=I.hdu;show yd (v:=.ref b) rfl ⟨!c0.isEmpty,.inl ⟨_,SqL.of i,rfl⟩,?_⟩;rcases List.eq_nil_or_concat due with h|⟨j,y,h⟩
 .subst h;cases Z;cbv;z_go;show q d g u hd I.ext I.hd I.nod I.end_
 .let h:due=j++[y]:=by grind
  rw[h]at Z;let⟨n,v,rfl,a7,vb,rfl,c4⟩:=Z.last;let he:(!(n++[V.ref vb]).isEmpty)=Sc:=by simp
  rw[he];show iteT (L2.wBa (n2:=λ_ _=>True) λNw_ hNw_=>?_);let⟨s0,a0,a1⟩:=I.rd y (by grind);let c5:=a1.within a6 (a5 s0 a0);let G:∀x∈g,x∈U:=λx m=>by
   let⟨s1,c6,r1⟩:=I.rk x m;show r1.within a6 (a5 s1 c6)
  let d7:=yP I.nod G;let c7:due.length=j.length+1:=by grind
  let d8:=I.fewd;let d9:=a7.len;z_go;show yB i ?_;show⟨b,n++[V.ref vb],.ref vb,rfl,rfl,i,∅,?_⟩;rw[List.dropLast_concat];let d1:upd u b (.lst n) d=Sa (.dT (trueD g)):=by rw[zD B];show I.hd
  let e1:Ext [] H (upd u b (.lst n)):=((I.ext.mo (us:=[b])).trans .pt).drop D;let u1:upd u b (.lst n) b=Sa (.lst n):=zB;let a2:TK u (upd u b (.lst n)):=.put (by grind);let o:=a7.mono a2;let l:=a2 _ _ c4;generalize upd u b (.lst n)=H1 at d1 e1 u1 a2 o l ⊢;z_go;show⟨d,_,rfl,DGet.t (k:=plK y) d1 l,?_⟩;rw[wj];by_cases hy:y∈g
  .rw [if_pos hy];show ye (iteF ?_);z_go;show⟨_,by grind,g,j,_,rfl,rfl,e1,d1,⟨n,u1,o⟩,I.nod,I.rk,λx m=>I.rd x (by grind),λk hk c r=>?_,λs hs=>?_,∎⟩
   .rcases I.clo k hk c r with z|z
    .grind
    grind
   .rcases I.one s hs with z|z
    .grind
    grind
  .rw [if_neg hy];show ye (iteT ?_);z_go;show⟨d,_,rfl,DPut.t (k:=plK y) d1 l (vc (by grind[trueD])),?_⟩;let a8:putK (trueD g) (plK y) (V.bl Sc)=trueD (g++[y]):=by
    grind[vO,wj,trueD]
   rw[a8];let d2:upd H1 d (.dT (trueD (g++[y]))) d=Sa (.dT (trueD (g++[y]))):=zB;let e2:Ext [] H (upd H1 d (.dT (trueD (g++[y])))):=((e1.mo (us:=[d])).trans .pt).drop hd;let u2:upd H1 d (.dT (trueD (g++[y]))) b=Sa (.lst n):=by grind[zD]
   let a3:TK H1 (upd H1 d (.dT (trueD (g++[y])))):=.put (by grind);let J:=o.mono a3;let L:=a3 _ _ l;generalize upd H1 d (.dT (trueD (g++[y])))=H2 at d2 e2 u2 a3 J L ⊢;let a9:=b8.mono e2;let⟨c8,a4,c9⟩:=a9;let M:(g++[y]).Nodup:=by
    rw[cT];show⟨I.nod,∅,λx m z hz=>?_⟩;grind
   let b0:=yP (l2:=U) M λx m=>by
    grind
   rw[aJ,bE]at b0;let e4:=hN y;z_go;show yB u2 ?_;z_go;show⟨nd,rfl,.inr ⟨c8,.inl a4⟩,?_⟩;z_go;show⟨len2 (bG _),λO d0=>?_⟩;let C:Ext [] H2 (upd H2 O (.lst [])):=.laid d0;let u3:=C.k u2;let d3:=C.k d2;let b1:=J.mono C.tk;let EE:Ext [] H (upd H2 O (.lst [])):=e2.trans C;let b2:upd H2 O (.lst []) O=Sa (.lst []):=zB;let b3:∀(c:Sf)(cvs:List V)(H3:Hp),H3=upd H2 O (.lst [])->H3 c=Sa (.lst cvs)->PlsAt H3 cvs (N y)->∀R:St->Hp->Prop,(∀Y u,(∃m',m'<(U.length-g.length)*8001+due.length/\LedWT H st nd d b N a U m' Y u)->R Y u)->∀o4:Option V,
     QL (.ref b) [.ref c] H3 (λ_ H4=>R [Sa (.ref st),Sa (.ref nd),Sa (.ref d),Sa (.ref b),o4] H4):=by
    rintro c cvs H3 rfl hc b4 R hR o4;let e5:=b4.len;show⟨b,c,n,cvs,rfl,rfl,u3,hc,by rw[cK];lia,hR _ _ ?_⟩;let d4:TK (upd H2 O (.lst [])) (upd (upd H2 O (.lst [])) b (.lst (n++cvs))):=.put (by grind);show⟨_,?_,g++[y],j++N y,_,rfl,rfl,?_,?_,⟨n++cvs,zB,(b1.append b4).mono d4⟩,M,?_,?_,?_,?_,?_⟩
    .grind
    .exact ((EE.mo (us:=[b])).trans .pt).drop D
    .grind[zD]
    .intro x m;rcases aL.mp m with z|z
     .exact I.rk x z
     grind
    .intro x m;rcases aL.mp m with z|z
     .exact I.rd x (by grind)
     .exact⟨s0,a0,.step a1 z⟩
    .intro k hk c' r;rcases aL.mp hk with z|z
     .rcases I.clo k z c' r with t|t
      .grind
      grind
     grind
    .intro s hs;rcases I.one s hs with t|t
     .grind
     grind
    grind
   let S:=C.tk _ _ L;rcases c9 y with ⟨z1,z2⟩|⟨c,cvs,c1,c2,c3⟩
   .refine⟨Sb,?_,?_⟩
    .let:=DGet.t (k:=plK y) (C.k a4) S;grind
    z_go;show b3 O [] _ rfl b2 (by rw[z2];show .nil) _ hNw_ _
   .refine⟨Sa (.ref c),?_,?_⟩
    .let:=DGet.t (k:=plK y) (C.k a4) S;grind
    z_go;show b3 c cvs _ rfl (C.k c2) (c3.mono C.tk) _ hNw_ _
noncomputable abbrev qRa:Sr:=top 11
noncomputable abbrev qXs:Sr:=top 12
theorem uA(h:a σ H λx d=>∃c,x=.bl c/\if c=Sc then b σ d Q else Q (.bl Sd) d):tAndV a b σ H Q:=h
theorem wCo(h:a σ H λx d=>∃c,x=.bl c/\if c=Sc then Q (.bl Sc) d else b σ d Q):tOrV a b σ H Q:=h
theorem vC{K:SH}(h:Den K H (deedD d) v):∃p,v=.ref p/\SqT K H p (V.str (dword d)::(dargs d).map V.int):=by
 rw[wAl]at h;let⟨p,i,rfl,e,a⟩:=h.ofTuple;let⟨j,k,rfl,b,c⟩:=a.ofCons;let f:=b.ofStr;let g:=c.ints;grind
theorem vD(d:Deed):atI (V.str (dword d)::(dargs d).map V.int) ((1:Nat):Int)=Sa (V.int (darg d)):=by
 let⟨r,a⟩:=qQ1 d;rw[a];show zf rfl
theorem qT0(F:Fun K "writes_box" "writes_box" qRa f h)(c:mg "WRITING"=Sa (.ref b))(e:qV1 K b):FnOk P w K mg base CX0 1 f h ["deed","box"] (xp wrB K):=by
 show F.go (N:=["deed","box"]) fsc ?_;rintro j A g s H l Q E m ⟨v,d,x,rfl,k,q⟩;show⟨_,zH (zN (vF (yJ xI (zM yF (pv 0) zE (λ_ _=>rfl)) (oU (v:=.ref b) rfl c rfl) rfl) (wQ (yJ yA (zM yF (pv 0) zE (λ_ _=>rfl)) (pv 1) (zO _))))),?_⟩;dsimp only[zT];let⟨p,rfl,i⟩:=vC k;z_go;show uA ?_;z_go;show zo i (show atI _ ((0:Nat):Int)=Sa (V.str (dword d))from zf rfl) ?_;z_go;show⟨b,[V.str "set",.str "add"],rfl,.inr (.inr e),rfl,rfl,?_⟩;rw[if_neg aM,jt];kj_on;let a:=q H (.refl _ _);unfold wrB at a;cases hw:(wr d).isSome with
 |true=>
  rw[hw]at a;k_in;show zo i (vD d) ?_;z_go;show yH a
 |false=>
  rw[hw]at a;show iteF a
theorem qW8(F:Fun K "reads_box" "reads_box" qXs f j)(c:mg "READING"=Sa (.ref b))(e:qV2 K b):FnOk P w K mg base CX0 1 f j ["deed","box"] (xp rdB K):=by
 show F.go (N:=["deed","box"]) fsc ?_;rintro l A g s H t Q E u ⟨v,d,x,rfl,m,q⟩;show⟨_,zH (zN (vF (yJ xI (zM yF (pv 0) zE (λ_ _=>rfl)) (oU (v:=.ref b) rfl c rfl) rfl) (wQ (yJ xI (pv 1) (xH wS (pv 0) (xG zE) xE) rfl)))),?_⟩;dsimp only[zT];let⟨p,rfl,k⟩:=vC m;z_go;show uA ?_;z_go;show zo k (show atI _ ((0:Nat):Int)=Sa (V.str (dword d))from zf rfl) ?_;z_go;show⟨b,[V.str "add",.str "tell"],rfl,.inr (.inr e),rfl,rfl,?_⟩;rw[if_neg aM,qUi];kj_on;cases hw:um d with
 |true=>
  k_in;k_dec;show⟨p,_,rfl,k,?_,λn i=>?_⟩
  .grind[HT.sIx]
  rw[cut1];show⟨n,(dargs d).map V.int,rfl,.inr (SqT.of zB),rfl,yp _,?_⟩;grind[yn,Ext.laid,rdB]
 |false=>
  let a:=q H (.refl _ _);grind[rdB]
theorem qX5(xs:List V)(n:Nat):cutV xs Sb (Sa (n:Int))=xs.take n:=by
 grind[cutV,HT.sIx_none,HT.sIx_nat]
theorem DenL.taken{K:SH}:∀ {a:List PyData} {vs:List V} (n:Nat),DenL K G a vs->DenL K G (a.take n) (vs.take n)
 |[],vs,n,h=>by let:=h.ofNil;subst this;simpa using DenL.nil
 |d::a,vs,0,h=>by simpa using DenL.nil
 |d::a,vs,n+1,h=>by
  let⟨v,r,rfl,b,c⟩:=h.ofCons;show .cons b (DenL.taken n c)
def oE(K:SH):Sp:=λvs H Q _ => ∃(v:V) (ds:List Deed) (x:Int),vs = [v,.int x]/\Den K H (.list (ds.map deedD)) v/\ds.length<=100 /\
 ∀(l:Sf)(us:List V)(H':Hp),H l=Sb->Ext [] H H'->H' l=Sa (.lst us)->DenL K H' ((till x ds).map deedD) us->Q (.ref l) H'
noncomputable abbrev sTill:Sr:=top 13
theorem qZx(F:Fun K "till_write" "till_write" sTill f T)(o:mg "enumerate"=Sb)(p:mg "list"=Sb)(D:Has P w K mg base "writes_box" 1 ["deed","box"] (xp wrB K)):FnOk P w K mg base CX0 2 f T ["deeds","box"] (oE K):=by
 show F.go (N:=["deeds","box","at","deed"]) fsc ?_;rintro X A G s H vs Q E Y ⟨v,I,x,rfl,t,k,q⟩
 refine⟨_,zF (zy bJ rfl (xl rfl o (zA (pv 0) zC)) (yM (n:=2) rfl (zR (zJ 2) (zR (zJ 3) zp)))
   (zH (zm (yx K rfl (zI D Y ⋯ (zA (pv 3) (zA (pv 1) zC))) (λ_=>rfl)) (zH (zN (xH uG (pv 0) xE (xG (zK zu (pv 2) zE))))) zx)))
  (zH (zN (yK wT (by rfl) p cP (zA (pv 0) zC)))),?_⟩
 dsimp only[zT,zY];let⟨a,c,rfl,g,h⟩:=t.ofList;let J:c.length=I.length:=by rw[h.len,aB]
 z_go;show⟨a,rfl,⟨c,g⟩,uV (xs:=c) (λi j r=>∃(B C:Option V),j=[Sa (.ref a),Sa (.int x),B,C]/\Ext [] H r/\∀e∈I.take i,wrB x e=Sd) ?_ ?_ ?_ ?_⟩
 .exact⟨_,_,rfl,.refl _ _,∅⟩
 .rintro i j r Z ⟨B,C,rfl,m,b⟩;show m.toSame.seq g
 .rintro i y j r pt hy ⟨B,C,rfl,m,b⟩ L;let⟨dd,M,O⟩:=h.get hy;let⟨d,t,rfl⟩:=zX M;let Z:i<I.length:=(aD.mp t).1;let U:Ext [] r (upd r pt (.tup [.int i,y])):=.laid L;show zt (SqT.of zB) rfl ?_;let u:=m.trans U;generalize upd r pt (.tup [.int i,y])=H2 at U u ⊢;z_go;show⟨y,d,x,rfl,O.mono u.toSame,λH3 R=>?_⟩;show⟨wrB x d,rfl,?_⟩;cases hw:wrB x d with
  |true=>
   k_in;show⟨(i:Int)+1,rfl,?_⟩;show⟨a,c,rfl,(u.trans R).toSame.seq g,λl k=>?_⟩;rw[show(i:Int)+1=((i+1:Nat):Int)by lia,qX5];let S:=u.trans R;show q l _ _ (S.no k) (S.trans (.laid k)) zB ?_;rw[qHm b t hw,List.map_take];show DenL.taken _ (h.mono (S.trans (.laid k)).toSame)
  |false=>
   cbv;z_go;show⟨_,_,rfl,u.trans R,λe W=>?_⟩;rw[zc t]at W;rcases aL.mp W with z|z
   .exact b e z
   .rw [aE.mp z];show hw
 .rintro j r ⟨B,C,rfl,m,b⟩;rw[J,aZ]at b;z_go;show⟨a,c,rfl,.inl (m.toSame.seq g),λl k=>?_⟩;show q l _ _ (m.no k) (m.trans (.laid k)) zB ?_;rw[qJy b];show h.mono (m.trans (.laid k)).toSame
noncomputable abbrev qRp:Sr:=top 15
theorem qOf{w:Sf}{n a:Nat}(x:Den K H (xL m) (.ref w))(e:blkAt m ((n:Int),(a:Int))=Sa b):∃(vs bs:List V)(j k:Sf)(dl:Sf)(c:List V)(l:V),SqL K H w vs/\atI vs (n:Int)=Sa (.ref j)/\SqL K H j bs/\atI bs (a:Int)=Sa (.ref k)/\SqT K H k [.ref dl,l]/\SqL K H dl c/\DenL K H (b.ds.map deedD) c/\Den K H (endD b.ns) l:=by
 rw[wL]at e;cases hw:m[n]? with
 |none=>rw[hw]at e;cases e
 |some w1=>
  rw[hw]at e;let e:w1[a]? = Sa b:=e;let⟨y,vs,z,o,f⟩:=x.ofList;cases z;let⟨B,p,q⟩:=f.get' (i:=n) (d:=workD w1) (by rw[bA,hw];rfl);let⟨j,bs,rfl,r,g⟩:=q.ofList;let⟨C,s,t⟩:=g.get' (i:=a) (d:=blkD b) (by rw[bA,e];rfl);let⟨k,dl,c,l,rfl,A,u,h,v⟩:=wh t;show⟨vs,bs,j,k,dl,c,l,o,zf p,r,zf s,A,u,h,v⟩
theorem qTd(F:Fun K "begins_met" "begins_met" qRp f fd)(a9:mg "any"=Sb)(b8:Has P w K mg base "till_write" 2 ["deeds","box"] (oE K))(b9:Has P w K mg base "writes_box" 1 ["deed","box"] (xp wrB K)):FnOk P w K mg base CX0 3 f fd ["works","number","at","box"] (qNt K):=by
 show F.go (N:=["works","number","at","box","deeds","end","met"]) fsc ?_;rintro c8 A c0 s H vs Q E hr ⟨wa,ws,n,a,x,rfl,hW,c1,c2,q⟩
 refine⟨_,zF (xA (zM zZ (zM zZ (pv 0) (pv 1) (λ_ _=>rfl)) (pv 2) (λ_ _=>rfl)) (yM (n:=2) rfl (zR (zJ 4) (zR (zJ 5) zp))))
  (zF (wE 6 ["deed"] [] (ze (zI b8 hr ⋯ (zA (pv 4) (zA (pv 3) zC)))) (λ_ _ _ _=>zJ 0) (λ_ _ _ _=>.cons (zQ yA (zM (wF K rfl) (pv 0) zE (λ_ _=>rfl)) yI (zO _)) .nil) (λ_ _ _ _=>zg (zA (zM (wF K rfl) (pv 0) zE (λ_ _=>rfl)) (zA zE zC))))
  (zF (zm (wBp (yx K rfl (zd (jr hr.hd) (by rfl) a9 iC (zA (yE ["deed"] [3] (ze (pv 4)) (λ_ _ _ _=>zJ 0) (λ_ _ _ _ =>.nil) (λ_ _ _ _=>zI b9 hr ⋯ (zA (pv 0) (zA (pv 1) zC)))) zC)) (λ_=>rfl)))
   (zH (yL (yN bD fK fL vM (pv 6) (zA (yE ["to"] [1] (kR (xH wS (pv 5) (xG zE) xE)) (λ_ _ _ _=>zJ 0) (λ_ _ _ _=>.nil) (λ_ _ _ _=>zg (zA (pv 1) (zA (pv 0) zC)))) zC)))) zx)
  (zH (zN (pv 6))))),?_⟩
 dsimp only[zT,zY];let⟨b,hb⟩:=mem_places.mp c2;let⟨m,n',w1,c9,d0,hm,d1,d2,D⟩:=c1.blk hb;let⟨vs,bs,wb,pb,dl,b0,ve,s1,s2,s3,s4,s5,s6,s7,s8⟩:=qOf hW hb;z_go;show za s1 s2 ?_;z_go;show za s3 s4 ?_;show zt s5 rfl ?_;z_go;let d3:=D.few;show⟨.ref dl,b.ds,x,rfl,.list s6 s7,∎,λlt b1 H1 d4 e1 I J=>?_⟩;let L:b1.length=(till x b.ds).length:=by rw[J.len,aB]
 let c7:=wn x b.ds;show⟨lt,rfl,⟨_,SqL.of I⟩,λl hl=>?_⟩;let b2:lt≠l:=zG I hl;show zr (xs:=b1) (λj g G=>∃(C:Option V)(us:List V),g=[C]/\Ext [l] H1 G/\G l=Sa (.lst us)/\PlsAt G us ((((till x b.ds).take j).filterMap yT).map λc=>(c,0))) ?_ ?_ ?_ ?_
 .exact⟨Sb,[],rfl,.laid hl,zB,.nil⟩
 .rintro j g G hj ⟨C,us,rfl,eG,i,o⟩;show SqL.of (eG _ _ (by simpa using b2) I)
 .rintro j y g G R hy ⟨C,us,rfl,eG,i,o⟩ hR;let⟨dd,a2,a3⟩:=J.get hy;let⟨d,hd,rfl⟩:=zX a2;let⟨p,rfl,hp⟩:=vC a3;let b3:=(eG.drop hl).toSame.seqT hp;let c3:j<(till x b.ds).length:=(aD.mp hd).1;let a4:=o.len;let b4:=eQ yT ((till x b.ds).take j);rw[aV]at b4;rw[aB]at a4;let M:((till x b.ds).take (j+1)).filterMap yT=((till x b.ds).take j).filterMap yT++[d].filterMap yT:=by rw[zc hd,dP]
  z_go;show zo b3 (show atI _ ((0:Nat):Int)=Sa (V.str (dword d))from zf rfl) ?_;z_go;show vW ?_;rw[qLj];z_go;cases hw:wm d with
  |true=>
   kt_le;show zo b3 (vD d) ?_;z_go;show⟨len2 (by change 2<=1000;decide),λW u=>?_⟩;let v:W≠l:=(zG i u).symm;let tk:TK G (upd (upd G W (.tup [.int (darg d),.int 0])) l (.lst (us++[.ref W]))):=(Ext.laid u).tk.trans (.put (by intro ys z;rw[zD v.symm,i]at z;cases z));show⟨us,by rw[zD v.symm];show i,zV ∎,hR _ _ ⟨_,us++[.ref W],rfl,eG.trans ((Ext.laid u).trans .pt),zB,?_⟩⟩;rw[M,cI,qUs d hw,aH];show(o.mono tk).append (.one (by rw[zD v,zB]))
  |false=>
   show iteF (iteF (hR _ _ ⟨_,us,rfl,eG,i,?_⟩));let hn:yT d=Sb:=by
    unfold wm at hw;cases z:yT d with
    |none=>rfl
    |some y=>rw[z]at hw;cases hw
   rw[M,cI,hn,List.filterMap_nil,bS];show o
 .rintro g G ⟨C,us,rfl,eG,i,o⟩;rw[L,aZ]at o;let EG:Ext [] H G:=e1.trans (eG.drop hl);let a5:H l=Sb:=e1.no hl;let a4:=o.len;let b4:=eQ yT (till x b.ds);rw[aB]at a4;z_go;let b5:=EG.toSame.seq s6;show⟨dl,rfl,⟨_,b5⟩,λlc O=>?_⟩;let d5:l≠lc:=zG i O;show zr (xs:=b0) (λj g S=>∃(C:Option V),g=[C,Sa (.int x)]/\Ext [lc] G S/\S lc=Sa (.lst (((b.ds.take j).map (wrB x)).map V.bl))) ?_ ?_ ?_ ?_
  .exact⟨Sb,rfl,.laid O,zB⟩
  .rintro j g S hj ⟨C,rfl,e2,r⟩;show(e2.drop O).toSame.seq b5
  .rintro j y g S R hy ⟨C,rfl,e2,r⟩ hR;let⟨dd,a2,a3⟩:=s7.get hy;let⟨d,hd,rfl⟩:=zX a2;let c3:j<b.ds.length:=(aD.mp hd).1;z_go;k_in;show⟨y,d,x,rfl,a3.mono (EG.trans (e2.drop O)).toSame,λH3 e3=>?_⟩;show⟨_,e3.k r,zV (by rw[aB,aB,aV];lia),hR _ _ ⟨_,rfl,e2.trans ((e3.mo).trans .pt),?_⟩⟩;rw[zB,zc hd,aH,aH];rfl
  .rintro g S ⟨C,rfl,e2,r⟩;let b6:b0.length=b.ds.length:=by rw[s7.len,aB]
   rw[b6,aZ]at r;z_go;show⟨lc,b.ds.map (wrB x),rfl,SqL.of r,?_⟩;show⟨wrote x b.ds,?_,?_⟩
   .let e:(b.ds.map (wrB x)).any id=wrote x b.ds:=by unfold wrote;rw[List.any_map];rfl
    rw[e];rfl
   let T:Ext [] G S:=e2.drop O;let a6:=T.k i;let Z:=o.mono T.tk;let a0:metOf ws x ((n:Int),(a:Int))=metB x n b:=by unfold metOf;rw[hb]
   cases hw:wrote x b.ds with
   |true=>
    cbv;z_go;show q l us S a5 (EG.trans T) a6 ?_;rw[a0];unfold metB;rw[hw,if_pos rfl,bS];show Z
   |false=>
    k_in;show yB a6 ?_;z_go;let⟨en,wd,rfl,c4,_⟩:=vf D.ns.few s8;let c5:=D.ns.few;k_dec;show vh c5 ((EG.trans T).toSame.seqT c4) λp hp=>?_;let e3:Ext [] S (upd S p (.tup (b.ns.map V.int))):=.laid hp;let a7:=e3.k a6;let a1:=Z.mono e3.tk;let X:upd S p (.tup (b.ns.map V.int)) p=Sa (.tup (b.ns.map V.int)):=zB;generalize upd S p (.tup (b.ns.map V.int))=G3 at e3 a7 a1 X ⊢;show⟨p,rfl,⟨_,SqT.of X⟩,λle Y=>?_⟩;let c6:p≠le:=zG X Y;let d6:l≠le:=zG a7 Y;show jp (xs:=b.ns.map V.int) (λj g U=>∃(C:Option V)(ts:List V),g=[C,Sa (.int n)]/\Ext [le] G3 U/\U le=Sa (.lst ts)/\PlsAt U ts ((b.ns.take j).map λt=>((n:Int),t))) ?_ ?_ ?_ ?_
    .exact⟨Sb,[],rfl,.laid Y,zB,.nil⟩
    .rintro j g U hj ⟨C,ts,rfl,e4,h,B⟩;show SqT.of (e4 _ _ (by simpa using c6) X)
    .rintro j y g U R hy ⟨C,ts,rfl,e4,h,B⟩ hR;let⟨t,ht,rfl⟩:=zX hy;let hj:j<b.ns.length:=(aD.mp ht).1;let L:=B.len;rw[aB,aV]at L;z_go;k_in;show⟨len2 (by change 2<=1000;decide),λW u=>?_⟩;let v:W≠le:=(zG h u).symm;let tk:TK U (upd (upd U W (.tup [.int n,.int t])) le (.lst (ts++[.ref W]))):=(Ext.laid u).tk.trans (.put (by intro ys z;rw[zD v.symm,h]at z;cases z));show⟨ts,by rw[zD v.symm];show h,zV ∎,hR _ _ ⟨_,ts++[.ref W],rfl,e4.trans ((Ext.laid u).trans .pt),zB,?_⟩⟩;rw[zc ht,aH];show(B.mono tk).append (.one (by rw[zD v,zB]))
    .rintro g U ⟨C,ts,rfl,e4,h,B⟩;rw[aB,aZ]at B;let L:=B.len;rw[aB]at L;let a8:=e4.drop Y;let b7:=a8.k a7;z_go;show⟨l,le,us,ts,rfl,rfl,b7,h,len2 ∎,?_⟩;z_go;let tk:TK U (upd U l (.lst (us++ts))):=.put (by intro ys z;rw[b7]at z;cases z);show q l (us++ts) _ a5 ?_ zB ?_
     .exact ((((EG.trans T).trans (e3.trans a8)).mo (us:=[l])).trans .pt).drop a5
     .rw [a0];unfold metB;rw[hw,if_neg aM];show((a1.mono a8.tk).append B).mono tk
noncomputable def yU(ws:List (List Blk))(n:Nat):List Pl:=(List.range n).flatMap λ(n:Nat)=>(List.range ((ws[n]?).getD []).length).map λ(a:Nat)=>((n:Int),(a:Int))
theorem qIz{n:Nat}{w:List Blk}(h:b[n]? = Sa w):yU b (n+1)=yU b n++(List.range w.length).map λ(a:Nat)=>((n:Int),(a:Int)):=by
 unfold yU;rw[fH,fT];simp[h]
theorem qVp(n a:Nat):((List.range (a+1)).map λ(a:Nat)=>((n:Int),(a:Int)))=((List.range a).map λ(a:Nat)=>((n:Int),(a:Int)))++[((n:Int),(a:Int))]:=by
 rw[fH,aH];rfl
theorem wCs{td ty d:TE}(h:td σ H λx e => ∃a,x = .ref a/\IsD e a/\ty σ e λy f=>d σ f λz c => ∃kvs k b,y = .ref b/\c a=Sa (.dT kvs)/\c b=Sa (.tup (k.map kV))/\kvs.length<Sn /\
 (∀v,valV kvs k=Sa v->Q v c)/\(valV kvs k=Sb->Q z (upd c a (.dT (putK kvs k z))))):qXh td ty d σ H Q:=h
theorem qX2(g:List (List Blk))(n a:Nat)(s:n<g.length):(yU g n++(List.range a).map λ(a:Nat)=>((n:Int),(a:Int))).Nodup:=by
 let d:∀(k l:Nat),((List.range l).map λ(a:Nat)=>((k:Int),(a:Int))).Nodup:=λk l=>List.Pairwise.map _ (λx y h z=>h (by grind)) List.nodup_range;let f:∀(k:Nat)(p:Pl),p∈yU g k->p.1<(k:Int):=λk p q=>by
  let⟨j,r,h⟩:=dX.mp q;grind
 let all:∀k:Nat,(yU g k).Nodup:=by
  intro k
  induction k with
  |zero=>show gK
  |succ k o=>
   unfold yU at o ⊢;rw[fH,fT,cT];show⟨o,by simp_all,λx m y i e=>?_⟩;let c:=f k x m;simp only[eB,List.flatMap_nil,bS]at i;grind
 rw[cT];show⟨all n,d n a,λx m y i e=>?_⟩;grind
noncomputable abbrev qXx:Sr:=top 16
theorem qWi(F:Fun K "awaiting" "awaiting" qXx f fd)(a7:mg "enumerate" = Sb)(f4:mg "any" = Sb)(j0:Has P w K mg base "till_write" 2 ["deeds","box"] (oE K))(j1:Has P w K mg base "reads_box" 1 ["deed","box"] (xp rdB K))
  (j2:Has P w K mg base "begins_met" 3 ["works","number","at","box"] (qNt K)) (j3:Has P w K mg base "led_to" 1 ["starts","nexts"] (ur K)):FnOk P w K mg base CX0 4 f fd ["works","box"] (qR3 K):=by
 show F.go (N:=["works","box","readers","behind","number","work","at","deeds","end","place"]) fsc ?_;rintro m9 A j4 s H vs Q E hr ⟨wa,i,x,rfl,hW,a5,q⟩;let hu:=zn hr
 refine⟨_,zF (zL 2 (zW zC))
  (zF (zL 3 kh)
  (zF (zy bJ rfl (xl rfl a7 (zA (pv 0) zC)) (yM (n:=2) rfl (zR (zJ 4) (zR (zJ 5) zp)))
   (zH (zy bJ rfl (xl rfl a7 (zA (pv 5) zC)) (yM (n:=2) rfl (zR (zJ 6) (zR (yM (n:=2) rfl (zR (zJ 7) (zR (zJ 8) zp))) zp)))
    (zF (zm (yx K rfl (zd (jr hr.hd) (by rfl) f4 iC (zA (yE ["deed"] [1] (ze (zI j0 hr ⋯ (zA (pv 7) (zA (pv 1) zC)))) (λ_ _ _ _=>zJ 0) (λ_ _ _ _ =>.nil) (λ_ _ _ _=>zI j1 hr ⋯ (zA (pv 0) (zA (pv 1) zC)))) zC)) (λ_=>rfl))
     (zH (yL (yN bD bX bY yi (pv 2) (zA (zg (zA (pv 4) (zA (pv 6) zC))) zC)))) zx)
    (zH (zy bJ rfl (ze (zI j2 hr ⋯ (zA (pv 0) (zA (pv 4) (zA (pv 6) (zA (pv 1) zC)))))) (zJ 9)
     (zH (yL (yN bD bX bY yi (qW5 hu (pv 3) (pv 9) (zW zC) ⟨rfl,rfl,rfl,rfl⟩) (zA (zg (zA (pv 4) (zA (pv 6) zC))) zC))))))))))
  (zH (zN (zI j3 hr ⋯ (zA (pv 2) (zA (pv 3) zC))))))),?_⟩
 dsimp only[zT,zY];z_go;show⟨len2 (bG _),λo f5=>?_⟩;z_go;show(show ∀p,_=Sb->_ from λt b8=>?_);z_go;let b9:o≠t:=zG zB b8;let f6:H t=Sb:=by rw[zD b9.symm]at b8;show b8
 let E1:Ext [] H (upd (upd H o (.lst [])) t (.dT [])):=(Ext.laid f5).trans (.laid b8);let c0:upd (upd H o (.lst [])) t (.dT []) o=Sa (.lst []):=by rw[zD b9,zB]
 let f7:upd (upd H o (.lst [])) t (.dT []) t=Sa (.dT []):=zB;generalize upd (upd H o (.lst [])) t (.dT [])=I at E1 c0 f7 ⊢;let⟨n0,vs,ea,f8,f9⟩:=hW.ofList;cases ea;let j5:vs.length=i.length:=by rw[f9.len,aB]
 let m6:=qI0 a5;let B:∀{G:Hp},Ext [o,t] I G->Ext [] H G:=λ{G}e=>(((E1.mo (us:=[o,t])).trans e).drop f5).drop f6
 refine⟨wa,rfl,⟨vs,E1.toSame.seq f8⟩,jd (xs:=vs) (λn l G => ∃(g:List V) (o4 o5 o6 o7 o8 O:Option V),l = [Sa (.ref wa),Sa (.int x),Sa (.ref o),Sa (.ref t),o4,o5,o6,o7,o8,O]/\Ext [o,t] I G/\G o=Sa (.lst g)/\PlsAt G g ((yU i n).filter (yQ i x)) /\
  NexB G t (yW i x (yU i n)) (λc=>I c=Sb) (22*(yU i n).length)) ?_ ?_ ?_ ?_⟩
 .refine⟨[],_,_,_,_,_,_,rfl,.refl _ _,c0,.nil,[],f7,bG _,λp=>.inl ⟨rfl,rfl⟩,λp q c h=>?_⟩;cases h
 .rintro n l G hn ⟨g,o4,o5,o6,o7,o8,O,rfl,eG,c1,Y,hN⟩;show(B eG).toSame.seq f8
 .rintro n y l G pt hy ⟨g,o4,o5,o6,o7,o8,O,rfl,eG,c1,Y,hN⟩ S N_ B_ C_ R_ hN_ hC_ hR_;let⟨dd,a8,d3⟩:=f9.get hy;let⟨wk,a6,rfl⟩:=zX a8;let⟨wb,bs,rfl,g0,c5⟩:=d3.ofList;let j6:bs.length=wk.length:=by rw[c5.len,aB]
  let⟨m,n1,n2,g1⟩:=a5.all wk (aK a6);let n3:=g1.len;let g2:∀p∈yU i n,p∈places i:=λp hp=>by
   unfold yU at hp;unfold places;let⟨k,hk,h⟩:=dX.mp hp;let n4:n<i.length:=(aD.mp a6).1;show dX.mpr ⟨k,bH.mpr (by let:=bH.mp hk;lia),h⟩
  let e2:Ext [] G (upd G pt (.tup [.int n,.ref wb])):=.laid S;show zt (SqT.of zB) rfl ?_;let d4:Ext [o,t] I (upd G pt (.tup [.int n,.ref wb])):=eG.trans (e2.mo);let g3:=e2.k c1;let c6:=Y.mono e2.tk;let g4:=hN.mono e2 ∅ ∅ e2.tk;generalize upd G pt (.tup [.int n,.ref wb])=G2 at e2 d4 g3 c6 g4 ⊢;z_go
  refine⟨wb,rfl,⟨bs,(B d4).toSame.seq g0⟩,jd (xs:=bs) (λa l G' => ∃(g:List V) (o6 o7 o8 O:Option V),l = [Sa (.ref wa),Sa (.int x),Sa (.ref o),Sa (.ref t),Sa (.int n),Sa (.ref wb),o6,o7,o8,O]/\Ext [o,t] I G'/\G' o=Sa (.lst g)/\PlsAt G' g ((yU i n++(List.range a).map λ(a:Nat)=>((n:Int),(a:Int))).filter (yQ i x)) /\
   NexB G' t (yW i x (yU i n++(List.range a).map λ(a:Nat)=>((n:Int),(a:Int)))) (λc=>I c=Sb) (22*(yU i n++(List.range a).map λ(a:Nat)=>((n:Int),(a:Int))).length)) ?_ ?_ ?_ ?_⟩
  .refine⟨g,_,_,_,_,rfl,d4,g3,?_,?_⟩
   .simpa using c6
   .simpa using g4
  .rintro a l G' ha ⟨g,o6,o7,o8,O,rfl,e',c2,C,Z⟩;show(B e').toSame.seq g0
  .rintro a v l G' d5 hv ⟨g,o6,o7,o8,O,rfl,e',c2,C,Z⟩ g5 N_ B_ C_ R_ hN_ hC_ hR_;let⟨dd,a8,j7⟩:=c5.get hv;let⟨b,hb,rfl⟩:=zX a8;let g6:=g1.blk b (aK hb);let⟨pb,cs,rfl,hc,j8⟩:=j7.ofTuple;let⟨vd,q1,rfl,g7,j9⟩:=j8.ofCons;let⟨ve,q2,rfl,n5,a9⟩:=j9.ofCons;let a9:=a9.ofNil;subst a9;let c7:blkAt i ((n:Int),(a:Int))=Sa b:=by rw[wL,a6];show hb
   let k0:((n:Int),(a:Int))∈places i:=mem_places.mpr ⟨b,c7⟩;generalize d6:(yU i n++(List.range a).map λ(a:Nat)=>((n:Int),(a:Int)))=J at C Z;let d7:∀p∈J,p∈places i:=λp hp=>by
    rw[<-d6]at hp;rcases aL.mp hp with z|z
    .exact g2 p z
    .let⟨a',k1,rfl⟩:=bC.mp z;let n6:a<wk.length:=(aD.mp hb).1;let n7:=bH.mp k1;show mem_places.mpr ⟨wk[a'],by rw[wL,a6];show aF ∎⟩
   let n8:=C.len;let e3:Ext [] G' (upd G' d5 (.tup [.int a,.ref pb])):=.laid g5;show zt (SqT.of zB) rfl ?_;let c3:Ext [o,t] I (upd G' d5 (.tup [.int a,.ref pb])):=e'.trans (e3.mo);let g8:=e3.k c2;let c8:=C.mono e3.tk;let g9:=Z.mono e3 ∅ ∅ e3.tk;generalize upd G' d5 (.tup [.int a,.ref pb])=G3 at e3 c3 g8 c8 g9 ⊢;z_go;show zt ((B c3).toSame.seqT hc) rfl ?_
   with_reducible refine L2.vY ?_
   with_reducible refine L2.yR ?_
   with_reducible refine L2.vY ?_
   with_reducible refine L2.yR ?_
   with_reducible refine L2.vZ ?_
   with_reducible refine L2.vZ ?_
   let c9:yU i n++(List.range (a+1)).map (λ(a:Nat)=>((n:Int),(a:Int)))=J++[((n:Int),(a:Int))]:=by rw[qVp,<-dY,d6]
   let n9:J.length<=300:=by
    let:=yP (l1:=J) (l2:=places i) (by rw[<-d6];show qX2 i n a (aD.mp a6).1) d7;lia
   show L2.g10 (by assumption) ?_;with_reducible refine wD6 (λl G=>∃(g:List V),l=[Sa (.ref wa),Sa (.int x),Sa (.ref o),Sa (.ref t),Sa (.int n),Sa (.ref wb),Sa (.int a),Sa vd,Sa ve,O]/\Ext [o,t] I G/\G o=Sa (.lst g)/\PlsAt G g ((J++[((n:Int),(a:Int))]).filter (yQ i x))/\NexB G t (yW i x J) (λc=>I c=Sb) (22*J.length)) ?_ (λhC=>?_)
   .rintro l G4 ⟨g,rfl,e4,k2,h0,k3⟩;z_go;show⟨wa,i,n,a,x,rfl,hW.mono (B e4).toSame,a5,k0,λlm us H5 k4 e5 d0 h5=>?_⟩;let k5:Ext [o,t] I H5:=e4.trans (e5.mo);let o1:=jv a5 x ((n:Int),(a:Int));let k6:=h5.len
    refine⟨lm,rfl,⟨_,SqL.of d0⟩,yw (xs:=us) (λj l G => ∃(O:Option V),l = [Sa (.ref wa),Sa (.int x),Sa (.ref o),Sa (.ref t),Sa (.int n),Sa (.ref wb),Sa (.int a),Sa vd,Sa ve,O]/\Ext [o,t] I G/\G lm=Sa (.lst us)/\PlsAt G us (metOf i x ((n:Int),(a:Int)))/\G o=Sa (.lst g)/\PlsAt G g ((J ++ [((n:Int),(a:Int))]).filter (yQ i x)) /\
     NexB G t (yf i x J ((n:Int),(a:Int)) ((metOf i x ((n:Int),(a:Int))).take j)) (λc=>I c=Sb/\c≠lm) (22*J.length+j)) ?_ ?_ ?_ ?_⟩
    .refine⟨_,rfl,k5,d0,h5,e5.k k2,h0.mono e5.tk,?_⟩;rw[List.take_zero,qLz];let⟨L,z⟩:=k3;show⟨L,e5.k z.at_,z.few,λp=>?_,z.one⟩;rcases z.all p with y|⟨c,vs,h1,h2,h3,h4⟩
     .exact .inl y
     .exact .inr ⟨c,vs,h1,⟨h2,zG h3 k4⟩,e5.k h3,h4.mono e5.tk⟩
    .rintro j l G hj ⟨O,rfl,e6,U,a0,b0,a1,T⟩;show SqL.of U
    .rintro j v l G hv ⟨O,rfl,e6,U,a0,b0,a1,L,T⟩ N_ B_ C_ R_ hN_ hC_ hR_;let⟨r,hr,rb,rfl,k7⟩:=a0.get hv;let k8:j<(metOf i x ((n:Int),(a:Int))).length:=(aD.mp hr).1;let o2:=T.few;z_go;show wCs ?_;z_go;show⟨t,rfl,.inr ⟨L,.inl T.at_⟩,?_⟩;z_go;show⟨len2 (bG _),λe0 W=>?_⟩;let e7:Ext [] G (upd G e0 (.lst [])):=.laid W;let D:=T.mono e7 ∅ ∅ e7.tk;let a2:upd G e0 (.lst []) e0=Sa (.lst []):=zB;let d8:I e0=Sb:=by
      by_cases z1:e0=o
      .rw [z1,b0]at W;cases W
      .by_cases z2:e0=t
       .rw [z2,T.at_]at W;cases W
       .exact e6.none (by simp[z1,z2]) W
     let d9:e0≠lm:=(zG U W).symm;let a3:=e7.k U;let e1:=e7.k b0;let b1:=a0.mono e7.tk;let b2:=a1.mono e7.tk;let f0:Ext [o,t] I (upd G e0 (.lst [])):=e6.trans (e7.mo);let d1:=e7.tk _ _ k7;let k9:∀(p:Pl)(c:Sf),valV L (plK p)=Sa (.ref c)->c≠e0:=λp c hc=>by
      rcases T.all p with z|⟨c',o3,h1,_,h3,_⟩
      .rw [z.1]at hc;cases hc
      .rw [h1]at hc;cases hc;show zG h3 W
     generalize upd G e0 (.lst [])=G7 at e7 D a2 a3 e1 b1 b2 f0 d1 ⊢;let put:∀(M:Hp) (kv:List (List Key×V)) (c:Sf) (u:List V),NexK M t (yf i x J ((n:Int),(a:Int)) ((metOf i x ((n:Int),(a:Int))).take j)) (λc=>I c=Sb/\c≠lm) (22*J.length+j+1) kv->valV kv (plK r)=Sa (.ref c)->M c=Sa (.lst u)->PlsAt M u (yf i x J ((n:Int),(a:Int)) ((metOf i x ((n:Int),(a:Int))).take j) r)->Ext [o,t] I M->M lm=Sa (.lst us)->PlsAt M us (metOf i x ((n:Int),(a:Int)))->M o=Sa (.lst g)->PlsAt M g ((J ++ [((n:Int),(a:Int))]).filter (yQ i x)) ->
       ∀(pt:Sf),M pt=Sb -> ∀O:Option V,u.length<100000/\(∃(l0:Option V),[Sa (V.ref wa),Sa (.int x),Sa (.ref o),Sa (.ref t),Sa (.int n),Sa (.ref wb),Sa (.int a),Sa vd,Sa ve,O] = [Sa (V.ref wa),Sa (.int x),Sa (.ref o),Sa (.ref t),Sa (.int n),Sa (.ref wb),Sa (.int a),Sa vd,Sa ve,l0]/\Ext [o,t] I (upd (upd M pt (.tup [.int n,.int a])) c (.lst (u ++ [.ref pt])))/\(upd (upd M pt (.tup [.int n,.int a])) c (.lst (u ++ [.ref pt]))) lm=Sa (.lst us)/\PlsAt (upd (upd M pt (.tup [.int n,.int a])) c (.lst (u ++ [.ref pt]))) us (metOf i x ((n:Int),(a:Int)))/\(upd (upd M pt (.tup [.int n,.int a])) c (.lst (u ++ [.ref pt]))) o=Sa (.lst g)/\PlsAt (upd (upd M pt (.tup [.int n,.int a])) c (.lst (u ++ [.ref pt]))) g ((J ++ [((n:Int),(a:Int))]).filter (yQ i x)) /\
        NexB (upd (upd M pt (.tup [.int n,.int a])) c (.lst (u++[.ref pt]))) t (yf i x J ((n:Int),(a:Int)) ((metOf i x ((n:Int),(a:Int))).take (j+1))) (λc=>I c=Sb/\c≠lm) (22*J.length+(j+1))):=by
      intro M kv c u hK hc l3 h6 e8 h7 h8 l4 h9 pt S O;let e9:Ext [] M (upd M pt (.tup [.int n,.int a])):=.laid S;let l5:=hK.mono e9 ∅ ∅ e9.tk;let i0:=e9.k l3;let i1:=l5.app (p:=((n:Int),(a:Int))) (pt:=pt) hc i0 (h6.mono e9.tk) zB;let a4:I c=Sb/\c≠lm:=by
       rcases hK.all r with z|⟨c',_,h1,h2,_⟩
       .rw [z.1]at hc;cases hc
       .rw [h1]at hc;cases hc;show h2
      let tk:TK M (upd (upd M pt (.tup [.int n,.int a])) c (.lst (u++[.ref pt]))):=e9.tk.trans (.put (by intro ys z;rw[i0]at z;cases z));let l6:o≠c:=λz=>by rw[<-z,c0]at a4;cases a4.1
      let p0:=h6.len;let m7:(yf i x J ((n:Int),(a:Int)) ((metOf i x ((n:Int),(a:Int))).take j) r).length<=22*J.length+22:=by
       unfold yf;rw[aJ,aB];let h1:=jw a5 x r J;let h2:=bM (λy=>decide (y=r)) ((metOf i x ((n:Int),(a:Int))).take j);rw[aV]at h2;lia
      show⟨∎,O,rfl,?_,?_,h8.mono tk,?_,h9.mono tk,?_⟩
      .exact ((e8.trans (e9.mo)).mo (us:=[c,o,t])).trans .pt |>.drop a4.1
      .rw [zD a4.2.symm];show e9.k h7
      .rw [zD l6];show e9.k l4
      .rw [zc hr,qJo];show⟨kv,i1⟩
     show⟨L,plK r,rb,rfl,D.at_,d1,vc ∎,λv hv=>?_,λhv=>?_⟩
     .rcases D.all r with z|⟨c,u,h1,h2,h3,h4⟩
      .rw [z.1]at hv;cases hv
      .rw [h1]at hv;cases hv;show yB h3 ?_;z_go;show⟨len2 (by change 2<=1000;decide),λpt S=>?_⟩;let⟨i2,b3⟩:=put G7 L c u ⟨D.at_,by let:=D.few;lia,D.all,D.one⟩ h1 h3 h4 f0 a3 b1 e1 b2 pt S _;z_go;show yO (Ext.laid (ts:=[]) S _ _ ∅ h3) (vc ∎) (hN_ _ _ b3)
     .let l7:=D.new hv a2 ⟨d8,d9⟩ k9;let l8:e0≠t:=yY a2 D.at_ (by intro z;cases z);let i3:TK G7 (upd G7 t (.dT (putK L (plK r) (.ref e0)))):=.put (by intro ys z;rw[D.at_]at z;cases z);let f1:upd G7 t (.dT (putK L (plK r) (.ref e0))) e0=Sa (.lst []):=by rw[zD l8];show a2
      let l9:yf i x J ((n:Int),(a:Int)) ((metOf i x ((n:Int),(a:Int))).take j) r=[]:=by
       rcases D.all r with z|⟨c,u,h1,_⟩
       .exact z.2
       .rw [h1]at hv;cases hv
      let m0:lm≠t:=yY a3 D.at_ (by intro z;cases z);show yB f1 ?_;z_go;show⟨len2 (by change 2<=1000;decide),λpt S=>?_⟩;let⟨i2,b3⟩:=put _ _ e0 [] l7 (by rw[xx,if_pos rfl]) f1 (by rw[l9];show .nil) (f0.trans .pt) (by rw[zD m0];show a3) (b1.mono i3) (by rw[zD b9];show e1) (b2.mono i3) pt S _;z_go;show yO (xs:=[]) (Ext.laid (ts:=[]) S _ _ ∅ f1) (vc ∅) (hN_ _ _ b3)
    .rintro l G ⟨O,rfl,e6,U,a0,b0,a1,T⟩;rw[k6,aZ,qJp]at T;show L2.zk hN_ ?_;show⟨g,_,_,_,_,rfl,e6,b0,?_,?_⟩
     .rw [c9];show a1
     .rw [c9];let⟨L,z⟩:=T;show⟨L,z.at_,?_,λp=>?_,z.one⟩
      .let:=z.few;rw[aJ,bE];lia
      .rcases z.all p with y|⟨c,vs,h1,h2,h3,h4⟩
       .exact .inl y
       .exact .inr ⟨c,vs,h1,h2.1,h3,h4⟩
   .let i4:yQ i x ((n:Int),(a:Int))=readB x b:=by unfold yQ;rw[c7]
    let p1:=g6.few;let m8:=wn x b.ds;z_go;show⟨vd,b.ds,x,rfl,g7.mono (B c3).toSame,∎,λlt i5 H4 i2 e4 b4 b5=>?_⟩;let m1:i5.length=(till x b.ds).length:=by rw[b5.len,aB]
    show⟨lt,rfl,⟨_,SqL.of b4⟩,λlc c4=>?_⟩;let m2:lt≠lc:=zG b4 c4;show zr (xs:=i5) (λj l G=>∃(o0:Option V),l=[o0,Sa (.int x)]/\Ext [lc] H4 G/\G lc=Sa (.lst ((((till x b.ds).take j).map (rdB x)).map V.bl))) ?_ ?_ ?_ ?_
    .exact⟨Sb,rfl,.laid c4,zB⟩
    .rintro j l G hj ⟨o0,rfl,e5,X⟩;show SqL.of (e5 _ _ (by simpa using m2) b4)
    .rintro j y l G R hy ⟨o0,rfl,e5,X⟩ hR;let⟨dd,a8,d3⟩:=b5.get hy;let⟨d,hd,rfl⟩:=zX a8;let k8:j<(till x b.ds).length:=(aD.mp hd).1;z_go;k_in;show⟨y,d,x,rfl,d3.mono (e5.drop c4).toSame,λH6 e6=>?_⟩;show⟨_,e6.k X,zV (by rw[aB,aB,aV];lia),hR _ _ ⟨_,rfl,e5.trans ((e6.mo).trans .pt),?_⟩⟩;rw[zB,zc hd,aH,aH];rfl
    .rintro l G ⟨o0,rfl,e5,X⟩;rw[m1,aZ]at X;let b6:Ext [] G3 G:=e4.trans (e5.drop c4);let b7:=b6.k g8;let d2:=c8.mono b6.tk;let i6:=g9.mono b6 ∅ ∅ b6.tk;let i7:Ext [o,t] I G:=c3.trans (b6.mo);let m3:=bM (yQ i x) J;z_go;show⟨lc,(till x b.ds).map (rdB x),rfl,SqL.of X,?_⟩;show⟨readB x b,?_,?_⟩
     .let e:((till x b.ds).map (rdB x)).any id=readB x b:=by unfold readB;rw[List.any_map];rfl
      rw[e];rfl
     cases hw:readB x b with
     |true=>
      k_in;show yB b7 ?_;z_go;show⟨len2 (by change 2<=1000;decide),λp2 f2=>?_⟩;let f3:p2≠o:=(zG b7 f2).symm
      with_reducible refine L2.wD ?_
      show yO (xs:=g) (by rw[zD f3.symm];show b7) (zV ∎) ?_;let tk:TK G (upd (upd G p2 (.tup [.int n,.int a])) o (.lst (g++[.ref p2]))):=(Ext.laid f2).tk.trans (.put (by intro ys z;rw[zD f3.symm,b7]at z;cases z));let e6:Ext [o] G (upd (upd G p2 (.tup [.int n,.int a])) o (.lst (g++[.ref p2]))):=(Ext.laid f2).trans .pt;let i8:∀z∈[o],¬I z=Sb:=λz hz y=>by
       let e:z=o:=by simpa using hz
       rw[e,c0]at y;cases y
      show hC _ _ ⟨g++[.ref p2],rfl,i7.trans (e6.mo),zB,?_,i6.mono e6 (by simpa using b9.symm) i8 tk⟩;rw[cD,eX,if_pos (by rw[i4,hw]),fI];show(d2.mono tk).append (.one (by rw[zD f3,zB]))
     |false=>
      cbv
      with_reducible refine L2.xb ?_
      show hC _ _ ⟨g,rfl,i7,b7,?_,i6⟩;rw[cD,eX,if_neg (by rw[i4,hw];show aM),fI,bS];show d2
  .rintro l G' ⟨g,o6,o7,o8,O,rfl,e',c2,C,Z⟩;rw[j6]at C Z;rw[<-qIz a6]at C Z;z_go;show⟨g,_,_,_,_,_,_,rfl,e',c2,C,Z⟩
 .rintro l G ⟨g,o4,o5,o6,o7,o8,O,rfl,eG,c1,Y,hN⟩;rw[j5]at Y hN;let Y:PlsAt G g ((places i).filter (yQ i x)):=Y;let hN:NexB G t (yW i x (places i)) (λc=>I c=Sb) (22*(places i).length):=hN;let m3:=bM (yQ i x) (places i);z_go;show .inr ⟨o,t,g,(places i).filter (yQ i x),places i,yW i x (places i),rfl,SqL.of c1,Y,hN.toT,λp hp=>(bN.mp hp).1,λp hp z hz=>(mem_behind.mp hz).1,λp=>by let:=jw a5 x p (places i);lia,∎,∎,λd ks H' hd e5 m4 i9 m5=>?_⟩;show q d ks H' ((B eG).no hd) ((B eG).trans e5) m4 i9 λp=>by rw[m5,qUy]
noncomputable abbrev qRi:Sr:=top 42
noncomputable def isAdd:Deed->Bool
 |.add _ _=>Sc
 |_=>Sd
noncomputable def oF:Deed->Bool
 |.tell _=>Sc
 |_=>Sd
theorem qVc(d:Deed):decide (dword d="add")=isAdd d:=by
 cases d with
 |add _ _=>show decide_eq_true rfl
 |set _ _=>show decide_eq_false (show ¬("set" : Str)="add" by decide)
 |call _=>show decide_eq_false (show ¬("call" : Str)="add" by decide)
 |tell _=>show decide_eq_false (show ¬("tell" : Str)="add" by decide)
 |save _=>show decide_eq_false (show ¬("save" : Str)="add" by decide)
 |back _=>show decide_eq_false (show ¬("back" : Str)="add" by decide)
theorem qQc(d:Deed):decide (dword d="tell")=oF d:=by
 cases d with
 |tell _=>show decide_eq_true rfl
 |set _ _=>show decide_eq_false (show ¬("set" : Str)="tell" by decide)
 |call _=>show decide_eq_false (show ¬("call" : Str)="tell" by decide)
 |add _ _=>show decide_eq_false (show ¬("add" : Str)="tell" by decide)
 |save _=>show decide_eq_false (show ¬("save" : Str)="tell" by decide)
 |back _=>show decide_eq_false (show ¬("back" : Str)="tell" by decide)
theorem qYf(x:Int)(d:Deed):rdB x d=(isAdd d&&decide (x∈dargs d)||(oF d&&decide (darg d=x))):=by
 cases d with
 |tell b=>
  change(Sc&&decide (x∈[b]))=(Sd&&_||(Sc&&decide (b=x)));grind
 |add b o=>change(Sc&&_)=(Sc&&_||(Sd&&_));simp
 |set b o=>rfl
 |call b=>rfl
 |save b=>rfl
 |back b=>rfl
theorem qT6(F:Fun K "_law_reads" "_law_reads" qRi f m):FnOk P w K mg base CX0 1 f m ["_law_deed","_law_box"] (xp rdB K):=by
 show F.go (N:=["_law_deed","_law_box"]) fsc ?_;rintro t A i s H C Q E D ⟨v,d,x,rfl,u,q⟩
 refine⟨_,zH (zN (wCw (vF (yJ yA (zM yF (pv 0) zE (λ_ _=>rfl)) yI (zO _)) (wQ (yJ xI (pv 1) (xH wS (pv 0) (xG zE) xE) rfl)))
  (wQ (vF (yJ yA (zM yF (pv 0) zE (λ_ _=>rfl)) yI (zO _)) (wQ (yJ yA (zM yF (pv 0) zE (λ_ _=>rfl)) (pv 1) (zO _))))))),?_⟩
 dsimp only[zT];let⟨p,rfl,j⟩:=vC u;let a:∀c,Ext [] H c->(isAdd d&&decide (x∈dargs d))=Sd->∀k:VK,(∀c,Ext [] H c->k (.bl (rdB x d)) c)->tAndV (tOp rEq (tOp (rIxT K) (tVar 0) (tC (V.int 0))) (tC (V.str "tell"))) (tOp rEq (tOp (rIxT K) (tVar 0) (tC (V.int 1))) (tVar 1)) [Sa (.ref p),Sa (.int x)] c k:=by
  intro c n l k y;let e:=n.toSame.seqT j;show uA ?_;z_go;show zo e (show atI _ ((0:Nat):Int)=Sa (V.str (dword d))from zf rfl) ?_;z_go;show vW ?_;rw[qQc];kj_on;let b:=y c n;rw[qYf,l,Bool.false_or]at b;cases hw:oF d with
  |true=>
   rw[hw]at b;k_in;show zo e (vD d) ?_;z_go;show yH b
  |false=>
   grind
 z_go;show wCo (uA ?_);z_go;show zo j (show atI _ ((0:Nat):Int)=Sa (V.str (dword d))from zf rfl) ?_;z_go;show vW ?_;rw[qVc];kj_on;cases hw:isAdd d with
 |true=>
  k_in;k_dec;show⟨p,_,rfl,j,?_,λz g=>?_⟩
  .grind[HT.sIx]
  rw[cut1];show⟨z,(dargs d).map V.int,rfl,.inr (SqT.of zB),rfl,yp _,?_⟩;rw[if_neg aM,yn];kj_on;cases r:decide (x∈dargs d)with
  |true=>
   grind[Ext.laid,qYf]
  |false=>
   cbv;show a _ (.laid g) (by grind) _ q
 |false=>
  cbv;show⟨_,rfl,iteF ?_⟩;show a H (.refl _ _) (by grind) _ q
structure GoI(H:Hp)(d du:Sf)(ws:List (List Blk))(x:Int)(p0:Pl)(ks due:List Pl)(H':Hp):Prop where
 ext:Ext [] H H'
 hd:H' d=Sa (.dT (trueD ks))
 hdu:∃vs,H' du=Sa (.lst vs)/\PlsAt H' vs due
 nod:ks.Nodup
 rk:∀y∈ks,RT (metOf ws x) p0 y
 rd:∀y∈due,RT (metOf ws x) p0 y
 clo:∀k∈ks,yQ ws x k=Sd/\∀c∈metOf ws x k,c∈ks\/c∈due
 one:p0∈ks\/p0∈due
 fewd:due.length<=1+22*ks.length
theorem GoI.end_{x:Int}(h:GoI H d f a x b ks [] e):askB a x b=Sd:=by
 let key:∀y,RT (metOf a x) b y->y∈ks:=by
  intro y r
  induction r with
  |refl=>show h.one.elim id λz=>absurd z ∅
  |step _ g i=>show((h.clo _ i).2 _ g).elim id λz=>absurd z ∅
 rw[Bool.eq_false_iff];intro j;let⟨q,r,c⟩:=askB_iff.mp j;rw[(h.clo q (key q r)).1]at c;grind
noncomputable abbrev oG:Sr:=top 44
theorem scIsAsked:FnScope ["_law_works","_law_number_here","_law_block","_law_box","_law_met","_law_waiting","_law_place","_law_deeds_here","_law_end","_law_open_yet","_law_deed"] ["_law_works","_law_number_here","_law_block","_law_box"] (zq oG):=fsc
def GoW(H:Hp)(wa d du:Sf)(ws:List (List Blk))(x:Int)(n b:Nat)(μ : Nat)(σ':St)(H':Hp):Prop := ∃(ks due:List Pl) (o6 o7 o8 o9 o10:Option V),μ = ((places ws).length - ks.length)*24+due.length /\
 σ'=[Sa (.ref wa),Sa (.int n),Sa (.int b),Sa (.int x),Sa (.ref d),Sa (.ref du),o6,o7,o8,o9,o10]/\GoI H d du ws x ((n:Int),(b:Int)) ks due H'
theorem qPo(F:Fun K "_law_is_asked" "_law_is_asked" oG f fd)(h6:Has P w K mg base "_law_reads" 1 ["_law_deed","_law_box"] (xp rdB K)):FnOk P w K mg base CX0 2 f fd ["_law_works","_law_number_here","_law_block","_law_box"] (qK7 K):=by
 show F.go scIsAsked ?_;rintro j8 A h7 s H vs Q E hr ⟨wa,Y,n,b,x,rfl,hW,c5,f5,q⟩;let hu:=zn hr
 refine⟨_,zF (vG (i:=4) (j:=5) rfl scIsAsked.nd rfl rfl ⋯ rfl rfl (zA kh (zA (zW (zA (zg (zA (pv 1) (zA (pv 2) zC))) zC)) zC)) rfl)
  (zF (vH bJ (zQ (Qq hr) (pv 5) (zW zC) (zO _))
   (zF (zL 6 (kX bD iA iB kY (pv 5)))
   (zH (zm (xr (uK hu (pv 6) (pv 4)))
    (zF (uL hu (pv 4) (pv 6) yZ rfl)
    (zF (xA (zM zZ (zM zZ (pv 0) (zM yF (pv 6) zE (λ_ _=>rfl)) (λ_ _=>rfl)) (zM yF (pv 6) zE (λ_ _=>rfl)) (λ_ _=>rfl)) (yM (n:=2) rfl (zR (zJ 7) (zR (zJ 8) zp))))
    (zF (zL 9 yZ)
    (zF (zy bJ rfl (ze (pv 7)) (zJ 10)
     (zF (zm (yb (yx K rfl (pv 9) (λ_=>rfl)) (yg (yx K rfl (zI h6 hr ⋯ (zA (pv 10) (zA (pv 3) zC))) (λ_=>rfl)))).pt (zH (zN yZ)) zx)
     (zF (zm (yb (yx K rfl (pv 9) (λ_=>rfl)) (yg (zQ yA (zM yF (pv 10) zE (λ_ _=>rfl)) yI (zO _)))).pt (zH (yL (yN bD bX bY yi (pv 5) (zA (zg (zA (zM yF (pv 10) zE (λ_ _=>rfl)) (zA zE zC))) zC)))) zx)
     (zH (zm (yb (zQ xI (zM yF (pv 10) zE (λ_ _=>rfl)) (zg (zA yI (zA yI zC))) rfl) (yg (zQ yA (zM yF (pv 10) zE (λ_ _=>rfl)) (pv 3) (zO _)))).pt (zH (zL 9 yZ)) zx)))))
    (zH (zm (yx K rfl (pv 9) (λ_=>rfl)) (zH (yL (yN bD fK fL vM (pv 5) (zA (yE ["_law_to"] [6] (kR (xH wS (pv 8) (xG zE) xE)) (λ_ _ _ _=>zJ 0) (λ_ _ _ _=>.nil) (λ_ _ _ _=>zg (zA (zM (wF K rfl) (pv 1) zE (λ_ _=>rfl)) (zA (pv 0) zC)))) zC)))) zx))))))
    zx))))
  (zH (zN yZ))),?_⟩
 dsimp only[zT,zY];z_go;show(show ∀p,_=Sb->_ from λd hd=>?_);z_go;show⟨len2 (by change 2<=1000;decide),λp hp=>?_⟩;z_go;show⟨len2 (by change 1<=1000;decide),λa c6=>?_⟩;let e0:Ext [] H (upd H d (.dT [])):=.laid hd;let E1:Ext [] H (upd (upd (upd H d (.dT [])) p (.tup [.int n,.int b])) a (.lst [.ref p])):=e0.trans ((Ext.laid hp).trans (.laid c6));let h8:p≠a:=zG zB c6;let b5:H a=Sb:=(e0.trans (.laid hp)).no c6;let f6:d≠p:=zG zB hp;let b6:d≠a:=zG (o:=.dT []) (by rw[zD f6,zB]) c6;show⟨_,_,rfl,?_⟩;let j6:=qI0 c5;let f7:GoI H d a Y x ((n:Int),(b:Int)) [] [((n:Int),(b:Int))] (upd (upd (upd H d (.dT [])) p (.tup [.int n,.int b])) a (.lst [.ref p])):=by
  show⟨E1,by rw[zD b6,zD f6,zB];rfl,⟨[.ref p],zB,.one (by rw[zD h8,zB])⟩,gK,(λ_ h=>absurd h ∅),λy hy=>by rw[aE.mp hy];show .refl,(λ_ h=>absurd h ∅),.inr (aE.mpr rfl),∅⟩
 generalize upd (upd (upd H d (.dT [])) p (.tup [.int n,.int b])) a (.lst [.ref p])=H1 at f7 ⊢;z_go;show⟨GoW H wa d a Y x n b,⟨_,[],_,_,_,_,_,_,rfl,rfl,f7⟩,?_⟩;rintro μ u H' ⟨O,due,o6,o7,o8,o9,M,rfl,rfl,I⟩;let⟨j9,f8,h9⟩:=I.hdu;z_go;show⟨len2 (bG _),λf9 g0=>?_⟩;let e2:Ext [] H' (upd H' f9 (.lst [])):=.laid g0;let S:=e2.k f8;let a4:=h9.mono e2.tk;let g1:=e2.k I.hd;let b7:=I.ext.trans e2;show⟨wG due,.list [],.list (SqL.of S) a4.den,.list (SqL.of zB) .nil,qKt due,rfl,?_⟩;rw[if_pos rfl,qJd];generalize upd H' f9 (.lst [])=H2 at e2 S a4 g1 b7 ⊢;z_go;rcases List.eq_nil_or_concat due with h|⟨J,y,h⟩
 .subst h;rw[decide_eq_true rfl];cbv;z_go;let T:=q H2 b7;rw[I.end_]at T;show T
 .let h:due=J++[y]:=by rw[h,List.concat_eq_append]
  rw[decide_eq_false (by rw[h];simp)];rw[h]at a4;let⟨B,v,rfl,g2,vb,rfl,i0⟩:=a4.last;show iteT (L2.wBa (n2:=λ_ _=>True) λNw_ hNw_=>?_);let c7:=I.rd y (by rw[h];simp);let g3:∀p∈places Y,∀q∈metOf Y x p,q∈places Y:=λp _ q T=>qTk c5 T;let g4:=c7.within g3 f5;let d2:∀z∈O,z∈places Y:=λz hz=>(I.rk z hz).within g3 f5;let k0:=yP I.nod d2;let i1:due.length=J.length+1:=by rw[h];simp
  let k1:=I.fewd;let k2:=g2.len;z_go;show yB S ?_;show⟨a,B++[V.ref vb],.ref vb,rfl,rfl,S,∅,?_⟩;rw[List.dropLast_concat];let d3:upd H2 a (.lst B) d=Sa (.dT (trueD O)):=by rw[zD b6];show g1
  let e3:Ext [] H (upd H2 a (.lst B)):=((b7.mo (us:=[a])).trans .pt).drop b5;let u3:upd H2 a (.lst B) a=Sa (.lst B):=zB;let e9:TK H2 (upd H2 a (.lst B)):=.put (by intro ys z;rw[S]at z;cases z);let b8:=g2.mono e9;let a5:=e9 _ _ i0;generalize upd H2 a (.lst B)=H3 at d3 e3 u3 e9 b8 a5 ⊢;z_go;show⟨d,_,rfl,DGet.t (k:=plK y) d3 a5,?_⟩;rw[wj];by_cases hy:y∈O
  .rw [if_pos hy];show ye (iteF ?_);z_go;show⟨_,by rw[i1];show dD _,O,J,_,_,_,_,_,rfl,rfl,e3,d3,⟨B,u3,b8⟩,I.nod,I.rk,λz hz=>I.rd z (by rw[h];show aY _ hz),λk hk=>⟨(I.clo k hk).1,λc b9=>?_⟩,?_,∎⟩
   .rcases (I.clo k hk).2 c b9 with z|z
    .exact .inl z
    .rw [h]at z;rcases aL.mp z with z|z
     .exact .inr z
     .rw [aE.mp z];show .inl hy
   .rcases I.one with z|z
    .exact .inl z
    .rw [h]at z;rcases aL.mp z with z|z
     .exact .inr z
     .rw [aE.mp z];show .inl hy
  .rw [if_neg hy];show ye (iteT ?_);z_go;show⟨d,_,rfl,DPut.t (k:=plK y) d3 a5 (vc (by unfold trueD;rw[aB];lia)),?_⟩;let g5:putK (trueD O) (plK y) (V.bl Sc)=trueD (O++[y]):=by
    rw[vO _ (by rw[wj,if_neg hy])];unfold trueD;rw[aH];rfl
   rw[g5];let d4:upd H3 d (.dT (trueD (O++[y]))) d=Sa (.dT (trueD (O++[y]))):=zB;let e4:Ext [] H (upd H3 d (.dT (trueD (O++[y])))):=((e3.mo (us:=[d])).trans .pt).drop hd;let u4:upd H3 d (.dT (trueD (O++[y]))) a=Sa (.lst B):=by rw[zD b6.symm];show u3
   let f0:TK H3 (upd H3 d (.dT (trueD (O++[y])))):=.put (by intro ys z;rw[d3]at z;cases z);let d5:=b8.mono f0;let a6:=f0 _ _ a5;generalize upd H3 d (.dT (trueD (O++[y])))=H4 at d4 e4 u4 f0 d5 a6 ⊢;let d6:(O++[y]).Nodup:=by
    rw[cT];show⟨I.nod,∅,λz hz z' i2=>?_⟩;rw[aE.mp i2];rintro rfl;show hy hz
   let g6:=yP (l2:=places Y) d6 λz hz=>by
    rcases aL.mp hz with t|t
    .exact d2 z t
    .rw [aE.mp t];show g4
   rw[aJ,bE]at g6;let⟨bk,c0⟩:=mem_places.mp g4;let⟨Z,ya,w1,i3,c1,k3⟩:=ju c0;subst i3;let⟨m,n',k4,k5,j7,hm,k6,k7,c2⟩:=c5.blk c0;let⟨wv,bs,wb,pb,dl,ds,ve,s1,s2,s3,s4,s5,s6,s7,s8⟩:=qOf hW c0;let g7:yQ Y x ((Z:Int),(ya:Int))=readB x bk:=by unfold yQ;rw[c0]
   let d7:metOf Y x ((Z:Int),(ya:Int))=metB x Z bk:=by unfold metOf;rw[c0]
   let k8:=jv c5 x ((Z:Int),(ya:Int));let g8:ds.length=bk.ds.length:=by rw[s7.len,aB]
   let i4:=c2.few;z_go;show zo (SqT.of a6) (show atI _ ((0:Nat):Int)=Sa (V.int Z)from zf rfl) ?_;show za (e4.toSame.seq s1) s2 ?_;z_go;show zo (SqT.of a6) (show atI _ ((1:Nat):Int)=Sa (V.int ya)from zf rfl) ?_;show za (e4.toSame.seq s3) s4 ?_;show zt (e4.toSame.seqT s5) rfl ?_;z_go
   refine⟨dl,rfl,⟨_,e4.toSame.seq s6⟩,yw (xs:=ds) (λj u G => ∃(e:List V) (M:Option V),u = [Sa (.ref wa),Sa (.int n),Sa (.int b),Sa (.int x),Sa (.ref d),Sa (.ref a),Sa (.ref vb),Sa (.ref dl),Sa ve,Sa (.bl (!wrote x (bk.ds.take j))),M]/\Ext [] H G/\G d=Sa (.dT (trueD (O ++ [((Z:Int),(ya:Int))])))/\G a=Sa (.lst e) /\
    PlsAt G e (J++(((till x (bk.ds.take j)).filterMap yT).map λc=>(c,0)))/\G vb=Sa (.tup [.int Z,.int ya])/\(till x (bk.ds.take j)).any (rdB x)=Sd) ?_ ?_ ?_ ?_⟩
   .refine⟨B,_,rfl,e4,d4,u4,?_,a6,rfl⟩;simpa[till]using d5
   .rintro j u G hj ⟨e,M,rfl,eG,b0,a0,N,c3,b1⟩;show eG.toSame.seq s6
   .rintro j v u G hv ⟨e,M,rfl,eG,b0,a0,N,c3,b1⟩ N_ B_ C_ R_ hN_ hC_ hR_;let⟨dd,i5,g9⟩:=s7.get hv;let⟨C,f1,rfl⟩:=zX i5;let k9:j<bk.ds.length:=(aD.mp f1).1;let⟨pd,rfl,h0⟩:=vC g9;let f2:=N.len;let i6:=eQ yT (till x (bk.ds.take j));let b2:=wn x (bk.ds.take j);rw [aV] at b2;rw [aJ,aB] at f2;let c8:bk.ds.take (j+1)=bk.ds.take j ++ [C]:=zc f1;let a1:∀(G5:Hp) (fl:Bool) (D:Ends),Ext [] H G5->(∀l,Ext [] G5 l->D.nx [Sa (V.ref wa),Sa (.int n),Sa (.int b),Sa (.int x),Sa (.ref d),Sa (.ref a),Sa (.ref vb),Sa (.ref dl),Sa ve,Sa (.bl (fl && !wrB x C)),Sa (.ref pd)] l) ->
      tIfS (tAnd (tTest (tOp (rIn K Sd) (tOp (rIxT K) (tVar 10) (tC (V.int 0))) (tTup (tCons (tC (V.str "set")) (tCons (tC (V.str "add")) tNil))))) (tTest (tOp rEq (tOp (rIxT K) (tVar 10) (tC (V.int 1))) (tVar 3)))) (tAsg (tC (V.bl Sd)) (gName 9)) tNext D [Sa (V.ref wa),Sa (.int n),Sa (.int b),Sa (.int x),Sa (.ref d),Sa (.ref a),Sa (.ref vb),Sa (.ref dl),Sa ve,Sa (.bl fl),Sa (.ref pd)] G5:=by
     intro G5 fl D e5 hD;let h1:=e5.toSame.seqT h0
     with_reducible refine L2.wD8 ?_
     with_reducible refine L2.uT ?_
     z_go;show zo h1 (show atI _ ((0:Nat):Int)=Sa (V.str (dword C))from zf rfl) ?_;z_go;show⟨len2 (by change 2<=1000;decide),λpt i7=>?_⟩;let g:Ext [] G5 (upd G5 pt (.tup [.str "set",.str "add"])):=.laid i7;show⟨pt,[V.str "set",.str "add"],rfl,.inr (SqT.of zB),rfl,rfl,?_⟩;rw[if_neg aM,jt];kj_on;let T:=hD _ g;let c9:=g.toSame.seqT h1;generalize upd G5 pt (.tup [.str "set",.str "add"])=l at g T c9 ⊢;unfold wrB at T;cases hw:(wr C).isSome with
     |true=>
      rw[hw]at T;k_in;show zo c9 (vD C) ?_;z_go;show yH ?_;kj_on;cases hx:decide (darg C=x)with
      |true=>
       rw[hx]at T;k_in;simp at T;show T
      |false=>
       rw[hx]at T;cbv
       with_reducible refine L2.xb ?_
       simp at T;show T
     |false=>
      rw[hw]at T;show iteF (iteF ?_)
      with_reducible refine L2.xb ?_
      simp at T;show T
    cases U:wrote x (bk.ds.take j)with
    |true=>
     let c1:wrote x (bk.ds.take (j+1))=Sc:=by rw[c8,uo,U];rfl
     let b3:till x (bk.ds.take (j+1))=till x (bk.ds.take j):=by rw[c8,jy U]
     z_go;show⟨Sd,rfl,iteF (iteF ?_)⟩;z_go;show⟨Sd,rfl,iteF (iteF ?_)⟩
     with_reducible refine L2.xb ?_
     show a1 G Sd _ eG λl g=>hN_ _ _ ⟨e,Sa (.ref pd),?_,eG.trans g,g.k b0,g.k a0,?_,g.k c3,?_⟩
     .rw [c1];rfl
     .rw [b3];show N.mono g.tk
     .rw [b3];show b1
    |false=>
     let c1:wrote x (bk.ds.take (j+1))=wrB x C:=by rw[c8,uo,U];rfl
     let b3:till x (bk.ds.take (j+1))=till x (bk.ds.take j)++[C]:=by rw[c8,jx U]
     z_go;show⟨Sc,rfl,iteT ?_⟩;z_go;show⟨.ref pd,C,x,rfl,g9.mono eG.toSame,λG2 b4=>?_⟩;show⟨rdB x C,rfl,?_⟩;cases h2:rdB x C with
     |true=>
      k_in;let h3:askB Y x ((n:Int),(b:Int))=Sc:=askB_iff.mpr ⟨_,c7,by rw[g7];unfold readB;show cG.mpr ⟨C,qVg U f1,h2⟩⟩;let T:=q G2 (eG.trans b4);rw[h3]at T;show T
     |false=>
      cbv;let E2:=eG.trans b4;let c4:=b4.k b0;let W:=b4.k a0;let d8:=N.mono b4.tk;let d9:=b4.k c3;let e1:=E2.toSame.seqT h0;let e7:(till x (bk.ds.take (j+1))).any (rdB x)=Sd:=by rw[b3,List.any_append,b1];simp[h2]
      z_go;show⟨Sc,rfl,iteT ?_⟩;z_go;show zo e1 (show atI _ ((0:Nat):Int)=Sa (V.str (dword C))from zf rfl) ?_;z_go;show vW ?_;rw[qLj];z_go;cases a7:wm C with
      |true=>
       k_in;show yB W ?_;z_go;show zo e1 (vD C) ?_;z_go;show⟨len2 (by change 2<=1000;decide),λp2 X=>?_⟩;let a2:p2≠a:=(zG W X).symm
       with_reducible refine L2.wD ?_
       show yO (xs:=e) (by rw[zD a2.symm];show W) (by rw[cK];lia) ?_;let tk:TK G2 (upd (upd G2 p2 (.tup [.int (darg C),.int 0])) a (.lst (e++[.ref p2]))):=(Ext.laid X).tk.trans (.put (by intro ys z;rw[zD a2.symm,W]at z;cases z));let i8:d≠p2:=zG c4 X;let E5:Ext [] H (upd (upd G2 p2 (.tup [.int (darg C),.int 0])) a (.lst (e++[.ref p2]))):=((E2.mo (us:=[a])).trans ((Ext.laid X).trans .pt)).drop b5;show a1 _ Sc _ E5 λl g=>hN_ _ _ ⟨e++[.ref p2],Sa (.ref pd),?_,E5.trans g,g.k (by rw[zD b6,zD i8];show c4),g.k zB,?_,g.tk _ _ (tk _ _ d9),e7⟩
       .rw [c1];rfl
       .rw [b3,dP,aH,<-dY,cI,qUs C a7];show((d8.mono tk).append (.one (p:=(darg C,0)) (by rw[zD a2,zB]))).mono g.tk
      |false=>
       cbv
       with_reducible refine L2.xb ?_
       let hn:yT C=Sb:=by
        unfold wm at a7;cases z:yT C with
        |none=>rfl
        |some y=>rw[z]at a7;cases a7
       show a1 _ Sc _ E2 λl g=>hN_ _ _ ⟨e,Sa (.ref pd),?_,E2.trans g,g.k c4,g.k W,?_,g.k d9,e7⟩
       .rw [c1];rfl
       .rw [b3,dP,cI,hn,List.filterMap_nil,bS];show d8.mono g.tk
   .rintro u G ⟨e,M,rfl,eG,b0,a0,N,c3,b1⟩;rw[g8,aZ]at N b1 ⊢;let i9:yQ Y x ((Z:Int),(ya:Int))=Sd:=by rw[g7];show b1
    let f2:=N.len;let i6:=eQ yT (till x bk.ds);let b2:=wn x bk.ds;rw[aJ,aB]at f2;let fin:∀(l:Hp)(a8:List V),Ext [] H l->l d=Sa (.dT (trueD (O++[((Z:Int),(ya:Int))])))->l a=Sa (.lst a8)->PlsAt l a8 (J++metOf Y x ((Z:Int),(ya:Int)))->∀o6 o7 o8 o9 M:Option V,
      ∃m',m'<((places Y).length-O.length)*24+due.length/\GoW H wa d a Y x n b m' [Sa (.ref wa),Sa (.int n),Sa (.int b),Sa (.int x),Sa (.ref d),Sa (.ref a),o6,o7,o8,o9,M] l:=by
     intro l a8 g f3 d0 c9 o6 o7 o8 o9 M;show⟨_,?_,O++[((Z:Int),(ya:Int))],J++metOf Y x ((Z:Int),(ya:Int)),o6,o7,o8,o9,M,rfl,rfl,g,f3,⟨a8,d0,c9⟩,d6,?_,?_,?_,?_,?_⟩
     .rw [aJ,aJ,bE];lia
     .intro z hz;rcases aL.mp hz with t|t
      .exact I.rk z t
      .rw [aE.mp t];show c7
     .intro z hz;rcases aL.mp hz with t|t
      .exact I.rd z (by rw[h];show aY _ t)
      .exact .step c7 t
     .intro k hk;rcases aL.mp hk with t|t
      .refine⟨(I.clo k t).1,λc b9=>?_⟩;rcases (I.clo k t).2 c b9 with r|r
       .exact .inl (aY _ r)
       .rw [h]at r;rcases aL.mp r with r|r
        .exact .inr (aY _ r)
        .exact .inl (bI _ r)
      .rw [aE.mp t];show⟨i9,λc b9=>.inr (bI _ b9)⟩
     .rcases I.one with r|r
      .exact .inl (aY _ r)
      .rw [h]at r;rcases aL.mp r with r|r
       .exact .inr (aY _ r)
       .exact .inl (bI _ r)
     .rw [aJ,aJ,bE];lia
    z_go;cases U:wrote x bk.ds with
    |true=>
     show⟨Sd,rfl,iteF ?_⟩
     with_reducible refine L2.xb ?_
     show hNw_ _ _ <| fin G e eG b0 a0 ?_ _ _ _ _ _
     rw[d7];unfold metB vn;rw[U,if_pos rfl,bS];show N
    |false=>
     show⟨Sc,rfl,iteT ?_⟩;z_go;show yB a0 ?_;z_go;let⟨en,wd,rfl,j0,_⟩:=vf c2.ns.few s8;let j1:=c2.ns.few;k_dec;show vh j1 (eG.toSame.seqT j0) λpp j2=>?_;let e5:Ext [] G (upd G pp (.tup (bk.ns.map V.int))):=.laid j2;let h4:=e5.k a0;let h5:=e5.k b0;let f4:=e5.k c3;let e8:=N.mono e5.tk;let a9:upd G pp (.tup (bk.ns.map V.int)) pp=Sa (.tup (bk.ns.map V.int)):=zB;generalize upd G pp (.tup (bk.ns.map V.int))=G5 at e5 h4 h5 f4 e8 a9 ⊢;show⟨pp,rfl,⟨_,SqT.of a9⟩,λle d1=>?_⟩;let j3:pp≠le:=zG a9 d1;let j4:vb≠le:=zG f4 d1;show jp (xs:=bk.ns.map V.int) (λj u l=>∃(o0:Option V)(ts:List V),u=[o0,Sa (.ref vb)]/\Ext [le] G5 l/\l le=Sa (.lst ts)/\PlsAt l ts ((bk.ns.take j).map λt=>((Z:Int),t))) ?_ ?_ ?_ ?_
     .exact⟨Sb,[],rfl,.laid d1,zB,.nil⟩
     .rintro j u l hj ⟨o0,ts,rfl,g,L,a3⟩;show SqT.of (g _ _ (by simpa using j3) a9)
     .rintro j yy u l R j5 ⟨o0,ts,rfl,g,L,a3⟩ hR;let⟨t,ht,rfl⟩:=zX j5;let hj:j<bk.ns.length:=(aD.mp ht).1;let b2:=a3.len;rw[aB,aV]at b2;z_go;k_in;show zo (SqT.of (g _ _ (by simpa using j4) f4)) (show atI _ ((0:Nat):Int)=Sa (V.int Z)from zf rfl) ?_;z_go;show⟨len2 (by change 2<=1000;decide),λp2 X=>?_⟩;let a2:p2≠le:=(zG L X).symm;let tk:TK l (upd (upd l p2 (.tup [.int Z,.int t])) le (.lst (ts++[.ref p2]))):=(Ext.laid X).tk.trans (.put (by intro ys z;rw[zD a2.symm,L]at z;cases z));show⟨ts,by rw[zD a2.symm];show L,zV ∎,hR _ _ ⟨_,ts++[.ref p2],rfl,g.trans ((Ext.laid X).trans .pt),zB,?_⟩⟩
      rw[zc ht,aH];show(a3.mono tk).append (.one (by rw[zD a2,zB]))
     .rintro u l ⟨o0,ts,rfl,g,L,a3⟩;rw[aB,aZ]at a3;let b2:=a3.len;rw[aB]at b2;let E6:=g.drop d1;let d0:=E6.k h4;let f3:=E6.k h5;z_go;show⟨a,le,e,ts,rfl,rfl,d0,L,by rw[cK];lia,?_⟩;let tk:TK l (upd l a (.lst (e++ts))):=.put (by intro ys z;rw[d0]at z;cases z);show hNw_ _ _ <| fin _ (e++ts) (((((eG.trans e5).trans E6).mo (us:=[a])).trans .pt).drop b5) (by rw[zD b6];show f3) zB ?_ _ _ _ _ _
      rw[d7];unfold metB vn;rw[U,if_neg aM,<-dY];show((e8.mono E6.tk).append a3).mono tk
def wD5(K:SH):Sp:=λvs H Q _ => ∃(a:Sf) (wk:List Blk),vs = [.ref a]/\Den K H (workD wk) (.ref a)/\(∀b∈wk,b.ns.length<=2)/\wk.length<=12 /\
 ∀(d:Sf)(H':Hp),H d=Sb->Ext [] H H'->Nex H' d wk->Q (.ref d) H'
noncomputable abbrev sNx:Sr:=top 7
theorem wD2(F:Fun K "nexts_of" "nexts_of" sNx f fd)(m:mg "list"=Sb)(o:mg "enumerate"=Sb):FnOk P w K mg base CX0 1 f fd ["work"] (wD5 K):=by
 show F.go (N:=["work"]) fsc ?_;rintro a6 A W s H O Q E hr ⟨a,X,rfl,hW,Y,a7,q⟩
 refine⟨_,zH (zN (wCz ["at","deeds","end"] [] rfl (.of rfl) (xl rfl o (zA (pv 0) zC)) (λ_ _ _ _=>xc (n:=2) K rfl rfl (zR (zJ 0) (zR (xc (n:=2) K rfl rfl (zR (zJ 1) (zR (zJ 2) zp))) zp))) (λ_ _ _ _ =>.nil)
  (λ_ _ _ _=>pv 0) (λ_ _ _ _=>yK (qOn K rfl) (by rfl) m cP (zA (xH (qR5 K rfl) (pv 2) (xG zE) xE) zC)))),?_⟩
 dsimp only[zT,zY];let⟨a',O,ea,u,v⟩:=hW.ofList;cases ea;let Z:O.length=X.length:=by rw[v.len,aB]
 z_go;show⟨a,rfl,⟨O,u⟩,λd B=>?_⟩;show Qz (xs:=O) (λi l g=>∃(e:List (Key×V))(S T U:Option V),l=[S,T,U]/\Ext [d] H g/\g d=Sa (.dK e)/\e.length<=i/\∀k:Int,(valV e (Sum.inl k)=Sb/\¬(0<=k/\k<i))\/∃c,valV e (Sum.inl k)=Sa (.ref c)/\c≠d/\g c=Sa (.lst ((nxt X k).map V.int))) ?_ ?_ ?_ ?_
 .exact⟨[],Sb,Sb,Sb,rfl,.laid B,zB,aI _,λk=>.inl ⟨rfl,∎⟩⟩
 .rintro i l g hi ⟨e,S,T,U,rfl,C,h,D,G⟩;show(C.drop B).toSame.seq u
 .rintro i x l g pt R hx ⟨e,S,T,U,rfl,C,h,D,G⟩ r hR;let⟨dd,a0,a1⟩:=v.get hx;let⟨b,hb,rfl⟩:=zX a0;let hi:i<X.length:=(aD.mp hb).1;let I:=Y b (aK hb);let⟨c,dl,a8,ve,rfl,hc,_,_,a2⟩:=wh a1;let⟨en,wd,rfl,a3,_⟩:=vf I a2;let a4:pt≠d:=(zG h r).symm;let e1:Ext [d] H (upd g pt (.tup [.int i,.ref c])):=C.trans (.laid r);let es:Same H (upd g pt (.tup [.int i,.ref c])):=(e1.drop B).toSame;let j:upd g pt (.tup [.int i,.ref c]) d=Sa (.dK e):=by rw[zD a4.symm];show h
  let J:SqT K (upd g pt (.tup [.int i,.ref c])) pt [.int i,.ref c]:=SqT.of zB;let a5:Ext [] g (upd g pt (.tup [.int i,.ref c])):=.laid r;generalize upd g pt (.tup [.int i,.ref c])=H1 at *;show zt J rfl ?_;z_go;show zt (es.seqT hc) rfl ?_;z_go;k_in;k_dec;show vh I (es.seqT a3) λp hp=>?_;let a9:p≠d:=(zG j hp).symm;z_go;show⟨p,_,rfl,.inr (SqT.of zB),λt L=>?_⟩;let e2:Ext [] H1 (upd (upd H1 p (.tup (b.ns.map V.int))) t (.lst (b.ns.map V.int))):=(Ext.laid hp).trans (.laid L);let M:upd (upd H1 p (.tup (b.ns.map V.int))) t (.lst (b.ns.map V.int)) t=Sa (.lst (b.ns.map V.int)):=zB
  let n2:t≠d:=(zG (Ext.laid (ts:=[]) hp _ _ ∅ j) L).symm;generalize upd (upd H1 p (.tup (b.ns.map V.int))) t (.lst (b.ns.map V.int))=H2 at *;show⟨e,Sum.inl (i:Int),rfl,e2.k j,zV ∎,hR _ _ ⟨_,_,_,_,rfl,?_,zB,?_,λk=>?_⟩⟩
  .exact e1.trans ((e2.mo).trans .pt)
  .let:=xP e (Sum.inl (i:Int):Key) (.ref t);lia
  .rw [xx];by_cases z:k=(i:Int)
   .subst z;rw[if_pos rfl];show .inr ⟨t,rfl,n2,?_⟩;rw[zD n2,M,qTf hb]
   .rw [if_neg (λy=>z (gG y))];show(G k).imp (λ⟨a,b⟩=>⟨a,∎⟩) λ⟨c',h1,h2,h3⟩=>⟨c',h1,h2,by rw[zD h2];show(a5.trans e2).k h3⟩
 .rintro l g ⟨e,S,T,U,rfl,C,h,D,G⟩;rw[Z]at G;show q d g B (C.drop B) ⟨e,h,λk=>(G k).imp id λ⟨c,h1,_,h3⟩=>⟨c,h1,h3⟩⟩
def NsAt(l:Sf)(H:Hp):List V->List (List Int)->Prop:=Paired λv ns=>∃b,v=.ref b/\b≠l/\H b=Sa (.lst (ns.map V.int))
def oH(K:SH):Sp:=λvs H Q _ => ∃(a:Sf) (w:List Blk),vs = [.ref a]/\Den K H (workD w) (.ref a)/\(∀b∈w,b.ns.length<=2)/\w.length<=12 /\
 ∀(l:Sf)(us:List V)(H':Hp),H l=Sb->Ext [] H H'->H' l=Sa (.lst us)->NsAt l (yo H [l] H') us (w.map Blk.ns)->Q (.ref l) H'
theorem NsAt.mono(h:NsAt l H us ns)(e:Ext [l] H a):NsAt l a us ns:=Paired.mapP h λ_ _ ⟨b,d,c,f⟩=>⟨b,d,c,e _ _ (by simpa using c) f⟩
theorem NsAt.same(h:NsAt l H us ns)(e:Same H a):NsAt l a us ns:=Paired.mapP h λ_ _ ⟨b,c,d,f⟩=>⟨b,c,d,e _ _ f⟩
theorem NsAt.den:∀ {us:List V} {a:List Blk},NsAt l H us (a.map Blk.ns)->DenL K H (a.map λb=>intsD b.ns) us
 |_,[],.nil=>.nil
 |_,_::_,.cons ⟨_,e,_,h⟩ t=>e ▸ .cons (.list (SqL.of h) (DenL.ofInts _)) (NsAt.den t)
theorem NsAt.len(h:NsAt l H us ns):us.length=ns.length:=dN h
theorem NsAt.get:∀{us:List V}{d:List Blk},NsAt l H us (d.map Blk.ns)->∀{x:Int},0<=x->x<d.length->∃c,atI us x=Sa (.ref c)/\H c=Sa (.lst ((nxt d x).map V.int)):=by
 let key:∀{us:List V}{d:List Blk}{i:Nat}{b:Blk},NsAt l H us (d.map Blk.ns)->d[i]? = Sa b->∃c,us[i]? = Sa (.ref c)/\H c=Sa (.lst (b.ns.map V.int)):=by
  intro us d
  induction d generalizing us with
  |nil=>intro i b _ h;simp at h
  |cons b0 r k=>
   intro i b h e;cases h with
   |cons a t=>
    let⟨c,rfl,_,m⟩:=a;cases i with
    |zero=>simp at e;subst e;show⟨c,rfl,m⟩
    |succ i=>
     let⟨n,g,f⟩:=k t (by simpa using e);show⟨n,by simpa using g,f⟩
 intro us d h x o g;let⟨i,rfl⟩:=dZ o;let j:i<d.length:=by lia
 let⟨c,f,p⟩:=key h (aF j);show⟨c,zf f,by rw[qTf (aF j)];show p⟩
noncomputable abbrev sEnds:Sr:=top 40
theorem wA2(F:Fun K "_law_ends" "_law_ends" sEnds f Y)(m:mg "list"=Sb):FnOk P w K mg base CX0 1 f Y ["_law_work_here"] (oH K):=by
 show F.go (N:=["_law_work_here"]) fsc ?_;rintro a1 A J s H C Q E hr ⟨a,r,rfl,hW,L,a2,q⟩
 refine⟨_,zH (zN (yE ["_law_deeds_here","_law_end"] [] (ze (pv 0)) (λ_ _ _ _=>xc (n:=2) K rfl rfl (zR (zJ 0) (zR (zJ 1) zp))) (λ_ _ _ _ =>.nil)
  (λ_ _ _ _=>yK (qOn K rfl) (by rfl) m cP (zA (xH (qR5 K rfl) (pv 1) (xG zE) xE) zC)))),?_⟩
 dsimp only[zT,zY];let⟨a',C,ea,t,u⟩:=hW.ofList;cases ea;let M:C.length=r.length:=by rw[u.len,aB]
 z_go;show⟨a,rfl,⟨C,t⟩,λl v=>?_⟩;show zr (xs:=C) (λi j e=>∃(g:List V)(D G:Option V),j=[D,G]/\Ext [l] H e/\e l=Sa (.lst g)/\NsAt l (yo H [l] e) g ((r.take i).map Blk.ns)) ?_ ?_ ?_ ?_
 .exact⟨[],Sb,Sb,rfl,.laid v,zB,.nil⟩
 .rintro i j e hi ⟨g,D,G,rfl,o,h,d⟩;show(o.drop v).toSame.seq t
 .rintro i x j e R hx ⟨g,D,G,rfl,o,h,d⟩ hR;let Z:Same H e:=(o.drop v).toSame;let⟨dd,O,S⟩:=u.get hx;let⟨b,T,rfl⟩:=zX O;let hi:i<r.length:=(aD.mp T).1;let y:=L b (aK T);let⟨c,dl,a3,ve,rfl,hc,_,_,U⟩:=wh S;let⟨en,wd,rfl,W,_⟩:=vf y U;show zt (Z.seqT hc) rfl ?_;z_go;k_in;k_dec;show vh y (Z.seqT W) λp I=>?_;let X:p≠l:=(zG h I).symm;z_go;show⟨p,_,rfl,.inr (SqT.of zB),λz k=>?_⟩;let l':upd e p (.tup (b.ns.map V.int)) l=Sa (.lst g):=by rw[zD X.symm];show h
  let B:z≠l:=(zG l' k).symm;let a0:g.length=i:=by rw[d.len,aB,aV];lia
  show⟨g,by rw[zD B.symm];show l',zV ∎,hR _ _ ⟨g++[.ref z],_,_,rfl,?_,zB,?_⟩⟩
  .exact o.trans ((Ext.laid I).trans ((Ext.laid k).trans .pt))
  .let ht:r.take (i+1)=r.take i++[b]:=by rw[eO,T];rfl
   let E2:Ext [l] e (upd (upd (upd e p (.tup (b.ns.map V.int))) z (.lst (b.ns.map V.int))) l (.lst (g++[.ref z]))):=(Ext.laid I).trans ((Ext.laid k).trans .pt);rw[ht,aH];show Paired.snoc (d.same E2.young) ⟨z,rfl,B,by rw[zi ((o.trans (.laid I)).none (by simpa using B) k) (by simpa using B),zD B,zB]⟩
 .rintro j e ⟨g,D,G,rfl,o,h,d⟩;rw[M,aZ]at d;show q l g e v (o.drop v) h d
theorem anyK(K:SH)(h:X.K=K)(a:X.A.handled=Sb):CallR X (.builtin "any") (rAnyB K):=h▸jr a
noncomputable abbrev qNw:Sr:=top 14
theorem qPg(F:Fun K "writers" "writers" qNw f fd)(u:mg "enumerate"=Sb)(G:mg "any"=Sb)(a0:Has P w K mg base "writes_box" 1 ["deed","box"] (xp wrB K)):FnOk P w K mg base CX0 2 f fd ["work","box"] (wM K):=by
 show F.go (N:=["work","box"]) fsc ?_;rintro a8 A a1 s H vs Q E hr ⟨wa,B,m,a2,x,rfl,hW,I,hm,q⟩
 refine⟨_,zH (zN (yE ["at","deeds","end"] [1] (xl rfl u (zA (pv 0) zC)) (λ_ _ _ _=>xc (n:=2) K rfl rfl (zR (zJ 0) (zR (xc (n:=2) K rfl rfl (zR (zJ 1) (zR (zJ 2) zp))) zp)))
  (λ_ _ _ _=>.cons (yx K rfl (zd (anyK K rfl hr.hd) (by rfl) G iC (zA (yE ["deed"] [3] (je K rfl (pv 1)) (λ_ _ _ _=>zJ 0) (λ_ _ _ _=>.nil) (λ_ _ _ _=>zI a0 hr ⋯ (zA (pv 0) (zA (pv 1) zC)))) zC)) (λ_=>rfl)) .nil) (λ_ _ _ _=>pv 0))),?_⟩
 dsimp only[zT,zY];let⟨a',vs,ea,J,L⟩:=hW.ofList;cases ea;let a3:vs.length=B.length:=by rw[L.len,aB]
 let a9:=I.len;z_go;show⟨wa,rfl,⟨vs,J⟩,λl M=>?_⟩;show Qz (xs:=vs) (λi a o=>∃(r o1 o2:Option V),a=[r,o1,o2,Sa (.int x)]/\Ext [l] H o/\o l=Sa (.lst ((wrTo B x i).map V.int))) ?_ ?_ ?_ ?_
 .exact⟨Sb,Sb,Sb,rfl,.laid M,zB⟩
 .rintro i a o hi ⟨r,o1,o2,rfl,O,h⟩;show(O.drop M).toSame.seq J
 .rintro i y a o pt R hy ⟨r,o1,o2,rfl,O,h⟩ S hR;let⟨dd,v,a4⟩:=L.get hy;let⟨b,hb,rfl⟩:=zX v;let hi:i<B.length:=(aD.mp hb).1;let⟨c,dl,z,ve,rfl,hc,T,t,_⟩:=wh a4;let U:=I.blk b (aK hb);let a5:pt≠l:=(zG h S).symm;let e1:Ext [l] H (upd o pt (.tup [.int i,.ref c])):=O.trans (.laid S);let es:Same H (upd o pt (.tup [.int i,.ref c])):=(e1.drop M).toSame;let W:upd o pt (.tup [.int i,.ref c]) l=Sa (.lst ((wrTo B x i).map V.int)):=by rw[zD a5.symm];show h
  let X:SqT K (upd o pt (.tup [.int i,.ref c])) pt [.int i,.ref c]:=SqT.of zB;generalize upd o pt (.tup [.int i,.ref c])=H1 at *;show zt X rfl ?_;z_go;show zt (es.seqT hc) rfl ?_;z_go;show⟨dl,rfl,⟨z,es.seq T⟩,λlc p=>?_⟩;let b0:l≠lc:=zG W p;show zr (xs:=z) (λj a C=>∃(r:Option V),a=[r,Sa (.int x)]/\Ext [lc] H1 C/\C lc=Sa (.lst (((b.ds.take j).map (wrB x)).map V.bl))) ?_ ?_ ?_ ?_
  .exact⟨Sb,rfl,.laid p,zB⟩
  .rintro j a C hj ⟨r,rfl,D,g⟩;show(D.drop p).toSame.seq (es.seq T)
  .rintro j y a C R2 hy ⟨r,rfl,D,g⟩ a6;let⟨dd,v,a7⟩:=t.get hy;let⟨d,hd,rfl⟩:=zX v;let b1:j<b.ds.length:=(aD.mp hd).1;z_go;k_in;show⟨y,d,x,rfl,(a7.mono es).mono (D.drop p).toSame,λH3 e3=>?_⟩;show⟨_,e3.k g,zV (by rw[aB,aB,aV];let:=U.few;lia),a6 _ _ ⟨_,rfl,D.trans ((e3.mo).trans .pt),?_⟩⟩;rw[zB,zc hd,aH,aH];rfl
  .rintro a C ⟨r,rfl,D,g⟩;let Y:z.length=b.ds.length:=by rw[t.len,aB]
   rw[Y,aZ]at g;z_go;show⟨lc,b.ds.map (wrB x),rfl,SqL.of g,?_⟩;show⟨wrote x b.ds,?_,?_⟩
   .let e:(b.ds.map (wrB x)).any id=wrote x b.ds:=by unfold wrote;rw[List.any_map];rfl
    rw[e];rfl
   let E2:Ext [] H1 C:=D.drop p;let Z:=E2.k W;let hs:=qJv B x i;let b2:=xg B x i;rw[qU9 hb]at hs;cases hw:wrote x b.ds with
   |true=>
    rw[hw,if_pos rfl]at hs;kt_le;show⟨_,Z,zV (by rw[aB];lia),hR _ _ ⟨_,_,_,rfl,(e1.trans (E2.mo)).trans .pt,?_⟩⟩;rw[zB,hs,aH];rfl
   |false=>
    rw[hw,if_neg aM]at hs;show iteF (iteF (hR _ _ ⟨_,_,_,rfl,e1.trans (E2.mo),?_⟩));rw[hs];show Z
 .rintro a o ⟨r,o1,o2,rfl,O,h⟩;rw[a3]at h;show q l o M (O.drop M) h
noncomputable abbrev qO0:Sr:=top 43
theorem inK(K:SH)(h:X.K=K):OpR X (SB .In) (rIn K Sd):=h▸xI
theorem qPl(F:Fun K "_law_writes" "_law_writes" qO0 f fd)(r:mg "range"=Sb)(G:mg "len"=Sb)(I:mg "any"=Sb):FnOk P w K mg base CX0 1 f fd ["_law_work_here","_law_box"] (wM K):=by
 show F.go (N:=["_law_work_here","_law_box"]) fsc ?_;rintro b0 A a1 s H vs Q E hr ⟨wa,z,m,a2,x,rfl,hW,J,hm,q⟩
 refine⟨_,zH (zN (yE ["_law_b"] [1,0] (xO rfl r (zA (zd yV (by rfl) G cV (zA (pv 0) zC)) zC)) (λ_ _ _ _=>zJ 0)
  (λ_ _ _ _ =>.cons (yx K rfl (zd (anyK K rfl hr.hd) (by rfl) I iC (zA (yE ["_law_one"] [1] (je K rfl (zM (wF K rfl) (zM (qOq K rfl) (pv 2) (pv 0) (λ_ _=>rfl)) zE (λ_ _=>rfl))) (λ_ _ _ _=>zJ 0) (λ_ _ _ _ =>.nil)
   (λ_ _ _ _=>vF (yJ (inK K rfl) (zM (wF K rfl) (pv 0) zE (λ_ _=>rfl)) (zg (zA yI (zA yI zC))) rfl) (wQ (yJ yA (zM (wF K rfl) (pv 0) zE (λ_ _=>rfl)) (pv 1) (zO _))))) zC)) (λ_=>rfl)) .nil) (λ_ _ _ _=>pv 0))),?_⟩
 dsimp only[zT,zY];let⟨a',vs,ea,L,M⟩:=hW.ofList;cases ea;let a3:vs.length=z.length:=by rw[M.len,aB]
 let b1:=J.len;z_go;show⟨wa,_,rfl,.inl L,?_⟩;z_go;show⟨_,rfl,∎,∎,λl hl=>?_⟩;show uU (lo:=0) (n:=(vs.length:Int).toNat) (λi a H'=>∃(u:Option V),a=[u,Sa (.int x),Sa (.ref wa)]/\Ext [l] H H'/\H' l=Sa (.lst ((wrTo z x i).map V.int))) ?_ ?_ ?_
 .exact⟨Sb,rfl,.laid hl,zB⟩
 .rintro i a H1 R hi ⟨u,rfl,e1,O⟩ hR;let hi:i<z.length:=by lia
  obtain⟨b,hb⟩:∃b,z[i]? = Sa b:=⟨z[i],aF hi⟩;let S:Same H H1:=(e1.drop hl).toSame;let⟨y,hy,a4⟩:=M.get' (i:=i) (d:=blkD b) (by rw[bA,hb];rfl);let⟨c,dl,B,ve,rfl,hc,T,v,_⟩:=wh a4;let U:=J.blk b (aK hb);z_go;show za (S.seq L) (show atI vs (0+(i:Int))=Sa (.ref c)by rw[iD];show zf hy) ?_;z_go;show zo (S.seqT hc) (show atI _ ((0:Nat):Int)=Sa (V.ref dl)from zf rfl) ?_;z_go;show⟨dl,rfl,⟨B,S.seq T⟩,λC h=>?_⟩;let b2:l≠C:=zG O h;show zr (xs:=B) (λj a t=>∃(u:Option V),a=[u,Sa (.int x)]/\Ext [C] H1 t/\t C=Sa (.lst (((b.ds.take j).map (wrB x)).map V.bl))) ?_ ?_ ?_ ?_
  .exact⟨Sb,rfl,.laid h,zB⟩
  .rintro j a t hj ⟨u,rfl,D,g⟩;show(D.drop h).toSame.seq (S.seq T)
  .rintro j y a t R2 hy ⟨u,rfl,D,g⟩ a5;let⟨dd,a6,a7⟩:=v.get hy;let⟨d,hd,rfl⟩:=zX a6;let⟨p,rfl,a8⟩:=vC a7;let hp:=(D.drop h).toSame.seqT (S.seqT a8);let b3:j<b.ds.length:=(aD.mp hd).1;z_go;k_in;show uA ?_;z_go;show zo hp (show atI _ ((0:Nat):Int)=Sa (V.str (dword d))from zf rfl) ?_;z_go;show⟨len2 (by change 2<=1000;decide),λpt a9=>?_⟩;let e6:Ext [] t (upd t pt (.tup [.str "set",.str "add"])):=.laid a9;show⟨pt,[V.str "set",.str "add"],rfl,.inr (SqT.of zB),rfl,rfl,?_⟩;rw[if_neg aM,jt];kj_on;let W:=e6.toSame.seqT hp;generalize upd t pt (.tup [.str "set",.str "add"])=G6 at e6 W ⊢
   let o:∃xs:List V,G6 C=Sa (.lst xs)/\xs.length<Sn/\R2 [Sa (.ref p),Sa (.int x)] (upd G6 C (.lst (xs++[.bl (wrB x d)]))):=by
    show⟨_,e6.k g,zV (by rw[aB,aB,aV];let:=U.few;lia),a5 _ _ ⟨_,rfl,D.trans ((e6.mo).trans .pt),?_⟩⟩;rw[zB,zc hd,aH,aH];rfl
   unfold wrB at o;cases hw:(wr d).isSome with
   |true=>
    rw[hw]at o;k_in;show zo W (vD d) ?_;z_go;show yH ?_;show o
   |false=>
    rw[hw]at o;show iteF o
  .rintro a t ⟨u,rfl,D,g⟩;let X:B.length=b.ds.length:=by rw[v.len,aB]
   rw[X,aZ]at g;z_go;show⟨C,b.ds.map (wrB x),rfl,SqL.of g,?_⟩;show⟨wrote x b.ds,?_,?_⟩
   .let e:(b.ds.map (wrB x)).any id=wrote x b.ds:=by unfold wrote;rw[List.any_map];rfl
    rw[e];rfl
   let E2:Ext [] H1 t:=D.drop h;let Y:=E2.k O;let Z:=qJv z x i;let b4:=xg z x i;rw[qU9 hb]at Z;cases hw:wrote x b.ds with
   |true=>
    rw[hw,if_pos rfl]at Z;kt_le;show⟨_,Y,zV (by rw[aB];lia),hR _ _ ⟨_,rfl,(e1.trans (E2.mo)).trans .pt,?_⟩⟩;rw[zB,Z,aH,iD];rfl
   |false=>
    rw[hw,if_neg aM]at Z;show iteF (iteF (hR _ _ ⟨_,rfl,e1.trans (E2.mo),?_⟩));rw[Z];show Y
 .rintro a H' ⟨u,rfl,e',a0⟩;rw[cE,a3]at a0;show q l H' hl (e'.drop hl) a0
noncomputable abbrev qO4:Sr:=top 18
theorem qPq(F:Fun K "awaited" "awaited" qO4 f fd)(a:mg "range"=Sb)(h:mg "len"=Sb)(M:Has P w K mg base "awaiting" 4 ["works","box"] (qR3 K)):FnOk P w K mg base CX0 5 f fd ["works","number","box"] (qKa K):=by
 show F.go (N:=["works","number","box","waiting"]) fsc ?_;rintro a3 A O s H vs Q E hr ⟨wa,D,n,I,x,rfl,hW,j,o,q⟩;let hu:=zn hr
 refine⟨_,zF (zL 3 (zI M hr ⋯ (zA (pv 0) (zA (pv 2) zC))))
  (zH (zN (yE ["at"] [1,3] (xO rfl a (zA (zd yV (by rfl) h cV (zA (zM zZ (pv 0) (pv 1) (λ_ _=>rfl)) zC)) zC)) (λ_ _ _ _=>zJ 0) (λ_ _ _ _=>.cons (xr (QP hu (zg (zA (pv 1) (zA (pv 0) zC))) (pv 2))) .nil) (λ_ _ _ _=>pv 0)))),?_⟩
 dsimp only[zT,zY];let⟨a',vs,ea,S,T⟩:=hW.ofList;cases ea;let⟨vw,U,W⟩:=T.get' (i:=n) (d:=workD I) (by rw[bA,o];rfl);let⟨wb,bs,rfl,X,r⟩:=W.ofList;let Y:bs.length=I.length:=by rw[r.len,aB]
 let⟨m,a4,a5,Z⟩:=j.all I (aK o);let a6:=Z.len;z_go;show⟨wa,D,x,rfl,hW,j,λd ks H1 hd J u a2 a0=>?_⟩;z_go;show za (J.toSame.seq S) (zf U) ?_;z_go;show⟨wb,_,rfl,.inl (J.toSame.seq X),?_⟩;z_go;show⟨_,rfl,∎,∎,λl v=>?_⟩;let a7:d≠l:=zG u v;show uU (lo:=0) (n:=(bs.length:Int).toNat) (λi e G=>∃(o0:Option V),e=[o0,Sa (.int n),Sa (.ref d)]/\Ext [l] H1 G/\G l=Sa (.lst ((waitTo D x n i).map V.int))) ?_ ?_ ?_
 .exact⟨Sb,rfl,.laid v,zB⟩
 .rintro i e G R hi ⟨o0,rfl,y,b⟩ hR;let hi:i<I.length:=by lia
  let a1:G d=Sa (.dT (trueD ks)):=(y.drop v).k u;let a8:=qP7 D x n i;z_go;show⟨len2 (by change 2<=1000;decide),λp hp=>?_⟩;let z:Ext [] G (upd G p (.tup [.int (n:Int),.int (0+(i:Int))])):=.laid hp;let B:upd G p (.tup [.int (n:Int),.int (0+(i:Int))]) p=Sa (.tup [.int (n:Int),.int (0+(i:Int))]):=zB;let C:=z.k a1;let g:=z.k b;generalize upd G p (.tup [.int (n:Int),.int (0+(i:Int))])=G4 at z B C g ⊢;z_go;show⟨d,_,rfl,DGet.t (k:=plK ((n:Int),0+(i:Int))) C B,?_⟩;rw[wj];let c:askB D x ((n:Int),(i:Int))=decide (((n:Int),(0+(i:Int)))∈ks):=by
   rw[eR,askB_iff,decide_eq_true_iff,a0,iD]
  by_cases L:((n:Int),(0+(i:Int)))∈ks
  .rw [if_pos L];show ye (iteT (iteT ?_));z_go;show⟨_,g,zV (by rw[aB];lia),hR _ _ ⟨_,rfl,(y.trans (z.mo)).trans .pt,?_⟩⟩;rw[zB,qGg,c,decide_eq_true L,if_pos rfl,aH,iD];rfl
  .rw [if_neg L];show ye (iteF (iteF (hR _ _ ⟨_,rfl,y.trans (z.mo),?_⟩)));rw[g,qGg,c,decide_eq_false L,if_neg aM]
 .rintro e G ⟨o0,rfl,y,b⟩;rw[cE,Y]at b;show q l G (J.no v) (J.trans (y.drop v)) b
noncomputable abbrev oI:Sr:=top 17
theorem scReached:FnScope ["works","number","box","nexts","starts"] ["works","number","box"] (zq oI):=fsc
theorem qPi(F:Fun K "reached" "reached" oI f fd)(I:mg "sorted"=Sb)(hX:Has P w K mg base "nexts_of" 1 ["work"] (wD5 K))(a2:Has P w K mg base "writers" 2 ["work","box"] (wM K))(a3:Has P w K mg base "led_to" 1 ["starts","nexts"] (ur K)):FnOk P w K mg base CX0 3 f fd ["works","number","box"] (qK6 K):=by
 show F.go scReached ?_;rintro c0 A a4 s H vs Q E S ⟨wa,ws,n,e,x,rfl,hW,a5,T,q⟩;let hu:=zn S
 refine⟨_,zF (zL 3 (zI hX S ⋯ (zA (zM zZ (pv 0) (pv 1) (λ_ _=>rfl)) zC)))
  (zF (qY7 (i:=4) ["at","to"] [3] rfl (.of rfl) scReached.nd rfl (Or.inl rfl) (ze (zI a2 S ⋯ (zA (zM zZ (pv 0) (pv 1) (λ_ _=>rfl)) (zA (pv 2) zC)))) (λ_ _ _ _=>zJ 0) (λ_ _ _ _ =>.nil)
   (λ_ _ _ _=>je K rfl (kb hu (pv 2) (pv 0) (λ_ _=>rfl))) (λ_ _ _ _=>zJ 1) (λ_ _ _ _=>.nil) (λ_ _ _ _=>pv 1))
  (zH (zN (zd (qIe S.hd) (by rfl) I cQ (zA (zI a3 S ⋯ (zA (pv 4) (zA (pv 3) zC))) zC))))),?_⟩
 dsimp only[zT,zY];let⟨a',vs,ea,U,a6⟩:=hW.ofList;cases ea;let⟨vw,W,J⟩:=a6.get' (i:=n) (d:=workD e) (by rw[bA,T];rfl);let⟨wb,bs,rfl,c1,b9⟩:=J.ofList;let⟨m,c2,a7,h⟩:=a5.all e (aK T);let c3:=h.len;z_go;show za U (zf W) ?_;z_go;show⟨wb,e,rfl,J,λb hb=>(h.blk b hb).ns.few,∎,λnd H1 c4 e1 X=>?_⟩;z_go;show za (e1.toSame.seq U) (zf W) ?_;z_go;show⟨wb,e,m,_,x,rfl,J.mono e1.toSame,h,a7,λlw H2 c5 e2 p=>?_⟩;z_go;show⟨lw,rfl,⟨_,SqL.of p⟩,λl N=>?_⟩;let a8:lw≠l:=zG p N;show zr (xs:=(wrTo e x e.length).map V.int) (λi o G=>∃(o0 B:Option V),o=[o0,B,Sa (.ref nd)]/\Ext [l] H2 G/\G l=Sa (.lst ((((wrTo e x e.length).take i).flatMap (nxt e)).map V.int))) ?_ ?_ ?_ ?_
 .exact⟨Sb,Sb,rfl,.laid N,zB⟩
 .rintro i o G hi ⟨o0,B,rfl,L,t⟩;show SqL.of (L _ _ (by simpa using a8) p)
 .rintro i v o G R hv ⟨o0,B,rfl,L,t⟩ hR;let⟨y,O,rfl⟩:=zX hv;let⟨k,rfl,hk,c6⟩:=mem_wrTo.mp (aK O);let⟨c7,a9,b0⟩:=X;let⟨c,b1,C⟩:=(b0 k).resolve_left λz=>z.2 ∎;let C:=e2.k C;let b2:=(e2.trans (L.drop N)).k a9;let b3:c≠l:=zG C N;let Y:=(L.drop N).k C;z_go;show iteT ?_;unfold bNext;z_go;show⟨nd,.ref c,rfl,?_,?_⟩
  .let:=DGet.k (k:=Sum.inl (k:Int)) b2;rw[b1]at this;show this
  let Z:=vo (nxt e) (λa=>(yq h a).few) ((wrTo e x e.length).take i);let b4:=xg e x e.length;let c8:=(yq h (k:Int)).few;rw[aV]at Z;show⟨c,rfl,⟨_,SqL.of Y⟩,?_⟩;show zr (xs:=(nxt e (k:Int)).map V.int) (λj o G2=>∃(B:Option V),o=[Sa (.int k),B,Sa (.ref nd)]/\Ext [l] G G2/\G2 l=Sa (.lst ((((wrTo e x e.length).take i).flatMap (nxt e)++(nxt e (k:Int)).take j).map V.int))) ?_ ?_ ?_ ?_
  .exact⟨_,rfl,.refl _ _,by rw[t,List.take_zero,bS]⟩
  .rintro j o G2 hj ⟨B,rfl,M,u⟩;show SqL.of (M _ _ (by simpa using b3) Y)
  .rintro j v o G2 R2 hv ⟨B,rfl,M,u⟩ b5;let⟨z,hz,rfl⟩:=zX hv;z_go;k_in;show⟨_,u,zV (by rw[aB,aJ,aV];lia),b5 _ _ ⟨_,rfl,M.trans .pt,?_⟩⟩;rw[zB,zc hz,<-dY,aH,aH,aH];rfl
  .rintro o G2 ⟨B,rfl,M,u⟩;rw[aB,aZ]at u;show hR _ _ ⟨_,_,rfl,L.trans M,?_⟩;rw[u,zc O,fT,eB,List.flatMap_nil,bS]
 .rintro o G ⟨o0,B,rfl,L,t⟩;rw[aB,aZ]at t;let E3:=L.drop N;let Z:=vo (nxt e) (λa=>(yq h a).few) (wrTo e x e.length);let b4:=xg e x e.length;z_go;show .inl ⟨l,nd,nxt e,yt e x,(List.range e.length).map λ(i:Nat)=>(i:Int),rfl,.inl (SqL.of t),X.g (e2.trans E3).toSame,λs hs=>?_,λz _ y O=>?_,by simp;lia,λy=>cA (yq h y).few ⋯,by unfold yt;lia,λd ks H4 hd M b6 D a0=>?_⟩
  .let⟨y,_,b7⟩:=dX.mp hs;let:=(yq h y).range s b7;show bC.mpr ⟨s.toNat,bH.mpr ∎,∎⟩
  .let:=(yq h z).range y O;show bC.mpr ⟨y.toNat,bH.mpr ∎,∎⟩
  z_go;show⟨d,ks,_,rfl,b6,by rw[dO];rfl,?_,λls ns a1 hp b8=>?_⟩
  .let:ks.length<=((List.range e.length).map λ(i:Nat)=>(i:Int)).length:=yP D λy O=>by
    let⟨s,hs,r⟩:=(a0 y).mp O;let⟨z,_,hz⟩:=dX.mp hs;let h1:=(yq h z).range s hz;let:=r.range h ⟨∎,h1.2⟩;show bC.mpr ⟨y.toNat,bH.mpr ∎,∎⟩
   rw[aB,cR]at this;lia
  let EF:Ext [] H H4:=e1.trans ((e2.trans E3).trans M);show q ls ns _ (EF.no a1) (EF.trans (.laid a1)) zB b8 (hp.symm.nodup D) λy=>by rw[hp.mem_iff,a0]
noncomputable abbrev qRo:Sr:=top 45
theorem qTc(F:Fun K "_law_behind" "_law_behind" qRo f fd)(J:mg "range" = Sb)(a8:mg "len" = Sb)(a0:mg "list" = Sb)(a9:mg "set" = Sb)(a1:mg "sorted" = Sb)
  (b6:Has P w K mg base "_law_ends" 1 ["_law_work_here"] (oH K)) (b7:Has P w K mg base "_law_writes" 1 ["_law_work_here","_law_box"] (wM K)):FnOk P w K mg base CX0 2 f fd ["_law_work_here","_law_box"] (qNs K):=by
 show F.go (N:=["_law_work_here","_law_box","_law_found","_law_nexts_here","_law_block","_law_turn"]) fsc ?_;rintro d0 A b8 s H vs Q E hr ⟨wa,a,m,a2,x,rfl,hW,u,hm,q⟩
 refine⟨_,zF (xA (zg (zA (zW zC) (zA (zI b6 hr ⋯ (zA (pv 0) zC)) zC))) (yM (n:=2) rfl (zR (zJ 2) (zR (zJ 3) zp))))
  (zF (zy bJ rfl (ze (zI b7 hr ⋯ (zA (pv 0) (zA (pv 1) zC)))) (zJ 4)
   (zH (zL 2 (zK yu (pv 2) (zM zZ (pv 3) (pv 4) (λ_ _=>rfl))))))
  (zF (zy bJ rfl (xO rfl J (zA (zd yV (by rfl) a8 cV (zA (pv 0) zC)) zC)) (zJ 5)
   (zH (zy bJ rfl (ze (yK wT (by rfl) a0 cP (zA (pv 2) zC))) (zJ 4)
    (zH (zL 2 (zK yu (pv 2) (yE ["_law_to"] [2] (ze (zM zZ (pv 3) (pv 4) (λ_ _=>rfl))) (λ_ _ _ _=>zJ 0) (λ_ _ _ _=>.cons (zQ (qYc K rfl) (pv 0) (pv 1) rfl) .nil) (λ_ _ _ _=>pv 0))))))))
  (zH (zN (zd (jo hr.hd) (by rfl) a1 cQ (zA (yK (ug hr.hd) (by rfl) a9 iE (zA (pv 2) zC)) zC)))))),?_⟩
 dsimp only[zT,zY];let⟨a',vs,ea,b9,c0⟩:=hW.ofList;cases ea;let c1:vs.length=a.length:=by rw[c0.len,aB]
 let d1:=u.len;let few:∀y,(nxt a y).length<=2:=λy=>(yq u y).few;let d2:(yt a x).length<=24:=by
  let h1:=vo (nxt a) few (wrTo a x a.length);let h2:=xg a x a.length;unfold yt;lia
 let a3:∀y,(∃s∈yt a x,Reach (nxt a) s y)->0<=y/\y<(a.length:Int):=by
  rintro y ⟨s,hs,r⟩;let⟨z,_,hz⟩:=dX.mp hs;let h1:=(yq u z).range s hz;let:=r.range u ⟨∎,h1.2⟩;lia
 z_go;show⟨len2 (bG _),λL c2=>?_⟩;let e0:Ext [] H (upd H L (.lst [])):=.laid c2;let S:upd H L (.lst []) L=Sa (.lst []):=zB;generalize upd H L (.lst [])=H0 at e0 S ⊢;z_go;show⟨wa,a,rfl,hW.mono e0.toSame,λb hb=>(u.blk b hb).ns.few,∎,λn us H1 hn e1 c3 a4=>?_⟩;let a4:=a4.same yo_same;z_go;show⟨len2 (by change 2<=1000;decide),λp3 c4=>?_⟩;let e2:Ext [] H1 (upd H1 p3 (.tup [.ref L,.ref n])):=.laid c4;let T:SqT K (upd H1 p3 (.tup [.ref L,.ref n])) p3 [.ref L,.ref n]:=SqT.of zB;generalize upd H1 p3 (.tup [.ref L,.ref n])=H2 at e2 T ⊢;show zt T rfl ?_;let b0:=e2.k c3;let b1:NsAt n H2 us (a.map Blk.ns):=a4.mono (e2.mo)
 let E2:Ext [] H H2:=e0.trans (e1.trans e2);let b2:=(e1.trans e2).k S;z_go;show⟨wa,a,m,a2,x,rfl,hW.mono E2.toSame,u,hm,λlw H3 d3 e3 U=>?_⟩;z_go;let d4:=xg a x a.length;show⟨lw,rfl,⟨_,SqL.of U⟩,yw (xs:=(wrTo a x a.length).map V.int) (λi d G=>∃(g:Sf)(B W:Option V),d=[Sa (.ref wa),Sa (.int x),Sa (.ref g),Sa (.ref n),B,W]/\Ext [] H3 G/\G g=Sa (.lst ((((wrTo a x a.length).take i).flatMap (nxt a)).map V.int))) ?_ ?_ ?_ ?_⟩
 .exact⟨L,_,_,rfl,.refl _ _,e3.k b2⟩
 .rintro i d G hi ⟨g,B,W,rfl,eG,o⟩;show SqL.of (eG.k U)
 .rintro i v d G hv ⟨g,B,W,rfl,eG,o⟩ N_ B_ C_ R_ hN_ hC_ hR_;let⟨y,hy,rfl⟩:=zX hv;let⟨k,rfl,hk,d5⟩:=mem_wrTo.mp (aK hy);let EG:=e3.trans eG;let⟨c,a5,X⟩:=(b1.mono (EG.mo)).get (x:=(k:Int)) ∎ ∎;let c5:=vo (nxt a) few ((wrTo a x a.length).take i);let c9:=few (k:Int);rw[aV]at c5;z_go;show za (SqL.of (EG.k b0)) a5 ?_;show⟨g,c,_,_,rfl,rfl,o,X,len2 (by rw[aB,aB];lia),λf1 a6=>?_⟩;z_go;show⟨f1,_,_,rfl,eG.trans (.laid a6),?_⟩;rw[zB,zc hy,fT,aH];simp
 .rintro d G ⟨g,B,W,rfl,eG,o⟩;rw[aB,aZ]at o;let EG:=e3.trans eG;let o:G g=Sa (.lst ((yt a x).map V.int)):=o;z_go;show⟨wa,vs,rfl,.inl ((E2.trans EG).toSame.seq b9),?_⟩;rw[c1];z_go;show⟨_,rfl,∎,∎,we (lo:=0) (n:=(a.length:Int).toNat) (λt d M=>∃(g:Sf)(Fs:List Int)(B W:Option V),d=[Sa (.ref wa),Sa (.int x),Sa (.ref g),Sa (.ref n),B,W]/\Ext [] G M/\M g=Sa (.lst (Fs.map V.int))/\BehI (nxt a) (yt a x) a.length Fs/\Lays (nxt a) (yt a x) t Fs) ?_ ?_ ?_⟩
  .exact⟨g,_,_,_,rfl,.refl _ _,o,.start _ _ _,.zero λ_ h=>h⟩
  .rintro t d M ht ⟨g,Fs,B,W,rfl,e4,p,hI,hL⟩ N_ B_ C_ R_ hN_ hC_ hR_;z_go;show⟨g,_,rfl,.inl (SqL.of p),λY a7=>?_⟩;let e5:Ext [] M (upd M Y (.lst (Fs.map V.int))):=.laid a7;let C:upd M Y (.lst (Fs.map V.int)) Y=Sa (.lst (Fs.map V.int)):=zB;let Z:=e5.k p;generalize upd M Y (.lst (Fs.map V.int))=G2 at e5 C Z ⊢;show⟨Y,rfl,⟨_,SqL.of C⟩,yw (xs:=Fs.map V.int) (λi d G3=>∃(g:Sf)(e:List Int)(B:Option V),d=[Sa (.ref wa),Sa (.int x),Sa (.ref g),Sa (.ref n),B,Sa (.int (0+t))]/\Ext [] G2 G3/\G3 g=Sa (.lst (e.map V.int))/\BehI (nxt a) (yt a x) a.length e/\(∀y∈Fs,y∈e)/\∀b∈Fs.take i,∀c∈nxt a b,c∈e) ?_ ?_ ?_ ?_⟩
   .exact⟨g,Fs,_,rfl,.refl _ _,Z,hI,λ_ h=>h,λb hb=>absurd hb ∅⟩
   .rintro i d G3 hi ⟨g,e,B,rfl,e6,j,D,l,I⟩;show SqL.of (e6.k C)
   .rintro i v d G3 hv ⟨g,e,B,rfl,e6,j,D,l,I⟩ N_ B_ C_ R_ hN_ hC_ hR_;let⟨y,hy,rfl⟩:=zX hv;let b3:=aK hy;let⟨y0,y1⟩:=a3 y (hI.rk y b3);let E3:=EG.trans (e4.trans (e5.trans e6));let⟨c,a5,X⟩:=(b1.mono (E3.mo)).get (x:=y) y0 y1;let c6:=D.len;let c7:=vg (λx=>decide (x∈e)) a.length;let hf:=few y;z_go;show za (SqL.of (E3.k b0)) a5 ?_;show⟨c,rfl,⟨_,SqL.of X⟩,λlc O=>?_⟩;show zr (xs:=(nxt a y).map V.int) (λk d H3=>∃(o0:Option V),d=[o0,Sa (.ref g)]/\Ext [lc] G3 H3/\H3 lc=Sa (.lst ((((nxt a y).take k).filter λx=>!decide (x∈e)).map V.int))) ?_ ?_ ?_ ?_
    .exact⟨Sb,rfl,.laid O,zB⟩
    .rintro k d H3 hk ⟨o0,rfl,e7,h3⟩;show SqL.of ((e7.drop O).k X)
    .rintro k v d H3 R hv ⟨o0,rfl,e7,h3⟩ hR;let⟨z,hz,rfl⟩:=zX hv;let hk:k<(nxt a y).length:=(aD.mp hz).1;z_go;show wBd (SqL.of ((e7.drop O).k j)) ?_;z_go;by_cases g2:z∈e
     .rw [decide_eq_true g2];show iteF (iteF (hR _ _ ⟨_,rfl,e7,?_⟩));rw[zc hz,cD];simpa[g2]using h3
     .rw [decide_eq_false g2];kt_le;let d6:((((nxt a y).take k).filter λx=>!decide (x∈e)).map V.int).length<=2:=by
       rw[aB];show cA (bM _ _) ?_;rw[aV];lia
      show⟨_,h3,zV ∎,hR _ _ ⟨_,rfl,e7.trans .pt,?_⟩⟩;rw[zc hz,cD,zB];simp[g2]
    .rintro d H3 ⟨o0,rfl,e7,h3⟩;rw[aB,aZ]at h3;let b4:=e7.drop O;let d7:=bM (λx=>!decide (x∈e)) (nxt a y);show⟨g,lc,_,_,rfl,rfl,b4.k j,h3,len2 (by rw[aB,aB];lia),λf1 a6=>?_⟩;z_go;show⟨f1,grow (nxt a) e y,_,rfl,e6.trans (b4.trans (.laid a6)),?_,D.grow (l y b3) few a3,λz hz=>mem_grow.mpr (.inl (l z hz)),λb hb c X=>?_⟩
     .rw [zB];unfold grow;rw[aH]
     .rw [zc hy]at hb;rcases aL.mp hb with z|z
      .exact mem_grow.mpr (.inl (I b z c X))
      .rw [aE.mp z]at X;show mem_grow.mpr (.inr X)
   .rintro d G3 ⟨g,e,B,rfl,e6,j,D,l,I⟩;rw[aB,aZ]at I;z_go;show⟨g,e,_,_,rfl,e4.trans (e5.trans e6),j,D,hL.succ l I⟩
  .rintro d M ⟨g,Fs,B,W,rfl,e4,p,hI,hL⟩;rw[cE]at hL;let c6:=hI.len;let c7:=vg (λx=>decide (x∈Fs)) a.length;let d8:=vi Fs;z_go;show⟨g,Fs,rfl,SqL.of p,∎,λY a7=>?_⟩;z_go;show⟨Y,yS Fs,rfl,zB,∎,λlx ns b5 hp c8=>?_⟩;let EF:Ext [] H (upd M Y (setO w (yS Fs))):=(E2.trans (EG.trans e4)).trans (.laid a7);show q lx ns _ (EF.no b5) (EF.trans (.laid b5)) zB c8 (hp.symm.nodup (qFz Fs)) λy=>by rw[hp.mem_iff,xn,hL.all hI a3]
noncomputable abbrev sBusy:Sr:=top 19
theorem wA5(F:Fun K "busy" "busy" sBusy f fd)(B:mg "sorted"=Sb)(t:mg "set"=Sb)(a5:Has P w K mg base "awaited" 5 ["works","number","box"] (qKa K))(a6:Has P w K mg base "reached" 3 ["works","number","box"] (qK6 K))(a7:Has P w K mg base "writers" 2 ["work","box"] (wM K)):FnOk P w K mg base CX0 6 f fd ["works","number","box"] (wt K):=by
 show F.go (N:=["works","number","box","waited","between"]) fsc ?_;rintro c0 A a8 s H vs Q E S ⟨wa,C,n,c,x,rfl,hW,D,o,q⟩
 refine⟨_,zF (zL 3 (zI a5 S ⋯ (zA (pv 0) (zA (pv 1) (zA (pv 2) zC)))))
  (zF (wE 4 ["at"] [3] (ze (zI a6 S ⋯ (zA (pv 0) (zA (pv 1) (zA (pv 2) zC))))) (λ_ _ _ _=>zJ 0) (λ_ _ _ _=>.cons (zQ (inK K rfl) (pv 0) (pv 1) rfl) .nil) (λ_ _ _ _=>pv 0))
  (zH (zN (zd (jo S.hd) (by rfl) B cQ (zA (zK wBw
   (yK (ug S.hd) (by rfl) t iE (zA (zI a7 S ⋯ (zA (zM zZ (pv 0) (pv 1) (λ_ _=>rfl)) (zA (pv 2) zC))) zC))
   (yK (ug S.hd) (by rfl) t iE (zA (pv 4) zC))) zC))))),?_⟩
 dsimp only[zT,zY,zv,zw];let⟨a',vs,ea,a9,b0⟩:=hW.ofList;cases ea;let⟨vw,b1,b2⟩:=b0.get' (i:=n) (d:=workD c) (by rw[bA,o];rfl);let⟨m,c1,I,e⟩:=D.all c (aK o);let c2:=e.len;z_go;show⟨wa,C,n,c,x,rfl,hW,D,o,λla H1 c3 T U=>?_⟩;z_go;show⟨wa,C,n,c,x,rfl,hW.mono T.toSame,D,o,λlr l H2 c4 W g hp hd hy=>?_⟩;let J:∀y∈l,0<=y/\y<m:=λy a=>iW e ((hy y).mp a);let c5:=iT hp hd J;let u:=W.k U;z_go;show⟨lr,rfl,⟨_,SqL.of g⟩,λlc p=>?_⟩;show zr (xs:=l.map V.int) (λj r G=>∃(o0:Option V),r=[o0,Sa (.ref la)]/\Ext [lc] H2 G/\G lc=Sa (.lst (((l.take j).filter λy=>decide (y∈waitTo C x n c.length)).map V.int))) ?_ ?_ ?_ ?_
 .exact⟨Sb,rfl,.laid p,zB⟩
 .rintro j r G hj ⟨o0,rfl,L,b⟩;show SqL.of (L _ _ (by simpa using zG g p) g)
 .rintro j v r G R hv ⟨o0,rfl,L,b⟩ hR;let⟨y,a,rfl⟩:=zX hv;let c6:j<l.length:=(aD.mp a).1;let X:l.take (j+1)=l.take j++[y]:=by rw[eO,a];rfl
  let b3:=bM (λy=>decide (y∈waitTo C x n c.length)) (l.take j);rw[aV]at b3;z_go;show⟨la,_,rfl,.inl (SqL.of (L _ _ (by simpa using zG u p) u)),rfl,yp _,?_⟩;rw[if_neg aM,yn];z_go;by_cases hc:y∈waitTo C x n c.length
  .rw [decide_eq_true hc];kt_le;show⟨_,b,zV (by rw[aB];lia),hR _ _ ⟨_,rfl,L.trans .pt,?_⟩⟩;rw[zB,X,cD,eX,decide_eq_true hc,if_pos rfl,fI,aH];rfl
  .rw [decide_eq_false hc];show iteF (iteF (hR _ _ ⟨_,rfl,L,?_⟩));rw[b,X,cD,eX,decide_eq_false hc,if_neg aM,fI,bS]
 .rintro r G ⟨o0,rfl,L,b⟩;rw[aB,aZ]at b;generalize hF:l.filter (λy=>decide (y∈waitTo C x n c.length))=F at b;let M:∀y,y∈F↔y∈l/\y∈waitTo C x n c.length:=λy=>by rw[<-hF,bN,decide_eq_true_eq]
  let c7:F.length<=l.length:=by rw[<-hF];show bM _ _
  let E3:Ext [] H2 G:=L.drop p;let c8:=hW.mono (T.trans (W.trans E3)).toSame;let c9:=xg c x c.length;z_go;show za ((T.trans (W.trans E3)).toSame.seq a9) (zf b1) ?_;z_go;let⟨wb,bs,rfl,b4,Y⟩:=b2.ofList;show⟨wb,c,m,_,x,rfl,(Den.list b4 Y).mono (T.trans (W.trans E3)).toSame,e,I,λlw H4 d0 e4 Z=>?_⟩;z_go;show⟨lw,wrTo c x c.length,rfl,SqL.of Z,∎,λs1 b5=>?_⟩;generalize zz:upd H4 s1 _=H5;let ⟨X5,h⟩:=layQq zz b5;z_go;show⟨lc,F,rfl,SqL.of ((e4.trans X5).k b),∎,λs2 O=>?_⟩;let b8:=vi (wrTo c x c.length);let b9:=vi F;z_go;show⟨s1,s2,_,_,rfl,rfl,zG h O,by rw[zD (zG h O)];show h,zB,qNu I λy a=>iX e ((xn _).mp a),qNu I λy a=>J y ((M y).mp ((xn _).mp a)).1,∎,λs3 us a0 a1 a2=>?_⟩
  let X6:Ext [] H5 (upd H5 s2 (setO w (yS F))):=.laid O;generalize upd H5 s2 (setO w (yS F))=H6 at X6 a0 ⊢;let b6:∀y∈us,0<=y/\y<m:=λy a=>by
   rcases (a2 y).mp a with z|z
   .exact iX e ((xn _).mp z)
   .exact J y ((M y).mp ((xn _).mp z)).1
  z_go;show⟨s3,us,rfl,zB,?_,λlx nx a3 a4 b7=>?_⟩
  .let:=qL0 12 a1 λy a=>by let:=b6 y a;lia
   lia
  .let EF:Ext [] H (upd H6 s3 (setO w us)):=(T.trans (W.trans (E3.trans (e4.trans (X5.trans X6))))).trans (.laid a0);show q lx nx _ (EF.no a3) (EF.trans (.laid a3)) zB b7 (a4.symm.nodup a1) λy=>?_;rw[a4.mem_iff,a2,xn,xn,M,hy];rfl
noncomputable abbrev qXw:Sr:=top 46
theorem qWe(F:Fun K "_law_busy" "_law_busy" qXw f fd)(J:mg "sorted"=Sb)(O:mg "set"=Sb)(hB:Has P w K mg base "_law_behind" 2 ["_law_work_here","_law_box"] (qNs K))(hA:Has P w K mg base "_law_is_asked" 2 ["_law_works","_law_number_here","_law_block","_law_box"] (qK7 K))(a4:Has P w K mg base "_law_writes" 1 ["_law_work_here","_law_box"] (wM K)):FnOk P w K mg base CX0 3 f fd ["_law_works","_law_number_here","_law_box"] (wt K):=by
 show F.go (N:=["_law_works","_law_number_here","_law_box","_law_work_here","_law_both"]) fsc ?_;rintro b8 A a5 s H vs Q E S ⟨wa,g,n,e,x,rfl,hW,T,L,q⟩
 refine⟨_,zF (zL 3 (zM zZ (pv 0) (pv 1) (λ_ _=>rfl)))
  (zF (wE 4 ["_law_b"] [0,1,2] (ze (zI hB S ⋯ (zA (pv 3) (zA (pv 2) zC)))) (λ_ _ _ _=>zJ 0) (λ_ _ _ _=>.cons (yx K rfl (zI hA S ⋯ (zA (pv 1) (zA (pv 2) (zA (pv 0) (zA (pv 3) zC))))) (λ_=>rfl)) .nil) (λ_ _ _ _=>pv 0))
  (zH (zN (zd (jo S.hd) (by rfl) J cQ (zA (yK (ug S.hd) (by rfl) O iE (zA (zK yu (zI a4 S ⋯ (zA (pv 3) (zA (pv 2) zC))) (pv 4)) zC)) zC))))),?_⟩
 dsimp only[zT,zY,zv,zw];let⟨a',vs,ea,a6,a7⟩:=hW.ofList;cases ea;let⟨vw,a8,t⟩:=a7.get' (i:=n) (d:=workD e) (by rw[bA,L];rfl);let⟨wb,bs,rfl,a9,U⟩:=t.ofList;let⟨m,b9,W,u⟩:=T.all e (aK L);let c0:=u.len;let t:Den K H (workD e) (.ref wb):=.list a9 U;z_go;show za a6 (zf a8) ?_;z_go;show⟨wb,e,m,_,x,rfl,t,u,W,λlr r H2 c1 e2 l hp hd hy=>?_⟩;let X:∀y∈r,0<=y/\y<m:=λy o=>iW u ((hy y).mp o);let c2:=iT hp hd X;z_go;show⟨lr,rfl,⟨_,SqL.of l⟩,λlc B=>?_⟩;let b0:=hW.mono e2.toSame;show zr (xs:=r.map V.int) (λj C G=>∃(o0:Option V),C=[o0,Sa (.ref wa),Sa (.int n),Sa (.int x)]/\Ext [lc] H2 G/\G lc=Sa (.lst (((r.take j).filter λy=>decide (y∈waitTo g x n e.length)).map V.int))) ?_ ?_ ?_ ?_
 .exact⟨Sb,rfl,.laid B,zB⟩
 .rintro j C G hj ⟨o0,rfl,M,c⟩;show SqL.of (M _ _ (by simpa using zG l B) l)
 .rintro j v C G R hv ⟨o0,rfl,M,c⟩ hR;let⟨y,o,rfl⟩:=zX hv;let c3:j<r.length:=(aD.mp o).1;let Y:r.take (j+1)=r.take j++[y]:=by rw[eO,o];rfl
  let b1:=bM (λy=>decide (y∈waitTo g x n e.length)) (r.take j);rw[aV]at b1;let⟨y0,y1⟩:=X y (aK o);obtain⟨b,rfl⟩:∃b:Nat,y=(b:Int):=⟨y.toNat,∎⟩;let Z:b<e.length:=by lia
  let b2:((n:Int),(b:Int))∈places g:=by
   show mem_places.mpr ?_;rw[wL,L];show⟨_,aF Z⟩
  let D:((b:Int)∈waitTo g x n e.length)↔askB g x ((n:Int),(b:Int))=Sc:=by
   rw[qPs];constructor
   .rintro⟨a,ha,_,h⟩;rw[show b=a by lia];show h
   .exact λh=>⟨b,rfl,Z,h⟩
  z_go;show⟨wa,g,n,b,x,rfl,b0.mono (M.drop B).toSame,T,b2,λG6 e6=>?_⟩;let I:=e6.k c;show⟨askB g x ((n:Int),(b:Int)),rfl,?_⟩;cases p:askB g x ((n:Int),(b:Int))with
  |true=>
   let hc:=D.mpr p;kt_le;show⟨_,I,zV (by rw[aB];lia),hR _ _ ⟨_,rfl,(M.trans (e6.mo)).trans .pt,?_⟩⟩;rw[zB,Y,cD,eX,decide_eq_true hc,if_pos rfl,fI,aH];rfl
  |false=>
   let hc:¬(b:Int)∈waitTo g x n e.length:=λz=>by rw[D.mp z]at p;cases p
   show iteF (iteF (hR _ _ ⟨_,rfl,M.trans (e6.mo),?_⟩));rw[I,Y,cD,eX,decide_eq_false hc,if_neg aM,fI,bS]
 .rintro C G ⟨o0,rfl,M,c⟩;rw[aB,aZ]at c;generalize hF:r.filter (λy=>decide (y∈waitTo g x n e.length))=F at c;let b3:∀y,y∈F↔y∈r/\y∈waitTo g x n e.length:=λy=>by rw[<-hF,bN,decide_eq_true_eq]
  let c4:F.length<=r.length:=by rw[<-hF];show bM _ _
  let E3:Ext [] H2 G:=M.drop B;let c5:=xg e x e.length;z_go;show⟨wb,e,m,_,x,rfl,t.mono (e2.trans E3).toSame,u,W,λlw H4 c6 e4 a0=>?_⟩;z_go;show⟨lw,lc,_,_,rfl,rfl,a0,e4.k c,len2 (by rw[aB,aB];lia),λf1 b4=>?_⟩;rw[<-aH];generalize zz:upd H4 f1 _=H5;let ⟨X5,a1⟩:=layQq zz b4;z_go;let b5:=vi (wrTo e x e.length++F);rw[aJ]at b5;show⟨f1,_,rfl,SqL.of a1,by rw[aJ];lia,λs1 b6=>?_⟩;z_go;show⟨s1,_,rfl,zB,∎,λlx nx a2 a3 b7=>?_⟩;let EF:Ext [] H (upd H5 s1 (setO w (yS (wrTo e x e.length++F)))):=(e2.trans (E3.trans (e4.trans X5))).trans (.laid b6)
  show q lx nx _ (EF.no a2) (EF.trans (.laid a2)) zB b7 (a3.symm.nodup (qFz _)) λy=>?_;rw[a3.mem_iff,xn,aL,b3,hy];rfl
noncomputable abbrev qRk:Sr:=top 47
theorem qTa(F:Fun K "_law_boxes" "_law_boxes" qRk f M)(d:mg "range"=Sb)(y:Has P w K mg base "_law_writes" 1 ["_law_work_here","_law_box"] (wM K)):FnOk P w K mg base CX0 2 f M ["_law_work_here"] (qNr K):=by
 show F.go (N:=["_law_work_here"]) fsc ?_;rintro T A z s H vs Q E O ⟨u,b,m,h,rfl,U,i,W,q⟩;show⟨_,zH (zN (yE ["_law_box"] [0] (xO rfl d (zA zE zC)) (λ_ _ _ _=>zJ 0) (λ_ _ _ _=>.cons (zQ (neDK K rfl O) (zI y O ⋯ (zA (pv 1) (zA (pv 0) zC))) (zW zC) (zO _)) .nil) (λ_ _ _ _=>pv 0))),?_⟩
 try dsimp only[zT,zY,zv,zw]
 let X:=i.len;z_go;show⟨8,rfl,⋯,⋯,λB e=>?_⟩;show uU (lo:=0) (n:=(8:Int).toNat) (λj l G=>∃(C:Option V),l=[C,Sa (.ref u)]/\Ext [B] H G/\G B=Sa (.lst ((boxTo b j).map V.int))) ?_ ?_ ?_
 .exact⟨Sb,rfl,.laid e,zB⟩
 .rintro j l G R Y ⟨C,rfl,o,c⟩ S;let Z:j<8:=Y;let a0:=qLu b j;z_go;show⟨u,b,m,h,(j:Int),by change [V.ref u,V.int (0+(j:Int))]=[V.ref u,V.int (j:Int)];rw[iD],U.mono (o.drop e).toSame,i,W,λlw G4 a1 D p=>?_⟩;z_go;show⟨len2 (bG _),λle I=>?_⟩;generalize zz:upd G4 le _=G5;let ⟨v,t⟩:=layQq zz I;let a2:=xg b (j:Int) b.length;let⟨t1,t2,t3⟩:=qLc (ns:=wrTo b (j:Int) b.length) (λn J=>by let:=iX i J;lia) ∎;let tS:=qGj t1 t3 ⟨_,rfl⟩;let⟨z1,z2,z3⟩:=qLc (ns:=[]) (λn J=>by cases J) ⋯;let zS:=qGj z1 z3 ⟨_,rfl⟩;show⟨intsD (wrTo b (j:Int) b.length),intsD [],.list (SqL.of (v.k p)) (DenL.ofInts _),.list (SqL.of t) (DenL.ofInts _),tS,zS,?_⟩
  rw[if_pos rfl];let L:PyData.eqv (intsD (wrTo b (j:Int) b.length)) (intsD [])=decide (wrTo b (j:Int) b.length=[]):=by
   cases wrTo b (j:Int) b.length with
   |nil=>rfl
   |cons a r=>simp[intsD,PyData.eqv,PyData.eqvAll]
  rw[L];z_go;let g:=(D.trans v).k c;by_cases x:wrTo b (j:Int) b.length=[]
  .rw [decide_eq_true x];show iteF (iteF (S _ _ ⟨_,rfl,o.trans ((D.trans v).mo),?_⟩));rw[g,qIf,if_pos x]
  .rw [decide_eq_false x];kt_le;show⟨_,g,zV (by rw[aB];lia),S _ _ ⟨_,rfl,(o.trans ((D.trans v).mo)).trans .pt,?_⟩⟩;rw[zB,qIf,if_neg x,aH,iD];rfl
 .rintro l G ⟨C,rfl,o,c⟩;show q B G e (o.drop e) c
noncomputable abbrev sWays:Sr:=top 41
theorem qZw(F:Fun K "_law_ways" "_law_ways" sWays f fd)(a0:mg "enumerate" = Sb)(a4:mg "len" = Sb)(a5:mg "int" = Sb)(a1:mg "sorted" = Sb)
  (hE:Has P w K mg base "_law_ends" 1 ["_law_work_here"] (oH K)):FnOk P w K mg base CX0 2 f fd ["_law_work_here"] (wg K):=by
 show F.go (N:=["_law_work_here","_law_found","_law_block","_law_there"]) fsc ?_;rintro g1 A c4 s H vs Q E hr ⟨a,e,m,c5,rfl,hW,a2,hm,q⟩
 refine⟨_,zF (zL 1 (zW (zA (zg (zA (xB xD zE) (zA zE zC))) zC)))
  (zF (zy bJ rfl (xl rfl a0 (zA (zI hE hr ⋯ (zA (pv 0) zC)) zC)) (yM (n:=2) rfl (zR (zJ 2) (zR (zJ 3) zp)))
   (zH (zL 1 (zK yu (zK yu (pv 1)
    (yE ["_law_to"] [2] (ze (zd Qm (by rfl) a1 cQ (zA (pv 3) zC))) (λ_ _ _ _=>zJ 0) (λ_ _ _ _=>.nil) (λ_ _ _ _=>zg (zA (pv 1) (zA (pv 0) zC)))))
    (zK wBv (zW (zA (zg (zA (pv 2) (zA (zd yV (by rfl) a4 cV (zA (pv 0) zC)) zC))) zC)) (yK wR (by rfl) a5 fJ (zA (yJ (uQ hr) (pv 3) (zW zC) (zO _)) zC)))))))
  (zH (zN (pv 1)))),?_⟩
 dsimp only[zT,zY];let⟨a',vs,ea,c6,c7⟩:=hW.ofList;cases ea;let c8:vs.length=e.length:=by rw[c7.len,aB]
 let g2:=a2.len;let a6:∀b∈e,b.ns.length<=2:=λb hb=>(a2.blk b hb).ns.few;z_go;show⟨len2 (by change 2<=1000;decide),λp0 a7=>?_⟩;z_go;show⟨len2 (by change 1<=1000;decide),λl0 D=>?_⟩;let E0:=(Ext.laid (ts:=[]) (o:=.tup [V.int (-1),.int 0]) a7).trans (.laid (o:=.lst [V.ref p0]) D);let n0:p0≠l0:=zG zB D;z_go;show⟨a,e,rfl,hW.mono E0.toSame,a6,∎,λle us H1 g3 e1 c9 hN=>?_⟩;let a8:SqL K H1 le us:=SqL.of c9;let a9:=NsAt.den (K:=K) (hN.same (uR (ts:=[]) ∅));let d0:us.length=e.length:=by rw[a9.len,aB]
 show⟨le,rfl,⟨us,a8⟩,uV (xs:=us) (λi l r=>∃(W:Sf)(fs:List V)(o2 o3:Option V),l=[Sa (.ref a),Sa (.ref W),o2,o3]/\Ext [] H1 r/\H W=Sb/\r W=Sa (.lst fs)/\DenL K (yo H [] r) ((zU e i).map pairD) fs) ?_ ?_ ?_ ?_⟩
 .refine⟨l0,[.ref p0],Sb,Sb,rfl,.refl _ _,by rw[zD n0.symm]at D;show D,e1.k zB,.cons (.tuple (SqT.of ?_) (.cons .int (.cons .int .nil))) .nil⟩;rw[zi a7 ∅];show e1.k (by rw[zD n0,zB])
 .rintro i l r hi ⟨W,fs,o2,o3,rfl,e',u,G,g⟩;show e'.toSame.seq a8
 .rintro i x l r pt hx ⟨W,fs,o2,o3,rfl,e',u,G,g⟩ a3;let⟨dd,d1,d2⟩:=a9.get hx;let⟨b,hb,rfl⟩:=zX d1;let hi:i<e.length:=(aD.mp hb).1;let I:=(a2.blk b (aK hb)).ns;let⟨c,zs,rfl,hc,d3⟩:=d2.ofList;let d4:=d3.ints;subst d4;let e2:Ext [] H1 (upd r pt (.tup [.int i,.ref c])):=e'.trans (.laid a3);let EH:Ext [] H (upd r pt (.tup [.int i,.ref c])):=E0.trans (e1.trans e2);let X:=g.mono (Ext.young (H0:=H) (Ext.laid (ts:=[]) (o:=.tup [.int i,.ref c]) a3));let b0:=Ext.laid (ts:=[]) (o:=.tup [.int i,.ref c]) a3 _ _ ∅ G;generalize d5:upd r pt (.tup [.int i,.ref c])=J at *;let b1:SqT K J pt [.int i,.ref c]:=SqT.of (by rw[<-d5,zB])
  let b2:SqL K J c (b.ns.map V.int):=e2.toSame.seq (yo_same.seq hc);show zt b1 rfl ?_;z_go;show⟨c,b.ns,rfl,b2,by let:=I.few;lia,λls g4 d6 L d7=>?_⟩;let d9:=wB0 I L d7;subst d9;show⟨ls,rfl,⟨_,SqL.of zB⟩,λY M=>?_⟩;let e9:ls≠Y:=zG zB M;generalize b3:upd J ls (.lst ((srt b.ns).map V.int))=H3 at *;let e3:Ext [] J H3:=by rw[<-b3];show .laid d6
  let f0:H3 ls=Sa (.lst ((srt b.ns).map V.int)):=by rw[<-b3,zB]
  let f3:(srt b.ns).length<=2:=by rw[qQt];show I.few
  let f8:H Y=Sb:=(EH.trans e3).no M;show zr (xs:=(srt b.ns).map V.int) (λj l r=>∃(o0:Option V)(ws:List V),l=[o0,Sa (.int i)]/\Ext [Y] H3 r/\r Y=Sa (.lst ws)/\DenL K (yo H [Y] r) (((srt b.ns).take j).map λx=>pairD ((i:Int),x)) ws) ?_ ?_ ?_ ?_
  .exact⟨Sb,[],rfl,.laid M,zB,.nil⟩
  .rintro j l r hj ⟨o0,ws,rfl,e4,C,d⟩;show SqL.of (e4 _ _ (by simpa using e9) f0)
  .rintro j x l r R hx ⟨o0,ws,rfl,e4,C,d⟩ hR;let⟨y,hy,rfl⟩:=zX hx;let hj:j<(srt b.ns).length:=(aD.mp hy).1;z_go;k_in;show⟨len2 (by change 2<=1000;decide),λp hp=>?_⟩;let O:p≠Y:=(zG C hp).symm;let g5:ws.length=j:=by rw[d.len,aB,aV];lia
   show⟨ws,by rw[zD O.symm];show C,zV ∎,hR _ _ ⟨_,ws++[.ref p],rfl,?_,zB,?_⟩⟩
   .exact e4.trans ((Ext.laid hp).trans .pt)
   .let ht:(srt b.ns).take (j+1)=(srt b.ns).take j++[y]:=by rw[eO,hy];rfl
    rw[ht,aH];show DenL.append (d.mono ((Ext.laid hp).trans .pt).young) (.cons (.tuple (SqT.of ?_) (.cons .int (.cons .int .nil))) .nil);rw[zi (((EH.trans e3).mo (us:=[Y])).trans e4 |>.none (by simpa using O) hp) (by simpa using O),zD O,zB]
  .rintro l H4 ⟨o0,ws,rfl,e4,C,d⟩;rw[aB,aZ]at d;let b4:Ext [] J H4:=(e3.trans (e4.drop M));let b5:=b4.k b0;let f9:fs.length<=1+2*i:=by rw[X.len,aB];show xf a6 i
   let g0:ws.length<=2:=by rw[d.len,aB];show f3
   show⟨W,Y,fs,ws,rfl,rfl,b5,C,len2 ∎,λf1 b6=>?_⟩;let e5:Ext [] J (upd H4 f1 (.lst (fs++ws))):=b4.trans (.laid b6);let b7:DenL K (yo H [] (upd H4 f1 (.lst (fs++ws)))) ((zU e i).map pairD++(srt b.ns).map (λx=>pairD ((i:Int),x))) (fs++ws):=
    DenL.append (X.mono e5.young) ((d.mono (uR ∅)).mono (Ext.laid b6).young)
   let h5:upd H4 f1 (.lst (fs++ws)) f1=Sa (.lst (fs++ws)):=zB;generalize upd H4 f1 (.lst (fs++ws))=H5 at *;z_go;show⟨a,vs,rfl,.inl ((EH.trans e5).toSame.seq c6),?_⟩;rw[c8];z_go;show⟨len2 (by change 2<=1000;decide),λv L=>?_⟩;z_go;show⟨len2 (by change 1<=1000;decide),λZ b8=>?_⟩;let e6:Ext [] H5 (upd (upd H5 v (.tup [.int i,.int e.length])) Z (.lst [.ref v])):=(Ext.laid L).trans (.laid b8);let f4:v≠Z:=zG zB b8;let h6:upd (upd H5 v (.tup [.int i,.int e.length])) Z (.lst [.ref v]) Z=Sa (.lst [.ref v]):=zB
   let b9:SqT K (yo H [] (upd (upd H5 v (.tup [.int i,.int e.length])) Z (.lst [.ref v]))) v [.int i,.int e.length]:=SqT.of (by
    rw[zi ((EH.trans e5).no L) ∅,zD f4,zB])
   generalize upd (upd H5 v (.tup [.int i,.int e.length])) Z (.lst [.ref v])=H6 at *;z_go;show⟨len2 (bG _),λe0 f5=>?_⟩;let e7:Ext [] H6 (upd H6 e0 (.lst [])):=.laid f5;show⟨intsD b.ns,.list [],.list ((e5.trans (e6.trans e7)).toSame.seq b2) (DenL.ofInts b.ns),.list (SqL.of zB) .nil,qR6 I,rfl,?_⟩;rw[qLf];let h7:=e7.k h6;let c0:=e7.young.seqT b9;let f7:=(e6.trans e7).k h5;let c1:=b7.mono (e6.trans e7).young;let c2:=e6.trans e7;generalize upd H6 e0 (.lst [])=H7 at *;z_go;show .inr ⟨_,rfl,?_⟩;let f6:(zU e (i+1)).map pairD=(zU e i).map pairD++(srt b.ns).map (λx=>pairD ((i:Int),x))++(if b.ns=[]then [pairD ((i:Int),(e.length:Int))]else []):=by
    change(zU e i++outs e.length i ((e[i]?.map Blk.ns).getD [])).map pairD=_;rw[hb];change(zU e i++outs e.length i b.ns).map pairD=_;unfold outs;rw[aH,aH,dO,dY]
    congr 2
    split<;>rfl
   let key:∀(rs:List V),DenL K (yo H [] H7) (if b.ns = [] then [pairD ((i:Int),(e.length:Int))] else []) rs->rs.length<=1 -> ∀lr,H7 lr=Sb -> ∀z,upd H7 lr (.lst rs) z=Sb ->
     DenL K (yo H [] (upd (upd H7 lr (.lst rs)) z (.lst (fs++ws++rs)))) ((zU e (i+1)).map pairD) (fs++ws++rs):=by
    intro rs S c3 lr t z B;rw[f6];show DenL.append (c1.mono ((Ext.laid t).trans (.laid B)).young) (S.mono ((Ext.laid t).trans (.laid B)).young)
   let T:∀(k:Int) (rs:List V),(k=0\/k=1)->(List.replicate k.toNat [V.ref v]).flatten=rs->DenL K (yo H [] H7) (if b.ns = [] then [pairD ((i:Int),(e.length:Int))] else []) rs -> ∀Q:VK,(∀z H8,Ext [] J H8->H z=Sb->H8 z=Sa (.lst (fs++ws++rs))->DenL K (yo H [] H8) ((zU e (i+1)).map pairD) (fs++ws++rs)->Q (.ref z) H8) ->
     rRep (.ref Z) (.int k) H7 (λy J=>rCat (.ref f1) y J Q):=by
    intro k rs hk S g Q hQ;let c3:rs.length<=1:=by rw[<-S];rcases hk with h|h<;>subst h<;>first|show bG _|show aI _
    show⟨Z,k,[.ref v],rfl,rfl,h7,∎,∎,len2 (by rcases hk with h|h<;>subst h<;>first|(change 1*0<=1000;decide)|(change 1*1<=1000;decide)),λlr t=>?_⟩;rw[S];show⟨f1,lr,fs++ws,rs,rfl,rfl,Ext.laid (ts:=[]) t _ _ ∅ f7,zB,len2 (by rw[aJ];lia),λz B=>?_⟩;show hQ z _ (e5.trans (c2.trans ((Ext.laid t).trans (.laid B)))) ?_ zB (key rs g c3 lr t z B);show(EH.trans (e5.trans (c2.trans (.laid t)))).no B
   by_cases U:b.ns=[]
   .rw [decide_eq_true U];rw[if_pos U]at T;show T 1 [.ref v] (.inr rfl) rfl (.cons (.tuple c0 (.cons .int (.cons .int .nil))) .nil) _ λz H8 e8 h0 h8 d8=>?_;show⟨z,_,_,_,rfl,e2.trans e8,h0,h8,d8⟩
   .rw [decide_eq_false U];rw[if_neg U]at T;show T 0 [] (.inl rfl) rfl .nil _ λz H8 e8 h0 h8 d8=>?_;show⟨z,_,_,_,rfl,e2.trans e8,h0,h8,d8⟩
 .rintro l r ⟨W,fs,o2,o3,rfl,e',u,G,g⟩;rw[d0]at g;z_go;show q W r u (E0.trans (e1.trans e')) (.list (SqL.of ?_) g);rw[zi u ∅];show G
noncomputable abbrev qRc:Sr:=top 8
theorem qT2(F:Fun K "ways_of" "ways_of" qRc f fd)(a5:mg "enumerate"=Sb)(b2:mg "len"=Sb)(a6:mg "sorted"=Sb):FnOk P w K mg base CX0 1 f fd ["work"] (ui K):=by
 show F.go (N:=["work","ways","at","deeds","end"]) fsc ?_;rintro d5 A c0 s H vs Q E hr ⟨a,h,m,c1,rfl,hW,r,hm,q⟩
 refine⟨_,zF (zL 1 (zW (zA (zg (zA (xB xD zE) (zA zE zC))) zC)))
  (zF (zy bJ rfl (xl rfl a5 (zA (pv 0) zC)) (yM (n:=2) rfl (zR (zJ 2) (zR (yM (n:=2) rfl (zR (zJ 3) (zR (zJ 4) zp))) zp)))
   (zH (zm (zQ yA (zM yF (pv 4) zE (λ_ _=>rfl)) yI (zO _))
    (zH (yL (yN bD bX bY yi (pv 1) (zA (zg (zA (pv 2) (zA (zd yV (by rfl) b2 cV (zA (pv 0) zC)) zC))) zC))))
    (zH (yL (yN bD fK fL vM (pv 1) (zA
     (yE ["to"] [2] (kR (xH wS (pv 4) (xG zE) xE)) (λ_ _ _ _=>zJ 0) (λ_ _ _ _=>.nil) (λ_ _ _ _=>zg (zA (pv 1) (zA (pv 0) zC)))) zC)))))))
  (zH (zN (zd qN2 (by rfl) a6 cQ (zA (pv 1) zC))))),?_⟩
 dsimp only[zT,zY];let⟨a',vs,ea,a7,b3⟩:=hW.ofList;cases ea;let b4:vs.length=h.length:=by rw[b3.len,aB]
 let d6:=r.len;z_go;show⟨len2 ∅,λT b5=>?_⟩;z_go;show⟨len2 ∅,λd W=>?_⟩;let E0:=(Ext.laid (ts:=[]) (o:=.tup [V.int (-1),.int 0]) b5).trans (.laid (o:=.lst [V.ref T]) W);let n0:T≠d:=zG zB W;let I:H d=Sb:=by grind[zD]
 let d0:DenL K (yo H [d] (upd (upd H T (.tup [V.int (-1),.int 0])) d (.lst [V.ref T]))) ((rawTo h 0).map pairD) [V.ref T]:=by
  show .cons (.tuple (SqT.of ?_) (.cons .int (.cons .int .nil))) .nil;grind[zi,zD,zB]
 let l1:upd (upd H T (.tup [V.int (-1),.int 0])) d (.lst [V.ref T]) d=Sa (.lst [V.ref T]):=zB;generalize upd (upd H T (.tup [V.int (-1),.int 0])) d (.lst [V.ref T])=H1 at E0 d0 l1 ⊢;z_go;show⟨a,rfl,⟨vs,E0.toSame.seq a7⟩,uV (xs:=vs) (λi g C=>∃(us:List V)(o2 o3 o4:Option V),g=[Sa (.ref a),Sa (.ref d),o2,o3,o4]/\Ext [d] H1 C/\C d=Sa (.lst us)/\DenL K (yo H [d] C) ((rawTo h i).map pairD) us) ?_ ?_ ?_ ?_⟩
 .exact⟨_,_,_,_,rfl,.refl _ _,l1,d0⟩
 .rintro i g C hi ⟨us,o2,o3,o4,rfl,e',J,e⟩;show(((E0.mo (us:=[d])).trans e').drop I).toSame.seq a7
 .rintro i x g C pt hx ⟨us,o2,o3,o4,rfl,e',J,e⟩ c2;let EH:Ext [] H C:=((E0.mo (us:=[d])).trans e').drop I;let⟨dd,c3,c4⟩:=b3.get hx;let⟨b,hb,rfl⟩:=zX c3;let hi:i<h.length:=(aD.mp hb).1;let a8:=(r.blk b (aK hb)).ns;let⟨c,dl,d7,ve,rfl,hc,_,_,c5⟩:=wh c4;let⟨en,wd,rfl,b6,a2⟩:=vf a8.few c5;let c6:=e.len;rw[aB]at c6;let c7:=qKj r i;let e2:Ext [] C (upd C pt (.tup [.int i,.ref c])):=.laid c2;let u:=e2.k J;let D:=e.mono (e2.mo (us:=[d])).young;let v:Ext [] H (upd C pt (.tup [.int i,.ref c])):=EH.trans e2;let a3:SqT K (upd C pt (.tup [.int i,.ref c])) pt [.int i,.ref c]:=SqT.of zB
  generalize upd C pt (.tup [.int i,.ref c])=H2 at e2 u D v a3 ⊢;let eL:∀{G:Hp},Ext [d] H2 G->Ext [d] H1 G:=λ{G}z=>e'.trans ((e2.mo).trans z);show zt a3 rfl ?_;z_go;show zt (v.toSame.seqT hc) rfl ?_;z_go;show zo (v.toSame.seqT b6) (show atI (V.str wd::b.ns.map V.int) ((0:Nat):Int)=Sa (V.str wd)from zf rfl) ?_;z_go;show vW ?_;z_go;let a4:rawTo h (i+1)=rawTo h i++xo h.length i b.ns:=by
   grind[rawTo]
  by_cases X:b.ns=[]
  .rw [decide_eq_true (a2.mpr X)];k_in;show yB u ?_;z_go;show⟨a,vs,rfl,.inl (v.toSame.seq a7),?_⟩;rw[b4];z_go;show⟨len2 ∅,λp hp=>?_⟩;let Y:p≠d:=(zG u hp).symm;z_go;show yO (by rw[zD Y.symm];show u) (zV ∎) ?_;let eF:Ext [d] H2 (upd (upd H2 p (.tup [.int i,.int h.length])) d (.lst (us++[V.ref p]))):=(Ext.laid hp).trans .pt;show⟨us++[V.ref p],_,_,_,rfl,eL eF,zB,?_⟩;rw[a4,aH];unfold xo;rw[if_pos X];show DenL.append (D.mono eF.young) (.cons (.tuple (SqT.of ?_) (.cons .int (.cons .int .nil))) .nil);rw[zi (v.no hp) (by grind),zD Y,zB]
  .rw [decide_eq_false (λz=>X (a2.mp z))];cbv;z_go;show yB u ?_;z_go;k_dec;show vh a8.few (v.toSame.seqT b6) λp hp=>?_;let Y:p≠d:=(zG u hp).symm;let e3:Ext [] H2 (upd H2 p (.tup (b.ns.map V.int))):=.laid hp;let Z:=e3.k u;let L:=D.mono (e3.mo (us:=[d])).young;let a9:=v.trans e3;let a0:upd H2 p (.tup (b.ns.map V.int)) p=Sa (.tup (b.ns.map V.int)):=zB;generalize upd H2 p (.tup (b.ns.map V.int))=H3 at e3 Z L a9 a0 ⊢;show⟨p,rfl,⟨_,SqT.of a0⟩,λU M=>?_⟩;let b7:U≠d:=(zG Z M).symm;let c8:p≠U:=zG a0 M;let d4:H U=Sb:=a9.no M;let d8:=a8.few;show jp (xs:=b.ns.map V.int) (λj g G=>∃(o0:Option V)(ws:List V),g=[o0,Sa (.int i)]/\Ext [U] H3 G/\G U=Sa (.lst ws)/\DenL K (yo H [U,d] G) ((b.ns.take j).map λx=>pairD ((i:Int),x)) ws) ?_ ?_ ?_ ?_
   .exact⟨Sb,[],rfl,.laid M,zB,.nil⟩
   .rintro j g G hj ⟨o0,ws,rfl,eG,O,B⟩;show SqT.of (eG _ _ (by grind) a0)
   .rintro j x g G R hx ⟨o0,ws,rfl,eG,O,B⟩ hR;let⟨y,hy,rfl⟩:=zX hx;let hj:j<b.ns.length:=(aD.mp hy).1;z_go;k_in;show⟨len2 ∅,λp2 S=>?_⟩;let a1:p2≠U:=(zG O S).symm;let lG:G d=Sa (.lst us):=eG _ _ (by grind) Z;let b8:p2≠d:=(zG lG S).symm;let c9:ws.length=j:=by rw[B.len,aB,aV];lia
    show⟨ws,by grind[zD],zV ∎,hR _ _ ⟨_,ws++[.ref p2],rfl,eG.trans ((Ext.laid S).trans .pt),zB,?_⟩⟩;rw[zc hy,aH];show DenL.append (B.mono (((Ext.laid S).trans .pt:Ext [U,d] G _)).young) (.cons (.tuple (SqT.of ?_) (.cons .int (.cons .int .nil))) .nil);rw[zi (((a9.mo (us:=[U])).trans eG).none (by grind) S) (by grind),zD a1,zB]
   .rintro g G ⟨o0,ws,rfl,eG,O,B⟩;rw[aB,aZ]at B;let lG:G d=Sa (.lst us):=eG _ _ (by grind) Z;let c9:ws.length=b.ns.length:=by rw[B.len,aB]
    z_go;show⟨d,U,us,ws,rfl,rfl,lG,O,len2 ∎,?_⟩;let d1:Ext [d] H3 G:=(eG.drop M).mo;let eF:Ext [d] H2 (upd G d (.lst (us++ws))):=(e3.mo).trans (d1.trans .pt);show⟨us++ws,_,_,_,rfl,eL eF,zB,?_⟩;rw[a4,aH];unfold xo;rw[if_neg X,dO];show DenL.append (D.mono eF.young) (B.mono λc oc hc=>?_);grind[xZ,zi,zD]
 .rintro g C ⟨us,o2,o3,o4,rfl,e',J,e⟩;let EH:Ext [] H C:=((E0.mo (us:=[d])).trans e').drop I;rw[b4]at e;let c7:=qKj r h.length;z_go;show⟨d,us,(rawTo h h.length).map tOf,rfl,SqL.of J,qQj yo_same e,λt ht=>?_,by grind,λl b9 hl b0 b1=>?_⟩
  .let⟨p,_,rfl⟩:=bC.mp ht;show λz=>nomatch z
  .let d9:l≠d:=(zG J hl).symm;let d2:H l=Sb:=EH.no hl;let L:DenL K (yo H [l] (upd C l (.lst (b9.map (·.1))))) ((rawTo h h.length).map pairD) us:=by
    show(e.mono ?_).mono (Ext.young (H0:=H) (Ext.put (ts:=[l]) (t:=l) (o:=.lst (b9.map (·.1))) ∅));intro b ob hb;grind[xZ,zi]
   let⟨d3,h1,h2,h3⟩:=qKb L (qMc r) b0 b1;let he:d3=zU h h.length:=qKi h2 (wK r) λp=>by grind[uh]
   rw[he]at h1;show q l _ _ d2 (EH.trans (.laid hl)) zB h1
end Fs
local macro_rules | `(tactic| walk_at "qc") => `(tactic| first | refine L2.wBe ?_ | refine L2.qY0 ?_ | refine L2.qY2 ?_ | refine L2.qY3 ?_ | refine L2.qY5 ?_ | refine L2.qS6 ?_ | refine L2.wD7 ?_ | refine L2.qZ4 ?_ | refine L2.qXz ?_ | refine L2.qY4 ?_ | walk_at "qz")
local macro_rules | `(tactic| walk_at "ry") => `(tactic| with_reducible first | (refine L2.b10k8 ?_;intro B1_ B2_ B3_ B4_ B5_ B6_ B7_ hB1_ hB2_ hB3_ hB4_ hB5_ hB6_ hB7_) | (refine L2.b10k5 ?_;intro B1_ B2_ B3_ B4_ hB1_ hB2_ hB3_ hB4_) | (refine L2.b10k3 ?_;intro B1_ B2_ hB1_ hB2_) | (refine L2.r10 ?_;intro NN_ hNN_) | (refine L2.ww ?_; intro NN_ hNN_) | walk_at "qa" | refine L2.zk (by assumption) ?_ | refine L2.g10 (by assumption) ?_ | refine L2.uY (by assumption) ?_ | (refine L2.uv ?_; intro NA_ NB_ hNA_ hNB_) | walk_at "qc")
local macro_rules | `(tactic| walk_at "re") => `(tactic| repeat walk_at "ry")
local macro_rules | `(tactic| walk_at "rx") => `(tactic| repeat (first | with_reducible refine L2.yR ?_ | walk_at "ry"))
namespace Fs
open PySem L2
theorem qT8(F:Fun K "led_to" "led_to" sLed f fd)(r:mg "list"=Sb):FnOk P w K mg base CX0 1 f fd ["starts","nexts"] (qXo K):=by
 show F.go scLed ?_;rintro b6 A a5 s H vs Q E hr ⟨st,nd,N,R,U,rfl,a6,a7,a8,a9,hU,hN,b7,q⟩;let hu:=zn hr
 refine⟨_,(zF (zL 2 kg)
  (zF (zL 3 (yK wT (by rfl) r cP (zA (pv 0) zC)))
  (zF (vH bJ (yx K rfl (pv 3) (λ_=>rfl))
  (zF (zL 4 (kX bD iA iB kY (pv 3)))
  (zH (zm (xr (uK hu (pv 4) (pv 2))) (zF (uL hu (pv 2) (pv 4) yZ rfl)
  (zH (yL (yN bD fK fL vM (pv 3) (zA (kn hu (pv 1) (pv 4) (zW zC) ⟨rfl,rfl,rfl,rfl⟩) zC))))) zx))))
  (zH (zN (pv 2)))))),?_⟩
 dsimp only[zT,zY,yC,zv,zw];k_go;show jS λd hd=>?_;k_go;let E0:Ext [] H (upd H d (.dK [])):=.laid hd;show⟨st,_,rfl,a6.imp (E0.toSame.seq) (E0.toSame.seqT),λb u=>?_⟩;let i:d≠b:=zG zB u;let m:H b=Sb:=E0.no u;k_go;let b0:LedGI H d b N R U [] R (upd (upd H d (.dK [])) b (.lst (R.map V.int))):=by
  show⟨E0.trans (.laid u),?_,zB,gK,(λ_ h=>absurd h ∅),λx j=>⟨x,j,.refl⟩,(λ_ h=>absurd h ∅),λs hs=>.inr hs,(λ_ h=>absurd h ∅),∎⟩;rw[zD i,zB];rfl
 show⟨λμ S G=>∃(e due:List Int)(o4:Option V),μ = (U.length-e.length)*401+due.length/\S=[Sa (.ref st),Sa (.ref nd),Sa (.ref d),Sa (.ref b),o4]/\LedGI H d b N R U e due G,⟨_,[],R,Sb,rfl,rfl,b0⟩,?_⟩;rintro μ S T ⟨e,due,o4,rfl,rfl,I⟩;show yd (v:=.ref b) rfl ⟨!(due.map V.int).isEmpty,.inl ⟨_,SqL.of I.hdu,rfl⟩,?_⟩;rcases List.eq_nil_or_concat due with h|⟨a,y,h⟩
 .subst h;show iteF ?_;k_go;show q d e T hd I.ext I.hd I.nod I.end_
 .let h:due=a++[y]:=by rw[h,List.concat_eq_append]
  let he:(!(due.map V.int).isEmpty)=Sc:=by rw[h];simp
  rw[he];show iteT (L2.wBa (n2:=λ_ _=>True) λNw_ hNw_=>?_);let⟨s0,B,C⟩:=I.rd y (by rw[h];simp);let b1:=uq a9 (a8 s0 B) C;let b8:=yP I.nod I.sU;let b2:due.length=a.length+1:=by rw[h];simp
  let b9:=I.fewd;let l:∀{x:Int},x∈due->x∈a\/x=y:=λ{x}z=>by rw[h]at z;simpa using z
  k_go;show yB I.hdu ?_;show⟨b,due.map V.int,.int y,rfl,rfl,I.hdu,by rw[h];simp,?_⟩;let D:(due.map V.int).dropLast=a.map V.int:=by rw[h];simp
  rw[D];let d1:upd T b (.lst (a.map V.int)) d=Sa (.dK (e.map λk=>((Sum.inl k:Key),V.bl Sc))):=by rw[zD i];show I.hd
  let e1:Ext [] H (upd T b (.lst (a.map V.int))):=((I.ext.mo (us:=[b])).trans .pt).drop m;let u1:upd T b (.lst (a.map V.int)) b=Sa (.lst (a.map V.int)):=zB;generalize upd T b (.lst (a.map V.int))=H1 at d1 e1 u1 ⊢;k_go;show⟨d,_,rfl,DGet.k (k:=Sum.inl y) d1,?_⟩;rw[wq];by_cases M:y∈e
  .rw [if_pos M];show ye (iteF ?_);k_go;show⟨_,by rw[b2];show dD _,e,a,_,rfl,rfl,e1,d1,u1,I.nod,I.rk,λx j=>I.rd x (by rw[h];show aY _ j),λk W c g=>?_,λs1 J=>?_,I.sU,∎⟩
   .exact (I.clo k W c g).elim .inl λz=>(l z).elim .inr λz=>.inl (z▸M)
   .exact (I.one s1 J).elim .inl λz=>(l z).elim .inr λz=>.inl (z▸M)
  .rw [if_neg M];show ye (iteT ?_);k_go;show⟨d,_,rfl,DPut.k (k:=Sum.inl y) d1 (zV (by rw[aB];lia)),?_⟩;let X:putK (e.map λk=>((Sum.inl k:Key),V.bl Sc)) (Sum.inl y) (V.bl Sc)=(e++[y]).map λk=>((Sum.inl k:Key),V.bl Sc):=by
    rw[vO _ (by rw[wq,if_neg M]),aH];rfl
   rw[X];let d2:upd H1 d (.dK ((e++[y]).map λk=>((Sum.inl k:Key),V.bl Sc))) d=Sa (.dK ((e++[y]).map λk=>((Sum.inl k:Key),V.bl Sc))):=zB;let e2:Ext [] H (upd H1 d (.dK ((e++[y]).map λk=>((Sum.inl k:Key),V.bl Sc)))):=((e1.mo (us:=[d])).trans .pt).drop hd;let u2:upd H1 d (.dK ((e++[y]).map λk=>((Sum.inl k:Key),V.bl Sc))) b=Sa (.lst (a.map V.int)):=by rw[zD i.symm];show u1
   generalize upd H1 d (.dK ((e++[y]).map λk=>((Sum.inl k:Key),V.bl Sc)))=Y at d2 e2 u2 ⊢;let⟨Z,a0,b3⟩:=a7.mono e2.toSame;k_go;show yB u2 ?_;k_go;show⟨nd,rfl,.inl ⟨Z,.inl a0⟩,?_⟩;k_go;show⟨len2 (bG _),λL b4=>?_⟩;let O:Ext [] Y (upd Y L (.lst [])):=.laid b4;let b5:upd Y L (.lst []) L=Sa (.lst []):=zB;let a3:∃(o:Option V)(c:Sf),o=valV Z (Sum.inl y)/\o.getD (.ref L)=.ref c/\upd Y L (.lst []) c=Sa (.lst ((N y).map V.int)):=by
    rcases b3 y with ⟨a1,a2⟩|⟨c,a1,a2⟩
    .exact⟨Sb,L,a1.symm,rfl,by rw[b5,a2];rfl⟩
    .exact⟨Sa (.ref c),c,a1.symm,rfl,O.k a2⟩
   let⟨o,c,eo,ec,hc⟩:=a3;generalize upd Y L (.lst [])=H3 at O hc ⊢;show⟨o,by rw[eo];show DGet.k (k:=Sum.inl y) (O.k a0),?_⟩;rw[ec];k_go;let c0:=hN y;let n:(e++[y]).Nodup:=by
    rw[cT];show⟨I.nod,∅,λx j z hz=>?_⟩;rw[aE.mp hz];rintro rfl;show M j
   let p:∀k∈e++[y],k∈U:=λk W=>by
    rcases aL.mp W with z|z
    .exact I.sU k z
    .rw [aE.mp z];show b1
   let a4:=yP n p;rw[aJ,bE]at a4;show⟨b,c,a.map V.int,(N y).map V.int,rfl,rfl,O.k u2,hc,by rw[cK,aB,aB];lia,?_⟩;show hNw_ _ _ ?_;show⟨_,?_,e++[y],a++N y,_,rfl,rfl,?_,?_,?_,n,?_,?_,?_,?_,p,?_⟩
   .rw [aJ,aJ,bE];lia
   .exact (((e2.trans O).mo (us:=[b])).trans .pt).drop m
   .rw [zD i];show O.k d2
   .rw [zB,aH]
   .intro x j;rcases aL.mp j with z|z
    .exact I.rk x z
    .rw [aE.mp z];show⟨s0,B,C⟩
   .intro x j;rcases aL.mp j with z|z
    .exact I.rd x (by rw[h];show aY _ z)
    .exact⟨s0,B,.step C z⟩
   .intro k W c' g;rcases aL.mp W with z|z
    .rcases I.clo k z c' g with t|t
     .exact .inl (aY _ t)
     .rcases l t with t|t
      .exact .inr (aY _ t)
      .exact .inl (by rw[t];simp)
    .rw [aE.mp z]at g;show .inr (bI _ g)
   .intro s1 J;rcases I.one s1 J with t|t
    .exact .inl (aY _ t)
    .rcases l t with t|t
     .exact .inr (aY _ t)
     .exact .inl (by rw[t];simp)
   .rw [aJ,aJ,bE];lia
theorem wA1(F:Fun K "led_to" "led_to" sLed f e)(a:mg "list"=Sb):FnOk P w K mg base CX0 1 f e ["starts","nexts"] (ur K):=
 ⟨λd H Q E h=>h.elim ((qT8 (P:=P) (w:=w) (base:=base) F a).len d H Q E) ((qT9 (P:=P) (w:=w) (base:=base) F a).len d H Q E),
   λA b s H c g d Q E i j k l h=>h.elim ((qT8 F a).run A b s H c g d Q E i j k l) ((qT9 F a).run A b s H c g d Q E i j k l)⟩
end Fs
local macro_rules | `(tactic| walk_at "rf") => `(tactic| repeat (with_reducible first | (refine L2.b10k8 ?_;intro B1_ B2_ B3_ B4_ B5_ B6_ B7_ hB1_ hB2_ hB3_ hB4_ hB5_ hB6_ hB7_) | (refine L2.b10k5 ?_;intro B1_ B2_ B3_ B4_ hB1_ hB2_ hB3_ hB4_) | (refine L2.b10k3 ?_;intro B1_ B2_ hB1_ hB2_) | (refine L2.r10 ?_;intro NN_ hNN_) | (refine L2.ww ?_; intro NN_ hNN_) | walk_at "qa" | refine L2.zk (by assumption) ?_ | refine L2.g10 (by assumption) ?_ | refine L2.uY (by assumption) ?_ | (refine L2.uv ?_; intro NA_ NB_ hNA_ hNB_) | walk_at "qb"))
namespace Fs
open PySem L2
local macro_rules|`(tactic|k_in)=>`(tactic|(kd_p;show xS ⋯ ⋯ ⋯ ?_;kd_p))
noncomputable abbrev qO2:Sr:=top 48
theorem qPn(F:Fun K "_law_counts" "_law_counts" qO2 f fd)(X:Has P w K mg base "_law_draw" 1 ["_law_tape_here","_law_many"] yl)(Y:Has P w K mg base "_law_ways" 2 ["_law_work_here"] (wg K)):FnOk P w K mg base CX0 3 f fd ["_law_tape_here","_law_work_here"] (qNq K):=by
 show F.go (N:=["_law_tape_here","_law_work_here","_law_some"]) fsc ?_;rintro b7 A Z s H vs Q E I ⟨t,wa,k,J,m,p,rfl,L,hk,hW,r,hm,q⟩;let hu:=zn I
 refine⟨_,(zF (zL 2 (zW (zA zE (zA zE (zA zE (zA zE (zA (zK xV zE zE) (zA (zK zu zE (zI X I ⋯ (zA (pv 0) (zA zE zC)))) (zA (zI X I ⋯ (zA (pv 0) (zA (zK xV zE zE) zC))) zC)))))))))
  (zH (zN (yE ["_law_way"] [0,2] (ze (zI Y I ⋯ (zA (pv 1) zC))) (λ_ _ _ _=>(zJ 0)) (λ_ _ _ _=>.nil) (λ_ _ _ _=>(zM (qOq K rfl) (pv 2) (zI X I ⋯ (zA (pv 1) (zA zE zC))) (λ_ _=>rfl))))))),?_⟩
 dsimp only[zT,zY,yC,zv,zw];let⟨ta,tb,tc,a0,b5⟩:=id L;let a3:=Den.off a0 (jz J) hW;let b8:=r.len;let a4:∀b∈J,b.ns.length<=2:=λb hb=>(r.blk b hb).ns.few;let b9:=xf a4 J.length;k_in;show zj L ∎ ⋯ ⋯ λr1 H1 a1 b1 T1 e1 k1=>?_;k_in;show zj T1 ∎ ⋯ ⋯ λd u a2 b2 T2 e2 k2=>?_;let c0:d<1000000:=b2;show⟨len2 (by change 7<=1000;decide),λc v=>?_⟩;let E2:Ext [t] H u:=e1.trans e2;let M:c≠t:=T2.ne v;let eL:Ext [] u (upd u c (.lst (([0,1,2,10,10^12,1+r1,d]:List Int).map V.int))):=.laid v
 let l:(upd u c (.lst (([0,1,2,10,10^12,1+r1,d]:List Int).map V.int))) c=Sa (.lst (([0,1,2,10,10^12,1+r1,d]:List Int).map V.int)):=zB;let T3:=T2.ext eL ∅;let S:Ext [t] H (upd u c (.lst (([0,1,2,10,10^12,1+r1,d]:List Int).map V.int))):=E2.trans (eL.mo);show(show gName 2 (V.ref c) _ (upd u c (.lst (([0,1,2,10,10^12,1+r1,d]:List Int).map V.int))) _ from ?_);generalize upd u c (.lst (([0,1,2,10,10^12,1+r1,d]:List Int).map V.int))=H3 at l T3 S ⊢;clear eL v T2 k2 e2 k1 e1 T1 E2;let dW:Den K H3 (workD J) (.ref wa):=(a3.mono S.same).mono (vU _ _);kd_p;show⟨wa,J,m,p,rfl,dW,r,hm,λlw H4 a5 T a7=>?_⟩;let⟨c1,us,ew,O,dU⟩:=(a7.mono yo_same).ofList
 cases ew;let a8:=dU.len;rw[aB]at a8;let T4:=T3.ext T ∅;let a9:lw≠t:=T3.ne a5;show⟨lw,rfl,⟨_,O⟩,λe a=>?_⟩;let B:e≠t:=T4.ne a;let o:=T.k l;let b0:c≠e:=zG o a;show zr (xs:=us) (λi g G=>∃(U:Option V)(ns:List Int),g=[U,Sa (.ref t),Sa (.ref c)]/\Ext [e,t] H4 G/\G e=Sa (.lst (ns.map V.int))/\ns.length=i/\(∀n∈ns,0<=n/\n<=10^12)/\Tape G t (k+2+i)) ?_ ?_ ?_ ?_
 .exact⟨Sb,[],rfl,.laid a,zB,rfl,∅,(T4.ext (ts:=[]) (.laid a) ∅).mono ∎⟩
 .rintro i g G hi ⟨U,ns,rfl,D,h,C,j,W⟩;show O.keepN (D.drop a) (by simpa using a9)
 .rintro i x g G R hx ⟨U,ns,rfl,D,h,C,j,W⟩ hR;let c2:i<us.length:=(aD.mp hx).1;kd_p;show iteT ?_;kd_p;show zj W ∎ ⋯ ⋯ λr6 H6 a6 b6 T6 e6 k6=>?_;let b3:SqL K H6 c (([0,1,2,10,10^12,1+r1,d]:List Int).map V.int):=SqL.of (e6 _ _ (by simpa using M) (D _ _ (by simpa using ⟨b0,M⟩) o));let⟨n,hn,en⟩:=wf (ns:=[0,1,2,10,10^12,1+r1,d]) a6 b6;show za b3 en ?_;let m1:0<=n/\n<=10^12:=by
   simp only[aN,cS,or_false]at hn;lia
  let b4:H6 e=Sa (.lst (ns.map V.int)):=by rw[k6 e B];show h
  show⟨_,b4,zV (by rw[aB];lia),hR _ _ ⟨_,ns++[n],rfl,(D.trans (e6.mo)).trans .pt,by rw[zB,aH];rfl,by rw[aJ,C];rfl,λy hy=>?_,(T6.ext (ts:=[e]) .pt (by simpa using cC B)).mono ∎⟩⟩;rcases aL.mp hy with z|z
  .exact j y z
  .rw [show y=n by simpa using z];show m1
 .rintro g G ⟨U,ns,rfl,D,h,C,j,W⟩;let E5:Ext [t] H4 G:=D.drop a;let nc:H e=Sb:=S.none (by simpa using B) (T.no a);show q e ns G nc (W.mono ∎) (S.trans ((T.mo).trans E5)) h ∎ j
noncomputable abbrev qO1:Sr:=top 49
theorem qPm(F:Fun K "_law_prices" "_law_prices" qO1 f y)(z:Has P w K mg base "_law_draw" 1 ["_law_tape_here","_law_many"] yl):FnOk P w K mg base CX0 2 f y ["_law_tape_here"] qNn:=by
 show F.go (N:=["_law_tape_here"]) fsc ?_;rintro M A e s H vs Q E B ⟨t,k,rfl,c,hk,q⟩;show⟨tRet (tTup (tCons (tOp (rIxL K) (tLst (tCons (tC (.int 0)) (tCons (tC (.int 1)) (tCons (tC (.int 1)) (tCons (tC (.int 3)) (tCons (tOp (rI CPow λi j=>V.int (i^j.toNat)) (tC (.int 10)) (tC (.int 6))) tNil)))))) (tCall yl [] E0 (tCons (tVar 0) (tCons (tC (.int 5)) tNil)))) (tCons (tOp (rIxL K) (tLst (tCons (tC (.int 1)) (tCons (tC (.int 0)) (tCons (tC (.int 1)) (tCons (tC (.int 2)) (tCons (tOp (rI CPow λi j=>V.int (i^j.toNat)) (tC (.int 10)) (tC (.int 6))) tNil)))))) (tCall yl [] E0 (tCons (tVar 0) (tCons (tC (.int 5)) tNil)))) tNil))),?p,?_⟩
 case p=>
  show zH ?_;show zN ?_;show zg ?_;show zA ?_ ?_
  .exact (zM zZ (zW (zA zE (zA zE (zA zE (zA zE (zA (zK xV zE zE) zC)))))) (zI z B ⋯ (zA (pv 0) (zA zE zC))) (λ_ _=>rfl))
  show zA ?_ zC;show(zM zZ (zW (zA zE (zA zE (zA zE (zA zE (zA (zK xV zE zE) zC)))))) (zI z B ⋯ (zA (pv 0) (zA zE zC))) (λ_ _=>rfl))
 k_in;show⟨len2 (by change 5<=1000;decide),λg a=>?_⟩;let O:g≠t:=c.ne a;let R:=c.ext (ts:=[]) (.laid (o:=.lst (([0,1,1,3,10^6]:List Int).map V.int)) a) ∅;kd_p;show zj R ∎ ⋯ ⋯ λr1 S T U C W X=>?_;let h:SqL K S g (([0,1,1,3,10^6]:List Int).map V.int):=SqL.of (by rw[X g O,zB];rfl);let⟨l,m,n⟩:=wf (ns:=[0,1,1,3,10^6]) T U;show za h n ?_;let D:0<=l/\l<=10^6:=by
  simp only[aN,cS,or_false]at m;lia
 k_in;show⟨len2 (by change 5<=1000;decide),λr b=>?_⟩;let Y:r≠t:=C.ne b;let Z:=C.ext (ts:=[]) (.laid (o:=.lst (([1,0,1,2,10^6]:List Int).map V.int)) b) ∅;kd_p;show zj Z ∎ ⋯ ⋯ λr3 G a3 b3 I e3 k3=>?_;let u:SqL K G r (([1,0,1,2,10^6]:List Int).map V.int):=SqL.of (by rw[k3 r Y,zB];rfl);let⟨bk,v,x⟩:=wf (ns:=[1,0,1,2,10^6]) a3 b3;show za u x ?_;let J:0<=bk/\bk<=10^6:=by
  simp only[aN,cS,or_false]at v;lia
 kd_p;show⟨len2 (by change 2<=1000;decide),λp d=>?_⟩;let L:Ext [t] H G:=((Ext.laid a).trans W).trans ((Ext.laid b).trans e3);let np:p≠t:=I.ne d;show q p l bk _ (L.none (by simpa using np) d) ((I.ext (ts:=[]) (.laid d) ∅).mono ∎) (L.trans (.laid d)) zB D.1 D.2 J.1 J.2
end Fs
local macro_rules | `(tactic| walk_at "qd") => `(tactic| first | refine L2.wBe ?_ | refine L2.qY0 ?_ | refine L2.qY2 ?_ | refine L2.qY3 ?_ | refine L2.qY5 ?_ | refine L2.qS6 ?_ | refine L2.wD7 ?_ | refine L2.qXz ?_ | refine L2.qY4 ?_ | walk_at "qz")
local macro_rules | `(tactic| walk_at "rg") => `(tactic| repeat (with_reducible first | (refine L2.b10k8 ?_;intro B1_ B2_ B3_ B4_ B5_ B6_ B7_ hB1_ hB2_ hB3_ hB4_ hB5_ hB6_ hB7_) | (refine L2.b10k5 ?_;intro B1_ B2_ B3_ B4_ hB1_ hB2_ hB3_ hB4_) | (refine L2.b10k3 ?_;intro B1_ B2_ hB1_ hB2_) | (refine L2.r10 ?_;intro NN_ hNN_) | (refine L2.ww ?_; intro NN_ hNN_) | walk_at "qa" | refine L2.zk (by assumption) ?_ | refine L2.g10 (by assumption) ?_ | refine L2.uY (by assumption) ?_ | (refine L2.uv ?_; intro NA_ NB_ hNA_ hNB_) | walk_at "qd"))
namespace Fs
open PySem L2
local macro_rules|`(tactic|k_in)=>`(tactic|(k_go;show⟨rfl,?_⟩))
local macro_rules|`(tactic|kj_on)=>`(tactic|(show iteF ?_))
local macro_rules|`(tactic|kt_k)=>`(tactic|(show iteT ?_))
local macro_rules|`(tactic|cbv)=>`(tactic|(kj_on;k_go))
local macro_rules|`(tactic|kt_le)=>`(tactic|(k_go;kt_k;k_go))
noncomputable abbrev qRd:Sr:=top 2
theorem qT4(F:Fun K "turned" "turned" qRd f D):FnOk P w K mg base CX0 1 f D ["steps"] (kF K):=by
 show F.go (N:=["steps"]) fsc ?_;rintro M A y s H Z Q E O ⟨a,z,S,rfl,m,I,hl,q⟩;let hu:=zn O;show⟨_,(zH (zN (yE ["begin","to"] [] (ze (pv 0)) (λ_ _ _ _=>(xc (n:=2) K rfl rfl (zR (zJ 0) (zR (zJ 1) zp)))) (λ_ _ _ _=>.nil) (λ_ _ _ _=>(zg (zA (pv 1) (zA (pv 0) zC))))))),?_⟩;dsimp only[zT,zY,yC,zv,zw];let o:=I.len;rw[aB]at o;k_ne;show⟨a,rfl,⟨z,m⟩,λj d=>?_⟩;show zr (xs:=z) (λi h G=>∃(t u:Option V)(g:List V),h=[t,u]/\Ext [j] H G/\G j=Sa (.lst g)/\DenL K (wo [j] G) (((S.take i).map tw).map pairD) g) ?_ ?_ ?_ ?_
 .exact⟨Sb,Sb,[],rfl,.laid d,zB,.nil⟩
 .rintro i h G T ⟨t,u,g,rfl,l,e,c⟩;show(l.drop d).toSame.seq m
 .rintro i x h G R J ⟨t,u,g,rfl,l,e,c⟩ U;let⟨dd,B,C⟩:=I.get J;let⟨p,W,rfl⟩:=zX B;let⟨b,rfl,X⟩:=wy C;let T:i<z.length:=(aD.mp J).1;show zt ((l.drop d).toSame.seqT X) rfl ?_;k_ne;kt_k;k_ne;show⟨len2 (by change 2<=1000;decide),λv r=>?_⟩;let k:v≠j:=(zG e r).symm;let Y:g.length=i:=by rw[c.len,aB,aB,aV];lia
  let L:Ext [j] G (upd (upd G v (.tup [.int p.2,.int p.1])) j (.lst (g++[.ref v]))):=(Ext.laid r).trans .pt;show⟨g,by rw[zD k.symm];show e,zV ∎,U _ _ ⟨_,_,g++[.ref v],rfl,l.trans L,zB,?_⟩⟩;rw[zc W,aH,aH];show DenL.append (c.mono L.same) (.cons (denP (p:=tw p) (SqT.of ?_)) .nil);rw[xR (by simpa using k),zD k,zB];rfl
 .rintro h G ⟨t,u,g,rfl,l,e,c⟩;rw[o,aZ]at c;show q j g G d (l.drop d) e (c.mono (vU _ _))
noncomputable abbrev qNz:Sr:=top 1
theorem qPk(F:Fun K "nexts_by" "nexts_by" qNz f fd):FnOk P w K mg base CX0 1 f fd ["steps"] (vx K):=by
 show F.go (N:=["steps","nexts","begin","to"]) fsc ?_;rintro b0 A a5 s H vs Q E hr ⟨a,us,S,rfl,T,hD,hl,q⟩;let hu:=zn hr
 refine⟨_,(zF (zL 1 kg)
  (zF (zy bJ rfl (ze (pv 0)) (yM (n:=2) rfl (zR (zJ 2) (zR (zJ 3) zp)))
  (zH (yL (yN bD bX bY yi (qW4 (pv 1) (pv 2) (zW zC) ⟨rfl,rfl,rfl,rfl⟩) (zA (pv 3) zC)))))
  (zH (zN (pv 1))))),?_⟩
 dsimp only[zT,zY,yC,zv,zw];let U:=hD.len;rw[aB]at U;k_ne;show jS λd hd=>?_;k_ne;show⟨a,rfl,⟨us,(Ext.laid (ts:=[]) hd).toSame.seq T⟩,yw (xs:=us) (λi t G=>∃(o2 o3:Option V)(e:List (Key×V)),t=[Sa (.ref a),Sa (.ref d),o2,o3]/\Ext [] H G/\G d=Sa (.dK e)/\e.length<=i/\(∀k:Int,(valV e (Sum.inl k)=Sb/\nby (S.take i) k=[])\/∃c,valV e (Sum.inl k)=Sa (.ref c)/\H c=Sb/\G c=Sa (.lst ((nby (S.take i) k).map V.int)))/\(∀(k j:Int)c,valV e (Sum.inl k)=Sa (.ref c)->valV e (Sum.inl j)=Sa (.ref c)->k=j)) ?_ ?_ ?_ ?_⟩
 .exact⟨Sb,Sb,[],rfl,.laid hd,zB,aI _,λk=>.inl ⟨rfl,rfl⟩,λk j c z=>nomatch z⟩
 .rintro i t G hi ⟨o2,o3,e,rfl,D,h,W,g,l⟩;show D.toSame.seq T
 .rintro i x t G hx ⟨o2,o3,e,rfl,D,h,W,g,l⟩ NN BB CC RR X b1 b2;let⟨dd,a6,a7⟩:=hD.get hx;let⟨p,hp,rfl⟩:=zX a6;let⟨b,rfl,hb⟩:=wy a7;let hi:i<us.length:=(aD.mp hx).1;let Y:∀k,nby (S.take (i+1)) k=nby (S.take i) k++(if p.1=k then [p.2]else []):=λk=>by
   unfold nby;rw[zc hp,cD,aH]
   congr 1
   by_cases z:p.1=k
   .simp [z]
   .simp [z]
  show zt (D.toSame.seqT hb) rfl ?_;k_ne;show⟨d,rfl,.inl ⟨e,.inl h⟩,?_⟩;k_ne;show⟨len2 (bG _),λm u=>?_⟩;let Z:d≠m:=zG h u;let O:Ext [] G (upd G m (.lst [])):=.laid u;let I:=O.k h;let a0:upd G m (.lst []) m=Sa (.lst []):=zB;let a3:∀c o,G c=Sa o->c≠m:=λc o z=>zG z u;generalize upd G m (.lst [])=G1 at O I a0 ⊢;let E1:=D.trans O;show⟨e,Sum.inl p.1,rfl,I,zV ∎,λv J=>?_,λJ=>?_⟩
  .rcases g p.1 with ⟨z,_⟩|⟨c,L,c2,c3⟩
   .rw [z]at J;cases J
   rw[L]at J;cases J;let c4:=O.k c3;show yB c4 ?_;k_ne;let a9:(nby (S.take i) p.1).length<=i:=by
    unfold nby;rw[aB];show cA (bM _ _) ?_;rw[aV];lia
   show yO c4 (zV (by rw[aB];lia)) ?_;let a8:c≠d:=λz=>by rw[z,h]at c3;cases c3
   show zk X ⟨_,_,e,rfl,((E1.mo (us:=[c])).trans .pt).drop c2,by rw[zD a8.symm];show I,∎,λk=>?_,l⟩;rw[Y k];by_cases z:p.1=k
   .subst z;show .inr ⟨c,L,c2,?_⟩;rw[zB,if_pos rfl,aH];rfl
   .rw [if_neg z,bS];show(g k).imp id λhq_=>?_;let⟨M,r,B,R⟩:=hq_;show⟨M,r,B,?_⟩;let:M≠c:=λy=>z (l _ _ c (by rw[L]) (by rw[r,y]));rw[zD this];show O.k R
  .let e2:Ext [] H (upd G1 d (.dK (putK e (Sum.inl p.1) (.ref m)))):=((E1.mo (us:=[d])).trans .pt).drop hd;let a4:upd G1 d (.dK (putK e (Sum.inl p.1) (.ref m))) m=Sa (.lst []):=by rw[zD Z.symm];show a0
   show yB a4 ?_;k_ne;show yO a4 (zV ∅) ?_;let C:H m=Sb:=D.no u;show zk X ⟨_,_,putK e (Sum.inl p.1) (.ref m),rfl,((e2.mo (us:=[m])).trans .pt).drop C,by rw[zD Z,zB],by let:=xP e (Sum.inl p.1) (V.ref m);lia,λk=>?_,λk j c r B=>?_⟩
   .rw [Y k,xx];by_cases z:p.1=k
    .subst z;rw[if_pos rfl,if_pos rfl];show .inr ⟨m,rfl,C,?_⟩;rcases g p.1 with ⟨_,y⟩|⟨c,L,_⟩
     .rw [zB,y];rfl
     .rw [L]at J;cases J
    .rw [if_neg z,bS,if_neg (λy=>z (gG y).symm)];show(g k).imp id λhq_=>?_;let⟨M,r,B,R⟩:=hq_;show⟨M,r,B,?_⟩;let n1:M≠m:=a3 _ _ R;let n2:M≠d:=λy=>by rw[y,h]at R;cases R
     rw[zD n1,zD n2];show O.k R
   .rw [xx]at r B;let key:∀k:Int,valV e (Sum.inl k)=Sa (.ref m)->False:=λk y=>by
     rcases g k with ⟨z,_⟩|⟨M,z1,_,z3⟩
     .rw [z]at y;cases y
     .rw [z1]at y;cases y;show a3 _ _ z3 rfl
    split at r<;>split at B
    .next a1 a2=>show(gG a1).trans (gG a2).symm
    .cases r;show(key _ B).elim
    .cases B;show(key _ r).elim
    .exact l _ _ _ r B
 .rintro t G ⟨o2,o3,e,rfl,D,h,W,g,l⟩;rw[U,aZ]at g;k_ne;show q d G hd D ⟨e,h,λk=>(g k).imp id λ⟨c,L,c2,c3⟩=>⟨c,L,c3⟩⟩
noncomputable abbrev oJ:Sr:=top 4
theorem scShortest:FnScope ["starts","nexts","goals","seen","paths","at","path","to"] ["starts","nexts","goals"] (zq oJ):=fsc
theorem qMp(F:Fun K "shortest" "shortest" oJ f fd)(b7:mg "len"=Sb):FnOk P w K mg base CX0 1 f fd ["starts","nexts","goals"] (kG K):=by
 show F.go scShortest ?_;rintro g3 A d9 s H vs Q E hr ⟨st,nd,go,O,gs,U,N,rfl,a7,e2,e4,b8,e5,hU,hN,b1,q1,q2⟩;let hu:=zn hr
 refine⟨_,(zF (wCv (i:=3) ["place"] [] rfl (.of rfl) scShortest.nd rfl (Or.inl rfl) (ze (pv 0)) (λ_ _ _ _=>(zJ 0)) (λ_ _ _ _ =>.nil) (λ_ _ _ _=>(pv 0)) (λ_ _ _ _=>yZ))
  (zF (wE 4 ["place"] [] (ze (pv 0)) (λ_ _ _ _=>(zJ 0)) (λ_ _ _ _=>.nil) (λ_ _ _ _=>(zW (zA (pv 0) zC))))
  (zF (zL 5 zE)
  (zF (vH bJ (zQ xj (pv 5) (zd yV (by rfl) b7 cV (zA (pv 4) zC)) (zO _))
  (zF (zL 6 (zM zZ (pv 4) (pv 5) (λ_ _=>rfl)))
  (zF (zm (zQ xI (zM zZ (pv 6) (xB xD zE) (λ_ _=>rfl)) (pv 2) rfl) (zH (zN (pv 6))) zx)
  (zF (zy bJ rfl (ze (kn hu (pv 1) (zM zZ (pv 6) (xB xD zE) (λ_ _=>rfl)) (zW zC) ⟨rfl,rfl,rfl,rfl⟩)) (zJ 7)
  (zH (zm (xr (uK hu (pv 7) (pv 3))) (zF (uL hu (pv 3) (pv 7) yZ rfl)
  (zH (yL (yN bD bX bY yi (pv 4) (zA (zK yu (pv 6) (zW (zA (pv 7) zC))) zC))))) zx)))
  (zH (wBr (i:=5) scShortest.nd rfl (Or.inl rfl) zE oV))))))
  (zH (zN yD)))))),?_⟩
 dsimp only[zT,zY,yC,zv,zw];let g4:=yP b1 b8;k_ne;show⟨st,rfl,⟨_,a7⟩,λd hd=>?_⟩;show zr (xs:=O.map V.int) (λi g G=>∃(o0:Option V),g=[o0]/\Ext [d] H G/\G d=Sa (.dK ((O.take i).map λk=>((Sum.inl k:Key),V.bl Sc)))) ?_ ?_ ?_ ?_
 .exact⟨Sb,rfl,.laid hd,zB⟩
 .rintro i g G D ⟨o0,rfl,eG,S⟩;show(eG.drop hd).toSame.seq a7
 .rintro i x g G R hx ⟨o0,rfl,eG,S⟩ hR;let⟨k,hk,rfl⟩:=zX hx;let D:i<O.length:=(aD.mp hk).1;k_ne;kt_k;k_ne;show⟨_,Sum.inl k,rfl,S,zV (by rw[aB,aV];lia),hR _ _ ⟨_,rfl,eG.trans .pt,?_⟩⟩;let e6:k∉O.take i:=λz=>by
   let⟨j,hj,e⟩:=cO z;rw[aV]at hj;rw[List.getElem_take]at e;let:=dJ.mp b1 j i ∎ D ∎;rw[aF D]at hk;show this (e.trans (bB hk).symm)
  rw[zB,vO _ (by rw[wq,if_neg e6]),zc hk,aH];rfl
 rintro g G0 ⟨o0,rfl,eG,S⟩;rw[aB,aZ]at S;let E0:=eG.drop hd;k_ne;show⟨st,rfl,⟨_,E0.toSame.seq a7⟩,λB T=>?_⟩;let b9:d≠B:=zG S T;let c0:H B=Sb:=E0.no T;show zr (xs:=O.map V.int) (λi g G=>∃(o0:Option V)(v:List Sf),g=[o0]/\Ext [B] G0 G/\G B=Sa (.lst (v.map V.ref))/\v.length=i/\∀(j:Nat)w,v[j]? = Sa w->∃z,O[j]? = Sa z/\w≠B/\H w=Sb/\G w=Sa (.lst [.int z])) ?_ ?_ ?_ ?_
 .exact⟨Sb,[],rfl,.laid T,zB,rfl,λj w z=>by simp at z⟩
 .rintro i g G D ⟨o0,v,rfl,e1,h1,hl,hw⟩;show(E0.trans (e1.drop T)).toSame.seq a7
 .rintro i x g G R hx ⟨o0,v,rfl,e1,h1,hl,hw⟩ hR;let⟨k,hk,rfl⟩:=zX hx;let D:i<O.length:=(aD.mp hk).1;k_ne;kt_k;k_ne;show⟨len2 (by change 1<=1000;decide),λp hp=>?_⟩;let b2:p≠B:=(zG h1 hp).symm;show⟨v.map V.ref,by rw[zD b2.symm];show h1,zV (by rw[aB];lia),hR _ _ ⟨_,v++[p],rfl,e1.trans ((Ext.laid hp).trans .pt),by rw[zB,aH];rfl,by rw[aJ,bE];lia,λj w z=>?_⟩⟩;let b3:H p=Sb:=(E0.trans (e1.drop T)).no hp;by_cases hj:j<v.length
  .rw [dI hj]at z;let⟨y,y1,y2,y3,y4⟩:=hw j w z;show⟨y,y1,y2,y3,by rw[zD y2,zD (zG y4 hp)];show y4⟩
  .let e7:j=v.length:=by
    let:=(aD.mp z).1;rw[aJ,bE]at this;lia
   subst e7;rw[dC (aI _),Nat.sub_self]at z;obtain rfl:p=w:=bB z;show⟨k,by rw[hl];show hk,b2,b3,by rw[zD b2,zB]⟩
 rintro g G1 ⟨g5,c1,rfl,e1,h1,hl,hw⟩;rw[aB]at hl;let E1:=E0.trans (e1.drop T);k_ne;let I0:Bfs H d B N O U O c1 G1:=by
  show⟨E1,e1 _ _ (by simpa using b9) S,h1,hl,λi w D=>?_,b1,b8,λ_ h=>h⟩;let⟨z,z1,z2,z3,z4⟩:=hw i w D;show⟨[z],z,z1,z3,z4,⟨[],rfl⟩,⟨z,[],rfl,aK z1⟩,λs hs=>by simp[stp]at hs,∅,λx hx=>?_⟩;rw[aE.mp hx];show aK z1
 show⟨λμ g G=>∃(i:Nat)(ks:List Int)(v:List Sf)(o6 o7:Option V),μ = U.length-i/\i<=ks.length/\g=[Sa (.ref st),Sa (.ref nd),Sa (.ref go),Sa (.ref d),Sa (.ref B),Sa (.int i),o6,o7]/\Bfs H d B N O U ks v G/\Done N gs ks i,⟨_,0,O,c1,Sb,Sb,rfl,bG _,rfl,I0,λj k hj=>absurd hj ∎⟩,?_⟩;rintro μ g G ⟨i,ks,v,o6,o7,rfl,g6,rfl,I,a0⟩;let g7:=yP I.nod I.sU;let g0:=I.len;k_ne;show⟨B,_,rfl,.inl (SqL.of I.hpa),?_⟩;k_ne;rw[aB];by_cases D:i<v.length
 case neg=>
  rw[decide_eq_false ∎];kj_on;k_ne;show q2 (a0.all ∎ I.one) G I.ext
 rw[decide_eq_true ∎];show iteT (L2.wBa (n2:=λ_ _=>True) λNw_ hNw_=>?_);let⟨l,z,hz,e8,W,hP⟩:=I.hw i v[i] (aF D);let⟨C,rfl⟩:=hP.ls;let e9:z∈ks:=aK hz;let c2:∀{G:Hp}{Q:VK},G v[i]=Sa (.lst ((C++[z]).map V.int))->Q (.int z) G->rIxL K (.ref v[i]) (.int (-1)) G Q:=λ{G Q}h q=>za (SqL.of h) (by rw[aH];show qX9 _ _) q;k_ne;show za (SqL.of I.hpa) (zf (by rw[bA,aF D];rfl)) ?_;k_ne;show c2 W ?_;k_ne;show⟨go,_,rfl,.inr (I.ext.toSame.seqT e4),rfl,yp gs,?_⟩;rw[show(if Sd=Sc then !inV (V.int z) (gs.map V.int)else inV (V.int z) (gs.map V.int))=decide (z∈gs)from yn z gs]
 k_ne;by_cases hg:z∈gs
 .rw [decide_eq_true hg];kt_k;let⟨a,r,e,f0⟩:=hP.ok hg;rw[e]at W;k_ne;show q1 _ a r G e8 I.ext W f0
 rw[decide_eq_false hg];kj_on;k_ne;let c3:=e2.mono I.ext.toSame;let⟨c4,c5,f1⟩:=c3;show⟨nd,rfl,.inl ⟨c4,.inl c5⟩,?_⟩;k_ne;show c2 W ?_;k_ne;show⟨len2 (bG _),λe0 c6=>?_⟩;let e3:Ext [] G (upd G e0 (.lst [])):=.laid c6;let f2:upd G e0 (.lst []) e0=Sa (.lst []):=zB
 let I1:Bfs H d B N O U ks v (upd G e0 (.lst [])):=⟨I.ext.trans e3,e3.k I.hd,e3.k I.hpa,I.len,λi w D=>by
  let⟨l,z,a1,a2,a3,a4⟩:=I.hw i w D
  show⟨l,z,a1,a2,e3.k a3,a4⟩,I.nod,I.sU,I.one⟩
 let b0:=e3.k W;let c7:=e3.k c5;let g1:H e0=Sb:=I.ext.no c6;let c8:∃(o:Option V)(c:Sf),o=valV c4 (Sum.inl z)/\o.getD (.ref e0)=.ref c/\upd G e0 (.lst []) c=Sa (.lst ((N z).map V.int)):=by
  rcases f1 z with ⟨a1,a2⟩|⟨c,a1,a2⟩
  .exact⟨Sb,e0,a1.symm,rfl,by rw[f2,a2];rfl⟩
  .exact⟨Sa (.ref c),c,a1.symm,rfl,e3.k a2⟩
 let⟨o,c,eo,ec,hc⟩:=c8;let b4:∀b,b=d\/b=B->c≠b:=λb hb y=>by
  rcases hb with hb|hb<;>subst hb<;>subst y
  .rw [I1.hd]at hc;cases hc
  .rw [I1.hpa]at hc;let:=(ir (bB hc));cases L:v with
   |nil=>rw[L]at D;show absurd D ∅
   |cons w0 wr=>
    rw[L]at this;cases c9:N z with
    |nil=>rw[c9]at this;simp at this
    |cons n nr=>rw[c9]at this;simp at this
 generalize upd G e0 (.lst [])=G2 at I1 b0 c7 hc;show⟨o,by rw[eo];show DGet.k (k:=Sum.inl z) c7,?_⟩;rw[ec];show⟨c,rfl,⟨_,SqL.of hc⟩,yw (xs:=(N z).map V.int) (λj g G=>∃(ks':List Int)(u:List Sf)(o7:Option V),g=[Sa (.ref st),Sa (.ref nd),Sa (.ref go),Sa (.ref d),Sa (.ref B),Sa (.int i),Sa (.ref v[i]),o7]/\Bfs H d B N O U ks' u G/\(∃more,ks'=ks++more)/\G v[i]=Sa (.lst ((C++[z]).map V.int))/\G c=Sa (.lst ((N z).map V.int))/\∀y∈(N z).take j,y∈ks') ?_ ?_ ?_ ?_⟩
 .exact⟨ks,v,_,rfl,I1,⟨[],∅⟩,b0,hc,λy hy=>by simp at hy⟩
 .rintro j g Z hj ⟨ks',u,d0,rfl,J,_,_,a5,_⟩;show SqL.of a5
 .rintro j x g Z hx ⟨ks',u,d0,rfl,J,⟨more,m⟩,a8,a5,a6⟩ NN BB CC RR f3 g8 g9;let⟨y,hy,rfl⟩:=zX hx;let d2:y∈N z:=aK hy;let d3:z∈ks':=by rw[m];show aY _ e9
  let d4:=yP J.nod J.sU;let M:=J.len;k_ne;show⟨d,_,rfl,DGet.k (k:=Sum.inl y) J.hd,?_⟩;rw[wq];by_cases X:y∈ks'
  .rw [if_pos X];show ye (iteF ?_);k_ne;show⟨ks',u,_,rfl,J,⟨more,m⟩,a8,a5,λx hx=>?_⟩;rw[zc hy]at hx;rcases aL.mp hx with hx|hx
   .exact a6 x hx
   .rw [aE.mp hx];show X
  .rw [if_neg X];show ye (iteT ?_);k_ne;show⟨d,_,rfl,DPut.k (k:=Sum.inl y) J.hd (zV (by rw[aB];lia)),?_⟩;rw[vO _ (by rw[wq,if_neg X]),show(ks'.map λk=>((Sum.inl k:Key),V.bl Sc))++[(Sum.inl y,V.bl Sc)]=(ks'++[y]).map λk=>((Sum.inl k:Key),V.bl Sc)by rw[aH];rfl];let d5:∀w o,Z w=Sa (.lst o)->w≠d:=λw o h y=>by rw[y,J.hd]at h;cases h
   let d1:upd Z d (.dK ((ks'++[y]).map λk=>((Sum.inl k:Key),V.bl Sc))) d=Sa (.dK ((ks'++[y]).map λk=>((Sum.inl k:Key),V.bl Sc))):=zB;let x1:Ext [d] Z (upd Z d (.dK ((ks'++[y]).map λk=>((Sum.inl k:Key),V.bl Sc)))):=.put ∅;generalize upd Z d (.dK ((ks'++[y]).map λk=>((Sum.inl k:Key),V.bl Sc)))=G4 at d1 x1 ⊢;let l1:∀w o,Z w=Sa (.lst o)->G4 w=Sa (.lst o):=λw o h=>x1 _ _ (by simpa using d5 w o h) h;k_ne;show yB (l1 _ _ J.hpa) ?_;k_ne;show⟨len2 (by change 1<=1000;decide),λt ht=>?_⟩;let x2:Ext [] G4 (upd G4 t (.lst [.int y])):=.laid ht;let t2:upd G4 t (.lst [.int y]) t=Sa (.lst [.int y]):=zB;generalize upd G4 t (.lst [.int y])=G5 at x2 t2 ⊢
   let g2:(C++[z]).length<=100:=by
    let:=yP hP.nd hP.ks;lia
   show⟨v[i],t,_,_,rfl,rfl,x2.k (l1 _ _ a8),t2,len2 (by rw[aB];change _+1<=1000;lia),λp hp=>?_⟩;let x3:Ext [] G5 (upd G5 p (.lst ((C++[z]).map V.int++[.int y]))):=.laid hp;let p3:upd G5 p (.lst ((C++[z]).map V.int++[.int y])) p=Sa (.lst ((C++[z]).map V.int++[.int y])):=zB;let pd:p≠d:=(zG (x2.k d1) hp).symm;let f4:p≠B:=(zG (x2.k (l1 _ _ J.hpa)) hp).symm;let d6:Z p=Sb:=x1.none (by simpa using pd) (x2.no hp);let b3:H p=Sb:=J.ext.no d6;generalize upd G5 p (.lst ((C++[z]).map V.int++[.int y]))=G6 at x3 p3 ⊢;let b5:=x2.trans x3;k_ne;let d7:=b5.k (l1 _ _ J.hpa);show yO d7 (zV (by rw[aB];lia)) ?_;let xF:Ext [d,B] Z (upd G6 B (.lst (u.map V.ref++[.ref p]))):=(x1.mo).trans ((b5.mo).trans .pt)
   let keep:∀w o,w≠B->Z w=Sa (.lst o)->upd G6 B (.lst (u.map V.ref++[.ref p])) w=Sa (.lst o):=λw o hn h=>xF _ _ (by simp[hn,d5 w o h]) h;let f5:∀(i:Nat)(w:Sf)(l:List Int),u[i]? = Sa w->Z w=Sa (.lst (l.map V.int))->w≠B:=λi w l D h y=>by
    subst y;rw[J.hpa]at h;let:=ir (bB h);cases L:u with
    |nil=>rw[L]at D;simp at D
    |cons w0 wr=>
     rw[L]at this;cases l with
     |nil=>simp at this
     |cons n nr=>simp at this
   let a9:∀x∈ks',x∈ks'++[y]:=λx hx=>aY _ hx;let f6:y∈U:=e5 z (J.sU z d3) y d2;show zk f3 ⟨ks'++[y],u++[p],_,rfl,⟨?_,?_,?_,?_,λi' w Y=>?_,?_,?_,λs hs=>a9 s (J.one s hs)⟩,⟨more++[y],by rw[m,dY]⟩,?_,?_,λx hx=>?_⟩
   .exact ((J.ext.mo (us:=[d,B])).trans xF).drop hd |>.drop c0
   .rw [zD b9];show b5.k d1
   .rw [zB,aH];rfl
   .rw [aJ,aJ,M];rfl
   .by_cases f7:i'<u.length
    .rw [dI f7]at Y;let⟨l',z',a1,a2,a3,a4⟩:=J.hw i' w Y;show⟨l',z',by rw[dI ∎];show a1,a2,keep _ _ (f5 _ _ _ Y a3) a3,a4.mono a9⟩
    .let f8:i'=u.length:=by
      let:=(aD.mp Y).1;rw[aJ,bE]at this;lia
     subst f8;rw[dC (aI _),Nat.sub_self]at Y;obtain rfl:p=w:=bB Y;show⟨(C++[z])++[y],y,by rw[M,dC (aI _),Nat.sub_self];rfl,b3,?_,?_⟩
     .rw [zD f4,p3,aH (l₂:=[y])];rfl
     .exact (hP.mono (ks':=ks') λx hx=>by rw[m];show aY _ hx).more d2 X a9 ∅
   .rw [cT];show⟨J.nod,∅,λx hx w hw e=>?_⟩;rw[aE.mp hw]at e;show X (e▸hx)
   .intro k hk;rcases aL.mp hk with hk|hk
    .exact J.sU k hk
    .rw [aE.mp hk];show f6
   .refine keep _ _ ?_ a8;intro y;let e:=I.hpa;rw[<-y,W]at e;let:=ir (bB e);cases L:v with
    |nil=>rw[L]at D;show absurd D ∅
    |cons w0 wr=>
     let:(List.map V.int (C++[z])).head? = (List.map V.ref v).head?:=by rw[this]
     rw[L]at this;cases C<;>simp at this
   .exact keep _ _ (b4 B (.inr rfl)) a5
   .rw [zc hy]at hx;rcases aL.mp hx with hx|hx
    .exact a9 x (a6 x hx)
    .rw [aE.mp hx];simp
 .rintro g Z ⟨ks',u,d0,rfl,J,⟨more,m⟩,a8,a5,a6⟩;rw[aB,aZ]at a6;k_ne;show⟨_,rfl,?_⟩;k_ne;show⟨_,_,rfl,rfl,?_⟩;let d4:=yP J.nod J.sU;let h0:ks.length<=ks'.length:=by rw[m,aJ];lia
  let M:=J.len;k_ne;show⟨U.length-(i+1),∎,i+1,ks',u,_,_,rfl,∎,rfl,J,λj k hj hk=>?_⟩;let d8:∀x∈ks,x∈ks':=λx hx=>by rw[m];show aY _ hx
  let b6:ks[j]? = Sa k:=by
   rw[m,dI ∎]at hk;show hk
  by_cases f9:j=i
  .subst f9;rw[hz]at b6;cases b6;show⟨hg,a6⟩
  .let⟨a1,a2⟩:=a0 j k ∎ b6;show⟨a1,λy hy=>d8 y (a2 y hy)⟩
noncomputable abbrev sRoom:Sr:=vQ (top 21) 1
theorem qZz(F:Fun K "room" "Flow.room" sRoom f u)(T:FTx K C):FnOk P w K mg base CX0 1 f u ["self","step","way"] (kH P w K C):=by
 show F.go (N:=["self","step","way","low","high"]) fsc ?_;rintro z A j s H G Q E y ⟨r,Fw,g,a,b,p,v,rfl,d,B,e,h,q⟩;let k:=zn y
 refine⟨_,(zF (xA (ip P w K rfl rfl rfl k (xt (pv 0) rfl) (pv 2) (λ_ _=>rfl)) (yM (n:=2) rfl (zR (zJ 3) (zR (zJ 4) zp))))
  (zH (zN (yh (zQ (uQ y) (pv 1) (pv 2) (zO _)) (zK vJ (pv 4) (ip P w K rfl rfl rfl k (xt (pv 0) rfl) (pv 2) (λ_ _=>rfl))) (zK vJ (ip P w K rfl rfl rfl k (xt (pv 0) rfl) (pv 2) (λ_ _=>rfl)) (pv 3)))))),?_⟩
 dsimp only[zT,zY,yC,zv,zw];let⟨D,l,m⟩:=d.lm;let⟨c,o,t⟩:=m v h;k_go;show⟨r.x,C,r.dx,_,_,rfl,d.ob,T.cl,T.limits,rfl,?_⟩;k_go;show⟨r.lm,b,Fw.W,D,v,rfl,rfl,l,e,h,?_⟩;rw[o];show zt t rfl ?_;k_go;show⟨pairD p,pairD v,denP B,denP e,rfl,rfl,?_⟩;show⟨_,rfl,?_⟩;rw[show(if Sd=Sc then !(pairD p).eqv (pairD v)else (pairD p).eqv (pairD v))=decide (p=v)from qOu _ _];unfold Fl.room at q;by_cases i:p=v
 .rw [if_pos (decide_eq_true i)];rw[if_pos i]at q;k_go;show⟨r.x,C,r.dx,_,_,rfl,d.ob,T.cl,T.amounts,rfl,?_⟩;k_go;show⟨r.am,b,Fw.W,_,v,rfl,rfl,d.am,e,h,?_⟩;k_go;show q
 .rw [if_neg (by rw[decide_eq_false i];decide)];rw[if_neg i]at q;k_go;show⟨r.x,C,r.dx,_,_,rfl,d.ob,T.cl,T.amounts,rfl,?_⟩;k_go;show⟨r.am,b,Fw.W,_,v,rfl,rfl,d.am,e,h,?_⟩;k_go;show q
noncomputable abbrev oK:Sr:=vQ (top 21) 2
theorem qT3(F:Fun K "way_for" "Flow.way_for" oK f fd)(T:FTx K C)(a0:HasM P w K mg base C "room" 1 ["self","step","way"] (kH P w K C))(a1:Has P w K mg base "turned" 1 ["steps"] (kF K)):FnOk P w K mg base CX0 2 f fd ["self","step"] (kI P w K C):=by
 show F.go (N:=["self","step","way"]) fsc ?_;rintro b1 A a2 s H vs Q E hr ⟨r,Fw,g,a,p,rfl,hF,ha,q1,q2⟩;let hu:=zn hr
 refine⟨_,(zF (zy bJ rfl (ze (zK yu (zW (zA (pv 1) zC)) (zI a1 hr ⋯ (zA (zW (zA (pv 1) zC)) zC)))) (zJ 2)
  (zH (zm (PW.pt (yb (xr (qZp P w K rfl rfl rfl hu (pv 2) (xt (pv 0) rfl))) (yg (zQ kS (vp a0 T.cl hr ⋯ (pv 0) (zA (pv 1) (zA (pv 2) zC))) zE (zO _))))) (zH (zN (pv 2))) zx)))
  (zH (zN yD))),?_⟩
 dsimp only[zT,zY,yC,zv,zw];k_go;show⟨len2 (by change 1<=1000;decide),λB a3=>?_⟩;let e1:Ext [] H (upd H B (.lst [.ref a])):=.laid a3;let h1:upd H B (.lst [.ref a]) B=Sa (.lst [.ref a]):=zB;generalize upd H B (.lst [.ref a])=H1 at e1 h1 ⊢;k_go;show⟨len2 (by change 1<=1000;decide),λl2 D=>?_⟩;let e2:Ext [] H (upd H1 l2 (.lst [.ref a])):=e1.trans (.laid D);let a4:upd H1 l2 (.lst [.ref a]) B=Sa (.lst [.ref a]):=Ext.laid (ts:=[]) D _ _ ∅ h1;k_go;show⟨l2,[.ref a],[p],rfl,SqL.of zB,.cons (denP (e2.toSame.seqT ha)) .nil,∅,λl3 b2 H3 b4 e3 h3 d3=>?_⟩;let⟨v3,r3,rfl,d4,d5⟩:=d3.ofCons;let d5:=d5.ofNil;subst d5;let⟨t,rfl,a5⟩:=wy (p:=tw p) d4
 show⟨B,l3,_,_,rfl,rfl,e3.k a4,h3,len2 (by change 2<=1000;decide),λI J=>?_⟩;let L:Ext [] H (upd H3 I (.lst ([.ref a]++[.ref t]))):=(e2.trans e3).trans (.laid J);let h4:upd H3 I (.lst ([.ref a]++[.ref t])) I=Sa (.lst ([.ref a]++[.ref t])):=zB;let M:=(Ext.laid (ts:=[]) (o:=.lst ([.ref a]++[.ref t])) J).toSame.seqT a5;generalize upd H3 I (.lst ([.ref a]++[.ref t]))=H4 at L h4 M ⊢;let O:=L.toSame.seqT ha;let a6:=hF.mono L.toSame;let a7:∀(i:Nat)x,([.ref a]++[.ref t]:List V)[i]? = Sa x->∃b v,x=.ref b/\[p,tw p][i]? = Sa v/\SqP K H4 b v:=λi x m=>by
  match i,m with
  |0,m=>show⟨a,p,(bB m).symm,rfl,O⟩
  |1,m=>show⟨t,tw p,(bB m).symm,rfl,M⟩
  |i+2,m=>simp at m
 k_go;show⟨I,rfl,⟨_,SqL.of h4⟩,yw (xs:=[.ref a]++[.ref t]) (λi n G=>∃X:Option V,n=[Sa (.ref r.x),Sa (.ref a),X]/\Ext [] H4 G/\∀(j:Nat)v,j<i->[p,tw p][j]? = Sa v->(decide (v∈Fw.W)&&decide (0<Fw.room g p v))=Sd) ?_ ?_ ?_ ?_⟩
 .exact⟨Sb,rfl,.refl _ _,λj v Y=>absurd Y ∎⟩
 .rintro i n G hi ⟨X,rfl,e,c⟩;show SqL.of (e.k h4)
 .rintro i x n G m ⟨X,rfl,e,c⟩ NN BB CC RR b5 b6 b7;let⟨b,v,rfl,l,hb⟩:=a7 i x m;let q:=a6.mono e.toSame;let u:=e.toSame.seqT hb;let⟨gl,a8,b8⟩:=q.lm;let d:(decide (v∈Fw.W)&&decide (0<Fw.room g p v))=Sd->∀(j:Nat)R,j<i+1->[p,tw p][j]? = Sa R->(decide (R∈Fw.W)&&decide (0<Fw.room g p R))=Sd:=λh j R Y y=>by
   by_cases a9:j=i
   .subst a9;rw[l]at y;rw[<-bB y];show h
   .exact c j R ∎ y
  k_go;show⟨r.x,C,r.dx,_,_,rfl,q.ob,T.cl,T.limits,rfl,?_⟩;show⟨r.lm,b,Fw.W,gl,v,rfl,rfl,a8,u,?_⟩;k_go;by_cases S:v∈Fw.W
  case neg=>
   rw[decide_eq_false S];cbv;cbv;show⟨_,rfl,e,d (by rw[decide_eq_false S];rfl)⟩
  rw[decide_eq_true S];kt_k;k_go;show⟨r.x,r.dx,_,rfl,q.ob,rfl,?_⟩;k_go;show⟨r,Fw,g,a,b,p,v,rfl,q,e.toSame.seqT O,u,S,?_⟩;k_go;by_cases Z:0<Fw.room g p v
  case neg=>
   rw[decide_eq_false Z];cbv;show⟨_,rfl,e,d (by rw[decide_eq_false Z,Bool.and_false])⟩
  rw[decide_eq_true Z];kt_k;k_go;show q1 v b G ?_ (L.trans e) u;unfold Fl.wayFor;let U:(decide (v∈Fw.W)&&decide (0<Fw.room g p v))=Sc:=by rw[decide_eq_true S,decide_eq_true Z];rfl
  match i,l,c with
  |0,l,_=>
   obtain rfl:p=v:=bB l;show List.find?_cons_of_pos U
  |1,l,c=>
   obtain rfl:tw p=v:=bB l;rw[gM (by rw[c 0 p ∎ rfl];decide)];show List.find?_cons_of_pos U
  |i+2,l,_=>simp at l
 .rintro n G ⟨X,rfl,e,c⟩;k_go;show q2 ?_ G (L.trans e);unfold Fl.wayFor;rw[List.find?_eq_none];intro v l;let:∃j:Nat,j<2/\[p,tw p][j]? = Sa v:=by
   rcases aN.mp l with z|z
   .exact⟨0,∎,by rw[z];rfl⟩
   .exact⟨1,∎,by rw[aE.mp z];rfl⟩
  let⟨j,Y,b0⟩:=this;rw[c j v Y b0];decide
noncomputable abbrev oM:Sr:=vQ (top 21) 3
theorem qTb(F:Fun K "free_steps" "Flow.free_steps" oM f fd)(T:FTx K C)(n:mg "list"=Sb)(U:HasM P w K mg base C "way_for" 2 ["self","step"] (kI P w K C))(X:Has P w K mg base "turned" 1 ["steps"] (kF K)):FnOk P w K mg base CX0 3 f fd ["self"] (vy P w K C):=by
 show F.go (N:=["self","ways"]) fsc ?_;rintro a8 A Y s H vs Q E L ⟨r,Fw,g,rfl,Z,a9,q⟩;let hu:=zn L
 refine⟨_,(zF (zL 1 (yK (qLt P w K rfl rfl rfl L.hd) (by rfl) n cP (zA (xt (pv 0) rfl) zC)))
  (zH (zN (yE ["step"] [0] (ze (zK yu (pv 1) (zI X L ⋯ (zA (pv 1) zC)))) (λ_ _ _ _=>(zJ 0)) (λ_ _ _ _=>.cons (zQ xW (vp U T.cl L ⋯ (pv 1) (zA (pv 0) zC)) yD (zO _)) .nil) (λ_ _ _ _=>(pv 0)))))),?_⟩
 dsimp only[zT,zY,yC,zv,zw];let⟨gl,a0,b0⟩:=Z.lm;k_go;show⟨r.x,C,r.dx,_,_,rfl,Z.ob,T.cl,T.limits,rfl,?_⟩;show⟨r.lm,Fw.W,gl,rfl,a0,λo a a1 t=>?_⟩;let e0:Ext [] H (upd H o (.lst a)):=.laid a1;let h0:upd H o (.lst a) o=Sa (.lst a):=zB;let t:=t.mono e0.toSame;generalize upd H o (.lst a)=H0 at e0 h0 t ⊢;let a2:=t.len;rw[aB]at a2;k_go;show⟨o,a,Fw.W,rfl,SqL.of h0,t,∎,λl1 us1 M b1 e1 h1 d1=>?_⟩;let a3:=d1.len;rw[aB,aB]at a3;show⟨o,l1,_,_,rfl,rfl,e1.k h0,h1,len2 ∎,λu d=>?_⟩;let O:Ext [] H (upd M u (.lst (a++us1))):=(e0.trans e1).trans (.laid d);let h2:upd M u (.lst (a++us1)) u=Sa (.lst (a++us1)):=zB
 let d2:DenL K (upd M u (.lst (a++us1))) ((Fw.W++Fw.W.map tw).map pairD) (a++us1):=by
  rw[aH];show DenL.append (t.mono (e1.trans (.laid d)).toSame) (d1.mono (Ext.laid d).toSame)
 generalize upd M u (.lst (a++us1))=H2 at O h2 d2 ⊢;let a4:=Z.mono O.toSame;let d:=d2.len;rw[aB]at d;let b2:(Fw.W++Fw.W.map tw).length<=200:=by rw[aJ,aB];lia
 show⟨u,rfl,⟨_,SqL.of h2⟩,λy e=>?_⟩;let B:H y=Sb:=O.no e;show zr (xs:=a++us1) (λi l G=>∃(S:Option V)(j:List V),l=[S,Sa (.ref r.x)]/\Ext [y] H2 G/\G y=Sa (.lst j)/\DenL K H2 ((((Fw.W++Fw.W.map tw).take i).filter λs=>(Fw.wayFor g s).isSome).map pairD) j) ?_ ?_ ?_ ?_
 .exact⟨Sb,[],rfl,.laid e,zB,.nil⟩
 .rintro i l G hi ⟨S,j,rfl,m,h,c⟩;show(m.drop e).toSame.seq (SqL.of h2)
 .rintro i x l G R hx ⟨S,j,rfl,m,h,c⟩ hR;let⟨dd,a5,a6⟩:=d2.get hx;let⟨p,hp,rfl⟩:=zX a5;let⟨b,rfl,hb⟩:=wy a6;let eS:=(m.drop e).toSame;let D:=a4.mono eS;let hi:i<(a++us1).length:=(aD.mp hx).1;let I:((Fw.W++Fw.W.map tw).take (i+1)).filter (λs=>(Fw.wayFor g s).isSome)=((Fw.W++Fw.W.map tw).take i).filter (λs=>(Fw.wayFor g s).isSome)++(if (Fw.wayFor g p).isSome=Sc then [p]else []):=by
   rw[zc hp,cD]
   congr 1
   by_cases z:(Fw.wayFor g p).isSome=Sc
   .simp [z]
   .simp [z]
  k_go;show⟨r.x,r.dx,_,rfl,D.ob,rfl,?_⟩;k_go;show⟨r,Fw,g,b,p,rfl,D,eS.seqT hb,λv b' G' hw J b3=>?_,λhw G' J=>?_⟩
  .k_in;rw[decide_eq_false (by intro z;cases z)];kt_le;kt_k;k_go;let a7:=m.trans (J.mo (us:=[y]));let b4:j.length<=i:=by
    rw[c.len,aB];show cA (bM _ _) ?_;rw[aV];lia
   show⟨j,J.k h,zV ∎,hR _ _ ⟨_,j++[.ref b],rfl,a7.trans .pt,zB,?_⟩⟩;rw[I,if_pos (by rw[hw];rfl),aH];show DenL.append c (.cons (denP hb) .nil)
  .k_in;rw[decide_eq_true rfl];k_go;cbv;kj_on;show hR _ _ ⟨_,j,rfl,m.trans (J.mo (us:=[y])),J.k h,?_⟩;rw[I,if_neg (by rw[hw];decide),bS];show c
 .rintro l G ⟨S,j,rfl,m,h,c⟩;rw[d,aZ]at c;show q y j G B (O.trans (m.drop e)) h (c.mono (m.drop e).toSame)
noncomputable abbrev sPush:Sr:=vQ (top 21) 4
theorem wA0(F:Fun K "push" "Flow.push" sPush f fd)(T:FTx K C)(a7:mg "list"=Sb)(Y:mg "zip"=Sb)(b5:mg "min"=Sb)(c9:HasM P w K mg base C "room" 1 ["self","step","way"] (kH P w K C))(d0:HasM P w K mg base C "way_for" 2 ["self","step"] (kI P w K C)):FnOk P w K mg base CX0 3 f fd ["self","path"] (iu P w K C):=by
 show F.go (N:=["self","path","steps","ways","more","step","way"]) fsc ?_;rintro f5 A d1 s H vs Q E hr ⟨r,Fw,g,pp,a,b,l,j,rfl,hF,f6,b6,b7,hg,q⟩;let hu:=zn hr
 refine⟨_,(zF (zL 2 (qZm hr (by rfl) a7 (by rfl) Y (zA (pv 1) (zA (xH uG (pv 1) (xG zE) xE) zC))))
  (zF (wE 3 ["step"] [0] (ze (pv 2)) (λ_ _ _ _=>(zJ 0)) (λ_ _ _ _=>.nil) (λ_ _ _ _=>(vp d0 T.cl hr ⋯ (pv 1) (zA (pv 0) zC))))
  (zF (zL 4 (zd (qUt hr.hd) (by rfl) b5 PyProof.Rows.boot_min (zA (yE ["step","way"] [0] (ia rfl Y (zA (pv 2) (zA (pv 3) zC))) (λ_ _ _ _=>(xc (n:=2) K rfl rfl (zR (zJ 0) (zR (zJ 1) zp)))) (λ_ _ _ _=>.nil) (λ_ _ _ _=>(vp c9 T.cl hr ⋯ (pv 2) (zA (pv 0) (zA (pv 1) zC))))) zC)))
  (zH (zy bJ rfl (ia rfl Y (zA (pv 2) (zA (pv 3) zC))) (yM (n:=2) rfl (zR (zJ 5) (zR (zJ 6) zp)))
  (zH (qZg (xt (pv 0) rfl) (pv 6) (wAi P w K rfl rfl rfl hu) (yh (zQ (uQ hr) (pv 5) (pv 6) (zO _)) (pv 4) (xB xD (pv 4))) oV (qR7 P w K rfl rfl rfl hu)))))))),?_⟩
 dsimp only[zT,zY,yC,zv,zw];let B:(stp (a::b::l)).length=(b::l).length:=by unfold stp;rw[eU];simp
 generalize b8:stp (a::b::l)=d at hg q B;let c8:d.length<=100:=by rw[B];simp at b7 ⊢;lia
 let d5:d≠[]:=λz=>by rw[z]at B;simp at B
 k_go;show⟨1,rfl,?_⟩;k_go;show⟨pp,_,rfl,b6,λl1 d6=>?_⟩;rw[aU,cut1];let D:Ext [] H (upd H l1 (.lst ((b::l).map V.int))):=.laid d6;let h1:upd H l1 (.lst ((b::l).map V.int)) l1=Sa (.lst ((b::l).map V.int)):=zB;generalize upd H l1 (.lst ((b::l).map V.int))=H1 at D h1 ⊢;k_go;show⟨pp,l1,_,_,rfl,D.toSame.seq b6,SqL.of h1,by rw[aB,aB];simp,λls tl H2 f7 e2 h2 d7 d8=>?_⟩;rw[aB]at d7;let d2:DenL K H2 (d.map pairD) (tl.map V.ref):=denPs _ _ (by rw[aB];lia) λi v p U hp=>by
  let⟨t,ht,rfl⟩:=zX U;rw[<-b8]at hp;unfold stp at hp;rw[dL]at hp;let⟨z1,z2⟩:=hp;show⟨t,rfl,SqT.of (d8 i t (.int p.1) (.int p.2) ht ?_ ?_).2.2⟩
  .rw [bA,z1];rfl
  .rw [bA,show(b::l)[i]? = Sa p.2 from z2];rfl
 let E2:=D.trans e2;let b9:=hF.mono E2.toSame;let a2:∀(i:Nat)s,d[i]? = Sa s->Fw.wayFor g s=Sa (j s):=λi s u=>hg s (aK u);k_go;show⟨ls,rfl,⟨_,SqL.of h2⟩,λJ a3=>?_⟩;show zr (xs:=tl.map V.ref) (λi e G=>∃(o0:Option V)(X:List V),e=[o0,Sa (.ref r.x)]/\Ext [J] H2 G/\G J=Sa (.lst X)/\DenL K (wo [J] G) (((d.take i).map j).map pairD) X) ?_ ?_ ?_ ?_
 .exact⟨Sb,[],rfl,.laid a3,zB,.nil⟩
 .rintro i e G hi ⟨o0,X,rfl,m,I,a8⟩;show(m.drop a3).toSame.seq (SqL.of h2)
 .rintro i x e G R L ⟨o0,X,rfl,m,I,a8⟩ hR;let⟨s,t,u,rfl,ht⟩:=d2.pairs L;let hi:i<(tl.map V.ref).length:=(aD.mp L).1;rw[aB]at hi;let eS:=(m.drop a3).toSame;let c0:=b9.mono eS;kt_le;show⟨r.x,r.dx,_,rfl,c0.ob,rfl,?_⟩;k_go;show⟨r,Fw,g,t,s,rfl,c0,eS.seqT ht,λv b' G' hw e' d9=>?_,λhw=>?_⟩
  .rw [a2 i s u]at hw;cases hw;let e0:X.length=i:=by
    let:=a8.len;rw[aB,aB,aV]at this;let:=(aD.mp u).1;lia
   let hn:NoT G' J:=λzs z=>by rcases z with z|⟨o,z⟩<;>(rw[e'.k I]at z;cases z)
   let eP:Ext [J] G' (upd G' J (.lst (X++[.ref b']))):=.put ∅;show⟨X,e'.k I,zV (by let:=(aD.mp u).1;lia),hR _ _ ⟨_,X++[.ref b'],rfl,(m.trans (e'.mo)).trans eP,zB,?_⟩⟩;rw[zc u,aH,aH];show DenL.append (a8.mono ((e'.mo (us:=[J])).trans eP).same) (.cons (denP ?_) .nil);rcases d9 with(z|⟨o,z⟩)|z
   .let:b'≠J:=λy=>hn _ (.inl (y▸z));show .inl (.inl (by rw[xR (by simpa using this),zD this];show z))
   .let:b'≠J:=λy=>hn _ (.inr ⟨o,y▸z⟩);show .inl (.inr ⟨o,by rw[xR (by simpa using this),zD this];show z⟩)
   .exact .inr z
  .rw [a2 i s u]at hw;cases hw
 rintro e G3 ⟨o0,X,rfl,e5,I,a6⟩;rw[aB,show tl.length=d.length by lia,aZ]at a6;let a9:=a6.mono (vU _ _);let e3:=e5.drop a3;let d3:=d2.mono e3.toSame;let b0:=b9.mono e3.toSame;let h3:=e3.k h2;let e0:X.length=d.length:=by rw[a9.len,aB,aB]
 k_go;show⟨ls,J,rfl,⟨_,SqL.of h3⟩,⟨_,SqL.of I⟩,λlm Z=>?_⟩;show qOl (xs:=tl.map V.ref) (ys:=X) (by rw[aB];lia) (λi e G=>∃(o0 o1:Option V),e=[o0,o1,Sa (.ref r.x)]/\Ext [lm] G3 G/\G lm=Sa (.lst (((d.take i).map λs=>Fw.room g s (j s)).map V.int))) ?_ ?_ ?_ ?_
 .exact⟨Sb,Sb,rfl,.laid Z,zB⟩
 .rintro i e G hi ⟨o0,o1,rfl,m,hG⟩;show⟨(m.drop Z).toSame.seq (SqL.of h3),(m.drop Z).toSame.seq (SqL.of I)⟩
 .rintro i x y e G pt R L hy ⟨o0,o1,rfl,m,hG⟩ b1 hR;let⟨s,t,u,rfl,ht⟩:=d3.pairs L;let⟨v,O,U,rfl,b2⟩:=a9.pairs hy;let⟨s',a0,rfl⟩:=zX U;rw[u]at a0;cases a0;let hi:=(aD.mp u).1;let D:Ext [] G (upd G pt (.tup [.ref t,.ref O])):=.laid b1;let a1:upd G pt (.tup [.ref t,.ref O]) pt=Sa (.tup [.ref t,.ref O]):=zB;generalize upd G pt (.tup [.ref t,.ref O])=G' at D a1 ⊢;let eS:=((m.drop Z).trans D).toSame;show zt (SqT.of a1) rfl ?_;kt_le;show⟨r.x,r.dx,_,rfl,(b0.mono eS).ob,rfl,?_⟩;k_go;show⟨r,Fw,g,t,O,s,j s,rfl,b0.mono eS,eS.seqT ht,eS.seqT b2,(wO (a2 i s u)).2.1,?_⟩;show⟨_,D.k hG,zV (by rw[aB,aB,aV];simp at b7 B;lia),hR _ _ ⟨_,_,rfl,(m.trans (D.mo)).trans .pt,?_⟩⟩
  rw[zB,zc u,aH,aH];rfl
 rintro e G4 ⟨f8,f9,rfl,e6,c3⟩;rw[aB,show tl.length=d.length by lia,aZ]at c3;k_go;show⟨lm,_,rfl,SqL.of c3,by simpa using d5,λM e7 e8=>?_⟩;let e4:=e6.drop Z;let E4:=E2.trans (e3.trans e4);let h:=b0.mono e4.toSame;let d4:=d3.mono e4.toSame;let e9:=a9.mono e4.toSame;let h4:=e4.k h3;let c4:=e4.k I;let f0:0<M:=by
  let⟨s,u,rfl⟩:=bC.mp e7;show(wO (hg s u)).2.2
 let f1:∀s∈d,M<=Fw.room g s (j s):=λs u=>e8 _ (bC.mpr ⟨s,u,rfl⟩);let c5:∀y∈[r.am],NoL G4 y:=λy hy=>by rw[aE.mp hy];show NoL.td h.am
 let a4:∀y∈[r.am],NoT G4 y:=λy hy=>by rw[aE.mp hy];show NoT.td h.am
 k_go;show⟨ls,J,rfl,⟨_,SqL.of h4⟩,⟨_,SqL.of c4⟩,qWz (xs:=tl.map V.ref) (ys:=X) (by rw[aB];lia) (λi e G=>∃(o5 o6:Option V),e=[Sa (.ref r.x),Sa (.ref pp),Sa (.ref ls),Sa (.ref J),Sa (.int M),o5,o6]/\Ext [r.am] G4 G/\TdAt P w K G r.am Fw.W λv=>.int (pushL M ((d.take i).map λs=>(s,j s)) g v)) ?_ ?_ ?_ ?_⟩
 .exact⟨Sb,Sb,rfl,.refl _ _,h.am⟩
 .rintro i e G hi ⟨o5,o6,rfl,m,hT⟩;show⟨(SqL.of h4).over m c5,(SqL.of c4).over m c5⟩
 .rintro i x y e G pt L hy ⟨o5,o6,rfl,m,hT⟩ b1 NN BB CC RR c6 g0 g1;let⟨s,t,u,rfl,ht⟩:=d4.pairs L;let⟨v,O,U,rfl,b2⟩:=e9.pairs hy;let⟨s',a0,rfl⟩:=zX U;rw[u]at a0;cases a0;let hm:=(wO (a2 i s u)).2.1;let D:Ext [] G (upd G pt (.tup [.ref t,.ref O])):=.laid b1;let a1:upd G pt (.tup [.ref t,.ref O]) pt=Sa (.tup [.ref t,.ref O]):=zB;generalize upd G pt (.tup [.ref t,.ref O])=G' at D a1 ⊢;let f2:=D.toSame.seqT (ht.over m a4);let S:=D.toSame.seqT (b2.over m a4);let b3:=hT.mono D.toSame;let b4:r.x≠r.am:=λz=>by
   let⟨xs,y,_⟩:=h.am;rw[<-z,h.ob]at y;cases y
  refine zt (SqT.of a1) rfl ?_;k_go;refine⟨r.x,C,r.dx,_,_,rfl,D.k (m _ _ (by simpa using b4) h.ob),T.cl,T.amounts,rfl,?_⟩;k_go;refine⟨r.am,O,Fw.W,_,j s,rfl,rfl,b3,S,hm,?_⟩;k_go;refine⟨pairD s,pairD (j s),denP f2,denP S,rfl,rfl,?_⟩;refine⟨_,rfl,?_⟩;rw [show (if Sd=Sc then !(pairD s).eqv (pairD (j s)) else (pairD s).eqv (pairD (j s)))=decide (s=j s) from qOu _ _];let c7:∀k:Int,k=(if s=j s then M else -M) -> ∀xs,TdAt P w K (upd G' r.am (tdO P w xs)) r.am (putW Fw.W (j s)) (putG (λv =>.int (pushL M ((d.take i).map λs=>(s,j s)) g v)) (j s) (.int (pushL M ((d.take i).map λs=>(s,j s)) g (j s)+k))) ->
    ∃(o5 o6:Option V),[Sa (.ref r.x),Sa (.ref pp),Sa (.ref ls),Sa (.ref J),Sa (.int M),Sa (.ref t),Sa (.ref O)]=[Sa (.ref r.x),Sa (.ref pp),Sa (.ref ls),Sa (.ref J),Sa (.int M),o5,o6]/\Ext [r.am] G4 (upd G' r.am (tdO P w xs))/\TdAt P w K (upd G' r.am (tdO P w xs)) r.am Fw.W λv=>.int (pushL M ((d.take (i+1)).map λs=>(s,j s)) g v):=by
   intro k hk xs L;show⟨_,_,rfl,(m.trans (D.mo)).trans .pt,?_⟩;unfold putW at L;rw[if_pos hm]at L;show L.congr λv _=>?_;rw[zc u,aH,show List.map (λs=>(s,j s)) [s]=[(s,j s)]from rfl,qHz];unfold putG L2.bump;by_cases U:v=j s
   .rw [if_pos U,if_pos U,hk]
   .rw [if_neg U,if_neg U]
  by_cases a5:s=j s
  .rw [if_pos (decide_eq_true a5)];k_go;show⟨_,_,rfl,rfl,?_⟩;show⟨r.am,O,Fw.W,_,j s,rfl,rfl,b3,∎,S,λxs L=>zk c6 (c7 M (by rw[if_pos a5]) xs L)⟩
  .rw [if_neg (by rw[decide_eq_false a5];decide)];k_go;show⟨_,_,rfl,rfl,?_⟩;show⟨r.am,O,Fw.W,_,j s,rfl,rfl,b3,∎,S,λxs L=>zk c6 (c7 (-M) (by rw[if_neg a5]) xs L)⟩
 .rintro e G ⟨o5,o6,rfl,m,hT⟩;rw[aB,show tl.length=d.length by lia,aZ]at hT;let b4:r.x≠r.am:=λz=>by
   let⟨xs,y,_⟩:=h.am;rw[<-z,h.ob]at y;cases y
  let⟨gl,f3,f4⟩:=h.lm;show q M G f1 f0 ((E4.mo).trans m) ⟨m _ _ (by simpa using b4) h.ob,h.ne,hT,gl,f3.over m (by simpa using h.ne.symm) a4,λv U=>?_⟩;let⟨c,c1,c2⟩:=f4 v U;show⟨c,c1,c2.over m a4⟩
noncomputable abbrev oN:Sr:=vQ (top 21) 0
theorem qWg(F:Fun K "__init__" "Flow.__init__" oN f fd)(T:FTx K C)(b6:mg "sum"=Sb)(b7:mg "zip"=Sb):FnOk P w K mg base CX0 1 f fd ["self","ways","counts","prices","shut"] (iw P w K C):=by
 show F.go (N:=["self","ways","counts","prices","shut","save","back","beyond","way"]) fsc ?_;rintro f5 A d7 s H vs Q E hr ⟨x,J,wl,cl,pr,sl,us,ts,W,S,c,a,back,rfl,hx,a5,a6,b8,f6,b9,d8,d9,c0,e0,f7,f8,f9,g0,g1,q⟩;let hu:=zn hr
 refine⟨_,(zF (xA (pv 3) (yM (n:=2) rfl (zR (zJ 5) (zR (zJ 6) zp))))
  (zF (zL 7 (zK zu (zK xC (zd (qLr hr.hd) (by rfl) b6 PyProof.Rows.boot_sum (zA (pv 2) zC)) (zK zu (pv 5) (pv 6))) zE))
  (zF (oq (pv 0) (qSv ["way"] [] P w K rfl rfl rfl hu rfl (.of rfl) (ze (pv 1)) (λ_ _ _ _=>(zJ 0)) (λ_ _ _ _=>.nil) (λ_ _ _ _=>(pv 0)) (λ_ _ _ _=>zE)) rfl)
  (zF (oq (pv 0) (qSv ["way","count"] [5,6] P w K rfl rfl rfl hu rfl (.of rfl) (ia rfl b7 (zA (pv 1) (zA (pv 2) zC))) (λ_ _ _ _=>(xc (n:=2) K rfl rfl (zR (zJ 0) (zR (zJ 1) zp)))) (λ_ _ _ _=>.nil) (λ_ _ _ _=>(pv 0)) (λ_ _ _ _=>(zg (zA (zK xC (xB xD (pv 1)) (pv 2)) (zA (zK xC (pv 1) (pv 3)) zC))))) rfl)
  (zH (zy bJ rfl (ze (pv 4)) (zJ 8)
  (zH (xA (zg (zA (xB xD (pv 7)) (zA (pv 7) zC))) (kQ (xt (pv 0) rfl) (pv 8) (qR7 P w K rfl rfl rfl hu)))))))))),?_⟩
 dsimp only[zT,zY,yC,zv,zw];let a7:=a6.len;rw[aB]at a7;let c1:=c0.len;rw[aB]at c1;let e3:sm W c=(W.map c).sum:=rfl;fin2;show zt d8 rfl ?_;fin2;show⟨cl,_,rfl,b9,?_⟩;fin2;show ym (.inr ⟨∎,∎⟩) ?_;fin2;rw[<-e3];generalize e4:sm W c*(a+back)+1=beyond;show⟨wl,rfl,⟨us,a5⟩,λu B=>?_⟩;let a8:x≠u:=zG hx B;show zr (xs:=us) (λi d G=>∃(Z:Option V),d=[Z]/\Ext [u] H G/\TdAt P w K G u (W.take i) (λ_=>.int 0)) ?_ ?_ ?_ ?_
 .exact⟨Sb,rfl,.laid B,qNh _ zB⟩
 .rintro i d G hi ⟨Z,rfl,j,hT⟩;show(j.drop B).toSame.seq a5
 .rintro i y d G R e ⟨Z,rfl,j,hT⟩ hR;let⟨dd,e5,e6⟩:=a6.get e;let⟨p,X,rfl⟩:=zX e5;let⟨b,rfl,hb⟩:=wy e6;let hi:i<us.length:=(aD.mp e).1;fin2;kt_k;show yd (v:=.ref b) rfl ?_;fin2;show⟨u,b,_,_,p,rfl,rfl,hT,by rw[aV];lia,(j.drop B).toSame.seqT hb,λxs l=>hR _ _ ⟨_,rfl,j.trans .pt,?_⟩⟩;let e7:p∉W.take i:=qOh b8 X;rw[zc X];unfold putW at l;rw[if_neg e7]at l;show l.congr λv _=>?_;unfold putG;split<;>rfl
 rintro d G0 ⟨Z,rfl,j,c2⟩;rw[a7,aZ]at c2;let E0:=j.drop B;let c3:=j _ _ (by simpa using a8) hx;fin2;show⟨x,C,J,_,rfl,c3,T.cl,T.amounts,by change 0<1000;decide,?_⟩;let x1:Ext [x] G0 (upd G0 x (.ins C J (putF "amounts" (.ref u) []))):=.put ∅;let a9:upd G0 x (.ins C J (putF "amounts" (.ref u) [])) x=Sa (.ins C J (putF "amounts" (.ref u) [])):=zB;let b0:=c2.over x1 (by simpa using a8.symm) (λy e=>by rw[aE.mp e];show NoT.ins c3);generalize upd G0 x (.ins C J (putF "amounts" (.ref u) []))=G1 at x1 a9 b0 ⊢;let E1:Ext [x] H G1:=(E0.mo).trans x1;let c4:∀y∈[x],NoT H y:=λy e=>by rw[aE.mp e];show NoT.ins hx
 let b1:∀y∈[x],NoL H y:=λy e=>by rw[aE.mp e];show NoL.ins hx
 let a2:=a5.over E1 b1;let a3:=b9.over E1 b1;let c5:=d9.over E1 b1;let c6:=a6.overP E1 c4;let c7:=c0.overP E1 c4;fin2;show⟨wl,cl,rfl,⟨us,a2⟩,⟨_,a3⟩,λh g=>?_⟩;let L:x≠h:=zG a9 g;let c8:u≠h:=by
  let⟨xs,z,_⟩:=id b0;show zG z g
 show qOl (xs:=us) (ys:=(W.map c).map V.int) (by rw[aB,aB];lia) (λi d G=>∃(Z o1:Option V)(gl:Wy->V),d=[Z,o1,Sa (.int a),Sa (.int back)]/\Ext [h] G1 G/\TdAt P w K G h (W.take i) gl/\∀v∈W.take i,∃t,gl v=.ref t/\SqT K G t [.int (-(c v*a)),.int (c v*back)]) ?_ ?_ ?_ ?_
 .exact⟨Sb,Sb,λ_=>.non,rfl,.laid g,qNh _ zB,λv hv=>by simp at hv⟩
 .rintro i d G hi ⟨Z,o1,gl,rfl,j,hT,hL⟩;show⟨(j.drop g).toSame.seq a2,(j.drop g).toSame.seq a3⟩
 .rintro i y z d G pp R e hz ⟨Z,o1,gl,rfl,j,hT,hL⟩ e8 hR;let⟨p,b,X,rfl,hb⟩:=c6.pairs e;let⟨n,hn,rfl⟩:=zX hz;let⟨p',c9,rfl⟩:=zX hn;rw[X]at c9;cases c9;let hi:i<us.length:=(aD.mp e).1;let e1:Ext [] G (upd G pp (.tup [.ref b,.int (c p)])):=.laid e8;let d0:upd G pp (.tup [.ref b,.int (c p)]) pp=Sa (.tup [.ref b,.int (c p)]):=zB;generalize upd G pp (.tup [.ref b,.int (c p)])=G' at e1 d0 ⊢;show zt (SqT.of d0) rfl ?_;fin2;kt_k;fin2;show ym (.inr ⟨∎,∎⟩) ?_;fin2;show ym (.inr ⟨∎,∎⟩) ?_;fin2;rw[Int.neg_mul];show⟨len2 (by change 2<=1000;decide),λD b2=>?_⟩;let I:Ext [] G (upd G' D (.tup [.int (-(c p*a)),.int (c p*back)])):=e1.trans (.laid b2)
  let M:upd G' D (.tup [.int (-(c p*a)),.int (c p*back)]) D=Sa (.tup [.int (-(c p*a)),.int (c p*back)]):=zB;generalize upd G' D (.tup [.int (-(c p*a)),.int (c p*back)])=Y at I M ⊢;let O:=hT.mono I.toSame;show⟨h,b,_,_,p,rfl,rfl,O,by rw[aV];lia,((j.drop g).trans I).toSame.seqT hb,λxs l=>hR _ _ ⟨_,_,putG gl p (.ref D),rfl,(j.trans (I.mo)).trans .pt,?_,λv hv=>?_⟩⟩
  .rw [zc X];unfold putW at l;rw[if_neg (qOh b8 X)]at l;show l
  .let eL:Ext [h] Y (upd Y h (tdO P w xs)):=.put ∅;let nL:∀y∈[h],NoT Y y:=λy e=>by rw[aE.mp e];show NoT.td O
   unfold putG;by_cases r:v=p
   .subst r;rw[if_pos rfl];show⟨D,rfl,(SqT.of M).over eL nL⟩
   .rw [if_neg r];rw[zc X]at hv;rcases aL.mp hv with hv|hv
    .let⟨t,t1,t2⟩:=hL v hv;show⟨t,t1,(I.toSame.seqT t2).over eL nL⟩
    .exact absurd (aE.mp hv) r
 rintro d Y ⟨Z,o1,gl,rfl,U,O,d1⟩;rw[a7,aZ]at O d1;let b3:=U _ _ (by simpa using L) a9;let e9:=b0.mono (U.drop g).toSame;let d2:=(U.drop g).toSame.seq c5;let d3:=c7.mono (U.drop g).toSame;fin2;show⟨x,C,J,_,rfl,b3,T.cl,T.limits,by change 1<1000;decide,?_⟩;let x3:Ext [x] Y (upd Y x (.ins C J (putF "limits" (.ref h) (putF "amounts" (.ref u) [])))):=.put ∅;let b4:upd Y x (.ins C J (putF "limits" (.ref h) (putF "amounts" (.ref u) []))) x=Sa (.ins C J (putF "limits" (.ref h) (putF "amounts" (.ref u) []))):=zB;generalize upd Y x (.ins C J (putF "limits" (.ref h) (putF "amounts" (.ref u) [])))=G3 at x3 b4 ⊢
 let a0:∀y∈[x],NoT Y y:=λy e=>by rw[aE.mp e];show NoT.ins b3
 let f0:∀y∈[x],NoL Y y:=λy e=>by rw[aE.mp e];show NoL.ins b3
 let f1:=e9.over x3 (by simpa using a8.symm) a0;let a1:=O.over x3 (by simpa using L.symm) a0;let a4:=d2.over x3 f0;let d4:=d3.overP x3 a0;let f2:∀v∈W,∃t,gl v=.ref t/\SqT K G3 t [.int (-(c v*a)),.int (c v*back)]:=λv hv=>by
  let⟨t,t1,t2⟩:=d1 v hv;show⟨t,t1,t2.over x3 a0⟩
 let E3:Ext [x] H G3:=(E1.trans ((U.drop g).mo)).trans x3;fin2;show⟨sl,rfl,⟨_,a4⟩,yw (xs:=ts) (λi d G=>∃(o8:Option V)(m:Wy->V),d=[Sa (.ref x),Sa (.ref wl),Sa (.ref cl),Sa (.ref pr),Sa (.ref sl),Sa (.int a),Sa (.int back),Sa (.int beyond),o8]/\Ext [h] G3 G/\TdAt P w K G h W m/\∀v∈W,∃t,m v=.ref t/\SqT K G t [.int (if v∈S.take i then -beyond else -(c v*a)),.int (if v∈S.take i then beyond else c v*back)]) ?_ ?_ ?_ ?_⟩
 .refine⟨Sb,gl,rfl,.refl _ _,a1,λv hv=>?_⟩;let⟨t,t1,t2⟩:=f2 v hv;show⟨t,t1,by simpa using t2⟩
 .rintro i d G hi ⟨o8,m,rfl,j,hT,hL⟩;show a4.over j λy e=>by rw[aE.mp e];show NoL.td a1
 .rintro i y d G e ⟨o8,m,rfl,j,hT,hL⟩ NN BB CC RR f3 g2 g3;let⟨p,b,X,rfl,hb⟩:=d4.pairs e;let f4:p∈W:=e0 p (aK X);let b5:∀y∈[h],NoT G3 y:=λy e=>by rw[aE.mp e];show NoT.td a1
  fin2;show⟨len2 (by change 2<=1000;decide),λD b2=>?_⟩;let I:Ext [] G (upd G D (.tup [.int (-beyond),.int beyond])):=.laid b2;let M:upd G D (.tup [.int (-beyond),.int beyond]) D=Sa (.tup [.int (-beyond),.int beyond]):=zB;generalize upd G D (.tup [.int (-beyond),.int beyond])=G4 at I M ⊢;fin2;show⟨x,C,J,_,_,rfl,I.k (j _ _ (by simpa using L) b4),T.cl,T.limits,rfl,?_⟩;fin2;let d5:=hT.mono I.toSame;show⟨h,b,W,m,p,rfl,rfl,d5,∎,I.toSame.seqT (hb.over j b5),λxs l=>?_⟩;let eL:Ext [h] G4 (upd G4 h (tdO P w xs)):=.put ∅;let nL:∀y∈[h],NoT G4 y:=λy e=>by rw[aE.mp e];show NoT.td d5
  unfold putW at l;rw[if_pos f4]at l;show zk f3 ⟨_,putG m p (.ref D),rfl,(j.trans (I.mo)).trans eL,l,λv hv=>?_⟩;unfold putG;rw[zc X];by_cases r:v=p
  .subst r;rw[if_pos rfl,if_pos ∅,if_pos ∅];show⟨D,rfl,(SqT.of M).over eL nL⟩
  .let hm:(v∈S.take i++[p])↔v∈S.take i:=by simp[r]
   rw[if_neg r];simp only[hm];let⟨t,t1,t2⟩:=hL v hv;show⟨t,t1,(I.toSame.seqT t2).over eL nL⟩
 .rintro d G ⟨o8,m,rfl,j,hT,hL⟩;rw[c1,aZ]at hL;let b5:∀y∈[h],NoT G3 y:=λy e=>by rw[aE.mp e];show NoT.td a1
  let d6:H h=Sb:=by
   cases z:H h with
   |none=>rfl
   |some o=>rw[E1 _ _ (by simpa using L.symm) z]at g;cases g
  show q u h G B (((E3.mo (us:=[h,x])).trans (j.mo)).drop d6) ⟨j _ _ (by simpa using L) b4,c8,f1.over j (by simpa using c8) b5,m,hT,λv hv=>?_⟩;let⟨t,t1,t2⟩:=hL v hv;show⟨t,t1,?_⟩;unfold flowF;rw[e4];simp only[decide_eq_true_eq];show t2
noncomputable abbrev qNy:Sr:=top 22
theorem qPj(F:Fun K "outside" "outside" qNy f d)(b:mg "len"=Sb):FnOk P w K mg base CX0 1 f d ["work"] (kK K):=by
 show F.go (N:=["work"]) fsc ?_;rintro e A c s H k Q E g ⟨a,h,rfl,i,q⟩;let l:=zn g;show⟨_,(zH (zN (zg (zA (xB xD zE) (zA (zd yV (by rfl) b cV (zA (pv 0) zC)) zC))))),?_⟩;dsimp only[zT,zY,yC,zv,zw];k_go;show⟨a,h,rfl,.inl i,?_⟩;k_go;simp_all[len2]
noncomputable abbrev qO3:Sr:=top 23
theorem qPp(F:Fun K "fullest_flow" "fullest_flow" qO3 f fd)(T:FTx K C)(e6:Has P w K mg base "busy" 6 ["works","number","box"] (wt K))(b9:Has P w K mg base "shortest" 1 ["starts","nexts","goals"] (kG K))(c1:Has P w K mg base "nexts_by" 1 ["steps"] (vx K))(c2:Has P w K mg base "outside" 1 ["work"] (kK K))(e7:HasC P w K mg base "Flow" C 1 ["self","ways","counts","prices","shut"] (iw P w K C))(c3:HasM P w K mg base C "free_steps" 3 ["self"] (vy P w K C))(e8:HasM P w K mg base C "push" 3 ["self","path"] (iu P w K C))(e9:Has P w K mg base "ways_of" 1 ["work"] (ui K)):FnOk P w K mg base CX0 7 f fd ["works","number","box","counts","prices","shut"] (qK8 P w K C):=by
 show F.go (N:=["works","number","box","counts","prices","shut","work","starts","flow","path"]) fsc ?_;rintro h6 A f0 s H vs Q E O ⟨wa,cl,pr,sl,n,x,ws,e,S,c,b,back,rfl,hI,p,q⟩;let hu:=zn O
 refine⟨_,(zF (zL 6 (zM zZ (pv 0) (pv 1) (λ_ _=>rfl)))
  (zF (zL 7 (zI e6 O ⋯ (zA (pv 0) (zA (pv 1) (zA (pv 2) zC)))))
  (zF (zL 8 (wCx e7 O ∎ (zA (zI e9 O ⋯ (zA (pv 6) zC)) (zA (pv 3) (zA (pv 4) (zA (pv 5) zC))))))
  (zF (zL 9 (zI b9 O ⋯ (zA (pv 7) (zA (zI c1 O ⋯ (zA (iZ c3 T.cl O ⋯ (pv 8)) zC)) (zA (zI c2 O ⋯ (zA (pv 6) zC)) zC)))))
  (zF (vH bJ (zQ xW (pv 9) yD (zO _))
  (zF (yL (vp e8 T.cl O ⋯ (pv 8) (zA (pv 9) zC)))
  (zH (zL 9 (zI b9 O ⋯ (zA (pv 7) (zA (zI c1 O ⋯ (zA (iZ c3 T.cl O ⋯ (pv 8)) zC)) (zA (zI c2 O ⋯ (zA (pv 6) zC)) zC))))))))
  (zH (zN (pv 8)))))))),?_⟩
 try dsimp only[zT,zY,yC,zv,zw]
 let⟨m,f1,c4,o⟩:=hI.ok.all e (aK hI.at_);let⟨a',vs,ea,f2,f3⟩:=hI.hW.ofList;cases ea;let⟨vw,f4,c5⟩:=f3.get' (i:=n) (d:=workD e) (by rw[bA,hI.at_];rfl);let⟨wb,bs,rfl,f5,c6⟩:=c5.ofList;let f6:bs.length=e.length:=by rw[c6.len,aB]
 let h7:=o.len;let f7:=kL o c4;let a6:=vz o f1;let c7:(Wk e).Nodup:=vj (wK o);let⟨ts,c8,c9⟩:=hI.sl;k_go;show za f2 (zf f4) ?_;k_go;show⟨wa,ws,n,e,x,rfl,hI.hW,hI.ok,hI.at_,λst ss H1 h8 e1 d0 h9 f8 U=>?_⟩;k_go;show⟨wb,e,m,_,rfl,c5.mono e1.toSame,o,c4,λlw us H2 i0 e2 d2 f9=>?_⟩;let dU:=f9.mono yo_same;k_go;show λh B d3 g0 g1=>?_;let d4:upd H2 B (.own h) h=Sb:=by rw[zD g1.symm];show d3
 let eM:Ext [] H2 (upd (upd H2 B (.own h)) h (.ins C B [])):=(Ext.laid g0).trans (.laid d4);let d5:upd (upd H2 B (.own h)) h (.ins C B []) h=Sa (.ins C B []):=zB;generalize upd (upd H2 B (.own h)) h (.ins C B [])=HM at eM d5 ⊢;let E2:=e1.trans e2;let EM:=E2.trans eM;show⟨h,B,lw,cl,pr,sl,us,ts,Wk e,S,c,b,back,rfl,d5,SqL.of (eM.k d2),dU.mono eM.toSame,c7,∎,EM.toSame.seq p.cl,EM.toSame.seqT p.pr,SqL.of (EM.k c8),c9.mono EM.toSame,hI.sW,hI.sn,p.s0,p.s1,p.b0,p.b1,λam lm H4 g2 e4 b5=>⟨rfl,?_⟩⟩;let eK:Ext [] H2 H4:=((eM.mo (us:=[h])).trans e4).drop d3;let E4:=E2.trans eK;let d6:H am=Sb:=EM.no g2;let Y:=(e2.trans eK).k d0;let a7:∀s∈ss,s∈univ e.length:=λs hs=>by
  let:=xT o ((U s).mp hs);rw[xh];lia
 let i1:=qOt (S:=S) p.c0 p.s0 p.b0;let a8:∀(G:Hp) (f:Wy->Int) (o9:Option V) (R:VK),Ext [] H G->G st=Sa (.lst (ss.map V.int))->FlowAt P w K G C ⟨h,B,am,lm⟩ (FF e c b back S) f ->
   (∀(l:Sf)(a:Int)(r:List Int)(D:Hp),Ext [] G D->D l=Sa (.lst ((a::r).map V.int))->PathOk ((FF e c b back S).nx f) ss [-1,(e.length:Int)] a r->R (.ref l) D)->(NoWay ((FF e c b back S).nx f) (BusyP ws n e x) (Tg e)->∀D,Ext [] G D->R .non D)->
   tCall (kG K) [] E0 (tCons (tVar 7) (tCons (tCall (vx K) [] E0 (tCons (tMeth C (Str.ofString "free_steps") (vy P w K C) [] E0 (tVar 8) tNil) tNil)) (tCons (tCall (kK K) [] E0 (tCons (tVar 6) tNil)) tNil)))
    [Sa (.ref wa),Sa (.int n),Sa (.int x),Sa (.ref cl),Sa (.ref pr),Sa (.ref sl),Sa (.ref wb),Sa (.ref st),Sa (.ref h),o9] G R:=by
  intro G f o9 R EG M I k1 k2;k_go;show⟨h,B,_,rfl,I.ob,rfl,?_⟩;k_go;show⟨⟨h,B,am,lm⟩,_,f,rfl,I,by change(Wk e).length<=100;lia,λl1 u1 G1 i2 x1 h1 d1=>?_⟩;let i3:=qOs (F:=FF e c b back S) (f:=f);let h4:((FF e c b back S).free f).length<=50:=by
   let:(FF e c b back S).W.length<=25:=f7;lia
  show⟨l1,u1,_,rfl,SqL.of h1,d1,∎,λnd G2 i4 x2 g3=>?_⟩;k_go;show⟨wb,bs,rfl,(EG.trans (x1.trans x2)).toSame.seq f5,λt ht=>?_⟩;let x3:Ext [] G2 (upd G2 t (.tup [.int (-1),.int bs.length])):=.laid ht;let h3:upd G2 t (.tup [.int (-1),.int bs.length]) t=Sa (.tup [.int (-1),.int bs.length]):=zB;generalize upd G2 t (.tup [.int (-1),.int bs.length])=G3 at x3 h3 ⊢;let X:=x1.trans (x2.trans x3);rw[f6]at h3;show⟨st,nd,t,ss,[-1,(e.length:Int)],univ e.length,_,rfl,SqL.of (X.k M),g3.mono x3.toSame,SqT.of h3,a7,vA (kJ a6),by rw[wz];lia,λy=>cA (ix y) ∎,f8,λl a r D _ g hl hP=>k1 l a r D (X.trans g) hl hP,λZ D g=>k2 (λs hs y hy ht=>Z s ((U s).mpr hs) y hy (tg_iff.mpr ht)) D (X.trans g)⟩
 let a9:(FF e c b back S).Ok λ_=>0:=⟨c7,λv hv=>by
  let a1:=fG (p.c0 v hv) p.s0;let a2:=fG (p.c0 v hv) p.b0;let a3:=fG (ii p.c0) (show 0<=b+back from Int.add_nonneg p.s0 p.b0);change(if decide (v∈S)=Sc then -(sm (Wk e) c*(b+back)+1)else -(c v*b))<=0/\0<=(if decide (v∈S)=Sc then sm (Wk e) c*(b+back)+1 else c v*back)
  constructor<;>split<;>lia⟩
 show L2.yR ?_;show L2.zk (by assumption) ?_;show L2.ww ?_;intro g4 d7;show L2.g10 (by assumption) ?_;show L2.uS ?_
 generalize b2:(λμ a0 G => ∃(f:Wy->Int) (val:Int) (v9:V),μ = ((FF e c b back S).top - val).toNat /\ a0 = [Sa (.ref wa),Sa (.int n),Sa (.int x),Sa (.ref cl),Sa (.ref pr),Sa (.ref sl),Sa (.ref wb),Sa (.ref st),Sa (.ref h),Sa v9]/\Ext [] H G/\G st=Sa (.lst (ss.map V.int))/\FlowAt P w K G C ⟨h,B,am,lm⟩ (FF e c b back S) f/\(FF e c b back S).Ok f/\(FF e c b back S).Val f (BusyP ws n e x) (Tg e) val /\
  ((v9=.non/\NoWay ((FF e c b back S).nx f) (BusyP ws n e x) (Tg e))\/∃l a r,v9=.ref l/\G l=Sa (.lst ((a::r).map V.int))/\PathOk ((FF e c b back S).nx f) ss [-1,(e.length:Int)] a r))=Inv
 let b3:∀(μ:Nat)(a0:St)(G:Hp),Inv μ a0 G->g4 a0 G:=by
  intro g5 i5 G0 h0;show L2.zk d7 ?_;k_go;show⟨Inv,⟨g5,h0⟩,?_⟩;subst b2;rintro μ a0 G ⟨f,val,v9,rfl,rfl,EG,M,I,d8,hV,g6⟩;k_in;rcases g6 with ⟨rfl,d9⟩|⟨l',a',r',rfl,g7,j⟩
  .rw [decide_eq_true rfl];k_go;cbv;show q ⟨h,B,am,lm⟩ f val G EG I d8 hV d9
  .rw [decide_eq_false (by intro z;cases z)];k_go;show iteT (L2.wBa (n2:=λ_ _=>True) λNw_ hNw_=>?_);let i6:=xT o ((U a').mp j.hd);let b4:∀s,BusyP ws n e x s->¬Tg e s:=λs hs ht=>by
    let:=xT o hs;unfold Tg at ht;lia
   let a4:=tg_iff.mp j.ls;cases r' with
   |nil=>show absurd a4 (b4 a' ((U a').mp j.hd))
   |cons b' r'=>
    let e0:=vA (kJ (F:=FF e c b back S) (f:=f) a6);let e3:=yP j.nd (qSy e0 (a7 a' j.hd) j.st);rw[wz]at e3;let e5:∀s∈stp (a'::b'::r'),(FF e c b back S).wayFor f s=Sa (((FF e c b back S).wayFor f s).getD s):=λs hs=>by
     let⟨v,hv⟩:=mem_nx.mp (j.st s hs);rw[hv];rfl
    k_go;show⟨h,B,_,rfl,I.ob,rfl,?_⟩;k_go;show⟨⟨h,B,am,lm⟩,_,f,l',a',b',r',λs=>((FF e c b back S).wayFor f s).getD s,rfl,I,by change(Wk e).length<=100;lia,SqL.of g7,∎,e5,λmore D g8 h0 g b6=>?_⟩;let⟨a5,b7⟩:=qZe d8 hV j.nd e5 g8 ∎ ((U a').mp j.hd) a4;let h5:=qYr a5 b7 b4;let b8:Ext [] H D:=((EG.mo (us:=[am])).trans g).drop d6;let g9:st≠am:=λz=>by
     let⟨xs,y,_⟩:=I.am;rw[<-z,M]at y;cases y
    let J:=g _ _ (by simpa using g9) M;show L2.zk (by assumption) ?_;show L2.uS ?_;show a8 D _ _ _ b8 J b6 (λl a r h2 L hl hP=>?_) (λZ h2 L=>?_)
    .k_go;show⟨_,∎,_,_,.ref l,rfl,rfl,b8.trans L,L.k J,b6.mono L.toSame,a5,b7,.inr ⟨l,a,r,rfl,hl,hP⟩⟩
    .k_go;show⟨_,∎,_,_,.non,rfl,rfl,b8.trans L,L.k J,b6.mono L.toSame,a5,b7,.inl ⟨rfl,Z⟩⟩
 subst b2;show a8 H4 (λ_=>0) _ _ E4 Y b5 (λl a r D g hl hP=>?_) (λZ D g=>?_)
 .exact b3 _ _ _ ⟨λ_=>0,0,.ref l,rfl,rfl,E4.trans g,g.k Y,b5.mono g.toSame,a9,λu _ _=>qOb,.inr ⟨l,a,r,rfl,hl,hP⟩⟩
 .exact b3 _ _ _ ⟨λ_=>0,0,.non,rfl,rfl,E4.trans g,g.k Y,b5.mono g.toSame,a9,λu _ _=>qOb,.inl ⟨rfl,Z⟩⟩
noncomputable abbrev qNx:Sr:=top 24
theorem qPh(F:Fun K "why_none" "why_none" qNx f fd)(W:Has P w K mg base "busy" 6 ["works","number","box"] (wt K))(X:Has P w K mg base "shortest" 1 ["starts","nexts","goals"] (kG K))(Y:Has P w K mg base "nexts_by" 1 ["steps"] (vx K))(Z:Has P w K mg base "outside" 1 ["work"] (kK K))(a0:Has P w K mg base "turned" 1 ["steps"] (kF K)):FnOk P w K mg base CX0 7 f fd ["works","number","box","shut"] (qK5 K):=by
 show F.go (N:=["works","number","box","shut","path"]) fsc ?_;rintro b7 A a1 s H vs Q E B ⟨wa,sl,n,x,ws,e,S,rfl,b,q1,q2⟩;let hu:=zn B
 refine⟨_,(zF (zL 4 (zI X B ⋯ (zA (zI W B ⋯ (zA (pv 0) (zA (pv 1) (zA (pv 2) zC)))) (zA (zI Y B ⋯ (zA (zK yu (pv 3) (zI a0 B ⋯ (zA (pv 3) zC))) zC)) (zA (zI Z B ⋯ (zA (zM zZ (pv 0) (pv 1) (λ_ _=>rfl)) zC)) zC)))))
  (zH (zN (yh (zQ vK (pv 4) yD (zO _)) yD (xH uG (pv 4) xE (xG (xB xD zE))))))),?_⟩
 try dsimp only[zT,zY,yC,zv,zw]
 let⟨m,a2,b8,o⟩:=b.ok.all e (aK b.at_);let⟨a',vs,ea,a3,a4⟩:=b.hW.ofList;cases ea;let⟨vw,a5,a6⟩:=a4.get' (i:=n) (d:=workD e) (by rw[bA,b.at_];rfl);let⟨wb,bs,rfl,a7,D⟩:=a6.ofList;let a8:bs.length=e.length:=by rw[D.len,aB]
 let b9:=o.len;let g:=vz o a2;let⟨h,G,c⟩:=b.sl;let a9:=c.len;rw[aB]at a9;let c0:=b.sn;k_go;show⟨wa,ws,n,e,x,rfl,b.hW,b.ok,b.at_,λst ss H1 c1 R I c2 b0 q=>?_⟩;k_go;let j:=R.k G;show⟨sl,h,S,rfl,SqL.of j,c.mono R.toSame,∎,λl2 u2 J c3 T h2 d2=>?_⟩;let b1:=d2.len;rw[aB,aB]at b1;show⟨sl,l2,h,u2,rfl,rfl,T.k j,h2,len2 ∎,λC b2=>?_⟩;let L:Ext [] J (upd J C (.lst (h++u2))):=.laid b2;let h3:upd J C (.lst (h++u2)) C=Sa (.lst (h++u2)):=zB;let d3:DenL K (upd J C (.lst (h++u2))) ((ties S).map pairD) (h++u2):=by
  unfold ties;rw[aH];show DenL.append (c.mono (R.trans (T.trans L)).toSame) (d2.mono L.toSame)
 generalize upd J C (.lst (h++u2))=H3 at L h3 d3 ⊢;let b6:(ties S).length<=200:=by unfold ties;rw[aJ,aB];lia
 show⟨C,_,ties S,rfl,SqL.of h3,d3,∎,λnd U c4 e4 b3=>?_⟩;let E4:=R.trans (T.trans (L.trans e4));k_go;show za (E4.toSame.seq a3) (zf a5) ?_;k_go;show⟨wb,bs,rfl,E4.toSame.seq a7,λt ht=>?_⟩;let V:Ext [] U (upd U t (.tup [.int (-1),.int bs.length])):=.laid ht;let h5:upd U t (.tup [.int (-1),.int bs.length]) t=Sa (.tup [.int (-1),.int bs.length]):=zB;generalize upd U t (.tup [.int (-1),.int bs.length])=H5 at V h5 ⊢;rw[a8]at h5;let E5:=E4.trans V;let M:=(T.trans (L.trans (e4.trans V))).k I;let b4:∀v∈ties S,v.1∈univ e.length/\v.2∈univ e.length:=λv hv=>by
  unfold ties at hv;rcases aL.mp hv with z|z
  .exact g v (b.sW v z)
  .let⟨s,O,rfl⟩:=bC.mp z;let:=g s (b.sW s O);show⟨this.2,this.1⟩
 show⟨st,nd,t,ss,[-1,(e.length:Int)],univ e.length,_,rfl,SqL.of M,b3.mono V.toSame,SqT.of h5,λs O=>?_,vA b4,by rw[wz];lia,λy=>cA (ix y) ∎,b0,λl a r H' _ u hl hP=>?_,λb5 H' u=>?_⟩
 .let:=xT o ((q s).mp O);rw[xh];lia
 .k_in;rw[decide_eq_false (by intro z;cases z)];k_go;cbv;show⟨_,rfl,?_⟩;show⟨l,_,rfl,SqL.of hl,λp hp=>?_⟩;show q2 a _ p _ ((E5.trans u).trans (.laid hp)) ((q a).mp hP.hd) (qI2 hP.st) (tg_iff.mp hP.ls)
 .k_in;rw[decide_eq_true rfl];kt_le;show q1 (λs O y hy ht=>b5 s ((q s).mpr O) y hy (tg_iff.mpr ht)) H' (E5.trans u)
noncomputable abbrev qKh:Sr:=top 30
theorem qMq(F:Fun K "cheapest" "cheapest" qKh f fd)(T:FTx K C)(e:mg "sorted"=Sb)(M:Has P w K mg base "why_none" 7 ["works","number","box","shut"] (qK5 K))(O:Has P w K mg base "fullest_flow" 7 ["works","number","box","counts","prices","shut"] (qK8 P w K C))(R:Has P w K mg base "led_to" 1 ["starts","nexts"] (ur K))(U:Has P w K mg base "nexts_by" 1 ["steps"] (vx K))(V:HasM P w K mg base C "free_steps" 3 ["self"] (vy P w K C))(X:Has P w K mg base "busy" 6 ["works","number","box"] (wt K)):FnOk P w K mg base CX0 8 f fd ["works","number","box","counts","prices","shut"] (qHr K):=by
 show F.go (N:=["works","number","box","counts","prices","shut","flow"]) fsc ?_;rintro b1 A Y s H vs Q E h ⟨Z,cl,pr,sl,n,x,ws,b,S,c,a,back,rfl,p,hC,q1,q2⟩;let hu:=zn h
 refine⟨_,(zF (zm (zQ xW (zI M h ⋯ (zA (pv 0) (zA (pv 1) (zA (pv 2) (zA (pv 5) zC))))) yD (zO _)) (zH (zN yD)) zx)
  (zF (zL 6 (zI O h ⋯ (zA (pv 0) (zA (pv 1) (zA (pv 2) (zA (pv 3) (zA (pv 4) (zA (pv 5) zC))))))))
  (zH (zN (zd (qIe h.hd) (by rfl) e cQ (zA (zI R h ⋯ (zA (zI X h ⋯ (zA (pv 0) (zA (pv 1) (zA (pv 2) zC)))) (zA (zI U h ⋯ (zA (iZ V T.cl h ⋯ (pv 6)) zC)) zC))) zC)))))),?_⟩
 try dsimp only[zT,zY,yC,zv,zw]
 let⟨m,a0,a1,i⟩:=p.ok.all b (aK p.at_);let b2:=i.len;let a2:=kL i a1;let u:=vz i a0;k_go;show⟨Z,sl,n,x,ws,b,S,rfl,p,λa3 H1 v=>?_,λs t l H1 v B h ht=>?_⟩
 case refine_2=>
  k_in;rw[decide_eq_false (by intro z;cases z)];kt_le;show q1 s t H1 v B h ht
 k_in;rw[decide_eq_true rfl];k_go;cbv;show⟨Z,cl,pr,sl,n,x,ws,b,S,c,a,back,rfl,p.mono v.toSame,hC.mono v.toSame,λr f val H2 e2 hF a4 hV hN=>?_⟩;let E2:=v.trans e2;k_go;show⟨Z,ws,n,b,x,rfl,p.hW.mono E2.toSame,p.ok,p.at_,λst ss H3 b3 e3 D b4 a5 q=>?_⟩;let G:=hF.mono e3.toSame;k_go;show⟨r.x,r.dx,_,rfl,G.ob,rfl,?_⟩;k_go;show⟨r,_,f,rfl,G,by change(Wk b).length<=100;lia,λl1 u1 H4 b5 x1 I d1=>?_⟩;let b6:=qOs (F:=FF b c a back S) (f:=f);let b0:((FF b c a back S).free f).length<=50:=by
  let:(FF b c a back S).W.length<=25:=a2;lia
 show⟨l1,u1,_,rfl,SqL.of I,d1,∎,λnd H5 b7 x2 a6=>?_⟩;k_go;let g:∀s∈ss,s∈univ b.length:=λs B=>by
  let:=xT i ((q s).mp B);rw[xh];lia
 let a7:=yP a5 g;rw[wz]at a7;let j:=vA (kJ (F:=FF b c a back S) (f:=f) u);show .inl ⟨st,nd,_,ss,univ b.length,rfl,.inl (SqL.of ((x1.trans x2).k D)),a6,g,j,by rw[wz];lia,λy=>cA (ix y) ∎,∎,λd ks H6 hd e6 a8 o J=>?_⟩;k_go;show⟨d,ks,_,rfl,a8,by rw[dO];rfl,?_,λls ns L hp a9=>?_⟩
 .let:=yP o (l2:=univ b.length) λy hy=>by
   let⟨s,B,r⟩:=(J y).mp hy;show uq j (g s B) r
  rw[wz]at this;lia
 let EF:Ext [] H H6:=E2.trans (e3.trans ((x1.trans x2).trans e6));show q2 a3 ls ns f val _ (EF.no L) (EF.trans (.laid L)) zB a9 (hp.symm.nodup o) (λy=>?_) a4 hV hN;rw[hp.mem_iff,J];show⟨λ⟨s,I,h2⟩=>⟨s,(q s).mp I,h2⟩,λ⟨s,I,h2⟩=>⟨s,(q s).mpr I,h2⟩⟩
noncomputable abbrev qRb:Sr:=top 26
theorem qT1(F:Fun K "word_on" "word_on" qRb f i):FnOk P w K mg base CX0 1 f i ["way","inside"] (qNl K):=by
 show F.go (N:=["way","inside","begin","to"]) fsc ?_;rintro j A d s H l Q E m ⟨p,g,b,t,a,rfl,k,h,q⟩
 refine⟨_,(zF (xA (pv 0) (yM (n:=2) rfl (zR (zJ 2) (zR (zJ 3) zp))))
  (zF (zm (zQ yA (yJ (inK K rfl) (pv 2) (pv 1) rfl) (yJ (inK K rfl) (pv 3) (pv 1) rfl) (zO _)) (zH (zN yD)) zx)
  (zH (zN (yh (zQ (inK K rfl) (pv 3) (pv 1) rfl) yI yI))))),?_⟩
 dsimp only[zT,zY,yC];kd_p;show zt k rfl ?_;kd_p;show⟨g,_,rfl,.inl h,rfl,yp _,?_⟩;rw[if_neg aM,yn];kd_p;show⟨g,_,rfl,.inl h,rfl,yp _,?_⟩;rw[if_neg aM,yn];show⟨rfl,_,rfl,?_⟩;by_cases c:decide (b∈a)=decide (t∈a)
 .rw [decide_eq_true (show V.bl (decide (b∈a))=V.bl (decide (t∈a))by rw[c]),if_pos rfl];let e:wordV (decide (b∈a)) (decide (t∈a))=.non:=if_pos c;rw[e]at q;kd_p;show q
 .rw [decide_eq_false (show ¬V.bl (decide (b∈a))=V.bl (decide (t∈a))from λz=>c (V.bl.inj z)),if_neg aM];let e:wordV (decide (b∈a)) (decide (t∈a))=.str (wdS (decide (t∈a))):=if_neg c;rw[e]at q;kd_p;show⟨g,_,rfl,.inl h,rfl,yp _,?_⟩;rw[if_neg aM,yn];show⟨_,rfl,?_⟩;cases hd:decide (t∈a)with
  |true=>
   rw[hd]at q;show q
  |false=>
   rw[hd]at q;show q
noncomputable abbrev oO:Sr:=top 27
theorem scPutOn:FnScope ["work","plan","words"] ["work","plan"] (zq oO):=fsc
theorem qW9(F:Fun K "put_on" "put_on" oO f fd)(W:mg "sorted"=Sb)(c7:Has P w K mg base "ways_of" 1 ["work"] (ui K))(c8:Has P w K mg base "word_on" 1 ["way","inside"] (qNl K)):FnOk P w K mg base CX0 2 f fd ["work","plan"] (qXm K):=by
 show F.go scPutOn ?_;rintro g1 A c9 s H vs Q E hr ⟨wa,d,h,m,a5,bs,as,f,rfl,hW,a6,hm,hP,d0,b5,q⟩;let hu:=zn hr
 refine⟨_,(zF (qZf (qY7 (i:=2) ["way","box"] [1] rfl (.of rfl) scPutOn.nd rfl (Or.inl rfl) (ze (zI c7 hr ⋯ (zA (pv 0) zC))) (λ_ _ _ _=>(zJ 0)) (λ_ _ _ _ =>.nil) (λ_ _ _ _=>(qW2 (pv 2))) (λ_ _ _ _=>(zJ 1)) (λ_ _ _ _ =>.nil) (λ_ _ _ _=>(zg (zA (pv 0) (zA (zI c8 hr ⋯ (zA (pv 0) (zA (kb hu (pv 2) (pv 1) (λ_ _=>rfl)) zC))) (zA (pv 1) zC)))))))
  (zH (zN (zd (qN4 (wAv hr)) (by rfl) W cQ (zA (yE ["row"] [] (ze (pv 2)) (λ_ _ _ _=>(zJ 0)) (λ_ _ _ _=>.cons (zQ xW (zM (wF K rfl) (pv 0) zE (λ_ _=>rfl)) yD (zO _)) .nil) (λ_ _ _ _=>(pv 0))) zC))))),?_⟩
 dsimp only[zT,zY,yC,zv,zw];let g2:=a6.len;let d1:∀b∈h,b.ns.length<=2:=λb hb=>(a6.blk b hb).ns.few;let g3:=xf d1 h.length;let d2:∀o u,H d≠Sa (.frz o u):=λo u z=>by rw[hP.dict]at z;cases z
 kd_p;show qZ3 ?_;kd_p;show⟨wa,h,m,a5,rfl,hW,a6,hm,λlw us H1 b6 e1 X d3=>?_⟩;let Y:=e1.k hP.dict;let dU:DenL K H1 ((zU h h.length).map pairD) us:=d3.mono yo_same;let a7:=dU.len;rw[aB]at a7;show⟨lw,rfl,⟨_,SqL.of X⟩,λD L=>?_⟩;let M:d≠D:=zG Y L;let d4:lw≠D:=zG X L;let d5:lw≠d:=λz=>by rw[z,hP.dict]at b6;cases b6
 let d6:∀(j:Nat)(a:Sf)(b:Int),as[j]? = Sa a->bs[j]? = Sa b->H1 a=Sa (.lst ((f b).map V.int))/\a≠d:=λj a b h1 h2=>by
  let⟨ns,h3,h4⟩:=hP.lists.get h1;rw[bA,h2]at h3;let h3:f b=ns:=bB h3;rw[h3];show⟨e1.k h4,λz=>hP.nda (z▸aK h1)⟩
 generalize a8:planK bs as=C at Y;show zr (xs:=us) (λi e G=>∃(o0 o1:Option V)(ts:List Sf),e=[o0,o1,Sa (.ref d)]/\Ext [d,D] H1 G/\((i=0/\G d=Sa (.dK C))\/∃o,G d=Sa (.frz o (.dK C)))/\G D=Sa (.lst (ts.map V.ref))/\TriL K f G ts (((zU h h.length).take i).flatMap λw=>bs.map λb=>(w,b))) ?_ ?_ ?_ ?_
 .exact⟨Sb,Sb,[],rfl,.laid L,.inl ⟨rfl,by rw[zD M];show Y⟩,zB,.nil⟩
 .rintro i e G hi ⟨o0,o1,ts,rfl,e2,n,N,hT⟩;show SqL.of (e2 _ _ (by simpa using ⟨d5,d4⟩) X)
 .rintro i x e G R hx ⟨o0,o1,ts,rfl,e2,n,N,hT⟩ hR;let⟨dd,d7,d8⟩:=dU.get hx;let⟨wv,b7,rfl⟩:=zX d7;let d9:i<(zU h h.length).length:=(aD.mp b7).1;let⟨p,ps,rfl,e5,e6⟩:=d8.ofTuple;let⟨v1,q1,rfl,e7,a9⟩:=e6.ofCons;let⟨v2,q2,rfl,e8,b0⟩:=a9.ofCons;let z1:=e7.ofInt;let z2:=e8.ofInt;let z3:=b0.ofNil;subst z1 z2 z3;let b8:Tups H1 G:=e2.tups λu hu xs q=>by
   rcases aN.mp hu with z|z
   .subst z;rcases q with q|⟨o,q⟩<;>rw[Y]at q<;>cases q
   .let z:u=D:=by simpa using z
    subst z;rcases q with q|⟨o,q⟩<;>rw[L]at q<;>cases q
  let b9:=b8.sq e5;let c0:Rd G d (.dK C):=by
   rcases n with ⟨_,z⟩|⟨o,z⟩
   .exact .inl z
   .exact .inr ⟨o,z⟩
  kd_p;kt_k;unfold bNext;show qVt ?_;kd_p;show⟨d,C,rfl,c0,λo=>?_⟩;let b1:Tups G (upd G d (.frz o (.dK C))):=by
   rcases n with ⟨_,z⟩|⟨o',z⟩
   .exact Tups.melt z
   .exact Tups.melt z
  let c1:∀b xs,G b=Sa (.tup xs)->(upd G d (.frz o (.dK C))) b=Sa (.tup xs):=λb xs z=>by
   rw[zD];show z;rintro rfl;rcases n with ⟨_,y⟩|⟨o',y⟩<;>rw[y]at z<;>cases z
  let O:=hT.mono b1 c1;let Z:=b1.sq b9;let b2:Ext [d,D] H1 (upd G d (.frz o (.dK C))):=e2.trans .pt;let J:(upd G d (.frz o (.dK C))) d=Sa (.frz o (.dK C)):=zB;let g:(upd G d (.frz o (.dK C))) D=Sa (.lst (ts.map V.ref)):=by rw[zD (cC M)];show N
  clear c1 b1 hT b9 N c0 n b8 e2;generalize upd G d (.frz o (.dK C))=G' at O Z b2 J g ⊢;let a2:=O.len;rw[vq,aV]at a2;let e9:min i (zU h h.length).length*bs.length<=25*2:=Nat.mul_le_mul ∎ b5;show qTm (λj e B=>∃(o1:Option V)(ts:List Sf),e=[Sa (.ref p),o1,Sa (.ref d)]/\Ext [D] G' B/\B D=Sa (.lst (ts.map V.ref))/\TriL K f B ts ((((zU h h.length).take i).flatMap λw=>bs.map λb=>(w,b))++(bs.take j).map λb=>(wv,b))) ?_ ?_ ?_ ?_
  .exact⟨_,ts,rfl,.refl _ _,g,by rw[List.take_zero,gU,bS];show O⟩
  .rintro j e B hj ⟨o1,ts,rfl,S,I,T⟩;show S _ _ (by simpa using M) J
  .rintro j k v e B R2 hv ⟨o1,a3,rfl,S,I,T⟩ f0;rw[<-a8]at hv;let⟨b,a,hb,ha,rfl,rfl⟩:=qW0 hv;let⟨c2,f1⟩:=d6 j a b ha hb;let c3:a≠D:=zG c2 L;let f2:=S _ _ (by simpa using c3) (b2 _ _ (by simpa using ⟨f1,c3⟩) c2);let f3:=S _ _ (by simpa using M) J;let c4:Tups G' B:=S.tups λu hu xs q=>by
    let z:u=D:=by simpa using hu
    subst z;rcases q with q|⟨o,q⟩<;>rw[g]at q<;>cases q
   let f4:=T.len;rw[aJ,vq,aV,aB,aV]at f4;kd_p;kt_k;kd_p;show⟨d,.ref a,rfl,.inl ⟨C,Sum.inl b,.inr ⟨o,f3⟩,rfl,by rw[<-a8];show(qKo d0 hb ha).symm⟩,?_⟩;show⟨p,a,wv.1,wv.2,f b,rfl,c4.sq Z,SqL.of f2,?_⟩;kd_p;show⟨len2 ∅,λtp a0=>?_⟩;let b3:tp≠D:=λz=>by rw[z,I]at a0;cases a0
   show⟨_,by rw[zD (cC b3)];show I,zV (by rw[aB];lia),f0 _ _ ⟨_,a3++[tp],rfl,(S.trans (.laid a0)).trans .pt,by rw[zB,aH];rfl,?_⟩⟩;let t1:bs.take (j+1)=bs.take j++[b]:=by rw[eO,hb];rfl
   rw[t1,aH,<-dY];let eT:Tups B (upd (upd B tp (.tup [.ref p,wordV (decide (wv.1∈f b)) (decide (wv.2∈f b)),.int b])) D (.lst (a3.map V.ref++[V.ref tp]))):=((Ext.laid (ts:=[]) a0).toSame.tups).trans (Tups.melt (by rw[zD (cC b3)];show I));show Paired.snoc (T.mono eT λc xs z=>?_) ⟨p,?_,(c4.trans eT).sq Z⟩
   .rw [zD (λy=>by rw[y,I]at z;cases z),zD (λy=>by rw[y,a0]at z;cases z)];show z
   .rw [zD b3,zB];rfl
  .rintro e B ⟨o1,a3,rfl,S,I,T⟩;let f5:C.length=bs.length:=by rw[<-a8];show qSk hP.len
   rw[f5,aZ]at T;show hR _ _ ⟨_,_,a3,rfl,b2.trans (S.mo),.inr ⟨o,S _ _ (by simpa using M) J⟩,I,?_⟩;rw[zc b7,fT,eB,List.flatMap_nil,bS];show T
 .rintro e G ⟨o0,o1,ts,rfl,e2,n,N,hT⟩;rw[show us.length=(zU h h.length).length from a7,aZ]at hT;obtain⟨o,n⟩:∃o,G d=Sa (.frz o (.dK C)):=by
   rcases n with ⟨z,_⟩|z
   .rw [a7,wI]at z;cases z
   .exact z
  let a2:=hT.len;rw[vq]at a2;let e9:(zU h h.length).length*bs.length<=25*2:=Nat.mul_le_mul ∎ b5;let S:=e2.melt Y;let g:(upd G d (.dK C)) D=Sa (.lst (ts.map V.ref)):=by rw[zD (cC M)];show N
  let O:TriL K f (upd G d (.dK C)) ts ((zU h h.length).flatMap λw=>bs.map λb=>(w,b)):=hT.mono (Tups.melt n) λb xs z=>by
   rw[zD (λy=>by rw[y,n]at z;cases z)];show z
  show⟨d,o,_,n,d2,?_⟩;clear hT N;generalize upd G d (.dK C)=G' at S g O ⊢;let eG:=e1.trans (S.drop L);clear S n e2;kd_p;show⟨D,rfl,⟨_,SqL.of g⟩,λl2 a4=>?_⟩;show zr (xs:=ts.map V.ref) (λi e B=>∃(o0:Option V)(rs:List Sf),e=[o0]/\Ext [l2] G' B/\B l2=Sa (.lst (rs.map V.ref))/\rs.length<=i/\RowsI K B (rs.map V.ref) ((((zU h h.length).flatMap λw=>bs.map λb=>(w,b)).take i).filterMap λp=>rowOf f p.1 p.2)) ?_ ?_ ?_ ?_
  .exact⟨Sb,[],rfl,.laid a4,zB,bG _,.nil⟩
  .rintro i e B hi ⟨o0,rs,rfl,e4,U,b4,hI⟩;show SqL.of (e4 _ _ (by simpa using zG g a4) g)
  .rintro i x e B R hx ⟨o0,rs,rfl,e4,U,b4,hI⟩ hR;let⟨t,ht,rfl⟩:=zX hx;let d9:i<ts.length:=(aD.mp ht).1;let⟨p,hp,f6,a9,b0⟩:=qI4 O ht;let eS:=(e4.drop a4).toSame;let a1:=eS _ _ a9;let c5:=eS.tups.sq b0;let f7:=zc hp;kd_p;show zo (SqT.of a1) rfl ?_;show⟨rfl,_,rfl,?_⟩;let c6:∀{r:Option K4},rowOf f p.1 p.2=r->(((zU h h.length).flatMap λw=>bs.map λb=>(w,b)).take (i+1)).filterMap (λp=>rowOf f p.1 p.2)=(((zU h h.length).flatMap λw=>bs.map λb=>(w,b)).take i).filterMap (λp=>rowOf f p.1 p.2)++r.toList:=λ{r}hr=>by
    rw[f7,dP,cI,hr];cases r<;>rfl
   by_cases hc:decide (p.1.1∈f p.2)=decide (p.1.2∈f p.2)
   .let e0:wordV (decide (p.1.1∈f p.2)) (decide (p.1.2∈f p.2))=.non:=if_pos hc;rw[e0,decide_eq_true rfl];show hR _ _ ⟨_,rs,rfl,e4,U,∎,?_⟩;rw[c6 (r:=Sb) (if_pos hc)];show bS _▸hI
   .let e0:wordV (decide (p.1.1∈f p.2)) (decide (p.1.2∈f p.2))=.str (wdS (decide (p.1.2∈f p.2))):=if_neg hc;rw[e0]at a1 ⊢;rw[decide_eq_false ∅];show iteT (iteT ?_);kd_p;show⟨_,U,zV (by rw[aB];lia),hR _ _ ⟨_,rs++[t],rfl,e4.trans .pt,by rw[zB,aH];rfl,by rw[aJ,bE];lia,?_⟩⟩;rw[c6 (r:=Sa (p.1,decide (p.1.2∈f p.2),p.2)) (if_neg hc),aH];let eT:Tups B (upd B l2 (.lst (rs.map V.ref++[V.ref t]))):=Tups.melt U;show Paired.snoc (hI.mono eT) ⟨t,f6,rfl,eT.sq (SqT.of a1),eT.sq c5⟩
  .rintro e B ⟨o0,rs,rfl,e4,U,b4,hI⟩;rw[aB,a2,<-vq,aZ,<-qHw]at hI;kd_p;show⟨l2,_,_,rfl,SqL.of U,hI,by let f8:=hI.len;rw[aB]at f8 b4;lia,λl ps hl f9 g0=>?_⟩;let eF:Ext [] G' B:=e4.drop a4;let eA:=eG.trans eF;let⟨z1,z2⟩:=qV8 hI f9;let eL:Ext [] B (upd B l (.lst (ps.map (·.1)))):=.laid hl;show q l _ _ _ (eA.no hl) (eA.trans eL) zB (z1.mono eL.toSame.tups) z2 g0
noncomputable abbrev sCost:Sr:=top 28
theorem wA4(F:Fun K "cost" "cost" sCost f fd)(y:mg "dict"=Sb)(M:mg "zip"=Sb)(O:mg "sum"=Sb)(a2:Has P w K mg base "ways_of" 1 ["work"] (ui K))(a3:Has P w K mg base "put_on" 2 ["work","plan"] (qXm K)):FnOk P w K mg base CX0 3 f fd ["work","plan","counts","prices"] (qR2 K):=by
 show F.go (N:=["work","plan","counts","prices","count_of","save","back","price_of"]) fsc ?_;rintro b9 A a4 s H vs Q E S ⟨wa,d,lc,pr,c,m,h,bs,as,f,z,B,bk,rfl,hW,e,hm,hP,a5,a6,hC,a7,a8,c0,c1,q⟩;let hu:=zn S
 refine⟨_,(zF (zL 4 (qSt S (by rfl) y (by rfl) M (zA (zI a2 S ⋯ (zA (pv 0) zC)) (zA (pv 2) zC))))
  (zF (xA (pv 3) (yM (n:=2) rfl (zR (zJ 5) (zR (zJ 6) zp))))
  (zF (zL 7 (QT (ki yI (pv 5) (ki yI (pv 6) QR)) rfl rfl ∅ ⋯))
  (zH (zN (zd (qLr S.hd) (by rfl) O PyProof.Rows.boot_sum (zA (yE ["way","word","box"] [4,7] (ze (zI a3 S ⋯ (zA (pv 0) (zA (pv 1) zC)))) (λ_ _ _ _=>(xc (n:=3) K rfl rfl (zR (zJ 0) (zR (zJ 1) (zR (zJ 2) zp))))) (λ_ _ _ _=>.nil) (λ_ _ _ _=>(zK xC (qOd P w K rfl rfl rfl hu (pv 3) (pv 0) (λ_ _=>rfl)) (kb hu (pv 4) (pv 1) (λ_ _=>rfl))))) zC))))))),?_⟩
 dsimp only[zT,zY,yC,zv,zw];let a9:∀b∈c,b.ns.length<=2:=λb hb=>(e.blk b hb).ns.few;let c2:=e.len;let c3:=xf a9 c.length;let T:=qP6 e;kd_p;unfold tDZ;kd_p;show⟨wa,c,m,h,rfl,hW,e,hm,λlw us U c4 e1 W b0=>?_⟩;let⟨g,rfl,p⟩:=ux (b0.mono yo_same);let C:=p.len;kd_p;show⟨lw,lc,tabK (zU c c.length) g,z,rfl,by rw[qK2 C];show SqL.of W,e1.toSame.seq hC,uz p,by rw[uy C];show ig T,by rw[ie C];lia,λD X=>?_⟩;let e2:Ext [] U (upd U D (tabO P w (tabK (zU c c.length) g) z)):=.laid X;let tb:TabW P w K (upd U D (tabO P w (tabK (zU c c.length) g) z)) D (zU c c.length) g z:=⟨zB,p.mono e2.toSame.tups,a7,T⟩
 show(show gName 4 (V.ref D) _ (upd U D (tabO P w (tabK (zU c c.length) g) z)) _ from ?_);generalize upd U D (tabO P w (tabK (zU c c.length) g) z)=H2 at e2 tb ⊢;let E2:=e1.trans e2;kd_p;show zt (E2.toSame.tups.sq a8) rfl ?_;kd_p;show qZa ?_;intro r Y;show wBc ?_;kd_p;show wBc ?_;kd_p;show wCn ?_;show⟨zB,[(Sum.inr (Str.ofString "save"),.int B),(Sum.inr (Str.ofString "back"),.int bk)],rfl,by change 2<=15;decide,?_⟩;let Z:∀b:Bool,valV (yX [] [(Sum.inr (Str.ofString "save"),V.int B),(Sum.inr (Str.ofString "back"),V.int bk)]) (Sum.inr (wdS b):Key)=Sa (.int (if b then B else bk)):=λb=>by cases b<;>rfl
 generalize yX [] [(Sum.inr (Str.ofString "save"),V.int B),(Sum.inr (Str.ofString "back"),V.int bk)]=pk at Z;let e3:Ext [] H2 (upd (upd H2 r (.dK [])) r (.dK pk)):=by rw[oR];show .laid Y
 let v:(upd (upd H2 r (.dK [])) r (.dK pk)) r=Sa (.dK pk):=zB;generalize upd (upd H2 r (.dK [])) r (.dK pk)=H3 at e3 v ⊢;let b1:=tb.keep e3.toSame.tups λo q=>e3.k q;let E3:=E2.trans e3;clear tb Y X p;kd_p;show⟨wa,d,c,m,h,bs,as,f,rfl,hW.mono E3.toSame,e,hm,hP.keep λa _ o q=>E3.k q,a5,a6,λlp us ks H4 c5 e4 j hR I c6=>?_⟩;let E4:=E3.trans e4;let c7:=qVo hm e ∎ I;let b2:=b1.keep e4.toSame.tups λo q=>e4.k q;let a0:=e4.k v;let b3:=hR.len;show⟨lp,rfl,⟨_,SqL.of j⟩,λJ t=>?_⟩;show zr (xs:=us) (λi u G=>∃(o0 o1 o2:Option V),u=[o0,o1,o2,Sa (.ref D),Sa (.ref r)]/\Ext [J] H4 G/\G J=Sa (.lst (((ks.take i).map (costK (cntW (zU c c.length) z) B bk)).map V.int))) ?_ ?_ ?_ ?_
 .exact⟨Sb,Sb,Sb,rfl,.laid t,zB⟩
 .rintro i u G hi ⟨o0,o1,o2,rfl,L,l⟩;show SqL.of (L _ _ (by simpa using zG j t) j)
 .rintro i x u G R hx ⟨o0,o1,o2,rfl,L,l⟩ b4;let c8:i<us.length:=(aD.mp hx).1;let⟨kk,a1,a,wp,rfl,b5,b6⟩:=qI4 hR hx;let b7:=qZ1 (I.mem_iff.mp (aK a1));let eS:=(L.drop t).toSame;show zt (eS.tups.sq b5) rfl ?_;kd_p;kt_k;kd_p;unfold tTGet;kd_p;show qRx (b2.keep eS.tups λo q=>eS _ _ q) (eS.tups.sq b6) b7.1 ?_;kd_p;show⟨r,_,rfl,.inl ⟨pk,Sum.inr (wdS kk.2.1),.inl (eS _ _ a0),rfl,(Z kk.2.1).symm⟩,?_⟩;let b8:-(2^64)<(if kk.2.1 then B else bk)/\(if kk.2.1 then B else bk)<2^64:=by
   split<;>lia
  show ym (.inr b8) ?_;show⟨_,l,zV (by rw[aB,aB,aV];lia),b4 _ _ ⟨_,_,_,rfl,L.trans .pt,?_⟩⟩;rw[zB,zc a1,aH,aH];rfl
 .rintro u G ⟨o0,o1,o2,rfl,L,l⟩;rw[b3,aZ]at l;kd_p;show⟨J,_,rfl,SqL.of l,?_⟩;let:=q G (E4.trans (L.drop t));unfold costI at this;rw[<-qVl (I.map _)]at this;show this
noncomputable abbrev qXt:Sr:=top 31
theorem qWc(F:Fun K "least_cost" "least_cost" qXt f fd)(L:Has P w K mg base "cheapest" 8 ["works","number","box","counts","prices","shut"] (qHr K))(M:Has P w K mg base "cost" 3 ["work","plan","counts","prices"] (qR2 K)):FnOk P w K mg base CX0 9 f fd ["works","number","box","counts","prices","shut"] (qR0 K):=by
 show F.go (N:=["works","number","box","counts","prices","shut","inside"]) fsc ?_;rintro a8 A O s H vs Q E j ⟨wa,cl,pr,sl,n,x,ws,e,S,cs,b,back,rfl,c,o,p,q,r,u,R,v,T,q1,q2⟩;let hu:=zn j
 refine⟨_,(zF (zL 6 (zI L j ⋯ (zA (pv 0) (zA (pv 1) (zA (pv 2) (zA (pv 3) (zA (pv 4) (zA (pv 5) zC))))))))
  (zH (zN (yh (zQ vK (pv 6) yD (zO _)) yD (zI M j ⋯ (zA (zM zZ (pv 0) (pv 1) (λ_ _=>rfl)) (zA (QT (ki (pv 2) (pv 6) QR) rfl rfl ∅ ⋯) (zA (pv 3) (zA (pv 4) zC))))))))),?_⟩
 try dsimp only[zT,zY,yC,zv,zw]
 let⟨m,U,W,a⟩:=c.ok.all e (aK c.at_);let a9:=a.len;let X:(Wk e).Nodup:=vj (wK a);let⟨a',vs,ea,Y,Z⟩:=c.hW.ofList;cases ea;let⟨vw,a0,y⟩:=Z.get' (i:=n) (d:=workD e) (by rw[bA,c.at_];rfl);let⟨wb,bs,rfl,b0,a7⟩:=id y.ofList;k_go;show⟨wa,cl,pr,sl,n,x,ws,e,S,cntW (Wk e) cs,b,back,rfl,c,⟨by grind[wAo],r,λw _=>qIa q w,u,R,v,T⟩,λs t g G hs j ht=>?_,λa1 l ns f val g hl G B a2 a3 a4 C hV a5=>?_⟩
 .k_in;rw[decide_eq_true rfl];kt_le;show q1 (λx' h=>qVh c.sW h.2.1 h.2.2 hs j ht) g G
 let⟨k1,k2,k3⟩:=qWs a U c.sW q u v a1 C hV a5 (iy a2 a3) a4;k_in;rw[decide_eq_false ∅];k_go;cbv;show za (G.toSame.seq Y) (zf a0) ?_;k_go;show wBg λd I=>r_pc ?_;k_go;show r_pn ⟨zB,[(Sum.inl x,V.ref l)],rfl,∅,?_⟩;let a6:l≠d:=λz=>by grind
 let e2:Ext [] g (upd (upd g d (.dK [])) d (.dK (yX [] [(Sum.inl x,V.ref l)]))):=(((Ext.laid (ts:=[d]) I).trans .pt).drop I);let D:upd (upd g d (.dK [])) d (.dK (yX [] [(Sum.inl x,V.ref l)])) d=Sa (.dK (planK [x] [l])):=by rw[zB];rfl
 generalize upd (upd g d (.dK [])) d (.dK (yX [] [(Sum.inl x,V.ref l)]))=H2 at e2 D ⊢;let J:=G.trans e2;k_go;show⟨wb,d,cl,pr,e,m,_,[x],[l],λ_=>ns,cs,b,back,rfl,y.mono J.toSame,a,W,⟨D,.cons (e2.k B) .nil,rfl,∅,by grind⟩,∅,∅,J.toSame.seq o,p,J.toSame.seqT r,⟨∎,∎⟩,⟨∎,∎⟩,λH3 e3=>?_⟩;rw[qTs k2];show q2 val k3 H3 (J.trans e3)
noncomputable abbrev oP:Sr:=top 39
theorem scSmall:FnScope ["_law_tape_here","_law_most","_law_works","_law_found","_law_first","_law_many"] ["_law_tape_here","_law_most"] (zq oP):=fsc
theorem qW7(F:Fun K "_law_small_works" "_law_small_works" oP f fd)(O:mg "range"=Sb)(hD:Has P w K mg base "_law_draw" 1 ["_law_tape_here","_law_many"] yl)(hW:Has P w K mg base "_law_work" 4 ["_law_tape_here","_law_many","_law_most","_law_first","_law_works"] (qQu K)):FnOk P w K mg base CX0 5 f fd ["_law_tape_here","_law_most"] (qQw K):=by
 show F.go scSmall ?_;rintro d1 A b8 s H vs Q E hr ⟨t,k,B,rfl,hT,hk,T,U,q⟩;let hu:=zn hr
 refine⟨_,(zF (vG (i:=2) (j:=3) rfl scSmall.nd rfl rfl ⋯ rfl rfl (zA (zK zu zE (zI hD hr ⋯ (zA (pv 0) (zA zE zC)))) (zA (zW zC) zC)) rfl)
  (zF (zy bJ rfl (xO rfl O (zA (pv 2) zC)) (zJ 4)
  (zF (zL 5 (zK zu zE (zI hD hr ⋯ (zA (pv 0) (zA (zM zZ (zW (zA zE (zA zE zC))) (zI hD hr ⋯ (zA (pv 0) (zA zE zC))) (λ_ _=>rfl)) zC)))))
  (zH (yL (yN bD bX bY yi (pv 3) (zA (zI hW hr ⋯ (zA (pv 0) (zA (pv 5) (zA (pv 1) (zA (pv 4) (zA (pv 2) zC)))))) zC))))))
  (zH (zN (pv 3))))),?_⟩
 try dsimp only[zT,zY,yC,zv,zw]
 k_go;show zj hT ∎ ⋯ ⋯ λr1 H1 a1 b1 T1 e1 _=>?_;k_go;show⟨len2 (bG _),λl hl=>?_⟩;let C:l≠t:=T1.ne hl;let e4:=e1;let b9:H l=Sb:=e4.none (by simpa using C) hl;generalize hn:1+r1=n;let d2:1<=n:=by lia
 let d3:n<=3:=by lia
 show⟨_,_,rfl,?_⟩;let T3:=T1;k_go
 refine⟨n,rfl,∎,∎,we (lo:=0) (n:=n.toNat) (λi W g => ∃(c:List Sf) (N:List (List Blk)) (X Y:Option V),W = [Sa (.ref t),Sa (.int B),Sa (.int n),Sa (.ref l),X,Y]/\c.length=i/\(∀w∈N,∃m:Int,1<=m/\m<=10/\WorkOk m n w)/\(∀w∈N,∀b∈w,b.ds.length<=12) /\
  l∉c/\(∀a∈c,H a=Sb/\a≠t)/\c.Nodup/\Tape g t (k+3+2003*i)/\Ext [l,t] H1 g/\g l=Sa (.lst (c.map V.ref))/\WorksE (yo H (l::t::c) g) g c N) ?_ ?_ ?_⟩
 .exact⟨[],[],_,_,rfl,rfl,∅,∅,∅,∅,.nil,(T3.ext (ts:=[]) (.laid hl) ∅).mono ∎,.laid hl,zB,.nil⟩
 .rintro i W g hi ⟨c,N,X,Y,rfl,b0,Z,D,a0,a3,b3,T',e',R,hA⟩ N_ B_ C_ R_ hN_ hC_ hR_;let d4:i<10:=by lia
  let EH:Ext [l,t] H g:=(e4.mo).trans e';k_go;let c0:∀(m:Int)(S u:Hp)(a:Sf)(w1:List Blk)(bs:List V),1<=m->m<=10->Ext [t] g S->S a=Sb->a≠t->Tape u t (k+3+2003*(i+1))->Ext [t] S u->WorkOk m n w1->(∀b∈w1,b.ds.length<=12)->u a=Sa (.lst bs)->DenEL (yo S [a,t] u) (w1.map blkD) bs->∀X Y:Option V,
    u l=Sa (.lst (c.map V.ref))/\∃(v:List Sf)(a4:List (List Blk))(c1 c2:Option V),[Sa (V.ref t),Sa (.int B),Sa (.int n),Sa (.ref l),X,Y]=[Sa (V.ref t),Sa (.int B),Sa (.int n),Sa (.ref l),c1,c2]/\v.length=i+1/\(∀w∈a4,∃m:Int,1<=m/\m<=10/\WorkOk m n w)/\(∀w∈a4,∀b∈w,b.ds.length<=12)/\
    l∉v/\(∀a∈v,H a=Sb/\a≠t)/\v.Nodup/\Tape (upd u l (.lst (c.map V.ref++[V.ref a]))) t (k+3+2003*(i+1))/\Ext [l,t] H1 (upd u l (.lst (c.map V.ref++[V.ref a])))/\(upd u l (.lst (c.map V.ref++[V.ref a]))) l=Sa (.lst (v.map V.ref))/\WorksE (yo H (l::t::v) (upd u l (.lst (c.map V.ref++[V.ref a])))) (upd u l (.lst (c.map V.ref++[V.ref a]))) v a4:=by
   intro m S u a w1 bs T U e5 ha G T6 e6 a5 a6 a7 I X Y;let l5:S l=Sa (.lst (c.map V.ref)):=e5 _ _ (by simpa using C) R;let l6:u l=Sa (.lst (c.map V.ref)):=e6 _ _ (by simpa using C) l5;let a8:a≠l:=(zG l5 ha).symm;let J:g a=Sb:=e5.none (by simpa using G) ha;let c3:H a=Sb:=EH.none (by simp[a8,G]) J;let b4:a∉c:=λhm=>by
    let⟨j,hj,e⟩:=cO hm;let⟨_,c4,_,L,_⟩:=hA.get (i:=j) (a:=a) (by rw[aF hj,e]);rw[J]at L;cases L
   let E6:Ext [l,t] g (upd u l (.lst (c.map V.ref++[V.ref a]))):=(e5.mo).trans ((e6.mo).trans .pt);show⟨l6,c++[a],N++[w1],X,Y,rfl,by rw[aJ,b0];rfl,?_,?_,by simp[a0,a8.symm],?_,?_,?_,e'.trans E6,by rw[zB,aH];rfl,?_⟩
   .intro w hw;rcases aL.mp hw with z|z
    .exact Z w z
    .rw [aE.mp z];show⟨m,T,U,a5⟩
   .intro w hw;rcases aL.mp hw with z|z
    .exact D w z
    .rw [aE.mp z];show a6
   .intro b hb;rcases aL.mp hb with z|z
    .exact a3 b z
    .rw [aE.mp z];show⟨c3,G⟩
   .exact cT.mpr ⟨b3,∅,by intro x hx y hy;simp at hy;subst hy;intro e;subst e;show b4 hx⟩
   .exact T6.ext (ts:=[l]) .pt (by simpa using C.symm)
   .let key:Same (yo H (l::t::c) g) (yo H (l::t::(c++[a])) (upd u l (.lst (c.map V.ref++[V.ref a])))):=λb o e=>by
     let⟨h1,h2,h3⟩:=xZ e;let nb:b≠a:=λz=>by rw[z,J]at h3;cases h3
     let c5:b∉[l,t]:=λz=>h2 (by rcases aN.mp z with z|z<;>simp_all)
     rw[zi h1 (λz=>h2 (by
      rcases aN.mp z with z|z
      .simp [z]
      .rcases aN.mp z with z|z
       .simp [z]
       .rcases aL.mp z with z|z
        .simp [z]
        .exact absurd (by simpa using z) nb))]
     show E6 _ _ c5 h3
    show(hA.mono key λb hb o e=>?_).snoc (bs:=bs) ?_ (I.mono λb o e=>?_)
    .let M:b≠l:=λz=>a0 (z▸hb);show E6 _ _ (by simp[M,(a3 b hb).2]) e
    .rw [zD a8];show a7
    .let⟨h1,h2,h3⟩:=xZ e;let M:b≠l:=λz=>by rw[z,l5]at h1;cases h1
     let a9:b≠t:=λz=>h2 (by simp[z]);let c6:b≠a:=λz=>h2 (by simp[z]);let b5:g b=Sb:=e5.none (by simpa using a9) h1
     rw[zi (EH.none (by simp[M,a9]) b5) (by
      intro z;rcases aN.mp z with z|z
      .exact M z
      .rcases aN.mp z with z|z
       .exact a9 z
       .rcases aL.mp z with z|z
        .let⟨j,hj,e⟩:=cO z;let⟨_,c4,_,L,_⟩:=hA.get (i:=j) (a:=b) (by rw[aF hj,e]);rw[b5]at L;cases L
        .exact c6 (by simpa using z)),zD M]
     show h3
  show⟨len2 (by change 2<=1000;decide),λp hp=>?_⟩;let np:p≠t:=T'.ne hp;k_go;show zj (T'.ext (.laid (ts:=[]) hp) ∅) ∎ ⋯ ⋯ λr2 H4 a2 b2 T4 c7 k4=>?_;let hL:SqL K H4 p [V.int 4,V.int 10]:=SqL.of (by rw[k4 p np,zB]);obtain⟨d,d5,d6,ed⟩:∃d:Int,1<=d/\d<=10/\atI [V.int 4,V.int 10] r2=Sa (.int d):=by
   obtain h|h:r2=0\/r2=1:=by lia
   .exact⟨4,⋯,⋯,by rw[h];rfl⟩
   .exact⟨10,⋯,⋯,by rw[h];rfl⟩
  show za hL ed ?_;k_go;show zj T4 ∎ ∎ ∎ λr S c9 d0 T5 c8 _=>?_;let e5:Ext [t] g S:=((Ext.laid (ts:=[t]) hp).trans c7).trans c8;k_go;show yB (e5 _ _ (by simpa using C) R) ?_;k_go;show⟨t,_,1+r,B,_,n,rfl,T5,∎,∎,∎,T,U,∎,∎,∎,∎,λa w1 bs u ha G T6 e6 a5 a6 a7 I=>?_⟩;let⟨l6,b6⟩:=c0 (1+r) S u a w1 bs ∎ ∎ e5 ha G (T6.mono ∎) e6 a5 a6 a7 I _ _;k_go;show yO l6 (zV (by rw[aB];lia)) (hN_ _ _ b6)
 .rintro W g ⟨c,N,X,Y,rfl,b0,Z,D,a0,a3,b3,T',e',R,hA⟩;k_go;let d7:=hA.len;let eF:Ext [t] H g:=((e4.mo).trans e' |>.drop b9);let b7:∀w∈N,∃m:Int,1<=m/\m<=10/\WorkOk m (N.length:Int) w:=by rw[show((N.length:Nat):Int)=n by lia];show Z
  show q l N g (T'.mono ∎) eF (DenE.den (.list R (qP4 hA yo_same))) ⟨λw hw=>?_,∎,∎⟩ ∎ (λw hw=>?_) D
  .let⟨m,m1,m2,m3⟩:=b7 w hw;show⟨m,m1,∎,m3⟩
  .let⟨m,m1,m2,m3⟩:=b7 w hw;let:=m3.len;lia
noncomputable abbrev qXv:Sr:=top 50
theorem qWd(F:Fun K "_law_cost" "_law_cost" qXv f fd)(B:mg "int"=Sb)(a0:Has P w K mg base "_law_ways" 2 ["_law_work_here"] (wg K)):FnOk P w K mg base CX0 3 f fd ["_law_work_here","_law_inside","_law_many","_law_prices_here","_law_shut_here"] (qR1 P w K):=by
 show F.go (N:=["_law_work_here","_law_inside","_law_many","_law_prices_here","_law_shut_here","_law_total","_law_way"]) fsc ?_;rintro b2 A a1 s H vs Q E hr ⟨wa,X,md,pr,sl,e,m,r,a,cs,b3,c,back,S,rfl,hW,a2,hm,a3,a4,a5,b4,b5,b6,b7,a6,q1,q2⟩;let hu:=zn hr
 refine⟨_,(zF (zL 5 zE)
  (zF (zy bJ rfl (ze (zI a0 hr ⋯ (zA (pv 0) zC))) (zJ 6)
  (zH (zm (zQ wBx (yJ xI (zM yF (pv 6) zE (λ_ _=>rfl)) (pv 1) rfl) (yJ xI (zM yF (pv 6) zE (λ_ _=>rfl)) (pv 1) rfl) (zO _)) (zF (zm (zQ (wBy hu) (pv 6) (pv 4) rfl) (zH (zN yD)) zx)
  (zH (zL 5 (zK zu (pv 5) (zK xC (qOd P w K rfl rfl rfl hu (pv 2) (pv 6) (λ_ _=>rfl)) (zM yF (pv 3) (yK wR (by rfl) B fJ (zA (yJ xI (zM yF (pv 6) zE (λ_ _=>rfl)) (pv 1) rfl) zC)) (λ_ _=>rfl))))))) zx)))
  (zH (zN (pv 5))))),?_⟩
 try dsimp only[zT,zY,yC,zv,zw]
 let⟨ts,C,D⟩:=a6;k_go;show⟨wa,e,m,r,rfl,hW,a2,hm,λlw H1 b8 n a7=>?_⟩;let⟨b9,us,ew,I,dU⟩:=(a7.mono yo_same).ofList;cases ew;let J:=dU.len;rw[aB]at J;let a8:=n.toSame.seq a3;let a9:=a4.keep n.toSame.tups λo q=>n.k q;let b0:=n.toSame.seqT a5;let L:=n.k C;let M:=D.mono n.toSame;generalize hg:(λw:Wy=>if isCut (inB a) w=Sc then cntW (Wk e) cs w*(if inB a w.1=Sc then back else c)else 0)=g;show⟨lw,rfl,⟨_,I⟩,yw (xs:=us) (λi l G=>∃(Y:Option V),l=[Sa (.ref wa),Sa (.ref X),Sa (.ref md),Sa (.ref pr),Sa (.ref sl),Sa (.int (sm ((Wk e).take i) g)),Y]/\Ext [] H1 G/\∀v∈(Wk e).take i,(isCut (inB a) v&&decide (v∈S))=Sd) ?_ ?_ ?_ ?_⟩
 .exact⟨Sb,rfl,.refl _ _,λv y=>by simp at y⟩
 .rintro i l G hi ⟨Y,rfl,d,j⟩;show d.toSame.seq I
 .rintro i x l G hx ⟨Y,rfl,d,j⟩ NN BB CC RR c0 c1 c2;let⟨p,b,Z,rfl,hb⟩:=dU.pairs hx;let O:p∈Wk e:=aK Z;let R:=d.toSame.seqT hb;let t:=d.toSame.seq a8;let T:(isCut (inB a) p&&decide (p∈S))=Sd->∀v∈(Wk e).take (i+1),(isCut (inB a) v&&decide (v∈S))=Sd:=λh v y=>by
   rw[zc Z]at y;rcases aL.mp y with z|z
   .exact j v z
   .rw [aE.mp z];show h
  k_go;show⟨X,_,rfl,.inl t,rfl,yp a,?_⟩;rw[show(if Sd=Sc then !inV (V.int p.1) (a.map V.int)else inV (V.int p.1) (a.map V.int))=inB a p.1 from yn _ a];k_go;show⟨X,_,rfl,.inl t,rfl,yp a,?_⟩;rw[show(if Sd=Sc then !inV (V.int p.2) (a.map V.int)else inV (V.int p.2) (a.map V.int))=inB a p.2 from yn _ a];show⟨rfl,?_⟩;let U:(!decide (V.bl (inB a p.1)=V.bl (inB a p.2)))=isCut (inB a) p:=by
   unfold isCut;cases inB a p.1<;>cases inB a p.2<;>rfl
  rw[U];k_go;cases hc:isCut (inB a) p with
  |false=>
   cbv;let u:sm ((Wk e).take (i+1)) g=sm ((Wk e).take i) g:=by rw[zc Z,qR4,<-hg];simp only[hc];simp
   show⟨Sa (.ref b),by rw[u];rfl,d,T (by rw[hc];rfl)⟩
  |true=>
   kt_k;k_go;show wC6 (SqL.of (d.k L)) (M.mono d.toSame) R ?_;k_go;by_cases hS:p∈S
   .rw [decide_eq_true hS];kt_k;k_go;show q2 ?_ G (n.trans d);unfold lawP lawC;rw[if_pos (cG.mpr ⟨p,O,by change(isCut (inB a) p&&decide (p∈S))=Sc;rw[hc,decide_eq_true hS];rfl⟩)]
   .rw [decide_eq_false hS];cbv;unfold tTGet;k_go;show qRx (a9.keep d.toSame.tups λo q=>d.k q) R O ?_;k_go;show⟨X,_,rfl,.inl t,rfl,yp a,?_⟩;rw[show(if Sd=Sc then !inV (V.int p.1) (a.map V.int)else inV (V.int p.1) (a.map V.int))=inB a p.1 from yn _ a];k_go;show .inr ⟨_,rfl,?_⟩;let b1:atI [V.int c,V.int back] (if inB a p.1=Sc then (1:Int)else 0)=Sa (.int (if inB a p.1=Sc then back else c)):=by
     cases inB a p.1<;>rfl
    show zo (d.toSame.seqT b0) b1 ?_;show ym (.inr ⟨by split<;>lia,by split<;>lia⟩) ?_;k_go;let u:sm ((Wk e).take (i+1)) g=sm ((Wk e).take i) g+cntW (Wk e) cs p*(if inB a p.1=Sc then back else c):=by rw[zc Z,qR4,<-hg];simp only[hc,if_true]
    show⟨Sa (.ref b),by rw[u];rfl,d,T (by rw[decide_eq_false hS,Bool.and_false])⟩
 .rintro l G ⟨Y,rfl,d,j⟩;rw[J,aZ]at j ⊢;k_go;show q1 _ ?_ G (n.trans d);unfold lawP lawC;rw[if_neg (λz=>?_),<-hg];let⟨v,y,W⟩:=cG.mp z;let:=j v y;rw[this]at W;cases W
noncomputable abbrev qRj:Sr:=top 51
theorem qT7(F:Fun K "_law_lists" "_law_lists" qRj f fd)(O:mg "list"=Sb)(C:mg "range"=Sb)(a0:mg "len"=Sb)(o:mg "sorted"=Sb):FnOk P w K mg base CX0 1 f fd ["_law_work_here","_law_some"] (qQz K):=by
 show F.go (N:=["_law_work_here","_law_some","_law_found","_law_block"]) fsc ?_;rintro c5 A a8 s H r Q E hr ⟨wa,sa,us,bs,rfl,a9,c6,a1,S,D,q⟩;let hu:=zn hr
 refine⟨_,(zF (zL 2 (zW (zA (yK wT (by rfl) O cP (zA (pv 1) zC)) zC)))
  (zF (zy bJ rfl (xO rfl C (zA (zd yV (by rfl) a0 cV (zA (pv 0) zC)) zC)) (zJ 3)
  (zH (zm (zQ (qYc K rfl) (pv 3) (pv 1) rfl) (zH (zL 2 (zK yu (pv 2) (yE ["_law_one"] [3] (ze (pv 2)) (λ_ _ _ _=>(zJ 0)) (λ_ _ _ _=>.nil) (λ_ _ _ _=>(zd (qN3 K rfl) (by rfl) o cQ (zA (zK yu (pv 0) (zW (zA (pv 1) zC))) zC))))))) zx)))
  (zH (zN (pv 2))))),?_⟩
 try dsimp only[zT,zY,yC,zv,zw]
 let b0:=iz S;let b1:=yP (l2:=(List.range us.length).map λ(i:Nat)=>(i:Int)) b0 λy T=>bC.mpr ⟨y.toNat,bH.mpr (by let:=D y T;lia),by let:=D y T;lia⟩;rw[aB,cR]at b1;fin2;show⟨sa,_,rfl,.inl a1,λB b2=>?_⟩;let e0:Ext [] H (upd H B (.lst (bs.map V.int))):=.laid b2;let h0:upd H B (.lst (bs.map V.int)) B=Sa (.lst (bs.map V.int)):=zB;generalize upd H B (.lst (bs.map V.int))=H0 at e0 h0 ⊢;fin2;show⟨len2 (by change 1<=1000;decide),λY a2=>?_⟩;let e1:Ext [] H (upd H0 Y (.lst [.ref B])):=e0.trans (.laid a2);let h1:upd H0 Y (.lst [.ref B]) Y=Sa (.lst [.ref B]):=zB;let d1:DenEL (upd H0 Y (.lst [.ref B])) ([bs].map intsD) [.ref B]:=.cons (.list (Ext.laid (ts:=[]) a2 _ _ ∅ h0) (DenEL.ofInts bs)) .nil
 generalize upd H0 Y (.lst [.ref B])=H1 at e1 h1 d1 ⊢;fin2;show⟨wa,us,rfl,.inl (e1.toSame.seq a9),?_⟩;show⟨_,rfl,∎,∎,we (lo:=0) (n:=us.length) (λi d G=>∃(L:Sf)(r:List V)(ls:List (List Int))(o3:Option V),d=[Sa (.ref wa),Sa (.ref sa),Sa (.ref L),o3]/\Ext [] H G/\G L=Sa (.lst r)/\DenEL G (ls.map intsD) r/\ls.length<=2^i/\∀x,x∈ls↔vB bs i x) ?_ ?_ ?_⟩
 .refine⟨Y,_,[bs],Sb,rfl,e1,h1,d1,aI _,λx=>?_⟩;rw[aE];constructor
  .rintro rfl;show⟨S,λ_ h=>h,λ_ h=>.inl h⟩
  .rintro⟨a,b,c⟩;show riseq a S λn=>⟨λh=>(c n h).elim id λz=>by lia,b n⟩
 .rintro i d G hi ⟨L,r,ls,o3,rfl,eG,m,Z,b3,u⟩ NN BB CC RR c7 c8 c9;let a3:=Z.len;rw[aB]at a3;let a4:(2:Nat)^(i+1)<=2^12:=Nat.pow_le_pow_right ⋯ ∎;let d0:(2:Nat)^(i+1)=2*2^i:=by rw[Nat.pow_succ];lia
  fin2;rw[iD];show⟨sa,_,rfl,.inl (eG.toSame.seq a1),rfl,yp bs,?_⟩;rw[show(if Sc=Sc then !inV (V.int (i:Int)) (bs.map V.int)else inV (V.int (i:Int)) (bs.map V.int))=!decide ((i:Int)∈bs)by rw[if_pos rfl,yn]];fin2;by_cases v:(i:Int)∈bs
  .rw [decide_eq_true v];kj_on;fin2;show⟨L,r,ls,_,rfl,eG,m,Z,∎,λx=>(u x).trans (qRt v x)⟩
  rw[decide_eq_false v];kt_k;fin2;show⟨L,rfl,⟨_,SqL.of m⟩,λU I=>?_⟩;show zr (xs:=r) (λj d l=>∃(o0:Option V)(ws:List V),d=[o0,Sa (.int i)]/\Ext [U] G l/\l U=Sa (.lst ws)/\DenEL (wo [U] l) (((ls.take j).map (insR i)).map intsD) ws) ?_ ?_ ?_ ?_
  .exact⟨Sb,[],rfl,.laid I,zB,.nil⟩
  .rintro j d l hj ⟨o0,ws,rfl,e2,J,g⟩;show SqL.of ((e2.drop I).k m)
  .rintro j y d l R T ⟨o0,ws,rfl,e2,J,g⟩ hR;let⟨dd,b4,b5⟩:=Z.get T;let⟨x,hx,rfl⟩:=zX b4;let⟨xa,xv,rfl,b6,b7⟩:=b5.ofListE;let:=b7.ints;subst this;let⟨rx,bx,cx⟩:=(u x).mp (aK hx);let b8:(i:Int)∉x:=λz=>(cx _ z).elim v λz=>by lia
   let b9:=yP (l2:=(List.range us.length).map λ(i:Nat)=>(i:Int)) (iz rx) λy T=>bC.mpr ⟨y.toNat,bH.mpr (by rcases cx y T with z|z;let:=D y z;lia;lia),by rcases cx y T with z|z;let:=D y z;lia;lia⟩;rw[aB,cR]at b9;fin2;kt_k;fin2;show⟨len2 (by change 1<=1000;decide),λt ht=>?_⟩;let x1:Ext [] l (upd l t (.lst [.int i])):=.laid ht;let t1:upd l t (.lst [.int i]) t=Sa (.lst [.int i]):=zB;generalize upd l t (.lst [.int i])=G3 at x1 t1 ⊢;let a5:=(e2.drop I).k b6;show⟨xa,t,_,_,rfl,rfl,x1.k a5,t1,len2 (by rw[aB];change _+1<=1000;lia),λp hp=>?_⟩;let x2:Ext [] l (upd G3 p (.lst (x.map V.int++[.int i]))):=x1.trans (.laid hp)
   let p2:upd G3 p (.lst (x.map V.int++[.int i])) p=Sa (.lst ((x++[(i:Int)]).map V.int)):=by rw[zB,aH];rfl
   generalize upd G3 p (.lst (x.map V.int++[.int i]))=G4 at x2 p2 ⊢;fin2;show⟨p,x++[(i:Int)],rfl,SqL.of p2,by rw[aJ,bE];lia,λsr c0 a6 a7 c1=>?_⟩;let c2:(x++[(i:Int)]).Nodup:=by
    rw[cT];show⟨iz rx,∅,λa ha b hb e=>?_⟩;rw[aE.mp hb]at e;show b8 (e▸ha)
   let c3:c0=insR i x:=riseq (iy c1 (a7.symm.nodup c2)) (oA rx) λn=>by
    rw[a7.mem_iff,mem_insR,aL,aE];show or_comm
   subst c3;let W:=g.len;rw[aB,aB,aV]at W;let M:=x2.k J;let X:sr≠U:=(zG M a6).symm;let x3:Ext [U] l (upd (upd G4 sr (.lst ((insR i x).map V.int))) U (.lst (ws++[.ref sr]))):=((x2.mo).trans (.laid a6)).trans .pt;show⟨ws,by rw[zD X.symm];show M,by rw[cK];lia,hR _ _ ⟨_,ws++[.ref sr],rfl,e2.trans x3,zB,?_⟩⟩;rw[zc hx,aH,aH];show DenEL.append (g.mono x3.same) (.cons (.list ?_ (DenEL.ofInts _)) .nil);rw[xR (by simpa using X),zD X,zB]
  .rintro d l ⟨o0,ws,rfl,e2,J,g⟩;rw[a3,aZ]at g;let W:=g.len;rw[aB,aB]at W;let E2:=e2.drop I;show⟨L,U,r,ws,rfl,rfl,E2.k m,J,by rw[cK];lia,λf1 c4=>?_⟩;let x3:Ext [] l (upd l f1 (.lst (r++ws))):=.laid c4;fin2;show⟨f1,r++ws,ls++ls.map (insR i),_,rfl,eG.trans (E2.trans x3),zB,?_,by rw[aJ,aB];lia,qRu v u⟩;rw[aH];show DenEL.append (Z.mono (E2.trans x3).toSame) ((g.mono (vU _ _)).mono x3.toSame)
 .rintro d G ⟨L,r,ls,o3,rfl,eG,m,Z,b3,u⟩;fin2;let a4:(2:Nat)^us.length<=2^12:=Nat.pow_le_pow_right ⋯ ∎;show q L r ls G eG m Z.den u ∎
noncomputable abbrev qXu:Sr:=top 53
theorem qWb(F:Fun K "_law_shut" "_law_shut" qXu f fd)(hD:Has P w K mg base "_law_draw" 1 ["_law_tape_here","_law_many"] yl)(b7:Has P w K mg base "_law_ways" 2 ["_law_work_here"] (wg K)):FnOk P w K mg base CX0 3 f fd ["_law_tape_here","_law_work_here"] (qXl K):=by
 show F.go (N:=["_law_tape_here","_law_work_here","_law_ways_here","_law_way","_law_found"]) fsc ?_;rintro c8 A b8 s H vs Q E M ⟨t,wa,k,wk,m,D,rfl,I,hk,hW,Y,hm,q⟩;let hu:=zn M
 refine⟨_,(zF (xA (zg (zA (zI b7 M ⋯ (zA (pv 1) zC)) (zA (zI hD M ⋯ (zA (pv 0) (zA zE zC))) zC))) (yM (n:=2) rfl (zR (zJ 2) (zR (zJ 3) zp))))
  (zF (wE 4 ["_law_one"] [0,3] (ze (pv 2)) (λ_ _ _ _=>(zJ 0)) (λ_ _ _ _=>.cons (PW.pt (uC (PW.pt (yb (zQ yA (pv 2) zE (zO _)) (yg (zQ yA (zI hD M ⋯ (zA (pv 1) (zA zE zC))) zE (zO _))))) (uB (PW.pt (yb (zQ yA (pv 2) zE (zO _)) (yg (zQ yA (zI hD M ⋯ (zA (pv 1) (zA zE zC))) zE (zO _)))))))) .nil) (λ_ _ _ _=>(pv 0)))
  (zH (zN (yh (zQ yA (zI hD M ⋯ (zA (pv 0) (zA zE zC))) zE (zO _)) (wBt (pv 4) (xB xD zE)) (pv 4)))))),?_⟩
 try dsimp only[zT,zY,yC,zv,zw]
 let⟨ta,tb,tc,b9,c7⟩:=id I;let c9:=Den.off b9 (jz wk) hW;let c0:=kL Y hm;k_go;show⟨wa,wk,m,D,rfl,hW,Y,hm,λJ H1 c1 e1 c2=>?_⟩;let⟨d0,us,ew,c3,dU⟩:=(c2.mono yo_same).ofList;cases ew;let Z:=dU.len;rw[aB]at Z;let c4:us.length<=25:=by rw[Z];show c0
 let T1:=I.ext e1 ∅;let a0:J≠t:=I.ne c1;k_go;show zj T1 ∎ ⋯ ⋯ λj H2 a1 b1 T2 e2 k2=>?_;k_go;show⟨len2 (by change 2<=1000;decide),λtp a2=>?_⟩;let e3:Ext [] H2 (upd H2 tp (.tup [.ref J,.int j])):=.laid a2;let h3:upd H2 tp (.tup [.ref J,.int j]) tp=Sa (.tup [.ref J,.int j]):=zB;let T3:=T2.ext e3 ∅;generalize upd H2 tp (.tup [.ref J,.int j])=O at e3 h3 T3 ⊢;let E3:Ext [t] H1 O:=e2.trans (e3.mo);let a3:∀y∈[t],NoT H1 y:=λy hy zs z=>by
  rw[aE.mp hy]at z;let⟨_,_,_,z2,_⟩:=id T1;rcases z with z|⟨o,z⟩<;>(rw[z2]at z;cases z)
 let c5:=dU.overP E3 a3;let B:SqL K O J us:=c3.keepN E3 (by simpa using a0);show zt (SqT.of h3) rfl ?_;k_go;show⟨J,rfl,⟨_,B⟩,λh c=>?_⟩;let d:h≠t:=T3.ne c;let a6:Ext [t] H O:=(e1.mo).trans E3;let a7:H h=Sb:=a6.none (by simpa using d) c;show zr (xs:=us) (λi l G=>∃(T:Option V)(a:List V)(S:List Wy),l=[T,Sa (.ref t),Sa (.int j)]/\Ext [h,t] O G/\G h=Sa (.lst a)/\DenL K O (S.map pairD) a/\(∀v∈S,v∈Wk wk)/\S.length<=i/\Tape G t (k+1+2*i)) ?_ ?_ ?_ ?_
 .exact⟨Sb,[],[],rfl,.laid c,zB,.nil,∅,aI _,(T3.ext (ts:=[]) (.laid c) ∅).mono ∎⟩
 .rintro i l G hi ⟨T,a,S,rfl,U,e,W,X,a8,TG⟩;show B.keepN (U.drop c) (by simpa using a0)
 .rintro i x l G R hx ⟨T,a,S,rfl,U,e,W,X,a8,TG⟩ hR;let⟨p,b,hp,rfl,hb⟩:=c5.pairs hx;let hi:i<us.length:=(aD.mp hx).1;let r:=W.len;rw[aB]at r;let a9:∀(u:Hp),Ext [t] G u->Tape u t (k+1+2*(i+1))->eApp (tVar 0) h ([T,Sa (V.ref t),Sa (.int j)].set 0 (Sa (.ref b))) u R:=λu e' T'=>by
   let b0:=e' _ _ (by simpa using d) e;show L2.wc (yd (v:=.ref b) rfl ?_);show⟨a,b0,zV ∎,hR _ _ ⟨_,a++[.ref b],S++[p],rfl,(U.trans (e'.mo)).trans .pt,zB,?_,λv L=>?_,by rw[aJ,bE];lia,T'.ext (ts:=[h]) .pt (by simpa using d.symm)⟩⟩
   .rw [aH];show DenL.append W (.cons (denP hb) .nil)
   .rcases aL.mp L with z|z
    .exact X v z
    .rw [aE.mp z];show aK hp
  let no:∀(u:Hp),Ext [t] G u->Tape u t (k+1+2*(i+1))->R ([T,Sa (V.ref t),Sa (.int j)].set 0 (Sa (.ref b))) u:=λu e' T'=>
   hR _ _ ⟨_,a,S,rfl,U.trans (e'.mo),e' _ _ (by simpa using d) e,W,X,∎,T'⟩
  k_go;show yH ?_;k_go;by_cases h1:j=1
  .rw [decide_eq_true h1];kt_k;k_go;show zj TG ∎ ⋯ ⋯ λr4 H4 a4 b4 T4 e4 k4=>?_;k_go;show yH ?_;k_go;by_cases h4:r4=0
   .rw [decide_eq_true h4];kt_k;k_go;kt_k;kt_k;show a9 H4 e4 (T4.mono ∎)
   .rw [decide_eq_false h4];cbv;show yH ?_;k_go;rw[decide_eq_false ∎];cbv;kj_on;kj_on;show no H4 e4 (T4.mono ∎)
  .rw [decide_eq_false h1];cbv;cbv;show yH ?_;k_go;by_cases h2:j=2
   .rw [decide_eq_true h2];kt_k;k_go;show zj TG ∎ ⋯ ⋯ λr4 H4 a4 b4 T4 e4 k4=>?_;k_go;show yH ?_;k_go;by_cases h4:r4=0
    .rw [decide_eq_true h4];kt_k;kt_k;show a9 H4 e4 (T4.mono ∎)
    .rw [decide_eq_false h4];kj_on;kj_on;show no H4 e4 (T4.mono ∎)
   .rw [decide_eq_false h2];cbv;kj_on;kj_on;show no G (.refl _ _) (TG.mono ∎)
 .rintro l G ⟨T,a,S,rfl,U,e,W,X,a8,TG⟩;let b2:∀y∈[t],NoT O y:=λy hy zs z=>by
   rw[aE.mp hy]at z;let⟨_,_,_,z2,_⟩:=id T3;rcases z with z|⟨o,z⟩<;>(rw[z2]at z;cases z)
  let b3:=U.drop c;let dG:=W.overP b3 b2;let EG:=a6.trans b3;k_go;show zj TG ∎ ⋯ ⋯ λr5 H5 a5 b5 T5 e5 k5=>?_;let C:H5 h=Sa (.lst a):=e5 _ _ (by simpa using d) e;let b6:∀y∈[t],NoT G y:=λy hy zs z=>by
   rw[aE.mp hy]at z;let⟨_,_,_,z2,_⟩:=id TG;rcases z with z|⟨o,z⟩<;>(rw[z2]at z;cases z)
  let d5:=dG.overP e5 b6;let E5:=EG.trans e5;k_go;show yH ?_;k_go;by_cases h5:r5=0
  .rw [decide_eq_true h5];kt_k;show yd (v:=.ref h) rfl ?_;k_go;show⟨rfl,h,a,rfl,.inl ⟨SqL.of C,λlr g=>?_⟩⟩;let c6:lr≠t:=T5.ne g;show q lr a.reverse S.reverse _ (E5.none (by simpa using c6) g) ((T5.ext (ts:=[]) (.laid g) ∅).mono ∎) (E5.trans (.laid g)) zB ?_ (λv L=>X v (List.mem_reverse.mp L)) (by rw[fD];lia);let d6:=d5.mono (Ext.laid (ts:=[]) (o:=.lst a.reverse) g).toSame;let r:=d5.len;rw[aB]at r;show denPs _ _ (by rw[fD,fD];show r) λi v p L hp=>?_;let hi:=(aD.mp L).1;rw[fD]at hi;rw[List.getElem?_reverse hi]at L
   rw[List.getElem?_reverse ∎]at hp;let⟨p',b,h1,h2,h3⟩:=d6.pairs L;rw[show S.length-1-i=a.length-1-i by lia,h1]at hp;cases hp;show⟨b,h2,h3⟩
  .rw [decide_eq_false h5];cbv;show q h a S H5 a7 (T5.mono ∎) E5 C d5 X ∎
noncomputable abbrev oQ:Sr:=top 52
theorem scLBest:FnScope ["_law_works","_law_number_here","_law_box","_law_counts_here","_law_prices_here","_law_shut_here","_law_work_here","_law_best","_law_many","_law_one","_law_price"] ["_law_works","_law_number_here","_law_box","_law_counts_here","_law_prices_here","_law_shut_here"] (zq oQ):=fsc
theorem qWf(F:Fun K "_law_cheapest" "_law_cheapest" oQ f fd)(b1:mg "zip"=Sb)(a2:mg "dict"=Sb)(d1:Has P w K mg base "_law_ways" 2 ["_law_work_here"] (wg K))(d2:Has P w K mg base "_law_busy" 3 ["_law_works","_law_number_here","_law_box"] (wt K))(d3:Has P w K mg base "_law_lists" 1 ["_law_work_here","_law_some"] (qQz K))(d4:Has P w K mg base "_law_cost" 3 ["_law_work_here","_law_inside","_law_many","_law_prices_here","_law_shut_here"] (qR1 P w K)):FnOk P w K mg base CX0 4 f fd ["_law_works","_law_number_here","_law_box","_law_counts_here","_law_prices_here","_law_shut_here"] (qXp P w K):=by
 show F.go scLBest ?_;rintro h0 A d5 s H vs Q E hr ⟨wa,cl,pr,sl,n,x,ws,p,S,cs,a1,back,rfl,hI,d6,b3,d7,d8,d9,e0,e5,q⟩;let hu:=zn hr
 refine⟨_,(zF (vG (i:=6) (j:=7) rfl scLBest.nd rfl rfl ⋯ rfl rfl (zA (zM zZ (pv 0) (pv 1) (λ_ _=>rfl)) (zA yD zC)) rfl)
  (zF (zL 8 (qSt hr (by rfl) a2 (by rfl) b1 (zA (zI d1 hr ⋯ (zA (pv 6) zC)) (zA (pv 3) zC))))
  (zF (zy bJ rfl (ze (zI d3 hr ⋯ (zA (pv 6) (zA (zI d2 hr ⋯ (zA (pv 0) (zA (pv 1) (zA (pv 2) zC)))) zC)))) (zJ 9)
  (zF (zL 10 (zI d4 hr ⋯ (zA (pv 6) (zA (pv 9) (zA (pv 8) (zA (pv 4) (zA (pv 5) zC)))))))
  (zF (zm (PW.pt (yb (zQ xW (pv 10) yD (zO _)) (yg (PW.pt (uC (zQ vK (pv 7) yD (zO _)) (uB (zQ xj (pv 10) (zM yF (pv 7) zE (λ_ _=>rfl)) (zO _)))))))) (zH (zL 7 (zg (zA (pv 10) (zA (zW zC) zC))))) zx)
  (zH (zm (PW.pt (yb (zQ xW (pv 10) yD (zO _)) (yg (zQ yA (pv 10) (zM yF (pv 7) zE (λ_ _=>rfl)) (zO _))))) (zH (yL (yN bD bX bY yi (zM yF (pv 7) zE (λ_ _=>rfl)) (zA (pv 9) zC)))) zx)))))
  (zH (zN (pv 7)))))),?_⟩
 try dsimp only[zT,zY,yC,zv,zw]
 let⟨m,h3,b4,D⟩:=hI.ok.all p (aK hI.at_);let⟨a',h4,ea,e6,e7⟩:=hI.hW.ofList;cases ea;let⟨vw,e8,a3⟩:=e7.get' (i:=n) (d:=workD p) (by rw[bA,hI.at_];rfl);let⟨wb,b5,rfl,e9,b6⟩:=a3.ofList;let a4:b5.length=p.length:=by rw[b6.len,aB]
 let h5:=D.len;let⟨ts,b7,b8⟩:=hI.sl;let b9:(Wk p).Nodup:=vj (wK D);k_go;show za e6 (zf e8) ?_;k_go;show⟨_,_,rfl,?_⟩;k_go;unfold tDZ;k_go;show⟨wb,p,m,_,rfl,a3,D,b4,λlw H1 h6 e1 f0=>?_⟩;let⟨h7,us,ew,f1,dU⟩:=(f0.mono yo_same).ofList;cases ew;let⟨r,rfl,a5⟩:=ux dU;let a6:=a5.len;k_go;show⟨lw,cl,tabK (Wk p) r,cs,rfl,by rw[qK2 a6];show f1,e1.toSame.seq d6,uz a5,by rw[uy a6];show ig b9,by rw[ie a6];show b3.symm,λU f2=>?_⟩;let e2:Ext [] H1 (upd H1 U (tabO P w (tabK (Wk p) r) cs)):=.laid f2;let tb:TabW P w K (upd H1 U (tabO P w (tabK (Wk p) r) cs)) U (Wk p) r cs:=⟨zB,a5.mono e2.toSame.tups,b3,b9⟩
 show(show gName 8 (V.ref U) _ (upd H1 U (tabO P w (tabK (Wk p) r) cs)) _ from ?_);generalize upd H1 U (tabO P w (tabK (Wk p) r) cs)=H2 at e2 tb ⊢;let E2:=e1.trans e2;k_go;show⟨wa,ws,n,p,x,rfl,hI.hW.mono E2.toSame,hI.ok,hI.at_,λst ss H3 h8 e3 c0 f3 f4 X=>?_⟩;let E3:=E2.trans e3;k_go;show⟨wb,st,b5,ss,rfl,E3.toSame.seq e9,∎,SqL.of c0,iy f3 f4,λy hy=>by rw[a4];show xT D ((X y).mp hy),λl0 vs g G0 e4 c1 d0 f5 f6=>?_⟩;let E4:=E3.trans e4;let c2:∀x',x'∈g↔Rise x'/\(∀y,BusyP ws n p x y->y∈x')/\∀y∈x',0<=y/\y<(p.length:Int):=λx'=>by
  rw[f5 x'];constructor
  .rintro⟨r1,r2,r3⟩;show⟨r1,λy hy=>r2 y ((X y).mpr hy),λy hy=>?_⟩;rcases r3 y hy with z|z
   .exact xT D ((X y).mp z)
   .rw [a4]at z;show z
  .rintro⟨r1,r2,r3⟩;show⟨r1,λy hy=>r2 y ((X y).mp hy),λy hy=>.inr (by rw[a4];show r3 y hy)⟩
 let⟨q1,q2⟩:=q g c2 f6;let c3:=d0.len;rw[aB]at c3;let f7:=tb.keep (e3.trans e4).toSame.tups λo q=>(e3.trans e4).k q;generalize f8:lawP p cs a1 back S=C at q1 q2
 refine⟨l0,rfl,⟨_,SqL.of c1⟩,yw (xs:=vs) (λi Y G => ∃(vb:V) (o9 Z:Option V),Y = [Sa (.ref wa),Sa (.int n),Sa (.int x),Sa (.ref cl),Sa (.ref pr),Sa (.ref sl),Sa (.ref wb),Sa vb,Sa (.ref U),o9,Z]/\Ext [] G0 G /\
  ((vb=.non/\∀y∈g.take i,C y=Sb)\/∃b l v us,vb=.ref b/\G b=Sa (.tup [.int v,.ref l])/\G0 l=Sb/\G l=Sa (.lst us)/\DenL K G0 ((costs C (g.take i) v).map intsD) us/\oB C (g.take i) v)) ?_ ?_ ?_ ?_⟩
 .exact⟨.non,Sb,Sb,rfl,.refl _ _,.inl ⟨rfl,λy hy=>by simp at hy⟩⟩
 .rintro i Y G hi ⟨vb,o9,Z,rfl,M,_⟩;show SqL.of (M.k c1)
 .rintro i y Y G hy ⟨vb,o9,Z,rfl,M,N⟩ NN BB CC RR f9 h9 i0;let⟨dd,g0,c4⟩:=d0.get hy;let⟨xi,c5,rfl⟩:=zX g0;let⟨xa,xv,rfl,g1,g2⟩:=id c4.ofList;let:=g2.ints;subst this;let hi:i<g.length:=(aD.mp c5).1;let O:g.take (i+1)=g.take i++[xi]:=zc c5;let a7:∀v,costs C (g.take (i+1)) v=costs C (g.take i) v++(if C xi=Sa v then [xi]else []):=λv=>by
   unfold costs;rw[O,cD]
   congr 1
   by_cases z:C xi=Sa v
   .simp [z]
   .simp [z]
  let g3:∀(v:Int)(us:List V),DenL K G0 ((costs C (g.take i) v).map intsD) us->us.length<=4096:=λv us h=>by
   rw[h.len,aB];show cA (bM _ _) ?_;rw[aV];lia
  let EG:=E4.trans M;let i1:=e1;show L2.yR ?_;show L2.g10 (by assumption) ?_;show L2.ww ?_;intro N1 g4;show L2.uS ?_;k_go;show⟨wb,xa,U,pr,sl,p,m,_,xi,cs,r,a1,back,S,rfl,a3.mono EG.toSame,D,b4,M.toSame.seq g1,f7.keep M.toSame.tups λo q=>M.k q,EG.toSame.seqT d7,d8,d9,e0,e5,⟨ts,EG.k b7,b8.mono EG.toSame⟩,λu e G1 x1=>?_,λe G1 x1=>?_⟩
  all_goals rw[f8]at e
  all_goals have a0:=M.trans x1
  case refine_2=>
   k_in;rw[decide_eq_true rfl];k_go;kj_on;kj_on;k_in;rw[decide_eq_true rfl];k_go;kj_on;cbv;show⟨vb,_,_,rfl,a0,?_⟩;rcases N with ⟨R,L⟩|⟨b,l,v,us,R,L,z3,z4,z5,z6,z7⟩
   .refine .inl ⟨R,λy hy=>?_⟩;rw[O]at hy;rcases aL.mp hy with hy|hy
    .exact L y hy
    .rw [aE.mp hy];show e
   .refine .inr ⟨b,l,v,us,R,x1.k L,z3,x1.k z4,?_,?_,λy hy u a8=>?_⟩
    .rw [a7,e,if_neg ∅,bS];show z5
    .let⟨y,y1,y2⟩:=z6;show⟨y,by rw[O];show aY _ y1,y2⟩
    .rw [O]at hy;rcases aL.mp hy with hy|hy
     .exact z7 y hy u a8
     .rw [aE.mp hy,e]at a8;cases a8
  refine L2.yR ?_;refine L2.zk g4 ?_;refine L2.ww ?_;intro N2 g5;let c6:∀(G':Hp) (b' a:Sf) (t:Int) (I:List V),Ext [] G0 G'->G' b'=Sa (.tup [.int t,.ref a])->G0 a=Sb->G' a=Sa (.lst I)->DenL K G0 ((costs C (g.take i) t).map intsD) I->t<=u->(∀y∈g.take i,∀z,C y=Sa z->t<=z)->(t=u \/ ∃y∈g.take i,C y=Sa t) ->
    N2 [Sa (.ref wa),Sa (.int n),Sa (.int x),Sa (.ref cl),Sa (.ref pr),Sa (.ref sl),Sa (.ref wb),Sa (.ref b'),Sa (.ref U),Sa (.ref xa),Sa (.int u)] G':=by
   intro G' b' a t I e' J a9 c b0 g6 c7 g7;let T:oB C (g.take (i+1)) t:=by
    rw[O];show⟨?_,λy hy z W=>?_⟩
    .rcases g7 with h|⟨y,h1,h2⟩
     .exact⟨xi,∅,by rw[e,h]⟩
     .exact⟨y,aY _ h1,h2⟩
    .rcases aL.mp hy with hy|hy
     .exact c7 y hy z W
     .rw [aE.mp hy,e]at W;cases W;show g6
   show L2.zk g5 ?_;k_in;rw[decide_eq_false (by intro z;cases z)];kt_le;show zo (SqT.of J) (show atI [V.int t,V.ref a] ((0:Nat):Int)=Sa (V.int t)from zf rfl) ?_;k_go;show yH ?_;k_go;by_cases B:u=t
   .rw [decide_eq_true B];kt_k;k_go;show zo (SqT.of J) (show atI [V.int t,V.ref a] ((1:Nat):Int)=Sa (V.ref a)from zf rfl) ?_;show yB c ?_;k_go;let:=g3 t I b0;show yO c (by rw[cK];lia) ?_;let g8:b'≠a:=λz=>by rw[z,c]at J;cases J
    show zk f9 ⟨.ref b',_,_,rfl,((e'.mo (us:=[a])).trans .pt).drop a9,.inr ⟨b',a,t,I++[.ref xa],rfl,by rw[zD g8];show J,a9,zB,?_,T⟩⟩;rw[a7,if_pos (by rw[e,B]),aH];show DenL.append b0 (.cons c4 .nil)
   .rw [decide_eq_false B];cbv;show⟨.ref b',_,_,rfl,e',.inr ⟨b',a,t,I,rfl,J,a9,c,?_,T⟩⟩;rw[a7,if_neg (by rw[e];intro z;show B (bB z)),bS];show b0
  let new:(∀y∈g.take i,∀z,C y=Sa z->u<z)->tAsg (tTup (tCons (tVar 10) (tCons (tLst tNil) tNil))) (gName 7) {nx:=N2,rt:=RR,bk:=BB,ct:=CC} [Sa (.ref wa),Sa (.int n),Sa (.int x),Sa (.ref cl),Sa (.ref pr),Sa (.ref sl),Sa (.ref wb),Sa vb,Sa (.ref U),Sa (.ref xa),Sa (.int u)] G1:=by
   intro c8;k_go;show⟨len2 (bG _),λl c=>?_⟩;let x2:Ext [] G1 (upd G1 l (.lst [])):=.laid c;let b2:upd G1 l (.lst []) l=Sa (.lst []):=zB;generalize upd G1 l (.lst [])=G2 at x2 b2 ⊢;k_go;show⟨len2 (by change 2<=1000;decide),λb hb=>?_⟩;let x3:Ext [] G2 (upd G2 b (.tup [.int u,.ref l])):=.laid hb;show L2.yR ?_;show c6 _ b l u [] (a0.trans (x2.trans x3)) zB (a0.no c) (x3.k b2) ?_ (Int.le_refl _) (λy hy z W=>Int.le_of_lt (c8 y hy z W)) (.inl rfl);let:costs C (g.take i) u=[]:=by
    unfold costs;rw[List.filter_eq_nil_iff];intro y hy z;let:=c8 y hy u (by simpa using z);lia
   rw[this];show .nil
  show L2.uv ?_;intro NA NB c9 g9;k_in;rw[decide_eq_false (by intro z;cases z)];k_go;kt_k;k_in;rcases N with ⟨R,L⟩|⟨b,l,v,us,R,L,z3,z4,z5,z6,z7⟩
  .subst R;rw[decide_eq_true rfl];k_go;kt_k;kt_k;show L2.zk c9 (new λy hy z W=>by rw[L y hy]at W;cases W)
  .subst R;rw[decide_eq_false (by intro z;cases z)];k_go;cbv;show zo (SqT.of (x1.k L)) (show atI [V.int v,V.ref l] ((0:Nat):Int)=Sa (V.int v)from zf rfl) ?_;k_go;by_cases B:u<v
   .rw [decide_eq_true B];kt_k;show L2.zk c9 (new λy hy z W=>by let:=z7 y hy z W;lia)
   .rw [decide_eq_false B];kj_on;show L2.zk g9 ?_;show L2.xb ?_;show c6 G1 b l v us a0 (x1.k L) z3 (x1.k z4) z5 ∎ z7 (.inr z6)
 .rintro Y G ⟨vb,o9,Z,rfl,M,N⟩;rw[c3,aZ]at N;k_go;rcases N with ⟨R,L⟩|⟨b,l,v,us,R,L,z3,z4,z5,z6⟩
  .subst R;show q1 L G (E4.trans M)
  .subst R;show q2 b l v us G (E4.trans M) L z4 (z5.mono M.toSame) z6
noncomputable abbrev sLaw:Sr:=top 54
def kM(K:SH):Sp:=λvs H Q _=>∃(a:Sf)(ns:List Int),vs=[.ref a]/\SqL K H a (ns.map V.int)/\ns.length<=63/\∀H',Q (.bl Sc) H'
theorem wBz(F:Fun K "law" "law" sLaw f fd)(f8:mg "range" = Sb)(c9:mg "len" = Sb)(j2:mg "max" = Sb)(j3:mg "min" = Sb)(b6:mg "enumerate" = Sb)(j4:mg "int" = Sb)(j5:mg "isinstance" = Sb)(g7:mg "bool" = Sb)
  (hT:Has P w K mg base "_law_tape" 1 ["_law_script","_law_k"] (Qx K)) (hW:Has P w K mg base "_law_small_works" 5 ["_law_tape_here","_law_most"] (qQw K)) (m5:Has P w K mg base "_law_boxes" 2 ["_law_work_here"] (qNr K)) (m6:Has P w K mg base "_law_counts" 3 ["_law_tape_here","_law_work_here"] (qNq K)) (m7:Has P w K mg base "_law_prices" 2 ["_law_tape_here"] qNn) (m8:Has P w K mg base "_law_shut" 3 ["_law_tape_here","_law_work_here"] (qXl K))
  (m9:Has P w K mg base "_law_cheapest" 4 ["_law_works","_law_number_here","_law_box","_law_counts_here","_law_prices_here","_law_shut_here"] (qXp P w K)) (j6:Has P w K mg base "least_cost" 9 ["works","number","box","counts","prices","shut"] (qR0 K)) (n0:Has P w K mg base "_law_ways" 2 ["_law_work_here"] (wg K)) (n1:Has P w K mg base "_law_draw" 1 ["_law_tape_here","_law_many"] yl) :
  FnOk P w K mg base CX0 10 f fd ["_law_script"] (kM K):=by
 show F.go (N:=["_law_script","_law_k","_law_tape_here","_law_works","_law_number_here","_law_work_here","_law_boxes_here","_law_box","_law_counts_here","_law_prices_here","_law_shut_here","_law_best","_law_due","_law_found","_law_ways_here","_law_more","_law_other"]) fsc ?_;rintro r4 A n2 s H vs Q E hr ⟨a,ns,rfl,j7,q9,q⟩;let hu:=zn hr
 refine⟨_,(zF (zy bJ rfl (xO rfl f8 (zA (zd (oj rfl) (by rfl) j2 PyProof.Rows.boot_max (zA zE (zA (zd (qUu rfl) (by rfl) j3 PyProof.Rows.boot_min (zA (zd yV (by rfl) c9 cV (zA (pv 0) zC)) (zA zE zC))) zC))) zC)) (zJ 1)
  (zF (zL 2 (zI hT hr ⋯ (zA (pv 0) (zA (pv 1) zC))))
  (zF (zL 3 (zI hW hr ⋯ (zA (pv 2) (zA zE zC))))
  (zH (zy bJ rfl (xl rfl b6 (zA (pv 3) zC)) (yM (n:=2) rfl (zR (zJ 4) (zR (zJ 5) zp)))
  (zF (zL 6 (zI m5 hr ⋯ (zA (pv 5) zC)))
  (zH (zy bJ rfl (ze (yh (zQ xj (zd yV (by rfl) c9 cV (zA (pv 5) zC)) zE (zO _)) (pv 6) (xH uG (pv 6) xE (xG (zK xC zE (yK wR (by rfl) j4 fJ (zA (yJ yA (pv 1) zE (zO _)) zC))))))) (zJ 7)
  (zF (zL 8 (zI m6 hr ⋯ (zA (pv 2) (zA (pv 5) zC))))
  (zF (zL 9 (zI m7 hr ⋯ (zA (pv 2) zC)))
  (zF (zL 10 (zI m8 hr ⋯ (zA (pv 2) (zA (pv 5) zC))))
  (zF (zL 11 (zI m9 hr ⋯ (zA (pv 3) (zA (pv 4) (zA (pv 7) (zA (pv 8) (zA (pv 9) (zA (pv 10) zC))))))))
  (zF (zL 12 (yh (zQ vK (pv 11) yD (zO _)) yD (zM yF (pv 11) zE (λ_ _=>rfl))))
  (zF (zL 13 (zI j6 hr ⋯ (zA (pv 3) (zA (pv 4) (zA (pv 7) (zA (pv 8) (zA (pv 9) (zA (pv 10) zC))))))))
  (zF (zm (PW.pt (uC (zQ wBx (pv 13) (pv 12) (zO _)) (uB (yx K rfl (zd qX8 (by rfl) j5 (by decide +kernel) (zA (pv 13) (zA (qZo (v:=.ty "bool") rfl g7 PyProof.Rows.boot_bool rfl) zC))) (λ_=>rfl))))) (zH (zN yZ)) zx)
  (zF (zL 14 (zI n0 hr ⋯ (zA (pv 5) zC)))
  (zF (zL 15 (zK yu (pv 10) (yE ["_law_way"] [10] (ze (zW (zA (zM zZ (pv 14) (zI n1 hr ⋯ (zA (pv 2) (zA (zd yV (by rfl) c9 cV (zA (pv 14) zC)) zC))) (λ_ _=>rfl)) zC))) (λ_ _ _ _=>(zJ 0)) (λ_ _ _ _=>.cons (zQ (ninDK K rfl hr) (pv 0) (pv 1) rfl) .nil) (λ_ _ _ _=>(pv 0)))))
  (zF (zL 16 (zI j6 hr ⋯ (zA (pv 3) (zA (pv 4) (zA (pv 7) (zA (pv 8) (zA (pv 9) (zA (pv 15) zC))))))))
  (zF (zm (PW.pt (yb (zQ vK (pv 13) yD (zO _)) (yg (zQ xW (pv 16) yD (zO _))))) (zH (zN yZ)) zx)
  (zH (zm (PW.pt (yb (zQ xW (pv 13) yD (zO _)) (yb (zQ xW (pv 16) yD (zO _)) (yg (zQ xj (pv 16) (pv 13) (zO _)))))) (zH (zN yZ)) zx)))))))))))))))))))))
  (zH (zN yZ))),?_⟩
 try dsimp only[zT,zY,yC,zv,zw]
 k_go;show⟨a,_,rfl,.inl j7,?_⟩;rw[aB];k_go;show⟨_,_,rfl,?_⟩;k_go;show⟨_,_,rfl,?_⟩;generalize hN:(if (if (2:Int)<(ns.length:Int)then (2:Int)else (ns.length:Int))>1 then (if (2:Int)<(ns.length:Int)then (2:Int)else (ns.length:Int))else 1)=N;let r5:1<=N/\N<=2:=by
  rw[<-hN]
  repeat' split
  all_goals lia
 k_go;show⟨N,rfl,∎,∎,we (lo:=0) (n:=N.toNat) (λi c H'=>∃(o1 o2 o3 o4 o5 o6 o7 o8 o9 M g B D I J L:Option V),c=[Sa (.ref a),o1,o2,o3,o4,o5,o6,o7,o8,o9,M,g,B,D,I,J,L]/\Ext [] H H') ?_ ?_ ?_⟩
 .exact⟨_,_,_,_,_,_,_,_,_,_,_,_,_,_,_,_,rfl,.refl _ _⟩
 .rintro i c H' hi ⟨o1,o2,o3,o4,o5,o6,o7,o8,o9,M,g,B,D,I,J,L,rfl,e'⟩ N_ B_ C_ R_ hN_ hC_ hR_;k_go;show⟨a,ns,i,by change [V.ref a,V.int (0+(i:Int))]=[V.ref a,V.int (i:Int)];rw[iD],e'.toSame.seq j7,∎,λt H1 ht T1 s1=>?_⟩;k_go;show⟨t,0,3,rfl,T1,∎,⋯,⋯,λl ws H2 T2 e2 dW f9 r6 j8 r0=>?_⟩;let n3:Ext [t] H' H2:=(show Ext [t] H' H1 from λb o _ h=>s1 b o h).trans e2;let⟨ta,tb,tc,n4,r1⟩:=id T2;let j9:=Den.off n4 (qTg ws) dW;let⟨l',us,ee,k0,g4⟩:=j9.ofList;cases ee;let n5:=g4.len;rw[aB]at n5;let sm:∀{G:Hp},Ext [t] H2 G->Same (wo [t] H2) G:=λ{G}e b o h=>vU [t] G _ _ (e.same _ _ h);clear e2 s1 T1 dW
  k_go;show⟨l,rfl,⟨_,(sm (.refl _ _)).seq k0⟩,jd (xs:=us) (λj c G'=>∃(o4 o5 o6 o7 o8 o9 M g B D I J L:Option V),c=[Sa (.ref a),Sa (.int (0+(i:Int))),Sa (.ref t),Sa (.ref l),o4,o5,o6,o7,o8,o9,M,g,B,D,I,J,L]/\Ext [t] H2 G'/\Tape G' t (21000+2000*j)) ?_ ?_ ?_ ?_⟩
  .exact⟨_,_,_,_,_,_,_,_,_,_,_,_,_,rfl,.refl _ _,T2.mono ∎⟩
  .rintro j c G' hj ⟨o4,o5,o6,o7,o8,o9,M,g,B,D,I,J,L,rfl,e3,T3⟩;show(sm e3).seq k0
  .rintro j x c G' p hx ⟨o4,o5,o6,o7,o8,o9,M,g,B,D,I,J,L,rfl,e3,T3⟩ hp N2_ B2_ C2_ R2_ hN2_ hC2_ hR2_;let r7:j<us.length:=(aD.mp hx).1;generalize zz:upd G' p _=G2;let ⟨eT,n6⟩:=layQq zz hp;show zt (SqT.of n6) rfl ?_;let⟨dd,n7,c7⟩:=g4.get hx;let⟨O,d0,rfl⟩:=zX n7;let⟨m,r8,b9,a6⟩:=f9.all O (aK d0);let r9:=a6.len;let k1:=aK d0;let n8:=j8 O k1;let⟨wl,g8,rfl,n9,p0⟩:=id c7.ofList;let r2:g8.length=O.length:=by rw[p0.len,aB]
   let k2:Ext [t] H2 G2:=e3.trans (eT.mo);let s0:(Wk O).Nodup:=vj (wK a6);let k3:=kL a6 b9;let k4:=(qP5 b9 a6).1;let k5:=T3.ext eT ∅;k_go;show⟨wl,O,m,ws.length,rfl,c7.mono (sm k2),a6,b9,λlb G3 p1 e4 d3=>?_⟩;let k6:Ext [t] H2 G3:=k2.trans (e4.mo);let T4:=k5.ext e4 ∅;let p2:lb≠t:=k5.ne p1;let g5:=qLu O 8;generalize boxTo O 8=bx at d3 g5;show L2.yR ?_;show L2.zk (by assumption) ?_;show L2.uX ?_;show L2.vX ?_;show wAu (C:=λg0 g1 G4=>Ext [] G3 G4/\G4 g0=Sa (.lst (g1.map V.int))/\g0≠t/\g1.length<=8) (λQ hQ=>?_) ?_
   .k_go;show⟨wl,g8,rfl,.inl ((sm k6).seq n9),?_⟩;k_go;by_cases h7:(g8.length:Int)<7
    .rw [decide_eq_true h7];kt_k;k_go;show hQ lb bx G3 ⟨.refl _ _,d3,p2,g5⟩
    .rw [decide_eq_false h7];cbv;show yH ?_;k_go;show .inr ⟨_,rfl,?_⟩;show ym (.inl ⟨⋯,⋯⟩) ?_;show⟨_,rfl,?_⟩;show⟨lb,_,rfl,SqL.of d3,λp hp=>?_⟩;let p3:p≠t:=T4.ne hp;let k7:∃k':Nat,(2:Int)*(if decide (0+(i:Int)=0)=Sc then (1:Int)else 0)=(k':Int):=by
      split
      .exact⟨2,rfl⟩
      .exact⟨0,rfl⟩
     let⟨k',p4⟩:=k7;rw[p4,qUo,<-List.map_take];show hQ p (bx.take k') _ ⟨.laid hp,zB,p3,by rw[aV];lia⟩
   rintro g0 g1 G4 ⟨e5,g6,k8,r3⟩
   show⟨g0,rfl,⟨_,SqL.of g6⟩,yw (xs:=g1.map V.int) (λj' c G=>∃(o7 o8 o9 M g B D I J L:Option V),c=[Sa (.ref a),Sa (.int (0+(i:Int))),Sa (.ref t),Sa (.ref l),Sa (.int j),Sa (.ref wl),Sa (.ref lb),o7,o8,o9,M,g,B,D,I,J,L]/\Ext [t] H2 G/\Ext [t] G4 G/\Tape G t (21000+2000*j+200*j')) ?_ ?_ ?_ ?_⟩
   .exact⟨_,_,_,_,_,_,_,_,_,_,rfl,k6.trans (e5.mo),.refl _ _,T4.ext e5 ∅⟩
   .rintro j' c G s3 ⟨o7,o8,o9,M,g,B,D,I,J,L,rfl,x1,x2,x3⟩;show SqL.of (x2 _ _ (by simpa using k8) g6)
   .rintro j' v c G hv ⟨o7,o8,o9,M,g,B,D,I,J,L,rfl,eG,p5,TG⟩ N3_ B3_ C3_ R3_ hN3_ hC3_ hR3_;let⟨y,hy,rfl⟩:=zX hv;let s4:=(aD.mp hy).1;k_go;show⟨t,wl,_,O,m,ws.length,rfl,TG,∎,c7.mono (sm eG),a6,b9,λa7 cs G5 k9 T5 x5 g9 p6 p7=>?_⟩;let h0:a7≠t:=TG.ne k9;let p8:=eG.trans x5;k_go;show⟨t,_,rfl,T5,∎,λpr sv bk G6 p9 T6 x6 l0 s1 s2 b1 b2=>?_⟩;let l1:pr≠t:=T5.ne p9;let l2:=p8.trans x6;k_go;show⟨t,wl,_,O,m,ws.length,rfl,T6,∎,c7.mono (sm l2),a6,b9,λsl ts S G7 q0 T7 x7 l3 dS d4 s5=>?_⟩;let g2:=l2.trans x7;let h5:G7 a7=Sa (.lst (cs.map V.int)):=x7 _ _ (by simpa using h0) (x6 _ _ (by simpa using h0) g9)
    let l4:G7 pr=Sa (.tup [.int sv,.int bk]):=x7 _ _ (by simpa using l1) l0;let c6:∀n∈cs,0<=n:=λn hn=>(p7 n hn).1;let d5:cs.length=(Wk O).length:=p6;let q2:sl≠t:=T6.ne q0;let⟨t1,t2,t3,l5,_⟩:=id T7;let l6:∀x∈[t],NoT G7 x:=λx hx zs z=>by
     rw[aE.mp hx]at z;rcases z with z|⟨o,z⟩<;>(rw[l5]at z;cases z)
    let hI:∀{G:Hp},Ext [t] G7 G->FIn K G l j sl ws O S:=λ{G}e=>⟨j9.mono (sm (g2.trans e)),f9,d0,⟨ts,e _ _ (by simpa using q2) l3,dS.overP e l6⟩,d4,∎⟩;let d6:∀{G:Hp},Ext [t] G7 G->SqL K G a7 (cs.map V.int):=λ{G}e=>SqL.of (e _ _ (by simpa using h0) h5);let d7:∀{G:Hp},Ext [t] G7 G->SqT K G pr [.int sv,.int bk]:=λ{G}e=>SqT.of (e _ _ (by simpa using l1) l4);let h6:∀(G:Hp),Ext [t] G7 G->Tape G t (21000+2000*j+200*j'+160)->∀(g B D I J L:Option V),∃(o7 o8 o9 M l7 l8 l9 m0 m1 m2:Option V),[Sa (.ref a),Sa (.int (0+(i:Int))),Sa (.ref t),Sa (.ref l),Sa (.int j),Sa (.ref wl),Sa (.ref lb),Sa (.int y),Sa (.ref a7),Sa (.ref pr),Sa (.ref sl),g,B,D,I,J,L]=[Sa (.ref a),Sa (.int (0+(i:Int))),Sa (.ref t),Sa (.ref l),Sa (.int j),Sa (.ref wl),Sa (.ref lb),o7,o8,o9,M,l7,l8,l9,m0,m1,m2]/\Ext [t] H2 G/\Ext [t] G4 G/\Tape G t (21000+2000*j+200*(j'+1)):=λG e T g B D I J L=>
     ⟨_,_,_,_,_,_,_,_,_,_,rfl,g2.trans e,((p5.trans x5).trans (x6.trans x7)).trans e,T.mono ∎⟩
    k_go;show⟨l,a7,pr,sl,j,y,ws,O,S,cs,sv,bk,rfl,hI (.refl _ _),d6 (.refl _ _),d5,d7 (.refl _ _),s1,s2,b1,b2,λls d8 s6=>⟨λc0 G8 x8=>?_,λb bl v ub G8 x8 hb s7 dB d9=>?_⟩⟩
    .let X8:Ext [t] G7 G8:=x8.mo;k_in;rw[decide_eq_true rfl];kt_le;show⟨l,a7,pr,sl,j,y,ws,O,S,cs,sv,bk,rfl,hI X8,d6 X8,d5,c6,d7 X8,s1,s2,b1,b2,λhn G9 x9=>?_,λv hv=>?_⟩
     case refine_2=>
      let⟨x',h1,h2⟩:=hv.has;rw[c0 x' ((d8 x').mpr h1)]at h2;cases h2
     let X9:Ext [t] G7 G9:=X8.trans (x9.mo);let fo:(V.non=V.non/\∀x',Lst ws j O y x'->lawP O cs sv bk S x'=Sb)\/∃v,V.non=V.int v/\LeastV ws j O y S cs sv bk v:=.inl ⟨rfl,λx' h=>c0 x' ((d8 x').mpr h)⟩;clear c0 hn;k_in;rw[decide_eq_true rfl];k_go;cbv;show⟨_,"bool",_,Sd,rfl,.non,by rfl,?_⟩;show⟨Sd,rfl,?_⟩;cbv;show⟨wl,O,m,ws.length,rfl,c7.mono (sm (g2.trans X9)),a6,b9,λlw e0 h8 e1 h9=>?_⟩;let⟨q3,wu,ew,b7,dU⟩:=(h9.mono yo_same).ofList;cases ew;let Y:=dU.len;rw[aB]at Y;let m3:1<=wu.length:=by rw[Y,wI];simp
     let i0:Ext [t] G7 e0:=X9.trans (e1.mo);let T9:=(T7.ext x8 ∅).ext x9 ∅;let e6:=T9.ext e1 ∅;let i1:lw≠t:=T9.ne h8;let c1:∀x∈[t],NoT e0 x:=λx hx zs z=>by
      rw[aE.mp hx]at z;let⟨_,_,_,z2,_⟩:=id e6;rcases z with z|⟨o,z⟩<;>(rw[z2]at z;cases z)
     k_go;show⟨lw,wu,rfl,.inl b7,?_⟩;k_go;let m4:wu.length<=25:=by rw[Y];show k3
     show zj e6 ∎ ∎ ∎ λr Z d1 d2 i2 c2 q4=>?_;let e7:SqL K Z lw wu:=b7.keepN c2 (by simpa using i1);let i3:=dU.overP c2 c1;let i4:=i0.trans c2;let⟨ri,rfl⟩:=dZ d1;let e8:ri<wu.length:=by lia
     let⟨p,b0,hp,e9,i5⟩:=i3.pairs (aF e8);let f0:p∈Wk O:=aK hp;k_go;show za e7 (show atI wu (ri:Int)=Sa (.ref b0)by rw[zf (aF e8),e9]) ?_;k_go;show⟨len2 (by change 1<=1000;decide),λq1 i6=>?_⟩;let a8:Ext [] Z (upd Z q1 (.lst [.ref b0])):=.laid i6;let c3:upd Z q1 (.lst [.ref b0]) q1=Sa (.lst [.ref b0]):=zB;generalize upd Z q1 (.lst [.ref b0])=c4 at a8 c3 ⊢;let f2:Ext [t] G7 c4:=i4.trans (a8.mo);let i7:=i2.ext a8 ∅;let b8:=a8.toSame.seqT i5;show⟨q1,rfl,⟨_,SqL.of c3⟩,λlc a9=>?_⟩;let tp:∀q∈Wk O,tame (pairD q)=Sc:=λq hq=>by
      let⟨h1,h2,h3,h4⟩:=k4 q hq;simp only[pairD,tame,yr,Bool.and_true,bR,decide_eq_true_eq];lia
     show zr (xs:=[V.ref b0]) (λi' c G=>∃(o0:Option V)(us':List V)(R:List Wy),c=[o0,Sa (.ref sl)]/\Ext [lc] c4 G/\G lc=Sa (.lst us')/\DenL K c4 (R.map pairD) us'/\R.length<=i'/\∀v∈R,v∈Wk O) ?_ ?_ ?_ ?_
     .exact⟨Sb,[],[],rfl,.laid a9,zB,.nil,bG _,∅⟩
     .rintro i' c G q5 ⟨o0,us',R,rfl,U,d,dR,b3,a0⟩;show SqL.of ((U.drop a9).k c3)
     .rintro i' u c G R_ c5 ⟨o0,us',R,rfl,U,d,dR,b3,a0⟩ hR;let i8:u=.ref b0:=by
       cases i' with
       |zero=>simpa using c5.symm
       |succ=>simp at c5
      subst i8;let eS:=U.drop a9;let XG:=f2.trans (eS.mo);k_go;let⟨W,a1,X⟩:=(hI XG).sl;show⟨sl,S.map pairD,pairD p,rfl,.list (SqL.of a1) X,denP (eS.toSame.seqT b8),vm _ (ul λq hq=>tp q (d4 q hq)),uj _ (tp p f0),by simp[pairD,PyData.depth,PyData.depthAll],?_⟩;generalize (!(S.map pairD).any λy=>PyData.eqv y (pairD p))=bb;k_go;let a2:=dR.len;rw[aB]at a2;let q6:i'<1:=(aD.mp c5).1;cases bb with
      |true=>
       show iteT (iteT ?_);show L2.wc (yd (v:=.ref b0) rfl ?_);show⟨us',d,zV ∎,hR _ _ ⟨_,us'++[.ref b0],R++[p],rfl,U.trans .pt,zB,?_,by rw[aJ,bE];lia,λv hv=>?_⟩⟩
       .rw [aH];show DenL.append dR (.cons (denP b8) .nil)
       .rcases aL.mp hv with z|z
        .exact a0 v z
        .rw [aE.mp z];show f0
      |false=>show iteF (iteF (hR _ _ ⟨_,us',R,rfl,U,d,dR,∎,a0⟩))
     rintro c b4 ⟨o0,us',R,rfl,U,d,dR,b3,a0⟩;let b3:R.length<=1:=b3;let a3:=U.drop a9;let f3:=f2.trans (a3.mo);let i9:=i7.ext a3 ∅;let⟨W,a1,X⟩:=(hI f3).sl;let a2:=dR.len;let f4:=X.len;rw[aB]at a2 f4;k_go;show⟨sl,lc,W,us',rfl,rfl,a1,d,len2 ∎,λf1 j0=>?_⟩;let a4:Ext [] b4 (upd b4 f1 (.lst (W++us'))):=.laid j0;let f5:upd b4 f1 (.lst (W++us')) f1=Sa (.lst (W++us')):=zB;generalize upd b4 f1 (.lst (W++us'))=q7 at a4 f5 ⊢;let a5:=f3.trans (a4.mo);let g3:=i9.ext a4 ∅;k_go;show⟨l,a7,pr,f1,j,y,ws,O,S++R,cs,sv,bk,rfl,⟨(hI a5).hW,f9,d0,⟨W++us',f5,by rw[aH];show DenL.append (X.mono a4.toSame) ((dR.mono a3.toSame).mono a4.toSame)⟩,λv hv=>(aL.mp hv).elim (d4 v) (a0 v),by rw[aJ];lia⟩,d6 a5,d5,c6,d7 a5,s1,s2,b1,b2,λq8 c8 b5=>?_,λv2 j1 c8 b5=>?_⟩
     case refine_2=>
      exfalso;let⟨x',h1,h2⟩:=j1.has;let:=qLa (S:=S) (λw h=>aY _ h) h2;rcases fo with ⟨_,z⟩|⟨_,z,_⟩
      .rw [z x' h1]at this;cases this
      .cases z
     let f6:=a5.trans (b5.mo);let f7:=g3.ext b5 ∅;k_in;rw[decide_eq_true rfl];k_go;kt_k;k_in;rw[decide_eq_true rfl];k_go;kj_on;k_in;rw[decide_eq_true rfl];k_go;kj_on;cbv;show h6 c8 f6 (f7.mono ∎) _ _ _ _ _ _
    .let X8:Ext [t] G7 G8:=x8.mo;k_in;rw[decide_eq_false (by intro z;cases z)];k_go;cbv;show zo (SqT.of hb) (show atI [V.int v,V.ref bl] ((0:Nat):Int)=Sa (V.int v)from zf rfl) ?_;k_go;show⟨l,a7,pr,sl,j,y,ws,O,S,cs,sv,bk,rfl,hI X8,d6 X8,d5,c6,d7 X8,s1,s2,b1,b2,λhn=>?_,λv' hv G9 x9=>?_⟩
     case refine_1=>
      let⟨x',h1,h2⟩:=d9.1;rw[hn x' ((d8 x').mp h1)]at h2;cases h2
     let X9:Ext [t] G7 G9:=X8.trans (x9.mo);let hL:LeastV ws j O y S cs sv bk v:=by
      obtain⟨⟨x',h1,h2⟩,h3⟩:=d9;show⟨⟨x',(d8 x').mp h1,h2⟩,λx' h u hu=>h3 x' ((d8 x').mpr h) u hu⟩
     obtain rfl:=hL.same hv;let fo:(V.int v=V.non/\∀x',Lst ws j O y x'->lawP O cs sv bk S x'=Sb)\/∃v',V.int v=V.int v'/\LeastV ws j O y S cs sv bk v':=.inr ⟨v,rfl,hv⟩;k_in;rw[decide_eq_true rfl];k_go;cbv;show⟨_,"bool",_,Sd,rfl,.int _,qLb K,?_⟩;show⟨Sd,rfl,?_⟩;cbv;show⟨wl,O,m,ws.length,rfl,c7.mono (sm (g2.trans X9)),a6,b9,λlw e0 h8 e1 h9=>?_⟩;let⟨q3,wu,ew,b7,dU⟩:=(h9.mono yo_same).ofList;cases ew;let Y:=dU.len;rw[aB]at Y;let m3:1<=wu.length:=by rw[Y,wI];simp
     let i0:Ext [t] G7 e0:=X9.trans (e1.mo);let T9:=(T7.ext x8 ∅).ext x9 ∅;let e6:=T9.ext e1 ∅;let i1:lw≠t:=T9.ne h8;let c1:∀x∈[t],NoT e0 x:=λx hx zs z=>by
      rw[aE.mp hx]at z;let⟨_,_,_,z2,_⟩:=id e6;rcases z with z|⟨o,z⟩<;>(rw[z2]at z;cases z)
     k_go;show⟨lw,wu,rfl,.inl b7,?_⟩;k_go;let m4:wu.length<=25:=by rw[Y];show k3
     show zj e6 ∎ ∎ ∎ λr Z d1 d2 i2 c2 q4=>?_;let e7:SqL K Z lw wu:=b7.keepN c2 (by simpa using i1);let i3:=dU.overP c2 c1;let i4:=i0.trans c2;let⟨ri,rfl⟩:=dZ d1;let e8:ri<wu.length:=by lia
     let⟨p,b0,hp,e9,i5⟩:=i3.pairs (aF e8);let f0:p∈Wk O:=aK hp;k_go;show za e7 (show atI wu (ri:Int)=Sa (.ref b0)by rw[zf (aF e8),e9]) ?_;k_go;show⟨len2 (by change 1<=1000;decide),λq1 i6=>?_⟩;let a8:Ext [] Z (upd Z q1 (.lst [.ref b0])):=.laid i6;let c3:upd Z q1 (.lst [.ref b0]) q1=Sa (.lst [.ref b0]):=zB;generalize upd Z q1 (.lst [.ref b0])=c4 at a8 c3 ⊢;let f2:Ext [t] G7 c4:=i4.trans (a8.mo);let i7:=i2.ext a8 ∅;let b8:=a8.toSame.seqT i5;show⟨q1,rfl,⟨_,SqL.of c3⟩,λlc a9=>?_⟩;let tp:∀q∈Wk O,tame (pairD q)=Sc:=λq hq=>by
      let⟨h1,h2,h3,h4⟩:=k4 q hq;simp only[pairD,tame,yr,Bool.and_true,bR,decide_eq_true_eq];lia
     show zr (xs:=[V.ref b0]) (λi' c G=>∃(o0:Option V)(us':List V)(R:List Wy),c=[o0,Sa (.ref sl)]/\Ext [lc] c4 G/\G lc=Sa (.lst us')/\DenL K c4 (R.map pairD) us'/\R.length<=i'/\∀v∈R,v∈Wk O) ?_ ?_ ?_ ?_
     .exact⟨Sb,[],[],rfl,.laid a9,zB,.nil,bG _,∅⟩
     .rintro i' c G q5 ⟨o0,us',R,rfl,U,d,dR,b3,a0⟩;show SqL.of ((U.drop a9).k c3)
     .rintro i' u c G R_ c5 ⟨o0,us',R,rfl,U,d,dR,b3,a0⟩ hR;let i8:u=.ref b0:=by
       cases i' with
       |zero=>simpa using c5.symm
       |succ=>simp at c5
      subst i8;let eS:=U.drop a9;let XG:=f2.trans (eS.mo);k_go;let⟨W,a1,X⟩:=(hI XG).sl;show⟨sl,S.map pairD,pairD p,rfl,.list (SqL.of a1) X,denP (eS.toSame.seqT b8),vm _ (ul λq hq=>tp q (d4 q hq)),uj _ (tp p f0),by simp[pairD,PyData.depth,PyData.depthAll],?_⟩;generalize (!(S.map pairD).any λy=>PyData.eqv y (pairD p))=bb;k_go;let a2:=dR.len;rw[aB]at a2;let q6:i'<1:=(aD.mp c5).1;cases bb with
      |true=>
       show iteT (iteT ?_);show L2.wc (yd (v:=.ref b0) rfl ?_);show⟨us',d,zV ∎,hR _ _ ⟨_,us'++[.ref b0],R++[p],rfl,U.trans .pt,zB,?_,by rw[aJ,bE];lia,λv hv=>?_⟩⟩
       .rw [aH];show DenL.append dR (.cons (denP b8) .nil)
       .rcases aL.mp hv with z|z
        .exact a0 v z
        .rw [aE.mp z];show f0
      |false=>show iteF (iteF (hR _ _ ⟨_,us',R,rfl,U,d,dR,∎,a0⟩))
     rintro c b4 ⟨o0,us',R,rfl,U,d,dR,b3,a0⟩;let b3:R.length<=1:=b3;let a3:=U.drop a9;let f3:=f2.trans (a3.mo);let i9:=i7.ext a3 ∅;let⟨W,a1,X⟩:=(hI f3).sl;let a2:=dR.len;let f4:=X.len;rw[aB]at a2 f4;k_go;show⟨sl,lc,W,us',rfl,rfl,a1,d,len2 ∎,λf1 j0=>?_⟩;let a4:Ext [] b4 (upd b4 f1 (.lst (W++us'))):=.laid j0;let f5:upd b4 f1 (.lst (W++us')) f1=Sa (.lst (W++us')):=zB;generalize upd b4 f1 (.lst (W++us'))=q7 at a4 f5 ⊢;let a5:=f3.trans (a4.mo);let g3:=i9.ext a4 ∅;k_go;show⟨l,a7,pr,f1,j,y,ws,O,S++R,cs,sv,bk,rfl,⟨(hI a5).hW,f9,d0,⟨W++us',f5,by rw[aH];show DenL.append (X.mono a4.toSame) ((dR.mono a3.toSame).mono a4.toSame)⟩,λv hv=>(aL.mp hv).elim (d4 v) (a0 v),by rw[aJ];lia⟩,d6 a5,d5,c6,d7 a5,s1,s2,b1,b2,λq8 c8 b5=>?_,λv2 j1 c8 b5=>?_⟩
     case refine_1=>
      let f6:=a5.trans (b5.mo);let f7:=g3.ext b5 ∅;k_in;rw[decide_eq_false (by intro z;cases z)];k_go;kj_on;kj_on;k_in;rw[decide_eq_false (by intro z;cases z)];k_go;kt_k;k_in;rw[decide_eq_true rfl];k_go;kj_on;cbv;show h6 c8 f6 (f7.mono ∎) _ _ _ _ _ _
     let f6:=a5.trans (b5.mo);let f7:=g3.ext b5 ∅;let s8:v<=v2:=hL.more (λw h=>aY _ h) j1;k_in;rw[decide_eq_false (by intro z;cases z)];k_go;kj_on;kj_on;k_in;rw[decide_eq_false (by intro z;cases z)];k_go;kt_k;k_in;rw[decide_eq_false (by intro z;cases z)];kt_le;rw[decide_eq_false ∎];cbv;show h6 c8 f6 (f7.mono ∎) _ _ _ _ _ _
   .rintro c G ⟨o7,o8,o9,M,g,B,D,I,J,L,rfl,x1,x2,x3⟩;rw[aB]at x3;show zk hN2_ ⟨_,_,_,_,_,_,_,_,_,_,_,_,_,rfl,x1,x3.mono ∎⟩
  .rintro c G' ⟨o4,o5,o6,o7,o8,o9,M,g,B,D,I,J,L,rfl,e3,T3⟩;show zk hN_ ⟨_,_,_,_,_,_,_,_,_,_,_,_,_,_,_,_,rfl,e'.trans ((n3.trans e3).drop ht)⟩
 .rintro c H' ⟨o1,o2,o3,o4,o5,o6,o7,o8,o9,M,g,B,D,I,J,L,rfl,e'⟩;k_go;show q _
theorem wC8{K:SH}{st:Sr}{k:Nat}{kV doc g b ct:Se}(X:K.In h)(G:h.Ns Sq mg)(a:SJ K Sq x=Sa (Sa (.ref f)))(l:K.lookup f=Sa ⟨m,n,.func (PySem.W.fnOf x x (yv st) (yc st) (zq st) .none kV doc g d b ct),e⟩)(c:PySem.W.codeIn K b x=Sc)(i:SL K (.ref f)=Sc)(o:∀(kV doc g:Se)(d:Option Sf)(b ct:Se)(us:List Se),us.length=ps.length->bindArgs (PySem.W.fnOf x x (yv st) (yc st) (zq st) .none kV doc g d b ct) ⟨us,[]⟩=pure (ps.zip us))(ok:∀j,Fun K x x st f j->FnOk P w K mg base CX0 k f j ps sp):Has P w K mg base x k ps sp:=by
 let F:=wB (st:=st) l c i;show⟨f,_,ok _ F,PySem.W.mg_of X G a,i,F.binds o⟩
theorem bA1{P:List Se->Prop}(h:∀a,P [a])(us:List Se)(l:us.length=1):P us:=by
 obtain _|⟨b,us⟩:=us
 .cases l
 obtain _|⟨y,us⟩:=us
 .exact h _
 .simp at l
theorem bA2{P:List Se->Prop}(h:∀a b,P [a,b])(us:List Se)(l:us.length=2):P us:=by
 obtain _|⟨c,us⟩:=us
 .cases l
 obtain _|⟨d,us⟩:=us
 .cases l
 obtain _|⟨y,us⟩:=us
 .exact h _ _
 .simp at l
theorem bA3{P:List Se->Prop}(h:∀a b c,P [a,b,c])(us:List Se)(l:us.length=3):P us:=by
 obtain _|⟨d,us⟩:=us
 .cases l
 obtain _|⟨e,us⟩:=us
 .cases l
 obtain _|⟨f,us⟩:=us
 .cases l
 obtain _|⟨y,us⟩:=us
 .exact h _ _ _
 .simp at l
theorem bA4{P:List Se->Prop}(h:∀a b c d,P [a,b,c,d])(us:List Se)(l:us.length=4):P us:=by
 obtain _|⟨e,us⟩:=us
 .cases l
 obtain _|⟨f,us⟩:=us
 .cases l
 obtain _|⟨g,us⟩:=us
 .cases l
 obtain _|⟨i,us⟩:=us
 .cases l
 obtain _|⟨y,us⟩:=us
 .exact h _ _ _ _
 .simp at l
theorem bA5{P:List Se->Prop}(h:∀a b c d e,P [a,b,c,d,e])(us:List Se)(l:us.length=5):P us:=by
 obtain _|⟨f,us⟩:=us
 .cases l
 obtain _|⟨g,us⟩:=us
 .cases l
 obtain _|⟨i,us⟩:=us
 .cases l
 obtain _|⟨j,us⟩:=us
 .cases l
 obtain _|⟨k,us⟩:=us
 .cases l
 obtain _|⟨y,us⟩:=us
 .exact h _ _ _ _ _
 .simp at l
theorem bA6{P:List Se->Prop}(h:∀a b c d e f,P [a,b,c,d,e,f])(us:List Se)(l:us.length=6):P us:=by
 obtain _|⟨g,us⟩:=us
 .cases l
 obtain _|⟨i,us⟩:=us
 .cases l
 obtain _|⟨j,us⟩:=us
 .cases l
 obtain _|⟨k,us⟩:=us
 .cases l
 obtain _|⟨m,us⟩:=us
 .cases l
 obtain _|⟨n,us⟩:=us
 .cases l
 obtain _|⟨y,us⟩:=us
 .exact h _ _ _ _ _ _
 .simp at l
def HasF(K:SH)(x:Str)(st:Sr):Prop:=∃(f:Sf)(oc:Se)(od an:Option Sf)(osl:Array (Option Se))(kV doc pm cdv ct:Se),SJ K Sq x=Sa (Sa (.ref f))/\K.lookup f=Sa ⟨oc,od,.func (PySem.W.fnOf x x (yv st) (yc st) (zq st) .none kV doc pm an cdv ct),osl⟩/\PySem.W.codeIn K cdv x=Sc/\SL K (.ref f)=Sc
theorem hasF{K:SH}{st:Sr}{g h:Option Sf}{kV doc i b ct:Se}(a:SJ K Sq x=Sa (Sa (.ref f)))(l:K.lookup f=Sa ⟨e,g,.func (PySem.W.fnOf x x (yv st) (yc st) (zq st) .none kV doc i h b ct),d⟩)(c:PySem.W.codeIn K b x=Sc)(k:SL K (.ref f)=Sc):HasF K x st:=⟨_,_,_,_,_,_,_,_,_,_,a,l,c,k⟩
theorem wC7{P:Sh}{w:Si}{K:SH}{mg:Str->Option Se}{base h:Sk}{x:Str}{st:Sr}{k:Nat}{ps:List Str}{sp:Sp}(X:K.In h)(G:h.Ns Sq mg)(z:HasF K x st)(ok:∀f d,Fun K x x st f d->FnOk P w K mg base CX0 k f d ps sp)(i:∀(kV doc e:Se)(g:Option Sf)(b ct:Se)(us:List Se),us.length=ps.length->bindArgs (PySem.W.fnOf x x (yv st) (yc st) (zq st) .none kV doc e g b ct) ⟨us,[]⟩=pure (ps.zip us)):Has P w K mg base x k ps sp:=by
 let⟨f,n,o,g,j,kV,doc,e,b,ct,a,l,c,m⟩:=z;show wC8 X G a l c m i λd=>ok f d
def HasX(K:SH)(C:Sf)(m q:Str)(st:Sr):Prop:=∃(f:Sf)(oc:Se)(od an:Option Sf)(osl:Array (Option Se))(kV doc pm cdv ct:Se),SK K (.ref C) m=Sa (Sa (.ref f))/\PySem.W.isFn K (.ref f)=Sc/\K.lookup f=Sa ⟨oc,od,.func (PySem.W.fnOf m q (yv st) (yc st) (zq st) .none kV doc pm an cdv ct),osl⟩/\PySem.W.codeIn K cdv q=Sc/\SL K (.ref f)=Sc
theorem hasX{K:SH}{st:Sr}{g h:Option Sf}{kV doc j b ct:Se}(a:SK K (.ref C) m=Sa (Sa (.ref f)))(i:PySem.W.isFn K (.ref f)=Sc)(l:K.lookup f=Sa ⟨e,g,.func (PySem.W.fnOf m q (yv st) (yc st) (zq st) .none kV doc j h b ct),d⟩)(c:PySem.W.codeIn K b q=Sc)(k:SL K (.ref f)=Sc):HasX K C m q st:=⟨_,_,_,_,_,_,_,_,_,_,a,i,l,c,k⟩
theorem wCd{l:PySem.W.OpenLaw}{w:Si}{K:SH}{h:Sk}{mg:Str->Option Se}{fa C c8 c9:Sf}(X:K.In h)(G:h.Ns Sq mg)(e0:mg "law" = Sa (.ref fa))
    (x1:HasF K "_law_tape" sTape) (x2:HasF K "_law_draw" sDraw) (x3:HasF K "_law_nexts" oC) (x4:HasF K "_law_number" qRg) (x5:HasF K "_law_deeds" oD) (x6:HasF K "_law_work" sWork) (x7:HasF K "_law_small_works" oP) (x8:HasF K "led_to" sLed) (x9:HasF K "writes_box" qRa) (x10:HasF K "reads_box" qXs) (x11:HasF K "till_write" sTill) (x12:HasF K "begins_met" qRp) (x13:HasF K "awaiting" qXx) (x14:HasF K "_law_reads" qRi) (x15:HasF K "_law_is_asked" oG) (x16:HasF K "nexts_of" sNx) (x17:HasF K "_law_ends" sEnds) (x18:HasF K "writers" qNw) (x19:HasF K "_law_writes" qO0) (x20:HasF K "awaited" qO4) (x21:HasF K "reached" oI) (x22:HasF K "_law_behind" qRo) (x23:HasF K "busy" sBusy) (x24:HasF K "_law_busy" qXw) (x25:HasF K "_law_boxes" qRk) (x26:HasF K "_law_ways" sWays) (x27:HasF K "_law_counts" qO2) (x28:HasF K "_law_prices" qO1) (x29:HasF K "_law_shut" qXu) (x30:HasF K "_law_cost" qXv) (x31:HasF K "_law_lists" qRj) (x32:HasF K "_law_cheapest" oQ) (x33:HasF K "ways_of" qRc) (x34:HasF K "turned" qRd) (x35:HasF K "nexts_by" qNz) (x36:HasF K "shortest" oJ) (x37:HasF K "outside" qNy) (x38:HasF K "fullest_flow" qO3) (x39:HasF K "why_none" qNx) (x40:HasF K "cheapest" qKh) (x41:HasF K "word_on" qRb) (x42:HasF K "put_on" oO) (x43:HasF K "cost" sCost) (x44:HasF K "least_cost" qXt) (x45:HasF K "law" sLaw)
  (yA0:SJ K Sq "Flow"=Sa (Sa (.ref C))) (yp0:PySem.W.plainGet K C Str.empty=Sc) (yh0:PySem.W.hasDictIn K C=Sc) (yo0:PySem.W.plainOver K C=Sc) (ys0:SK K (.ref C) "__setattr__"=Sa (Sa (.builtin "object.__setattr__"))) (ym0:PySem.W.makesIn K C=Sc) (yk0:SL K (.ref C)=Sc)
  (wn0_0:SK K (.ref C) "amounts"=Sa Sb)
  (wn0_1:SK K (.ref C) "limits"=Sa Sb)
  (q0:HasX K C "__init__" "Flow.__init__" oN) (q1:HasX K C "room" "Flow.room" sRoom) (q2:HasX K C "way_for" "Flow.way_for" oK) (q3:HasX K C "free_steps" "Flow.free_steps" oM) (q4:HasX K C "push" "Flow.push" sPush)
  (u0:SJ K Sq "WRITING"=Sa (Sa (.ref c8))) (v0:qV1 K c8)
  (u1:SJ K Sq "READING"=Sa (Sa (.ref c9))) (v1:qV2 K c9)
  (z1:SJ K Sq "range"=Sa Sb) (z2:SJ K Sq "len"=Sa Sb) (z3:SJ K Sq "abs"=Sa Sb) (z4:SJ K Sq "int"=Sa Sb) (z5:SJ K Sq "max"=Sa Sb) (z6:SJ K Sq "min"=Sa Sb) (z7:SJ K Sq "list"=Sa Sb) (z8:SJ K Sq "enumerate"=Sa Sb) (z9:SJ K Sq "any"=Sa Sb) (z10:SJ K Sq "sum"=Sa Sb) (z11:SJ K Sq "sorted"=Sa Sb) (z12:SJ K Sq "set"=Sa Sb) (z13:SJ K Sq "zip"=Sa Sb) (z14:SJ K Sq "dict"=Sa Sb) (z15:SJ K Sq "isinstance"=Sa Sb) (z16:SJ K Sq "bool"=Sa Sb) :
  ∃fd:FuncData,(∀(s:Sg)(v:Se),BindsTo s fd ⟨[v],[]⟩ [("_law_script",v)])/\∀base:Sk,K.In base->base.Ns Sq mg->FnOk l.prog w K mg base CX0 10 fa fd ["_law_script"] (kM K):=by
 let⟨f,oc,od,an,h0,kV,doc,pm,e1,ct,a,lk,c,kk⟩:=x45;let e:=e0.symm.trans (PySem.W.mg_of X G a);cases e;let g:=bZ X G z1;let n:=bZ X G z2;let d0:=bZ X G z3;let I:=bZ X G z4;let b8:=bZ X G z5;let b9:=bZ X G z6;let i:=bZ X G z7;let b:=bZ X G z8;let V:=bZ X G z9;let c0:=bZ X G z10;let d:=bZ X G z11;let a2:=bZ X G z12;let Y:=bZ X G z13;let a3:=bZ X G z14;let D:=bZ X G z15;let c1:=bZ X G z16
 let e2:=PySem.W.mg_of X G u0;let e3:=PySem.W.mg_of X G u1;let FL:=wB (st:=sLaw) lk c kk;show⟨PySem.W.fnOf "law" "law" (yv sLaw) (yc sLaw) (zq sLaw) .none kV doc pm an e1 ct,λs v=>.of_eq rfl,λbase _ _=>?_⟩;let M {x:Str} {st:Sr} {k:Nat} {ps:List Str} {sp:Sp}:=@wC7 l.prog w K mg base h x st k ps sp X G;let⟨h1,_,_,_,_,_,_,_,_,_,e4,e5,e6,e7,e8⟩:=q0;let d1:=wB (st:=oN) e6 e7 e8;let e9:=d1.binds (ps:=["self","ways","counts","prices","shut"]) λ_ _ _ _ _ _=>bA5 λ_ _ _ _ _=>rfl;let⟨h2,_,_,_,_,_,_,_,_,_,f0,f1,f2,f3,d2⟩:=q1;let d3:=wB (st:=sRoom) f2 f3 d2;let f4:=d3.binds (ps:=["self","step","way"]) λ_ _ _ _ _ _=>bA3 λ_ _ _=>rfl;let⟨h3,_,_,_,_,_,_,_,_,_,f5,f6,f7,f8,d4⟩:=q2
 let d5:=wB (st:=oK) f7 f8 d4;let f9:=d5.binds (ps:=["self","step"]) λ_ _ _ _ _ _=>bA2 λ_ _=>rfl;let⟨h4,_,_,_,_,_,_,_,_,_,g0,g1,g2,g3,d6⟩:=q3;let d7:=wB (st:=oM) g2 g3 d6;let g4:=d7.binds (ps:=["self"]) λ_ _ _ _ _ _=>bA1 λ_=>rfl;let⟨h5,_,_,_,_,_,_,_,_,_,g5,g6,g7,g8,d8⟩:=q4;let d9:=wB (st:=sPush) g7 g8 d8;let g9:=d9.binds (ps:=["self","path"]) λ_ _ _ _ _ _=>bA2 λ_ _=>rfl;let c2:=M x1 (λ_ _ F=>qZy F n d0 I) λ_ _ _ _ _ _=>bA2 λ_ _=>rfl;let j:=M x2 (λ_ _ F=>wA3 F) λ_ _ _ _ _ _=>bA2 λ_ _=>rfl;let b1:=M x3 (λ_ _ F=>qWa F g b8 j) λ_ _ _ _ _ _=>bA2 λ_ _=>rfl;let a4:=M x4 (λ_ _ F=>qT5 F j) λ_ _ _ _ _ _=>bA1 λ_=>rfl
 let b2:=M x5 (λ_ _ F=>qWh F g I n j a4) λ_ _ _ _ _ _=>bA5 λ_ _ _ _ _=>rfl;let c3:=M x6 (λ_ _ F=>qZv F g i n j b1 b2) λ_ _ _ _ _ _=>bA5 λ_ _ _ _ _=>rfl;let hsmall_works:=M x7 (λ_ _ F=>qW7 F g j c3) λ_ _ _ _ _ _=>bA2 λ_ _=>rfl;let r:=M x8 (λ_ _ F=>wA1 F i) λ_ _ _ _ _ _=>bA2 λ_ _=>rfl;let m:=M x9 (λ_ _ F=>qT0 F e2 v0) λ_ _ _ _ _ _=>bA2 λ_ _=>rfl;let J:=M x10 (λ_ _ F=>qW8 F e3 v1) λ_ _ _ _ _ _=>bA2 λ_ _=>rfl;let p:=M x11 (λ_ _ F=>qZx F b i m) λ_ _ _ _ _ _=>bA2 λ_ _=>rfl;let E:=M x12 (λ_ _ F=>qTd F V p m) λ_ _ _ _ _ _=>bA4 λ_ _ _ _=>rfl
 let O:=M x13 (λ_ _ F=>qWi F b V p J E r) λ_ _ _ _ _ _=>bA2 λ_ _=>rfl;let b3:=M x14 (λ_ _ F=>qT6 F) λ_ _ _ _ _ _=>bA2 λ_ _=>rfl;let P:=M x15 (λ_ _ F=>qPo F b3) λ_ _ _ _ _ _=>bA4 λ_ _ _ _=>rfl;let Q:=M x16 (λ_ _ F=>wD2 F i b) λ_ _ _ _ _ _=>bA1 λ_=>rfl;let a5:=M x17 (λ_ _ F=>wA2 F i) λ_ _ _ _ _ _=>bA1 λ_=>rfl;let A:=M x18 (λ_ _ F=>qPg F b V m) λ_ _ _ _ _ _=>bA2 λ_ _=>rfl;let t:=M x19 (λ_ _ F=>qPl F g n V) λ_ _ _ _ _ _=>bA2 λ_ _=>rfl;let Z:=M x20 (λ_ _ F=>qPq F g n O) λ_ _ _ _ _ _=>bA3 λ_ _ _=>rfl;let a0:=M x21 (λ_ _ F=>qPi F d Q A r) λ_ _ _ _ _ _=>bA3 λ_ _ _=>rfl
 let a6:=M x22 (λ_ _ F=>qTc F g n i a2 d a5 t) λ_ _ _ _ _ _=>bA2 λ_ _=>rfl;let R:=M x23 (λ_ _ F=>wA5 F d a2 Z a0 A) λ_ _ _ _ _ _=>bA3 λ_ _ _=>rfl;let b4:=M x24 (λ_ _ F=>qWe F d a2 a6 P t) λ_ _ _ _ _ _=>bA3 λ_ _ _=>rfl;let b5:=M x25 (λ_ _ F=>qTa F g t) λ_ _ _ _ _ _=>bA1 λ_=>rfl;let u:=M x26 (λ_ _ F=>qZw F b n I d a5) λ_ _ _ _ _ _=>bA1 λ_=>rfl;let a7:=M x27 (λ_ _ F=>qPn F j u) λ_ _ _ _ _ _=>bA2 λ_ _=>rfl;let a8:=M x28 (λ_ _ F=>qPm F j) λ_ _ _ _ _ _=>bA1 λ_=>rfl;let c4:=M x29 (λ_ _ F=>qWb F j u) λ_ _ _ _ _ _=>bA2 λ_ _=>rfl
 let b6:=M x30 (λ_ _ F=>qWd F I u) λ_ _ _ _ _ _=>bA5 λ_ _ _ _ _=>rfl;let b7:=M x31 (λ_ _ F=>qT7 F i g n d) λ_ _ _ _ _ _=>bA2 λ_ _=>rfl;let L:=M x32 (λ_ _ F=>qWf F Y a3 u b4 b7 b6) λ_ _ _ _ _ _=>bA6 λ_ _ _ _ _ _=>rfl;let q:=M x33 (λ_ _ F=>qT2 F b n d) λ_ _ _ _ _ _=>bA1 λ_=>rfl;let y:=M x34 (λ_ _ F=>qT4 F) λ_ _ _ _ _ _=>bA1 λ_=>rfl;let o:=M x35 (λ_ _ F=>qPk F) λ_ _ _ _ _ _=>bA1 λ_=>rfl;let z:=M x36 (λ_ _ F=>qMp F n) λ_ _ _ _ _ _=>bA3 λ_ _ _=>rfl;let B:=M x37 (λ_ _ F=>qPj F n) λ_ _ _ _ _ _=>bA1 λ_=>rfl;let T:FTx K C:=⟨⟨yp0,yh0,yo0,ys0⟩,wn0_0,wn0_1⟩;let c5:HasC l.prog w K mg base "Flow" C 1 ["self","ways","counts","prices","shut"] (iw l.prog w K C):=⟨_,_,qWg d1 T c0 Y,⟨ym0,e4,e5,yk0⟩,e9,PySem.W.mg_of X G yA0⟩
 let a9:HasM l.prog w K mg base C "room" 1 ["self","step","way"] (kH l.prog w K C):=⟨_,_,qZz d3 T,⟨f0,f1,d2⟩,f4⟩;let N:HasM l.prog w K mg base C "way_for" 2 ["self","step"] (kI l.prog w K C):=⟨_,_,qT3 d5 T a9 y,⟨f5,f6,d4⟩,f9⟩;let b0:HasM l.prog w K mg base C "free_steps" 3 ["self"] (vy l.prog w K C):=⟨_,_,qTb d7 T i N y,⟨g0,g1,d6⟩,g4⟩;let c6:HasM l.prog w K mg base C "push" 3 ["self","path"] (iu l.prog w K C):=⟨_,_,wA0 d9 T i Y b9 a9 N,⟨g5,g6,d8⟩,g9⟩;let hfullest_flow:=M x38 (λ_ _ F=>qPp F T R z o B c5 b0 c6 q) λ_ _ _ _ _ _=>bA6 λ_ _ _ _ _ _=>rfl;let S:=M x39 (λ_ _ F=>qPh F R z o B y) λ_ _ _ _ _ _=>bA4 λ_ _ _ _=>rfl
 let U:=M x40 (λ_ _ F=>qMq F T d S hfullest_flow r o b0 R) λ_ _ _ _ _ _=>bA6 λ_ _ _ _ _ _=>rfl;let a1:=M x41 (λ_ _ F=>qT1 F) λ_ _ _ _ _ _=>bA2 λ_ _=>rfl;let hput_on:=M x42 (λ_ _ F=>qW9 F d q a1) λ_ _ _ _ _ _=>bA2 λ_ _=>rfl;let c7:=M x43 (λ_ _ F=>wA4 F a3 Y c0 q hput_on) λ_ _ _ _ _ _=>bA4 λ_ _ _ _=>rfl;let H:=M x44 (λ_ _ F=>qWc F U c7) λ_ _ _ _ _ _=>bA6 λ_ _ _ _ _ _=>rfl;show wBz FL g n b8 b9 b I D c1 c2 hsmall_works b5 a7 a8 c4 L H u j
theorem walk{l:PySem.W.OpenLaw}{q:Sh}{b:List Str}{j:(Str->Option Se)->Sk->Prop}{e:Si->Sk->Prop}{d:DefRec}{K:Params->SH}(m:l.most=Sa 63)(c:d.params.defaults = [])(o:∀(w:Si) (h:Sk),e w h->(K w.params).In h)(F:∀(w:Si) (mg:Str->Option Se) (g:Sf) (h:Sk),(K w.params).In h->h.Ns Sq mg->mg d.name=Sa (.ref g) ->
   ∃i:FuncData,(∀(s:Sg)(u:Se),BindsTo s i ⟨[u],[]⟩ [("_law_script",u)])/\∀base:Sk,(K w.params).In base->base.Ns Sq mg->FnOk l.prog w (K w.params) mg base CX0 10 g i ["_law_script"] (kM (K w.params))) :
  PySem.W.WalkO q b j e l.row.toRowW d [] (λf vs=>PySem.call f vs):=
 L2.qYq (n:=63) (k:=10) (x:="_law_script") (CX:=λ_=>CX0) (sp:=λw=>kM (K w.params)) m ⋯ c ⟨rfl,⋯,⋯,rfl⟩ o F (λ_ _ a p r _ t=>⟨a,p,rfl,t,r,λ_=>rfl⟩) λ_ _ _ _ _ z=>z
end Fs
end
open PySem PySem.W PyProof.Rows
namespace PySem.W.Fast
def tw10818550150279279569:=0
def tw10390286204992653068:=0
def tw7783379030007478313:=0
def tw4067759407785920394:=0
def tw17084917550274208850:=0
def tw2867770999589102586:=0
def tw1048959380661786852:=0
def tw7473819226097658132:=0
def tw10450280019180685320:=0
def tw16548880440083637221:=0
def tw3405500936745611852:=0
def tw7758714479819587002:=0
def tw15934905542645788263:=0
def tw17515122025952773122:=0
def tw1803667953352886700:=0
def tw1778086121682143964:=0
def tw342629007324876354:=0
def tw11185678012315328917:=0
def tw11007907211410759078:=0
def tw15553974591826140058:=0
def tw10817104503344386513:=0
def tw18321774983867652615:=0
def tw3254923537891575038:=0
def tw11679792180140722838:=0
def tw10073208143360516956:=0
def tw17619981392556348756:=0
def tw18275339414587631780:=0
def tw6847860458054067048:=0
def tw4624129857655482421:=0
def tw12790817167476688060:=0
def tw12883408673499614445:=0
def tw4107406164204631612:=0
def tw12733242804720837032:=0
def tw3040287761038245949:=0
def tw4869631409896590324:=0
def tw1488216615053157082:=0
def tw11413721911765237844:=0
def tw12784115681326884657:=0
def tw1158626067357909439:=0
def tw4582645001718260492:=0
def tw12313943520098368852:=0
def tw16779034613270951201:=0
def tw16466114253397600033:=0
def tw3422995792878247856:=0
def tw4497764003170999634:=0
def tw12686504160260435748:=0
def tw9419246209726990370:=0
def tw2580910985965625214:=0
def tw17567550465407820007:=0
def tw6080103902208237634:=0
def tw11897755586164801807:=0
def tw12283979205443875590:=0
def tw7195291891267597912:=0
def tw16074509137479080045:=0
def tw861560349569237249:=0
def tw16515834102032696723:=0
def tw5748094163454863799:=0
def tw15536382963485468285:=0
def tw11151578225568490301:=0
def tw2989835874710116853:=0
def tw10651226954651055522:=0
def tw11019268199336792613:=0
def tw2491059889205402247:=0
def tw13760609124717070830:=0
def tw6174146655082503175:=0
def tw5734184413340669110:=0
def tw11976530419789363311:=0
def tw16295437855062117492:=0
def tw3432128330928801458:=0
def tw7528902674588172930:=0
def tw14513547811353516631:=0
def tw6129078682039447725:=0
def tw2608857904781513930:=0
def tw10577543256044790210:=0
def tw4503309021350191326:=0
def tw301332783573506983:=0
def tw10608566961001537418:=0
def tw16777304789124098767:=0
def tw16529266968133443292:=0
def tw3291241652017535796:=0
def tw4086661743589407493:=0
def tw15727240287094394599:=0
def tw6933854501225201665:=0
def tw111530879208023495:=0
def tw10843880286363919407:=0
def tw7353566014638356289:=0
def tw12541994514816950021:=0
def tw9884104378226235423:=0
def tw18266703207380841277:=0
def tw18148016069773408803:=0
def tw5860060734649482025:=0
def tw14306270699758744373:=0
def tw4754764091895424842:=0
def tw2929538171869716062:=0
def tw16490117420552542757:=0
def tw9684296428837086833:=0
def tw2459608106218262935:=0
def tw9372701147473218339:=0
def tw7806828727813445323:=0
def tw5855397610799198290:=0
def tw222084791727326210:=0
def tw12512669753110395947:=0
def tw14556291251154298593:=0
def tw604615713124674295:=0
def tw13191354471129518660:=0
def tw8445416501516296305:=0
def tw13584819686476231984:=0
def tw1460825038793625190:=0
def tw15277553383726409064:=0
def tw9247361396392112649:=0
def tw10103627933989811357:=0
def tw18018919736831052299:=0
def tw11722956369569269139:=0
def tw17541324450327483279:=0
def tw6407996579158943566:=0
def tw15993385564547555973:=0
def tw474491458209277456:=0
def tw2673007846680926909:=0
def tw16631453801056217000:=0
def tw11730176584223114508:=0
def tw10607221015437019122:=0
def tw13957989388292191797:=0
def tw5832388114980723645:=0
def tw4582894226092838290:=0
def tw21256631989268359:=0
def tw4293794972928909442:=0
def tw1446046407071848722:=0
def tw13042409952118512065:=0
def tw17413607117119803967:=0
def tw6368285849632035094:=0
def tw10621470813061611100:=0
def tw17243244817090464844:=0
def tw13593872689021320114:=0
def tw16558871910165337517:=0
def tw4748450140820473561:=0
def tw6358499930507624551:=0
def tw3974758051763758433:=0
def tw488581782598559908:=0
def tw877863024521474584:=0
def tw7778897377146453353:=0
def tw13387734082015975931:=0
def tw237402602182269487:=0
def tw2698216453274586614:=0
def tw16910611132887107761:=0
def tw4334059003941257691:=0
def tw15531184141300480607:=0
def tw16900190290328621070:=0
def tw18027462266252270654:=0
def tw11702433545770053208:=0
def tw2765076802002792129:=0
def tw1439743649550636714:=0
def tw14545579049964641317:=0
def tw1271723834639667094:=0
def tw17744644977525450312:=0
def tw18244944911707524365:=0
def tw15188602784770763645:=0
def tw7315037083510040710:=0
def tw10942110079109094177:=0
def tw16280674505925021762:=0
def tw7828202463016028319:=0
def tw559491972910638882:=0
def tw2846211658680710606:=0
def tw8797551144749754649:=0
def tw15934191578654729416:=0
def tw6415694571545071761:=0
def tw7546000489694665126:=0
def tw4862822406163632572:=0
def tw10328099272850969833:=0
def tw9225268439290391039:=0
def tw10258206381165717385:=0
def tw5527141309441038503:=0
def tw2602856081045007228:=0
def tw3294420621995369660:=0
def tw18409799099286470705:=0
def tw1952282601495872819:=0
def tw4986085685547611468:=0
def tw6993735662478606180:=0
def tw7107924594238914544:=0
def tw17401032581621149213:=0
def tw7838100457726578323:=0
def tw4671468357176381983:=0
def tw5616552793067180395:=0
def tw13282963155816493732:=0
def tw5517506268377201678:=0
def tw17539716250810048675:=0
def tw7337464790049775737:=0
def tw15061393012582388948:=0
def tw6045451346872262941:=0
def tw15642730574474854618:=0
def tw4327237930901960741:=0
def tw14985559192951724643:=0
def tw5909186976060511321:=0
def tw13610905277963125847:=0
def tw1690349043392162523:=0
def tw7162927024442607429:=0
def tw12896912071944023775:=0
def tw7064945808230850490:=0
def tw16752515192389144451:=0
def tw7749609055188462850:=0
def tw16523978707640400864:=0
def tw12082401770417510109:=0
def tw13887967760202278722:=0
def tw8168382665398471167:=0
def tw15543407482024611057:=0
def tw2513646196322404040:=0
def tw15320515332298741895:=0
def tw6408356209241402299:=0
def tw11328635459011770568:=0
def tw13973862966061343615:=0
def tw12347255079438282614:=0
def tw15643727412462628488:=0
def tw12014297421431497656:=0
def tw6997309325250105269:=0
def tw1865611517109847714:=0
def tw493319225830632816:=0
def tw2394227820182233326:=0
def tw15219489855445062104:=0
def tw16078250853193504260:=0
def tw9935636133244345139:=0
def tw4977480230640984430:=0
def tw6938926873990780238:=0
def tw15130507717642693162:=0
def tw10736788107386464240:=0
def tw9415510457347834613:=0
def tw8189947274186023540:=0
def tw13455897893143131145:=0
def tw17977048296706278622:=0
def tw9832704414546679165:=0
def tw12119045217081473241:=0
def tw4319369765259468338:=0
def tw2812004460086768612:=0
def tw14482675513343409754:=0
def tw13729984503980468165:=0
def tw8259832758944339708:=0
def tw4932647555814610740:=0
def tw927832463336730460:=0
def tw10234200256709917244:=0
def tw18133158744295266083:=0
def tw9297909505125630379:=0
def tw1930936019882201008:=0
def tw1962334214082791738:=0
def tw14725414973211132760:=0
def tw15834703231337521671:=0
def tw13200896917085034336:=0
def tw17004066817531501534:=0
def tw10891179402238501181:=0
def tw10878184884703483681:=0
def tw9745116921688079740:=0
def tw10664074011180102057:=0
def tw2679081910716050597:=0
def tw17064553808822371697:=0
def tw6035223822323158724:=0
def tw7110624104815366411:=0
def tw134412104053564065:=0
def tw17437134038659083231:=0
def tw12413886971843657888:=0
def tw9007183032569839129:=0
def tw14958871028237481845:=0
def tw1105170241966064173:=0
def tw7505100155267789461:=0
def tw15599291707769858129:=0
def tw8343407308065019510:=0
def tw14986770179866448110:=0
def tw2436713755911362811:=0
def tw14732756857583678820:=0
def tw12340964939033466573:=0
def tw8148104811470923836:=0
def tw15758495315174259577:=0
def tw15836817060558078536:=0
def tw10218546027787211482:=0
def tw11545429821342583113:=0
def tw10628768893000968021:=0
def tw17360367647351554883:=0
def tw138991991685160634:=0
def tw3079518223276373676:=0
def tw16658810110121363101:=0
def tw5181800610021839822:=0
def tw15556032886203364973:=0
def tw10532135561917194279:=0
def tw11023340219437176514:=0
def tw9937828941983571149:=0
def tw17333076283546894792:=0
def tw9247996744251243345:=0
def tw861121150891889886:=0
def tw13195439783655429429:=0
def tw10723322470814671742:=0
def tw6864611449990305902:=0
def tw6035988979119429361:=0
end PySem.W.Fast
set_option maxRecDepth 100000 in
set_option maxHeartbeats 0 in
theorem PySem.Challenge.cw_fewsaves_k42_what_the_cheapest_costs_holds : PySem.Challenge.rw_fewsaves_k42_what_the_cheapest_costs.Holds := by
 w_on;o_law;k_head;(case hw=>w_witness2)
 k_fill
 refine Fs.walk (l:=PySem.Challenge.rw_fewsaves_k42_what_the_cheapest_costs) rfl rfl (λw h Y=>PySem.W.kIn_of Y) ?F
 case F =>
  intro w mg fa h KX G hmg
  refine' Fs.wCd KX G hmg ?x1 ?x2 ?x3 ?x4 ?x5 ?x6 ?x7 ?x8 ?x9 ?x10 ?x11 ?x12 ?x13 ?x14 ?x15 ?x16 ?x17 ?x18 ?x19 ?x20 ?x21 ?x22 ?x23 ?x24 ?x25 ?x26 ?x27 ?x28 ?x29 ?x30 ?x31 ?x32 ?x33 ?x34 ?x35 ?x36 ?x37 ?x38 ?x39 ?x40 ?x41 ?x42 ?x43 ?x44 ?x45 ?yA0 ?yp0 ?yh0 ?yo0 ?ys0 ?ym0 ?yk0 ?wn0_0 ?wn0_1 ?q0 ?q1 ?q2 ?q3 ?q4 ?u0 ?v0 ?u1 ?v1 ?z1 ?z2 ?z3 ?z4 ?z5 ?z6 ?z7 ?z8 ?z9 ?z10 ?z11 ?z12 ?z13 ?z14 ?z15 ?z16
  (case yA0=>k_is)
  (case yp0=>k_is)
  (case yh0=>k_is)
  (case yo0=>k_is)
  (case ys0=>k_is)
  (case ym0=>k_is)
  (case yk0=>k_is)
  (case wn0_0=>k_is)
  (case wn0_1=>k_is)
  all_goals try (refine' Fs.hasX ?a ?i ?l ?c ?k;(case a=>k_is);(case i=>k_is);(case l=>k_is);(case c=>k_is);(case k=>k_is))
  all_goals try (refine' Fs.hasF ?a ?l ?c ?k;(case a=>k_is);(case l=>k_is);(case c=>k_is);(case k=>k_is))
  (case u0=>k_is)
  (case v0=>exact⟨_,_,_,by k_is,rfl,rfl,by decide,.cons ⟨_,rfl⟩ (.cons ⟨_,rfl⟩ .nil)⟩)
  (case u1=>k_is)
  (case v1=>exact⟨_,_,_,by k_is,rfl,rfl,by decide,.cons ⟨_,rfl⟩ (.cons ⟨_,rfl⟩ .nil)⟩)
  all_goals k_is
