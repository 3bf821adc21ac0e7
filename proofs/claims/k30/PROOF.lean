import PyProof.Rows.All
import PyProof.TupleKey
import PyProof.DictKinds
import Wide.All
import OpenK.AllK
import Wide.FinOn
import Lean
import PyProof.EqAt
import PyProof.EqKinds
import PyProof.TupleCall
import PyProof.StationsW
import KE.KLam
import PyProof.P3Eq
import PyProof.NeData
import PyProof.AttrMissHeap
import KE.KDictOf
import PyProof.DictItems
import PyProof.Rows.Range3
import KE.KEqDict
import PyProof.FactsAll.NoneType_1
import PyProof.FactsAll.bool_1
import KE.KDictSum
import KE.KSorted
import PyProof.ListRange
import PyProof.DictTruth
import PyProof.DictWalks
import PyProof.NeKinds
import KE.KTab
import KE.KTabLook
import PyProof.ExcClass3
import PyProof.FString2
import PyProof.SliceStr2
import PyProof.StrBlock
import PyProof.StrLaws
import PyProof.StrOps2
import PyProof.DictValues
import KE.KDictList
import PyProof.PureStr
import KE.KSortTup
import PyProof.SetScanFacts
import PyProof.SetRoads
import PyProof.SetKind
import PyProof.Rows.SetFrom
import KE.KDictLaws
import KE.KSortAsk
import KE.KSortKey
import PyProof.CallStr
import PyProof.StrBlockH
import KE.KIntText
import PyProof.DictUpdate
import PyProof.Draws
import PySem.Challenge.RW_boxwright_k30_texts_there_and_back
set_option Elab.async false
set_option linter.all false
set_option maxRecDepth 100000
set_option maxHeartbeats 8000000
noncomputable section
local macro_rules | `(tactic| omega) => `(tactic| lia)
local macro_rules | `(↑$x) => `(($x).length)
local macro_rules | `(∅) => `(by omega)
theorem aL{p:Prop}[Decidable p](h:p):decide p=true:=_root_.decide_eq_true h
theorem aX{p:Prop}[Decidable p](h:¬p):decide p=false:=_root_.decide_eq_false h
open Array renaming getElem?_eq_some_iff->acV,getElem?_setIfInBounds_ne->aeJ,length_toList->afA,append_assoc->aio,forIn_toList->aiu,toList->aiJ
open Bool renaming and_eq_true->abK,false_ne_true->acj,true_and->ade,eq_false_iff->adz,eq_iff_iff->aei,false_eq_true->aew,false_and->aeS,or_eq_true->afQ,and_true->afV,not_not->agO,not_eq_true'->ahe,or_false->ahi,and_false->ahU,and_self->aiq,or_true->aiR
open Char renaming toNat->aiD
open Classical renaming byContradiction->aeD
open Decidable renaming isFalse->abZ,isTrue->acF
open False renaming elim->afl
open ForInStep renaming yield->aek
open Function renaming comp->ahr
open Int renaming toNat_of_nonneg->afF,toNat_natCast->ahb
open Lean.Syntax renaming mkApp->aiH
open List renaming length_map->abI,getElem?_eq_some_iff->abL,mem_cons_of_mem->abN,length_cons->abP,getElem?_map->abQ,mem_cons->abR,replicate->abS,mem_of_getElem?->abY,size_toArray->aca,map_cons->ace,length_append->acg,mem_map->ach,mem_singleton->ack,getElem?_eq_getElem->acn,lookup_cons->acq,length_take->acw,map_map->acz,all_eq_true->acA,mem_append->acG,mem_of_mem_take->acH,any_cons->acO,length_nil->acS,not_mem_nil->acY,mem_append_right->acZ,map_congr_left->adb,replicate_succ->adh,getElem_of_mem->adi,map_append->adk,range->adm,getElem?_append_left->ado,all_cons->ady,length_drop->adC,mem_cons_self->adF,mem_of_mem_drop->adK,append_assoc->adM,lookup->adN,take_add_one->adO,mem_range->adQ,length_set->adU,find?_cons->adV,getElem?_set_ne->aea,flatten_cons->aef,filterMap_cons->aeh,foldl_cons->aej,forIn_cons->ael,take_of_length_le->aem,any_eq_true->aep,take_length->aeq,mem_append_left->aeE,foldl_append->aeL,mem_nil_iff->aeR,getElem?_set_self->aeV,nodup_cons->afc,of_mem_zip->afd,length_zip->aff,getElem?_concat_length->afg,take_append_drop->afh,length_range->afp,map_take->afq,exists_cons_of_ne_nil->aft,forIn_nil->afy,map_nil->afH,length_filterMap_le->afI,mem_filter->afK,mem_filterMap->afL,append_nil->afN,sum_cons->afU,filterMap_eq_map'->afX,flatMap_cons->aga,getElem?_eq_none->agc,all_toArray->agg,cons_append->agi,getElem?_range->agu,flatMap_append->agB,getElem?_append_right->agD,getD_eq_getElem?_getD->agF,getElem_range->agK,contains_cons->agM,nodup_nil->agR,getElem?_take_of_lt->agW,map_drop->ahp,map_id->ahq,length_eq_zero_iff->ahs,drop_eq_nil_of_le->ahB,append_eq_nil_iff->ahC,nil_append->ahH,set_append_right->ahJ,filterMap_append->ahK,length_filter_le->ahN,length_pos_iff->aii,any_map->aiP,any_nil->aiQ
open List.cons renaming inj->ahk
open Nat renaming le_refl->abO,le_trans->abX,lt_of_lt_of_le->aci,ne_of_lt->acQ,le_of_ble_eq_true->acR,zero_add->adE,zero_le->adH,ne_of_gt->aed,lt_succ_self->aeo,lt_irrefl->aer,min_eq_left->agw,le_succ->ahl,min_le_right->ahv,le_of_lt->ahE,toDigits->ahO,add_comm->aiM,le_of_eq->aiO
open Nat.succ renaming inj->ahM
open Ne renaming symm->adD
open Option renaming map_eq_some_iff->abU,map_some->acC,bind_some->adj,isSome_iff_exists->ads,some->aeA,isSome_map->afn,ne_none_iff_exists'->afs,getD_some->ahw,none->aic
open Option.some renaming inj->acM
open PyProof.Rows renaming callWith_type1->adG,slot_tuple_getitem->aeG,callWith_builtin1->agb,boot_isinstance->agm,AllBare->ahf,subscriptTail->ahh,envOfC->ahT
open PySem renaming wpAny_bind->abF,wpAny_pure->abM,Shared->abT,Addr->abV,Value->acb,sizeLine->acd,wpAny->acf,mainGlobals->acm,model->acr,starEach->acv,wpAny_field->acD,wpAny_holding->acJ,Program->acL,compareOp->acU,wpAny_mono->acW,foldedSetIterable->acX,wpAny_callSpecial?_slot->ada,World->adl,wpAny_truthy_bool->adn,bootBuiltins->adp,Around->adq,Heap->adt,wpAny_call_entry->adv,wpAny_newObj_type->adx,Expr->adA,behindInMarks->adB,wpAny_setField_rec->adJ,assignEach->adL,wpAny_loadPart_at->adP,FuncData->adR,wpAny_setField->adS,wpAny_seqItems->adT,rawInt->adZ,sysModules->aee,Scope->aes,wpAny_standAt->aet,codeAny_call_builtin->aeF,IsPair->aeK,attributeBase->aeM,mem_of_lookup->aeN,wpAny_getItem_str_slice->aeP,swapsWith->aeQ,eval->aeX,wpAny_execs_nil->afa,letOwnedTupleGo->afb,noteFrame->afe,binaryOp->afj,NameKind->afk,typeIs_str->afm,wpAny_attempt->afo,PyData->afr,Paired->afu,backTo->afv,sizeLine_eq->afB,Builtin->afD,excClassObj->afE,wpAny_passesOwn->afM,wpAny_Call_Name_kw->afO,tupleKind_room_in1->afP,sliceBounds->afY,ExcBaseFacts->age,codeAny_handlers_test->agf,lookup_relabel_local->agk,wpAny_updateSeq_pair->agl,ZipApart->ago,builtinsNs->agp,call_meets->agq,wpAny_call->agr,holding->ags,setFlight->agt,getAttrByItsOwn->agv,wpAny_isSubtype_exc->agy,wpAny_handleBy_cons->agz,post_val_or_str->agA,wpAny_pyIter_tuple->agH,codeAny_mono->agI,slot_dict_contains->agL,codeAny_handlers_suite_as->agS,wpAny_pyIter_list->agV,typeLookup->agY,slot_dict_getitem->ahc,keywordEach->ahj,wpAny_letGo->ahn,wpAny_onRaise->aho,wpAny_execs_cons->aht,pyNext->ahu,wpAny_Try_except->ahx,tupleKeyHash->ahD,lastMarks->ahF,codeAny->ahG,isInstance->ahQ,assign->ahS,boundAndCalled->ahW,Model->ahY,Stmt->ahZ,getItem->aia,subscripted->aib,loadIfAlive->aih,tupleKind->ain,cLine->aix,PlainAttrs->aiz,valueAt->aiA,wpAny_rule->aiE,CmpOp->aiS,field->aiU,IsPart->aiX
open PySem.Around renaming under->aiK
open PySem.Builtin.BaseException renaming bexcPut->aiV
open PySem.Builtin.List renaming listTooLong->aeI
open PySem.Builtin.Slice renaming slicePlaces->aez,sliceAdjust->afw,sliceApplied->agE
open PySem.Builtin.SmallTypes renaming nextOf->acs,ownedTupleIsFree->acE,ownedTupleHandOut->afz
open PySem.Builtin.Str renaming strSliceIndices->acT,occurrences->adg,strKind->agT
open PySem.Builtin.Tuple renaming tupleExact->aeH
open PySem.Calls renaming evalArgs_plain->agj,Name_function_global->agC
open PySem.Code renaming quiet_builtin->agJ,isFrame->aiL
open PySem.EntryCells renaming newEntry->afC
open PySem.F renaming excBase_ValueError->adf,slot_zip_next->adY,slot_tuple_iterator_next->aen,slot_str_split->aeW,args_str_split_2->afJ,entry_str_split->afR,slot_str_getitem->afT,args_zip_next_1->afZ,entry_zip_next->agh,args_tuple_iterator_next_1->agn,entry_tuple_iterator_next->agx,args_tuple_add_2->agX,attr_ValueError->agZ,slot_dict_update->ahd,entry_tuple_add->ahg,slot_tuple_add->ahz
open PySem.Heap renaming get?_push_of_some->abJ,lt_size->abW,get?_update_other->acl,get?_push_size->acp,get?_update_self->acN,size_push->aeB,SameBut->aeZ,get?_none_of_le->ahR,ExtBut->aif,get?_update_ne->aig
open PySem.Heap.SameBut renaming update->aie
open PySem.NameKind renaming free->acy,cell->aeb,globalImplicit->ahm
open PySem.Obj renaming mapFields->acK,data_mapFields->adI,isFreed_of_fields->aeu,mapSeq->ahP
open PySem.Paired renaming length->afi
open PySem.PyData renaming eqv->acI,strOk->adX,eqvAll->aec,canLay0->agP,str->aha,canLayAll0->aiC,tuple->aiN
open PySem.SeqAt renaming EqAt->aiy
open PySem.SeqAt.EqAt renaming int_str->ail,str_int->aim
open PySem.Shared renaming heap->aiY
open PySem.Str renaming ofString->abH,ofString_eq_toList->afW,join->aiW
open PySem.StrLaws renaming found_one->aiI
open PySem.Txt renaming split->aex,slice->afS,slice_le->ahL,join->ait
open PySem.Value renaming ref->acu,none->acB,bool->afG,int->aij,str->aik
open PySem.W renaming Frag->abG,kitOne->aco,nsIn->acx,mg_of->acP,fnOf->adu,keepIn->adw,kia_one->adW,hideAll_get->aeg,subIn->aev,codeIn->aey,findIn->aeC,excIn->aeO,tabObj->aeU,hideAll->aeY,typeIn->afx,looks_findIn->agd,of_hideAll->agG,isFn->agN,CodeHd->agQ,methodObj->agU,cellsFrom_some->ahy,funFrames_hide->ahA,OpenLaw->ahI,notCls->ahV,noTabs->ahX,Looks->aid,callWith_K->aip,findIn->air,tail_of_in->ais,kitx_dict->aiB,specialIn->aiF,hasDictIn->aiG,handedIn->aiT
open Sum renaming inl->aiv,inr->aiw
open True renaming intro->aeT
open Option renaming some->O,none->Z
namespace L2
open PySem
section
variable{prog:acL}{w:adl}{K:Type}[DecidableEq K](knd:KeyKind prog w K)
variable{knd}
noncomputable def Gg(knd:KeyKind prog w K)(ks:List (List K)):Int:=reduceHash (Builtin.Tuple.tupleHashOf (ks.map (ahD knd)))
abbrev _root_.aY:=acb->abT->Prop
variable{A:adq}{E:aY}{s:abT}
end
open PySem PySem.Spec PyProof.Rows
abbrev Key:=Sum Int Str
noncomputable def qy:Key->acb->Bool
 | .inl k,v=>Value.isInt k v
 | .inr x,v=>Value.isStrOf x v
noncomputable def Ci(w:adl):Key->Int
 | .inl k=>hashInt k
 | .inr x=>hashStr w x
theorem jI:∀{k:Key} {v:acb},qy k v=true->(∃i t,k=aiv i/\v=aij i t)\/(∃x t,k=aiw x/\v=aik x t)
 | .inl i,v,h=>by
  obtain⟨t,e⟩:=Value.isInt_shape (k:=i) (v:=v) h;exact .inl ⟨i,t,rfl,e⟩
 | .inr x,v,h=>by
  obtain⟨t,e⟩:=Value.isStrOf_shape (x:=x) (v:=v) h;exact .inr ⟨x,t,rfl,e⟩
theorem OE(i:Int)(t:Tok):qy (.inl i) (.int i t)=true:=by simp[qy,Value.isInt]
theorem OF(x:Str)(t:Tok):qy (.inr x) (.str x t)=true:=by simp[qy,Value.isStrOf]
theorem Ud(a b:Int):decide ((aiv a:Key)=aiv b)=(a==b):=by
 by_cases e:a=b
 ·subst e;simp
 ·have h:¬(aiv a:Key)=aiv b:=λq=>e (Sum.inl.inj q)
  rw[aX h];exact(beq_eq_false_iff_ne.mpr e).symm
theorem Ue(a b:Str):decide ((aiw a:Key)=aiw b)=decide (a=b):=by
 by_cases e:a=b
 ·subst e;simp
 ·have h:¬(aiw a:Key)=aiw b:=λq=>e (Sum.inr.inj q)
  rw[aX h,aX e]
theorem Ug(a:Int)(b:Str):decide ((aiv a:Key)=aiw b)=false:=aX (λq=>nomatch q)
theorem Uh(a:Str)(b:Int):decide ((aiw a:Key)=aiv b)=false:=aX (λq=>nomatch q)
noncomputable def dm(prog:acL)(w:adl):PySem.KeyKind prog w Key where
 is:=qy
 hash:=Ci w
 inj:=λv a b ha hb=>by
  rcases jI ha with⟨i,t,rfl,rfl⟩ | ⟨x,t,rfl,rfl⟩
  ·rcases jI hb with⟨j,u,rfl,e⟩ | ⟨y,u,rfl,e⟩
   ·injection e with e1 _;rw[e1]
   ·exact nomatch e
  ·rcases jI hb with⟨j,u,rfl,e⟩ | ⟨y,u,rfl,e⟩
   ·exact nomatch e
   ·injection e with e1 _;rw[e1]
 byValue:=λk v h=>by
  rcases jI h with⟨i,t,rfl,rfl⟩ | ⟨x,t,rfl,rfl⟩ <;> rfl
 pyHash:=λhv h=>by
  rcases jI hv with⟨i,t,rfl,rfl⟩ | ⟨x,t,rfl,rfl⟩
  ·exact wpAny_pyHash_int h
  ·exact wpAny_pyHash_str h
 eqBool:=λhu hv h=>by
  rcases jI hu with⟨i,t,rfl,rfl⟩ | ⟨x,t,rfl,rfl⟩
  ·rcases jI hv with⟨j,u,rfl,rfl⟩ | ⟨y,u,rfl,rfl⟩
   ·rw[Ud] at h;exact wpAny_eqBool_int h
   ·rw[Ug] at h;exact ail i t y u _ _ _ _ h
  ·rcases jI hv with⟨j,u,rfl,rfl⟩ | ⟨y,u,rfl,rfl⟩
   ·rw[Uh] at h;exact aim x t j u _ _ _ _ h
   ·rw[Ue] at h;exact wpAny_eqBool_str h
 «strs»:=λk x t v h=>by
  rcases jI h with⟨i,u,rfl,e⟩ | ⟨y,u,rfl,e⟩
  ·exact nomatch e
  ·injection e with e1 _
   subst e1;cases v <;> rfl
theorem NP(prog:acL)(w:adl)(i:Int)(t:Tok):(dm prog w).is (.inl i) (.int i t)=true:=OE i t
theorem NQ(prog:acL)(w:adl)(x:Str)(t:Tok):(dm prog w).is (.inr x) (.str x t)=true:=OF x t
abbrev _root_.cC:=List Key
inductive V where
 | ay | bl (b:Bool) | int (i:Int) | str (x:Str) | jt (b:Array UInt8) | yS (b:UInt64) | ref (a:abV) | ty (n:String) | pv (a:abV) (ks:cC)
 deriving DecidableEq
noncomputable def RelV:V->acb->Prop
 | .ay,u=>u=acB
 | .bl b,u=>u=afG b
 | .int i,u=>∃t,u=aij i t
 | .str x,u=>∃t,u=aik x t
 | .jt b,u=>∃t,u=Value.bytes b t
 | .yS b,u=>∃t,u=Value.float b t
 | .ref a,u=>u=acu a
 | .ty n,u=>u=Value.type n
 | .pv _ _,_=>False
noncomputable def Cj(v:V)(u:acb):Prop:=RelV v u\/∃a ks,v=.pv a ks/\u=acu a
noncomputable def Lr(v:V):Prop:=∀a ks,v≠.pv a ks
variable{v:V}{u:acb}
theorem Cj.of(r:Cj v u)(h:Lr v):RelV v u:=r.elim (λz=>z) λ⟨a,ks,e,_⟩=>absurd e (h a ks)
abbrev _root_.aJ:=List V
abbrev Vals:aJ->List acb->Prop:=afu RelV
abbrev _root_.aS:=List acb
theorem Vals.length{xs:aJ}{us:aS}(r:Vals xs us):↑xs=↑us:=afi r
theorem Vals.get:∀{xs:aJ} {us:aS} {i:Nat} {x:V},Vals xs us->xs[i]? =O x->∃u,us[i]? =O u/\RelV x u
 | _,_,_,_,.nil,e=>by simp at e
 | _,_,0,_,.cons r _,e=>by simp at e;subst e;exact⟨_,rfl,r⟩
 | _,_,i+1,x,.cons _ t,e=>by
  obtain⟨u,h1,h2⟩:=Vals.get (i:=i) (x:=x) t (by simpa using e);exact⟨u,by simpa using h1,h2⟩
theorem Vals.set{x:V}{u:acb}(r:RelV x u):∀{xs:aJ} {us:aS} (i:Nat),Vals xs us->Vals (xs.set i x) (us.set i u)
 | _,_,_,.nil=>.nil
 | _,_,0,.cons _ t=>.cons r t
 | _,_,i+1,.cons q t=>.cons q (Vals.set r i t)
theorem Vals.append:∀{xs ys:aJ} {us ws:aS},Vals xs us->Vals ys ws->Vals (xs++ys) (us++ws)
 | _,_,_,_,.nil,s=>s
 | _,_,_,_,.cons r t,s=>.cons r (Vals.append t s)
theorem Vals.take:∀{xs:aJ} {us:aS} (n:Nat),Vals xs us->Vals (xs.take n) (us.take n)
 | _,_,0,_=>.nil
 | _,_,_+1,.nil=>.nil
 | _,_,n+1,.cons r t=>.cons r (Vals.take n t)
theorem Vals.drop:∀{xs:aJ} {us:aS} (n:Nat),Vals xs us->Vals (xs.drop n) (us.drop n)
 | _,_,0,r=>r
 | _,_,_+1,.nil=>.nil
 | _,_,n+1,.cons _ t=>Vals.drop n t
noncomputable def ji:Option V->Option acb->Prop
 | some v,O u=>RelV v u
 | none,Z=>True
 | _,_=>False
noncomputable def KV{κ:Type}:List (κ×V)->List (κ×acb)->Prop:=afu λ(p:κ×V) (q:κ×acb)=>p.1=q.1/\RelV p.2 q.2
noncomputable def kV:Key->V
 | .inl i=>.int i
 | .inr x=>.str x
noncomputable def uA:V->Option Key
 | .int i=>O (.inl i)
 | .bl b=>O (.inl (if b then 1 else 0))
 | .str x=>O (.inr x)
 | _=>Z
noncomputable def C2:aJ->Option cC
 | []=>O []
 | v::vs=>match uA v,C2 vs with
  | some k,O ks=>O (k::ks)
  | _,_=>Z
abbrev _root_.dC:=Array acb
abbrev _root_.gK:=List (cC×V)
abbrev _root_.dc:=List (Key×V)
inductive HO where
  | lst (xs:aJ)
  | tup (xs:aJ)
  | dK (kvs:dc) | dT (kvs:gK)
  | dU (kvs:List (V×V))
  | set (S:Int->Bool) (n:Nat)
  | ins (C dx:abV) (fs:List (Str×V))
  | own (x:abV)
  | xd (fs:List (Str×V))
  | met (f x:abV)
  | yT (lo hi:Int)
  | bC (o:Obj) (u:HO)
  | ir (ps:dC)
  | ext (φ:adt->Prop)
abbrev Hp:=abV->Option HO
noncomputable def upd(H:Hp)(a:abV)(o:HO):Hp:=λb=>if b=a then O o else H b
variable{H:Hp}{a:abV}{o:HO}
theorem bU:upd H a o a=O o:=by unfold upd;rw[if_pos rfl]
variable{b:abV}
theorem bF(h:b≠a):upd H a o b=H b:=by unfold upd;rw[if_neg h]
theorem xn{u:HO}:upd (upd H a o) a u=upd H a u:=by
 funext b;unfold upd;split <;> rfl
theorem qz{u:HO}(h:H a=O o)(h':H b=O u)(d:o≠u):a≠b:=by
 intro e;subst e;rw[h] at h';exact d (acM h')
theorem gH(h:H a=O o)(h':H b=Z):a≠b:=by
 intro e;subst e;rw[h] at h';cases h'
section
variable(P:acL)(w:adl)
noncomputable def yU(H:Hp):aJ->List cC->Prop:=afu λv ks=>∃c us,v=.ref c/\H c=O (.tup us)/\C2 us=O ks
noncomputable def uw(P:acL)(w:adl)(H:Hp)(v:V)(h:Int):Prop:=(∃k,uA v=O k/\h=Ci w k)\/(∃b ts ks,v=.ref b/\H b=O (.tup ts)/\C2 ts=O ks/\h=ahD (dm P w) ks) \/
 (∃b ts pw,v=.ref b/\H b=O (.tup ts)/\yU H ts pw/\h=Gg (dm P w) pw)\/∃a ks,v=.pv a ks/\h=ahD (dm P w) ks
noncomputable def cZ(H:Hp)(h:adt)(a:abV):HO->Prop
 | .lst xs=>↑xs<=acd/\∃(its:aS) (n:Nat),Vals xs its/\h.get? a=O { cls:=.type "list",data:=.seq its.toArray n }
 | .tup xs=>↑xs<=acd/\∃its:aS,Vals xs its/\IsTup h a its.toArray
 | .dK kvs=>↑kvs<=acd/\(a==aee)=false/\∃vs,KV kvs vs/\h.DictOf (dm P w) a vs
 | .dT kvs=>↑kvs<=acd/\(a==aee)=false/\∃xs:List (cC×abV×acb),
   afu (λ(p:cC×V) (q:cC×abV×acb)=>p.1=q.1/\H q.2.1=O (.tup (p.1.map kV))/\RelV p.2 q.2.2) kvs xs /\
   ∃o es ep,h.get? a=O o/\o.ExactDict/\o.data=.dict es ep/\es.toList=xs.map (entryOfKey (ain (dm P w)))/\(xs.map (·.1)).Nodup
 | .dU kvs=>↑kvs<=acd/\(a==aee)=false/\∃o es ep,h.get? a=O o/\o.ExactDict/\o.data=.dict es ep/\afu (λ(p:V×V) (e:DictEntry)=>Cj p.1 e.key/\RelV p.2 e.val/\uw P w H p.1 e.hash) kvs es.toList
 | .set S n=>h.SetOf (intKind P w) a S n
 | .ins C dx fs=>H dx=O (.own a)/\↑fs<=1000/\dx≠a/\h.get? a=O (PySem.W.instObj C dx) /\
   ∃mA,h.Ns1 dx mA/\(∀f,ji (fs.lookup f) (mA f))/\PySem.Within mA (fs.map (·.1))
 | .own _=>∃o,h.get? a=O o
 | .xd fs=>∃mA,h.Ns1 a mA/\∀f,ji (fs.lookup f) (mA f)
 | .yT lo hi=>∃t u v,h.get? a=O { cls:=.type "range",data:=.fields #[.int lo t,.int hi u,.int 1 v] }
 | .bC o u=>h.get? a=O o/\cZ H h a u
 | .ir ps=>h.get? a=O { cls:=.none,data:=.fields ps }
 | .met f x=>h.get? a=O (agU (.ref f) (.ref x))
 | .ext φ=>φ h/\(∃o,h.get? a=O o)/\∀h1 h2:adt,φ h1->(∀o,h1.get? a=O o->h2.get? a=O o)->φ h2
noncomputable def cI(H:Hp)(h:adt):Prop:=∀a o,H a=O o->cZ P w H h a o
end
section
variable{P:acL}{w:adl}{H H':Hp}{h h':adt}{a:abV}{o:HO}
theorem cZ.lt(x:cZ P w H h a o):a<h.objs.size:=by
 cases o with
 | lst xs=>obtain⟨_,_,_,_,e⟩:=x;exact abW e
 | tup xs=>obtain⟨_,_,_,p⟩:=x;exact p.lt
 | dK kvs=>obtain⟨_,_,_,_,o,_,_,e,_⟩:=x;exact abW e
 | dT kvs=>obtain⟨_,_,_,_,o,_,_,e,_⟩:=x;exact abW e
 | dU kvs=>obtain⟨_,_,o,_,_,e,_⟩:=x;exact abW e
 | set S n=>obtain⟨o,_,_,_,e,_⟩:=x;exact abW e
 | ins C dx fs=>obtain⟨_,_,_,e,_⟩:=x;exact abW e
 | own y=>obtain⟨_,e⟩:=x;exact abW e
 | xd fs=>obtain⟨_,⟨_,_,_,e,_⟩,_⟩:=x;exact abW e
 | yT lo hi=>obtain⟨_,_,_,e⟩:=x;exact abW e
 | bC ob u=>obtain⟨e,_⟩:=x;exact abW e
 | ir ps=>exact abW (show h.get? a=O _ from x)
 | met f y=>exact abW (show h.get? a=O _ from x)
 | ext φ=>obtain⟨_,⟨_,e⟩,_⟩:=x;exact abW e
theorem afu.ux{α β:Type}{F G:α->β->Prop}:∀{l₁:List α} {M1:List β},afu F l₁ M1->(∀a b,F a b->G a b)->afu G l₁ M1
 | _,_,.nil,_=>.nil
 | _,_,.cons r t,f=>.cons (f _ _ r) (afu.ux t f)
theorem yU.keep{H H':Hp}{ts:aJ}{pw:List cC}(r:yU H ts pw)(ht:∀b xs,H b=O (.tup xs)->H' b=O (.tup xs)):yU H' ts pw:=afu.ux r λv ks z=>by
 obtain⟨c,us,h1,h2,h3⟩:=z;exact⟨c,us,h1,ht _ _ h2,h3⟩
theorem uw.keep{H H':Hp}{v:V}{hh:Int}(z:uw P w H v hh)(ht:∀b xs,H b=O (.tup xs)->H' b=O (.tup xs)):uw P w H' v hh:=by
 rcases z with z | ⟨b,ts,ks,h1,h2,h3⟩ | ⟨b,ts,ks,h1,h2,h3,h4⟩ | z
 ·exact .inl z
 ·exact .inr (.inl ⟨b,ts,ks,h1,ht _ _ h2,h3⟩)
 ·exact .inr (.inr (.inl ⟨b,ts,ks,h1,ht _ _ h2,h3.keep ht,h4⟩))
 ·exact .inr (.inr (.inr z))
theorem cZ.jj(x:cZ P w H h a o)(k:∀b u,(b=a\/H b=O (.own a))->h.get? b=O u->h'.get? b=O u)(ho:∀b,H b=O (.own a)->H' b=O (.own a))(ht:∀b xs,H b=O (.tup xs)->H' b=O (.tup xs)):cZ P w H' h' a o:=by
 induction o with
 | lst xs=>obtain⟨z,its,n,r,e⟩:=x;exact⟨z,its,n,r,k _ _ (.inl rfl) e⟩
 | tup xs=>obtain⟨z,its,r,ob,e,c⟩:=x;exact⟨z,its,r,ob,k _ _ (.inl rfl) e,c⟩
 | dK kvs=>obtain⟨z,y,vs,r,ob,es,ep,e,c⟩:=x;exact⟨z,y,vs,r,ob,es,ep,k _ _ (.inl rfl) e,c⟩
 | dT kvs=>
  obtain⟨z,y,xs,r,ob,es,ep,e,c⟩:=x;exact⟨z,y,xs,afu.ux r λp q z=>⟨z.1,ht _ _ z.2.1,z.2.2⟩,ob,es,ep,k _ _ (.inl rfl) e,c⟩
 | dU kvs=>
  obtain⟨z,y,ob,es,ep,e,c1,c2,r⟩:=x;exact⟨z,y,ob,es,ep,k _ _ (.inl rfl) e,c1,c2,afu.ux r λp q z=>⟨z.1,z.2.1,uw.keep z.2.2 ht⟩⟩
 | set S n=>obtain⟨ob,es,ep,t,e,c⟩:=x;exact⟨ob,es,ep,t,k _ _ (.inl rfl) e,c⟩
 | ins C dx fs=>
  obtain⟨d,z,ne,e,mA,⟨od,es,ep,e2,c⟩,r⟩:=x;exact⟨ho _ d,z,ne,k _ _ (.inl rfl) e,mA,⟨od,es,ep,k _ _ (.inr d) e2,c⟩,r⟩
 | own y=>obtain⟨ob,e⟩:=x;exact⟨ob,k _ _ (.inl rfl) e⟩
 | xd fs=>obtain⟨mA,⟨od,es,ep,e,c⟩,r⟩:=x;exact⟨mA,⟨od,es,ep,k _ _ (.inl rfl) e,c⟩,r⟩
 | yT lo hi=>obtain⟨t,u,v,e⟩:=x;exact⟨t,u,v,k _ _ (.inl rfl) e⟩
 | bC ob u ih=>obtain⟨e,q⟩:=x;exact⟨k _ _ (.inl rfl) e,ih q⟩
 | ir ps=>
  have e:h.get? a=O { cls:=.none,data:=.fields ps }:=x;show h'.get? a=O { cls:=.none,data:=.fields ps };exact k a _ (.inl rfl) e
 | met f y=>
  have e:h.get? a=O (agU (.ref f) (.ref y)):=x;show h'.get? a=O (agU (.ref f) (.ref y));exact k a _ (.inl rfl) e
 | ext φ=>obtain⟨p,⟨o,e⟩,st⟩:=x;exact⟨st _ _ p λo q=>k _ _ (.inl rfl) q,⟨o,k _ _ (.inl rfl) e⟩,st⟩
theorem cI.lt(x:cI P w H h)(e:H a=O o):a<h.objs.size:=(x a o e).lt
theorem cI.fresh(x:cI P w H h)(e:h.objs.size<=a):H a=none:=by
 cases q:H a with
 | none=>rfl
 | some u=>exact absurd (aci (x.lt q) e) (aer _)
theorem cI.kept(x:cI P w H h)(k:∀b u,h.get? b=O u->h'.get? b=O u):cI P w H h':=λa o e=>
 (x a o e).jj (λb u _ q=>k b u q) (λ_ q=>q) λ_ _ q=>q
theorem cI.laid(x:cI P w H h)(k:∀b u,h.get? b=O u->h'.get? b=O u)(hp:h.objs.size<=a)(new:cZ P w (upd H a o) h' a o):cI P w (upd H a o) h':=λb u e=>by
 have hn:=x.fresh hp;by_cases hb:b=a
 ·subst hb;rw[bU] at e;cases e;exact new
 ·rw[bF hb] at e;exact(x b u e).jj (λc v _ q=>k c v q) (λc q=>by rw[bF (gH q hn)];exact q) λc xs q=>by rw[bF (gH q hn)];exact q
end
noncomputable def Rd(H:Hp)(a:abV)(u:HO):Prop:=H a=O u\/∃o,H a=O (.bC o u)
variable{P:acL}{h:adt}
theorem Rd.ok{w:adl}{u:HO}(r:Rd H a u)(x:cI P w H h):cZ P w H h a u:=by
 rcases r with r | ⟨o,r⟩
 ·exact x a u r
 ·obtain⟨_,q⟩:=x a _ r;exact q
noncomputable def lM:Option HO->Prop
 | some (.lst _)=>True
 | some (.dK _)=>True
 | some (.dT _)=>True
 | some (.dU _)=>True
 | some (.set _ _)=>True
 | some (.ins _ _ _)=>True
 | some (.ext _)=>True
 | _=>False
section
variable{P:acL}{w:adl}{H:Hp}{h h':adt}{x e:abV}{o':HO}
theorem cI.write(ok:cI P w H h)(mu:lM (H x))(he:e=x\/H e=O (.own x))(k:∀b u,b≠e->h.get? b=O u->h'.get? b=O u)(rm:∃u,h'.get? e=O u)(new:cZ P w (upd H x o') h' x o'):cI P w (upd H x o') h':=λb u q=>by
 have KD:∀c y,H c=O (.own y)->c≠x:=λc y r z=>by subst z;rw[r] at mu;exact mu
 have Zb:∀c xs,H c=O (.tup xs)->c≠x:=λc xs r z=>by subst z;rw[r] at mu;exact mu
 by_cases hb:b=x
 ·subst hb;rw[bU] at q;cases q;exact new
 ·rw[bF hb] at q;by_cases jW:b=e
  ·have q':H b=O (.own x):=by
    rcases he with z | z
    ·exact absurd (jW.trans z) hb
    ·rw[jW];exact z
   rw[q] at q';cases q';obtain⟨v,hv⟩:=rm;exact⟨v,by rw[jW];exact hv⟩
  ·refine(ok b u q).jj (λc v hc r=>k c v ?_ r) (λc r=>by rw[bF (KD c b r)];exact r) λc xs r=>by rw[bF (Zb c xs r)];exact r
   rcases hc with rfl | hc
   ·exact jW
   ·rintro rfl
    rcases he with z | z
    ·exact KD c b hc z
    ·rw[hc] at z;cases z;exact hb rfl
end
structure Un(fs ex:List abV)(H H':Hp)(h h':adt):Prop where
 keep:∀b o,h.get? b=O o->H b=Z->b∉fs->b∉ex->h'.get? b=O o
 slot:∀b o,h.get? b=O o->H b=Z->b∈fs->b∉ex->∃sl,h'.get? b=O { o with slots:=sl }
 free:∀b o,h.get? b=O o->H b=Z->b∉ex->H' b=Z
 there:∀b o,h.get? b=O o->b∉ex->∃o',h'.get? b=O o'
 g7:∀b xs,H b=O (.tup xs)->H' b=O (.tup xs)
 fU:∀b o u,H b=O (.bC o u)->H' b=O (.bC o u)
 gL:∀b ps,H b=O (.ir ps)->∃more,H' b=O (.ir (ps++more))
section
variable{fs fs' ex ex':List abV}{H H1 H2:Hp}{h h1 h2 h':adt}{a x e:abV}{o:HO}
theorem Un.any(u:Un fs ex H H1 h h1){b:abV}{ob:Obj}(q:h.get? b=O ob)(n:H b=Z)(hx:b∉ex):∃sl,h1.get? b=O { ob with slots:=sl }:=by
 by_cases hb:b∈fs
 ·exact u.slot b ob q n hb hx
 ·exact⟨ob.slots,u.keep b ob q n hb hx⟩
theorem Un.kept(k:∀b u,h.get? b=O u->h'.get? b=O u):Un fs ex H H h h':=
 ⟨λb ob q _ _ _=>k b ob q,λb ob q _ _ _=>⟨ob.slots,k b ob q⟩,λ_ _ _ n _=>n,λb ob q _=>⟨ob,k b ob q⟩,λ_ _ q=>q,λ_ _ _ q=>q,λ_ ps q=>⟨#[],by rw[q];simp⟩⟩
theorem Un.refl:Un fs ex H H h h:=Un.kept λ_ _ q=>q
theorem Un.laid(k:∀b u,h.get? b=O u->h'.get? b=O u)(hp:h.objs.size<=a)(hn:H a=Z):Un fs ex H (upd H a o) h h' where
 keep:=λb u q _ _ _=>k b u q
 slot:=λb u q _ _ _=>⟨u.slots,k b u q⟩
 free:=λb u q n _=>by rw[bF (acQ (aci (abW q) hp))];exact n
 there:=λb u q _=>⟨u,k b u q⟩
 g7:=λb xs q=>by rw[bF (gH q hn)];exact q
 fU:=λb u xs q=>by rw[bF (gH q hn)];exact q
 gL:=λb ps q=>⟨#[],by rw[bF (gH q hn),q];simp⟩
theorem Un.write(mu:lM (H x))(he:e=x\/H e=O (.own x))(k:∀b u,b≠e->h.get? b=O u->h'.get? b=O u)(rm:∃u,h'.get? e=O u):Un fs ex H (upd H x o) h h':=by
 have hx:∀b,H b=Z->b≠x:=λb n z=>by subst z;rw[n] at mu;exact mu
 have hb:∀b,H b=Z->b≠e:=λb n z=>by
  subst z
  rcases he with r | r
  ·exact hx b n r
  ·rw[n] at r;cases r
 have hm:∀b u,H b=O u->¬lM (O u)->b≠x:=λb u q nm z=>by subst z;rw[q] at mu;exact nm mu
 refine⟨λb u q n _ _=>k b u (hb b n) q,λb u q n _ _=>⟨u.slots,k b u (hb b n) q⟩,λb u q n _=>by rw[bF (hx b n)];exact n,λb u q _=>?_,
  λb xs q=>by rw[bF (hm b _ q λz=>z)];exact q,λb u xs q=>by rw[bF (hm b _ q λz=>z)];exact q,λb ps q=>⟨#[],by rw[bF (hm b _ q λz=>z),q];simp⟩⟩
 by_cases jW:b=e
 ·subst jW;exact rm
 ·exact⟨u,k b u jW q⟩
end
noncomputable def yV(h:adt)(H:Hp):List Addr:=(adm h.objs.size).filter λa=>(H a).isSome
noncomputable def lr(h:adt)(H:Hp):Heap:=aeY h (yV h H)
theorem OG(h:adt)(H:Hp):(lr h H).objs.size=h.objs.size:=PySem.W.hideAll_size _ _
theorem P1{o:Obj}(e:h.get? b=O o)(n:H b=Z):(lr h H).get? b=O o:=
 aeg _ e λhm=>by
  have q:(H b).isSome=true:=(afK.mp hm).2;rw[n] at q;simp at q
theorem Rk{o:Obj}(e:(lr h H).get? b=O o):h.get? b=O o/\H b=none:=by
 have e':h.get? b=O o:=agG (yV h H) e;refine⟨e',?_⟩;cases q:H b with
 | none=>rfl
 | some x=>
  have hm:b∈yV h H:=afK.mpr ⟨adQ.mpr (abW e'),by simp[q]⟩;have z:(lr h H).get? b=none:=PySem.W.hideAll_none (yV h H) hm;rw[z] at e;cases e
noncomputable def Rl(g h:adt)(L:abV):List (abV×Obj):=(adm h.objs.size).filterMap λa=>if a=L\/(g.get? a).isSome=true then Z else(h.get? a).map λo=>(a,o)
noncomputable def rest(g h:adt)(L d:abV):List (abV×Obj):=(Rl g h L).filter λp=>decide (p.1≠d)
abbrev _root_.dr:=Str->Option acb
structure Mod(K:abG)(mg:dr)(base:adt):Prop where
 cR:K.In base
 glob:base.Ns acm mg
 blt:∃mb,base.Ns agp mb/\∀x:Str,x≠"__name__"->mb x=adp x
 nolimit:base.NoLimit
 bm:∃bm ob,mg "__builtins__"=O (.ref bm)/\bm≠agp/\base.get? bm=O ob/\ob.cls=.type "module"/\ob.dict=O agp/\ob.data=.plain
abbrev _root_.aN:=List Str
structure Cx where
 prog:acL
 w:adl
 K:abG
 mg:Str->Option acb
 base:adt
 A:adq
 N:aN
 aI:abT
 ba:Hp
 env:Env
 outer:List Env
 stack:List Env
 ex:List abV
 fn:Str->Bool
 calm:Bool
 pn:List (abV×Obj)
 xe:acb->abT->Prop
 kp:List (Option V)->Prop
noncomputable def dz(l:List Env):List Addr:=l.filterMap (·.frame)
abbrev Cx.fs(X:Cx):List Addr:=dz X.outer
noncomputable def ju(sc:aes)(x:Str):Prop:=sc.names.lookup x=O .local\/sc.names.lookup x=O .cell\/sc.names.lookup x=O .free
noncomputable def Loc(sc:aes)(x:Str):Prop:=sc.names.lookup x=O .local\/sc.names.lookup x=O .cell
noncomputable def Look(env:Env)(h:adt)(m:dr)(x:Str)(u:acb):Prop:=
 (env.kindOf x=O .local/\m x=O u)\/((env.kindOf x=O .cell\/env.kindOf x=O .free)/\∃c,env.cells.lookup x=O c/\h.IsCell c (O u))
structure Cx.Ok(X:Cx):Prop where
 mod:Mod X.K X.mg X.base
 kind:X.env.scope.kind=.function
 glob:X.env.globals=acm
 blt:X.env.builtins=agp
 above:X.aI.heap.objs.size<=X.env.locals
 inj:∀x y c,X.env.cells.lookup x=O c->X.env.cells.lookup y=O c->x=y
 has:∀x,(X.env.kindOf x=O .cell\/X.env.kindOf x=O .free)->∃c,X.env.cells.lookup x=O c
 nB:∀x c,X.fn x=true->X.env.cells.lookup x=O c->X.aI.heap.objs.size<=c
 hd:X.calm=true->X.A.handled=Z
 frames:X.A.frames=O X.stack
 pz:X.stack=X.outer\/(X.stack=X.env::X.outer/\X.env.frame=O X.env.locals)
 uZ:∀b∈X.ex,b≠X.env.locals/\∀x c,X.env.cells.lookup x=O c->c≠b
 bs:∀b o,X.base.get? b=O o->X.aI.heap.get? b=O o/\X.ba b=Z
 jX:X.base.objs.size<=X.aI.heap.objs.size
 mU:∀b o,X.base.get? b=O o->b∉X.ex
 mV:∀b∈X.ex,b∉X.fs
 gz:X.aI.heap.FunFrames X.base X.outer
 kK:∀b∈X.fs,X.ba b=Z
structure Inv(X:Cx)(pins:List (abV×Obj))(σ:List (Option V))(H:Hp)(s:abT):Prop where
 ok:X.Ok
 os:s.os=X.aI.os
 bare:ahf s.gens
 base:Un X.fs X.ex X.ba H X.aI.heap s.heap
 loc:∃m,s.heap.Ns X.env.locals m/\∀(i:Nat) (x:Str) (v:V),X.N[i]? =O x->σ[i]? =O (O v)->ju X.env.scope x->∃u,RelV v u/\Look X.env s.heap m x u
 cell:∀x c,X.env.cells.lookup x=O c->∃v,s.heap.IsCell c v
 free:H X.env.locals=Z
 ik:∀x c,X.env.cells.lookup x=O c->(X.fn x=true->H c=Z)/\(H c=Z\/∃o,H c=O (.bC o (.ext λ_=>True)))
 pin:∀p∈X.pn++pins,s.heap.get? p.1=O p.2/\H p.1=Z/\p.1≠X.env.locals/\p.1∉X.fs/\∀v,p.2.data≠.cell v
 aA:cI X.prog X.w H s.heap
 lk:σ.length=X.N.length/\X.kp σ
variable{X:Cx}
theorem Inv.len{pins:List (abV×Obj)}{σ:List (Option V)}{s:abT}(I:Inv X pins σ H s):σ.length=X.N.length:=I.lk.1
noncomputable def iN(X:Cx)(x:Str):Prop:=∀i,X.N[i]? =O x->∀(σ:List (Option V)) (o:Option V),X.kp σ->X.kp (σ.set i o)
section
variable{X:Cx}{pins:List (abV×Obj)}{σ:List (Option V)}{H H':Hp}{s:abT}{h':adt}
theorem Cx.Ok.Zc(ok:X.Ok){b:abV}{o:Obj}(e:X.base.get? b=O o):b∉X.fs:=λhb=>by
 have:=(ok.gz.mem hb).1;rw[e] at this;cases this
theorem Inv.bs(I:Inv X pins σ H s):∀b o,X.base.get? b=O o->s.heap.get? b=O o/\H b=none:=λb o e=>
 ⟨I.base.keep b o (I.ok.bs b o e).1 (I.ok.bs b o e).2 (I.ok.Zc e) (I.ok.mU b o e),I.base.free b o (I.ok.bs b o e).1 (I.ok.bs b o e).2 (I.ok.mU b o e)⟩
theorem Inv.bk(I:Inv X pins σ H s):∀b o,X.base.get? b=O o->s.heap.get? b=O o:=λb o e=>(I.bs b o e).1
theorem Inv.mod(I:Inv X pins σ H s):Mod X.K X.mg X.base:=I.ok.mod
theorem Inv.cS(I:Inv X pins σ H s):X.K.In s.heap:=I.ok.mod.cR.keeps I.bk
theorem Inv.lt(I:Inv X pins σ H s):X.env.locals<s.heap.objs.size:=let ⟨_,hn,_⟩:=I.loc;hn.lt
theorem Inv.sz(I:Inv X pins σ H s):X.aI.heap.objs.size<=s.heap.objs.size:=abX I.ok.above (ahE I.lt)
theorem Inv.Zd(I:Inv X pins σ H s){a:abV}(h:s.heap.objs.size<=a):a∉X.fs:=λhb=>by
 obtain⟨_,o,ho,_⟩:=I.ok.gz.mem hb;exact absurd (aci (abW ho) (abX I.sz h)) (aer _)
theorem Inv.lO(I:Inv X pins σ H s):∀x c,X.env.cells.lookup x=O c->c≠X.env.locals:=λx c e z=>by
 obtain⟨v,o,ho,hd⟩:=I.cell x c e;obtain⟨m,⟨o',es,ep,eM,kL,_⟩,_⟩:=I.loc;rw[z,eM] at ho;cases ho;rw[kL] at hd;cases hd
theorem Inv.gz(I:Inv X pins σ H s):s.heap.FunFrames X.base X.outer:=by
 have all:∀(l:List Env),(∀b∈dz l,b∈X.fs)->X.aI.heap.FunFrames X.base l->s.heap.FunFrames X.base l:=by
  intro l
  induction l with
  | nil=>intro _ _;trivial
  | cons env r ih=>
   intro hs hl;obtain⟨hk,⟨L,o,hf,hn,ho,hd⟩,hr⟩:=hl;have hL:L∈X.fs:=hs L (by unfold dz;rw[aeh,hf];exact adF);obtain⟨sl,e⟩:=I.base.slot L o ho (I.ok.kK L hL) hL λz=>I.ok.mV L z hL
   exact⟨hk,⟨L,_,hf,hn,e,hd⟩,ih (λb hb=>hs b (by unfold dz;rw[aeh,hf];exact abN _ hb)) hr⟩
 exact all X.outer (λ_ hb=>hb) I.ok.gz
theorem Inv.stack(I:Inv X pins σ H s):s.heap.FunFrames X.base X.stack:=by
 rcases I.ok.pz with e | ⟨e,hf⟩
 ·rw[e];exact I.gz
 ·rw[e];obtain⟨m,hn,_⟩:=I.loc;refine .cons (by rw[I.ok.kind];decide) hf hn ?_ I.gz;exact ahR (abX I.ok.jX I.ok.above)
theorem Inv.Bu(I:Inv X pins σ H s):∀b∈dz X.stack,b∈X.env.locals::X.fs:=λb hb=>by
 rcases I.ok.pz with e | ⟨e,hf⟩
 ·rw[e] at hb;exact abN _ hb
 ·rw[e] at hb;unfold dz at hb;rw[aeh,hf] at hb;exact hb
theorem Inv.tD(I:Inv X pins σ H s):∀b∈dz X.stack,H b=none:=λb hb=>by
 rcases abR.mp (I.Bu b hb) with e | hb
 ·rw[e];exact I.free
 ·obtain⟨_,o,ho,_⟩:=I.ok.gz.mem hb;exact I.base.free b o ho (I.ok.kK b hb) λz=>I.ok.mV b z hb
variable{t':Nat}{ch:List abV}
theorem Inv.step{g':Array GenState}{d':Drawn}(I:Inv X pins σ H s)(jw:∀b∈ch,(b∈X.ex\/X.aI.heap.objs.size<=b)/\b≠X.env.locals/\(∀x c,X.env.cells.lookup x=O c->c≠b)/\∀p∈X.pn++pins,p.1≠b)(keep:∀b o,b≠X.env.locals->b∉X.fs->b∉ch->s.heap.get? b=O o->H b=Z->h'.get? b=O o)(slot:∀b o,b≠X.env.locals->b∈X.fs->b∉ch->s.heap.get? b=O o->H b=Z->∃sl,h'.get? b=O { o with slots:=sl })(free:∀b o,b∉ch->s.heap.get? b=O o->H b=Z->H' b=Z)
  (there:∀b o,b∉ch->s.heap.get? b=O o->∃o',h'.get? b=O o')
  (g7:∀b xs,H b=O (.tup xs)->H' b=O (.tup xs)) (fU:∀b o u,H b=O (.bC o u)->H' b=O (.bC o u)) (gL:∀b ps,H b=O (.ir ps)->∃more,H' b=O (.ir (ps++more)))
  (ns:∀m,s.heap.Ns X.env.locals m->h'.Ns X.env.locals m) (aA:cI X.prog X.w H' h') (hg:ahf g') :
  Inv X pins σ H' { s with heap:=h',gens:=g',drawn:=d',toks:=t' }:=by
 have lQ:∀b o,X.aI.heap.get? b=O o->b≠X.env.locals:=λb o e=>acQ (aci (abW e) I.ok.above)
 have pA:∀b o,X.aI.heap.get? b=O o->b∉X.ex->b∉ch:=λb o e hx hb=>by
  rcases(jw b hb).1 with z | z
  ·exact hx z
  ·exact absurd (aci (abW e) z) (aer _)
 have cellK:∀x c,X.env.cells.lookup x=O c->∀v,s.heap.IsCell c v->h'.IsCell c v:=λx c e v ⟨o,ho,hd⟩=>by
  have nC:c∉ch:=λz=>(jw c z).2.2.1 x c e rfl
  rcases(I.ik x c e).2 with fr | ⟨ob,fr⟩
  ·by_cases hc:c∈X.fs
   ·obtain⟨sl,q⟩:=slot c o (I.lO x c e) hc nC ho fr;exact⟨_,q,hd⟩
   ·exact⟨o,keep c o (I.lO x c e) hc nC ho fr,hd⟩
  ·have e1:s.heap.get? c=O ob:=(I.aA c _ fr).1;have e2:h'.get? c=O ob:=(aA c _ (fU c _ _ fr)).1;rw[ho] at e1;cases e1;exact⟨o,e2,hd⟩
 refine⟨I.ok,I.os,hg,⟨λb o e n hb hx=>?_,λb o e n hb hx=>?_,λb o e n hx=>?_,λb o e hx=>?_,λb xs e=>g7 b xs (I.base.g7 b xs e),λb o xs e=>fU b o xs (I.base.fU b o xs e),λb ps e=>?_⟩,?_,λx c e=>?_,?_,λx c e=>?_,λp hp=>?_,aA,I.lk⟩
 ·exact keep b o (lQ b o e) hb (pA b o e hx) (I.base.keep b o e n hb hx) (I.base.free b o e n hx)
 ·obtain⟨sl,e1⟩:=I.base.slot b o e n hb hx;obtain⟨C3,e2⟩:=slot b _ (lQ b o e) hb (pA b o e hx) e1 (I.base.free b o e n hx);exact⟨C3,e2⟩
 ·obtain⟨o',e1⟩:=I.base.there b o e hx;exact free b o' (pA b o e hx) e1 (I.base.free b o e n hx)
 ·obtain⟨o',e1⟩:=I.base.there b o e hx;exact there b o' (pA b o e hx) e1
 ·obtain⟨m1,e1⟩:=I.base.gL b ps e;obtain⟨m2,e2⟩:=gL b _ e1;exact⟨m1++m2,by rw[e2,aio]⟩
 ·obtain⟨m,hn,hl⟩:=I.loc;refine⟨m,ns m hn,λi x v e1 e2 e3=>?_⟩;obtain⟨u,r,l⟩:=hl i x v e1 e2 e3;refine⟨u,r,?_⟩
  rcases l with l | ⟨k,c,e,z⟩
  ·exact .inl l
  ·exact .inr ⟨k,c,e,cellK x c e _ z⟩
 ·obtain⟨v,z⟩:=I.cell x c e;exact⟨v,cellK x c e v z⟩
 ·obtain⟨m,⟨o,_,_,ho,_⟩,_⟩:=I.loc;exact free _ o (λz=>(jw _ z).2.1 rfl) ho I.free
 ·obtain⟨v,o,ho,hd⟩:=I.cell x c e;have nC:c∉ch:=λz=>(jw c z).2.2.1 x c e rfl
  exact⟨λhf=>free c o nC ho ((I.ik x c e).1 hf),(I.ik x c e).2.imp (λfr=>free c o nC ho fr) λ⟨ob,fr⟩=>⟨ob,fU c _ _ fr⟩⟩
 ·obtain⟨e,n,ne,nf,d⟩:=I.pin p hp;have nC:p.1∉ch:=λz=>(jw p.1 z).2.2.2 p hp rfl
  exact⟨keep p.1 p.2 ne nf nC e n,free p.1 p.2 nC e n,ne,nf,d⟩
theorem Inv.un(I:Inv X pins σ H s)(u:Un X.fs [] H H' s.heap h')(aA:cI X.prog X.w H' h'):Inv X pins σ H' { s with heap:=h',toks:=t' }:=by
 obtain⟨m,⟨o,es,ep,ho,r⟩,_⟩:=id I.loc;obtain⟨sl,hL⟩:=u.any ho I.free (by simp);exact I.step (g':=s.gens) (d':=s.drawn) (ch:=[]) (λ_ z=>nomatch z) (λb o _ hb _ e n=>u.keep b o e n hb (by simp)) (λb o _ hb _ e n=>u.slot b o e n hb (by simp)) (λb o _ e n=>u.free b o e n (by simp)) (λb o _ e=>u.there b o e (by simp)) u.g7 u.fU u.gL (λm' hm=>by
  obtain⟨o',rq,rA,eM,r'⟩:=hm;rw[ho] at eM;cases eM;exact⟨_,rq,rA,hL,r'⟩) aA I.bare
theorem Inv.call{g':Array GenState}{d':Drawn}(I:Inv X pins σ H s)(u:Un (dz X.stack) ch H H' s.heap h')(aA:cI X.prog X.w H' h')(hg:ahf g')(jw:∀b∈ch,(b∈X.ex\/X.aI.heap.objs.size<=b)/\b≠X.env.locals/\(∀x c,X.env.cells.lookup x=O c->c≠b)/\∀p∈X.pn++pins,p.1≠b):Inv X pins σ H' { s with heap:=h',gens:=g',drawn:=d',toks:=t' }:=by
 obtain⟨m,⟨o,es,ep,ho,r⟩,_⟩:=id I.loc;obtain⟨sl,hL⟩:=u.any ho I.free λz=>(jw _ z).2.1 rfl
 exact I.step (ch:=ch) jw (λb o hL hb hc e n=>u.keep b o e n (λz=>(abR.mp (I.Bu b z)).elim hL hb) hc) (λb o _ _ hc e n=>u.any e n hc) (λb o hc e n=>u.free b o e n hc) (λb o hc e=>u.there b o e hc) u.g7 u.fU u.gL (λm' hm=>by
  obtain⟨o',rq,rA,eM,r'⟩:=hm;rw[ho] at eM;cases eM;exact⟨_,rq,rA,hL,r'⟩) aA hg
theorem Inv.turned{it:abV}(I:Inv X pins σ H s)(k:∀b o,b≠it->s.heap.get? b=O o->h'.get? b=O o)(hn:H it=Z)(hL:it≠X.env.locals)(h1:it∈X.ex\/X.aI.heap.objs.size<=it)(h2:∀x c,X.env.cells.lookup x=O c->c≠it)(h3:∀p∈X.pn++pins,p.1≠it):Inv X pins σ H { s with heap:=h',toks:=t' }:=by
 have nD:∀b u,H b=O u->b≠it:=λb u e z=>by rw[z,hn] at e;cases e
 refine I.step (g':=s.gens) (d':=s.drawn) (ch:=[it]) (λb hb=>?_) (λb o _ _ hc e _=>k b o (λz=>hc (by simp[z])) e) (λb o _ _ hc e _=>⟨o.slots,k b o (λz=>hc (by simp[z])) e⟩) (λ_ _ _ _ n=>n)
  (λb o hc e=>⟨o,k b o (λz=>hc (by simp[z])) e⟩) (λ_ _ e=>e) (λ_ _ _ e=>e) (λb ps e=>⟨#[],by rw[e];simp⟩) (λm hm=>?_) (λb u e=>?_) I.bare
 ·have e:b=it:=by simpa using hb
  subst e;exact⟨h1,hL,h2,h3⟩
 ·obtain⟨o,es,ep,ho,r⟩:=hm;exact⟨o,es,ep,k _ o (adD hL) ho,r⟩
 ·refine(I.aA b u e).jj (λc v hc q=>k c v ?_ q) (λ_ q=>q) λ_ _ q=>q
  rcases hc with z | z
  ·rw[z];exact nD b u e
  ·exact nD c _ z
theorem Inv.tok(I:Inv X pins σ H s)(t:Nat):Inv X pins σ H { s with toks:=t }:=I.un (h':=s.heap) (t':=t) Un.refl I.aA
theorem Inv.kept{t':Nat}(I:Inv X pins σ H s)(k:∀b u,s.heap.get? b=O u->h'.get? b=O u):Inv X pins σ H { s with heap:=h',toks:=t' }:=I.un (Un.kept k) (I.aA.kept k)
theorem Inv.laid{a:abV}{o:HO}{t':Nat}(I:Inv X pins σ H s)(k:∀b u,s.heap.get? b=O u->h'.get? b=O u)(hp:s.heap.objs.size<=a)(new:cZ X.prog X.w (upd H a o) h' a o):Inv X pins σ (upd H a o) { s with heap:=h',toks:=t' }:=I.un (Un.laid k hp (I.aA.fresh hp)) (I.aA.laid k hp new)
theorem Inv.write{x e:abV}{o:HO}{t':Nat}(I:Inv X pins σ H s)(mu:lM (H x))(he:e=x\/H e=O (.own x))(k:∀b u,b≠e->s.heap.get? b=O u->h'.get? b=O u)(rm:∃u,h'.get? e=O u)(new:cZ X.prog X.w (upd H x o) h' x o):Inv X pins σ (upd H x o) { s with heap:=h',toks:=t' }:=I.un (Un.write mu he k rm) (I.aA.write mu he k rm new)
theorem Inv.G5{iH:List (abV×Obj)}(I:Inv X pins σ H s)(h:∀p∈iH,s.heap.get? p.1=O p.2/\H p.1=Z/\p.1≠X.env.locals/\p.1∉X.fs/\∀v,p.2.data≠.cell v):Inv X iH σ H s:=
 ⟨I.ok,I.os,I.bare,I.base,I.loc,I.cell,I.free,I.ik,λp hp=>(acG.mp hp).elim (λz=>I.pin p (aeE _ z)) (h p),I.aA,I.lk⟩
variable{i:Nat}{x:Str}
theorem AE{N:aN}(hN:N.Nodup){j:Nat}(a:N[i]? =O x)(b:N[j]? =O x):i=j:=by
 obtain⟨h1,e1⟩:=abL.mp a;obtain⟨h2,e2⟩:=abL.mp b;exact(List.getElem_inj hN).mp (e1.trans e2.symm)
theorem Fx{M:ahY}{A:adq}{E:aY}{v:V}{u:acb}{Q:Unit->abT->Prop}(I:Inv X pins σ H s)(hN:X.N.Nodup)(hi:X.N[i]? =O x)(hx:Loc X.env.scope x)(r:RelV v u)(h:∀s',Inv X pins (σ.set i (O v)) H s'->(∃a,aeZ a s.heap s'.heap/\(a=X.env.locals\/X.env.cells.lookup x=O a))->Q () s')(hf:(X.fn x=true\/X.env.scope.names.lookup x=O .local)/\iN X x):acf M A (storeName X.env x u) Q E s:=by
 obtain⟨m,hn,hl⟩:=id I.loc;have lx:(X.env.scope.kind==.class||(X.env.scope.kind==.module&&X.env.locals != X.env.globals))=false:=by rw[I.ok.kind];rfl
 have Ls:i<σ.length:=by rw[I.len];exact(abL.mp hi).1
 have lO:=I.lO;have tracked:∀{a:abV} {h':adt},(∃o,s.heap.get? a=O o/\H a=Z)->aeZ a s.heap h'->cI X.prog X.w H h':=λ{a h'} ha hs b ob e=>by
  obtain⟨_,_,JN⟩:=ha;refine(I.aA b ob e).jj (λc w' hc q=>(hs.2 c ?_).trans q) (λ_ q=>q) λ_ _ q=>q
  rintro rfl
  rcases hc with rfl | hc
  ·rw[JN] at e;cases e
  ·rw[JN] at hc;cases hc
 rcases hx with hk | hk
 ·refine wpAny_storeName_local hk hn (λh' iS hs=>?_) lx;obtain⟨oL,_,_,hoL,_⟩:=id hn;refine h _ ⟨I.ok,I.os,I.bare,⟨λb o e n hb hx=>?_,λb o e n hb hx=>?_,I.base.free,λb o e hx=>?_,I.base.g7,I.base.fU,I.base.gL⟩,⟨_,iS,λj y v' e1 e2 e3=>?_⟩,λy c e=>?_,I.free,I.ik,λp hp=>?_,tracked ⟨oL,hoL,I.free⟩ hs,⟨by simpa using I.len,hf.2 i hi σ (O v) I.lk.2⟩⟩ ⟨_,hs,.inl rfl⟩
  ·exact(hs.2 b (acQ (aci (abW e) I.ok.above))).trans (I.base.keep b o e n hb hx)
  ·obtain⟨sl,e1⟩:=I.base.slot b o e n hb hx;exact⟨sl,(hs.2 b (acQ (aci (abW e) I.ok.above))).trans e1⟩
  ·obtain⟨o',e1⟩:=I.base.there b o e hx;exact⟨o',(hs.2 b (acQ (aci (abW e) I.ok.above))).trans e1⟩
  ·by_cases hj:j=i
   ·subst hj;rw[hi] at e1;cases e1;rw[aeV Ls] at e2;cases e2;exact⟨u,r,.inl ⟨hk,by simp⟩⟩
   ·rw[aea (adD hj)] at e2;obtain⟨u',r',q⟩:=hl j y v' e1 e2 e3;refine⟨u',r',?_⟩
    rcases q with⟨k,e⟩ | ⟨k,c,e,z⟩
    ·refine .inl ⟨k,?_⟩;have:y≠x:=λe=>hj (AE hN e1 (e▸hi))
     simp[this,e]
    ·exact .inr ⟨k,c,e,z.sameBut hs (lO y c e)⟩
  ·obtain⟨w',z⟩:=I.cell y c e;exact⟨w',z.sameBut hs (lO y c e)⟩
  ·obtain⟨e,n,ne,nf,d⟩:=I.pin p hp;exact⟨(hs.2 p.1 ne).trans e,n,ne,nf,d⟩
 ·have yW:X.fn x=true:=by
   rcases hf.1 with z | z
   ·exact z
   ·rw[z] at hk;cases hk
  obtain⟨c,hc⟩:=I.ok.has x (.inl hk);obtain⟨w',z⟩:=I.cell x c hc;refine wpAny_storeName_cell I.ok.kind hk hc z (λh' jY hs=>?_);obtain⟨oc,Lu,Ze⟩:=id z;refine h { s with heap:=h' } ⟨I.ok,I.os,I.bare,⟨λb o e n hb hx=>?_,λb o e n hb hx=>?_,I.base.free,λb o e hx=>?_,I.base.g7,I.base.fU,I.base.gL⟩,⟨m,hn.sameBut hs (adD (lO x c hc)),λj y v' e1 e2 e3=>?_⟩,λy c' e=>?_,I.free,I.ik,λp hp=>?_,tracked ⟨oc,Lu,(I.ik x c hc).1 yW⟩ hs,⟨by simpa using I.len,hf.2 i hi σ (O v) I.lk.2⟩⟩ ⟨c,hs,.inr hc⟩
  ·exact(hs.2 b (acQ (aci (abW e) (I.ok.nB x c yW hc)))).trans (I.base.keep b o e n hb hx)
  ·obtain⟨sl,e1⟩:=I.base.slot b o e n hb hx;exact⟨sl,(hs.2 b (acQ (aci (abW e) (I.ok.nB x c yW hc)))).trans e1⟩
  ·obtain⟨o',e1⟩:=I.base.there b o e hx;exact⟨o',(hs.2 b (acQ (aci (abW e) (I.ok.nB x c yW hc)))).trans e1⟩
  ·by_cases hj:j=i
   ·subst hj;rw[hi] at e1;cases e1;rw[aeV Ls] at e2;cases e2;exact⟨u,r,.inr ⟨.inl hk,c,hc,jY⟩⟩
   ·rw[aea (adD hj)] at e2;obtain⟨u',r',q⟩:=hl j y v' e1 e2 e3;refine⟨u',r',?_⟩
    rcases q with q | ⟨k,c',e,z'⟩
    ·exact .inl q
    ·refine .inr ⟨k,c',e,z'.sameBut hs ?_⟩;rintro rfl;exact hj (AE hN e1 (I.ok.inj _ _ _ e hc▸hi))
  ·by_cases Lv:c'=c
   ·subst Lv;exact⟨_,jY⟩
   ·obtain⟨w2,z2⟩:=I.cell y c' e;exact⟨w2,z2.sameBut hs Lv⟩
  ·obtain⟨e,n,ne,nf,d⟩:=I.pin p hp;refine⟨(hs.2 p.1 ?_).trans e,n,ne,nf,d⟩;intro q;rw[q,Lu] at e;have q':oc=p.2:=acM e;exact d w' (by rw[<- q'];exact Ze)
theorem w8{M:ahY}{A:adq}{E:aY}{v:V}{u:acb}{Q:Unit->abT->Prop}(I:Inv X pins σ H s)(hN:X.N.Nodup)(hi:X.N[i]? =O x)(hx:Loc X.env.scope x)(r:RelV v u)(h:∀s',Inv X pins (σ.set i (O v)) H s'->Q () s')(hf:(X.fn x=true\/X.env.scope.names.lookup x=O .local)/\iN X x):acf M A (storeName X.env x u) Q E s:=
 Fx I hN hi hx r (λs' I' _=>h s' I') hf
theorem Inv.JP{s':abT}(I:Inv X pins σ H s)(ho:s'.os=s.os)(u:Un (dz X.stack) ch H H' s.heap s'.heap)(aA:cI X.prog X.w H' s'.heap)(hg:ahf s'.gens)(jw:∀b∈ch,(b∈X.ex\/X.aI.heap.objs.size<=b)/\b≠X.env.locals/\(∀x c,X.env.cells.lookup x=O c->c≠b)/\∀p∈X.pn++pins,p.1≠b):Inv X pins σ H' s':=by
 obtain⟨h',g',d',t',o'⟩:=s';have e:o'=s.os:=ho;subst e;exact I.call (g':=g') (t':=t') (d':=d') u aA hg jw
end
abbrev XK:=acb->Option abV->Hp->Prop
abbrev St:=List (Option V)
abbrev VK:=V->Hp->Prop
abbrev TE:=St->Hp->VK->Prop
abbrev TT:=St->Hp->(Bool->Hp->Prop)->Prop
abbrev TA:=St->Hp->(aJ->Hp->Prop)->Prop
structure Ends where
 nx:St->Hp->Prop
 rt:VK
 bk:St->Hp->Prop:=λ_ _=>False
 ct:St->Hp->Prop:=λ_ _=>False
abbrev TS:=Ends->St->Hp->Prop
noncomputable def EP(X:Cx)(pins:List (abV×Obj))(σ:St)(Q:VK)(u:acb)(s':abT):Prop:=∃v H',Inv X pins σ H' s'/\RelV v u/\Q v H'
noncomputable def TP(X:Cx)(pins:List (abV×Obj))(σ:St)(Q:Bool->Hp->Prop)(b:Bool)(s':abT):Prop:=∃H',Inv X pins σ H' s'/\Q b H'
noncomputable def AP(X:Cx)(pins:List (abV×Obj))(σ:St)(Q:aJ->Hp->Prop)(us:aS)(s':abT):Prop:=∃vs H',Inv X pins σ H' s'/\Vals vs us/\Q vs H'
noncomputable def SP(X:Cx)(pins:List (abV×Obj))(D:Ends)(f:Flow)(s':abT):Prop:=
 match f with
 | .next=>∃ao H',Inv X pins ao H' s'/\D.nx ao H'
 | .brk=>∃ao H',Inv X pins ao H' s'/\D.bk ao H'
 | .cont=>∃ao H',Inv X pins ao H' s'/\D.ct ao H'
 | .ret u=>∃v ao H',Inv X pins ao H' s'/\RelV v u/\D.rt v H'
noncomputable def PE(X:Cx)(e:adA)(t:TE):Prop:=
 ∀(pins:List (abV×Obj)) (s:abT) (σ:St) (H:Hp) (Q:VK),Inv X pins σ H s->t σ H Q->acf (acr X.prog X.w) X.A (aeX e X.env) (EP X pins σ Q) X.xe s
noncomputable def PT(X:Cx)(e:adA)(t:TT):Prop:=
 ∀(pins:List (abV×Obj)) (s:abT) (σ:St) (H:Hp) (Q:Bool->Hp->Prop),Inv X pins σ H s->t σ H Q->acf (acr X.prog X.w) X.A (isTrue e X.env (aeX e X.env)) (TP X pins σ Q) X.xe s
noncomputable def PW(X:Cx)(e:adA)(t:TT):Prop:=
 ∀(whole:Sem acb) (pins:List (abV×Obj)) (s:abT) (σ:St) (H:Hp) (Q:Bool->Hp->Prop),Inv X pins σ H s->t σ H Q->acf (acr X.prog X.w) X.A (isTrue e X.env whole) (TP X pins σ Q) X.xe s
theorem PW.pt{e:adA}{t:TT}(h:PW X e t):PT X e t:=h _
abbrev _root_.bS:=List adA
noncomputable def PA(X:Cx)(es:bS)(t:TA):Prop:=
 ∀(pos:Pos) (pins:List (abV×Obj)) (s:abT) (σ:St) (H:Hp) (Q:aJ->Hp->Prop),Inv X pins σ H s->t σ H Q->acf (acr X.prog X.w) X.A (spliced (afv pos (acv es X.env))) (AP X pins σ Q) X.xe s
noncomputable def PS(X:Cx)(st:ahZ)(t:TS):Prop:=
 ∀(pins:List (abV×Obj)) (s:abT) (σ:St) (H:Hp) (D:Ends),Inv X pins σ H s->t D σ H->acf (acr X.prog X.w) X.A (exec st X.env) (SP X pins D) X.xe s
abbrev _root_.d8:=List ahZ
noncomputable def iu(X:Cx)(st:d8)(t:TS):Prop:=
 ∀(pins:List (abV×Obj)) (s:abT) (σ:St) (H:Hp) (D:Ends),Inv X pins σ H s->t D σ H->acf (acr X.prog X.w) X.A (execs st X.env) (SP X pins D) X.xe s
variable{A:adq}
theorem aW{α:Type}{t:Sem α}{Q Q':α->abT->Prop}{M:ahY}{E:aY}{s:abT}(h:acf M A t Q E s)(hQ:∀a s,Q a s->Q' a s):acf M A t Q' E s:=acW h hQ λ_ _ x=>x
section
variable{X:Cx}
variable{σ:St}{H:Hp}
theorem bin{a b:adA}{ta tb:TE}(ha:PE X a ta)(hb:PE X b tb){pins:List (abV×Obj)}{s:abT}{R:V->V->Hp->Prop}(I:Inv X pins σ H s)(h:ta σ H λx H1=>tb σ H1 λy H2=>R x y H2){α:Type}{Q:α->abT->Prop}{f:acb->acb->Sem α}(hf:∀v u s2 x y H2,Inv X pins σ H2 s2->RelV x v->RelV y u->R x y H2->acf (acr X.prog X.w) X.A (f v u) Q X.xe s2):acf (acr X.prog X.w) X.A (aeX a X.env) (λv bB=>acf (acr X.prog X.w) X.A (aeX b X.env) (λu iY=>acf (acr X.prog X.w) X.A (f v u) Q X.xe iY) X.xe bB) X.xe s:=by
 refine aW (ha pins s σ H _ I h) λv s1 ⟨x,H1,I1,r1,q1⟩=>?_
 refine aW (hb pins s1 σ H1 _ I1 q1) λu s2 ⟨y,H2,I2,r2,q2⟩=>?_
 exact hf v u s2 x y H2 I2 r1 r2 q2
noncomputable def Ck(i:Nat):TE:=λσ H Q=>∃v,σ[i]? =O (O v)/\Q v H
noncomputable def tC(v:V):TE:=λ_ H Q=>Q v H
variable{x:Str}
theorem Bv{i:Nat}{pos:Pos}(hN:X.N[i]? =O x)(hv:ju X.env.scope x)(hd:(x==("__debug__":Str))=false:=by decide)(hcd:(x==("__classdict__":Str))=false:=by decide):PE X (.Name x pos) (Ck i):=by
 intro pins s σ H Q I h;obtain⟨v,e,h⟩:=h;obtain⟨m,hn,hl⟩:=I.loc;obtain⟨u,r,l⟩:=hl i x v hN e hv;have fin:EP X pins σ Q u s:=⟨v,H,I,r,h⟩
 rcases l with⟨hk,hm⟩ | ⟨hk,c,hc,xS⟩
 ·exact wpAny_Name (wpAny_loadName_local I.ok.kind hk hn hm fin) hd
 ·rcases hk with hk | hk
  ·exact wpAny_Name (wpAny_loadName_cell I.ok.kind hk hc xS fin) hd
  ·exact wpAny_Name (wpAny_loadName_free I.ok.kind hk hc xS fin hcd) hd
theorem Ui{i j pos}:PE X (.Constant (.int i) j pos) (tC (.int i)):=λ_ _ _ H _ I h=>wpAny_Constant_int ⟨.int i,H,I.tok _,⟨_,rfl⟩,h⟩
theorem Xk{b j pos}:PE X (.Constant (.bool b) j pos) (tC (.bl b)):=λ_ _ _ H _ I h=>Constant_bool ⟨.bl b,H,I,rfl,h⟩
theorem Uj{j pos}:PE X (.Constant .none j pos) (tC .ay):=λ_ _ _ H _ I h=>Constant_none ⟨.ay,H,I,rfl,h⟩
theorem Iu{x j pos}:PE X (.Constant (.str x) j pos) (tC (.str x)):=λ_ _ _ H _ I h=>Calls.Constant_str ⟨.str x,H,I.tok _,⟨_,rfl⟩,h⟩
noncomputable def Gl(X:Cx)(x:Str):Prop:=X.env.kindOf x=O .globalImplicit
variable{u:acb}
theorem mz{E:aY}{pins:List (abV×Obj)}{s:abT}{pos:Pos}{Q:aY}(I:Inv X pins σ H s)(hg:Gl X x)(hm:X.mg x=O u)(h:Q u s)(hd:(x==("__debug__":Str))=false:=by decide):acf (acr X.prog X.w) X.A (aeX (.Name x pos) X.env) Q E s:=
 agC I.ok.kind hg (Calls.loadGlobal_global (by rw[I.ok.glob];exact I.mod.glob.keeps I.bk) hm h) hd
theorem ou{E:aY}{pins:List (abV×Obj)}{s:abT}{pos:Pos}{Q:aY}(I:Inv X pins σ H s)(hg:Gl X x)(hm:X.mg x=Z)(hv:adp x=O u)(h:Q u s)(hn:x≠"__name__":=by decide)(hd:(x==("__debug__":Str))=false:=by decide):acf (acr X.prog X.w) X.A (aeX (.Name x pos) X.env) Q E s:=by
 obtain⟨mb,h1,h2⟩:=I.mod.blt;exact agC I.ok.kind hg (Calls.loadGlobal_builtin (by rw[I.ok.glob];exact I.mod.glob.keeps I.bk) hm (by rw[I.ok.blt];exact h1.keeps I.bk) ((h2 x hn).trans hv) h) hd
theorem oh{v:V}{pos:Pos}(hg:Gl X x)(hm:X.mg x=O u)(r:RelV v u)(hd:(x==("__debug__":Str))=false:=by decide):PE X (.Name x pos) (tC v):=
 λ_ _ _ H _ I h=>mz I hg hm ⟨v,H,I,r,h⟩ hd
theorem G6{v:V}{pos:Pos}(hg:Gl X x)(hm:X.mg x=Z)(hv:adp x=O u)(r:RelV v u)(hn:x≠"__name__":=by decide)(hd:(x==("__debug__":Str))=false:=by decide):PE X (.Name x pos) (tC v):=
 λ_ _ _ H _ I h=>ou I hg hm hv ⟨v,H,I,r,h⟩ hn hd
variable{a b:adA}{ta tb:TE}{pos:Pos}
noncomputable def tB(t:TE):TT:=λσ H Q=>t σ H λx H1=>∃c,x=.bl c/\Q c H1
variable{tA yX:TT}{rest:bS}
noncomputable def uy(t u:TT):TT:=λσ H Q=>t σ H λc H1=>if c=true then u σ H1 Q else Q false H1
noncomputable def Lw(t u:TT):TT:=λσ H Q=>t σ H λc H1=>if c=true then Q true H1 else u σ H1 Q
noncomputable def Zf(t:TT):TT:=λσ H Q=>t σ H λc H1=>Q (!c) H1
theorem Rm(ha:PT X a tA):PW X (.BoolOp .And [a] pos) tA:=by
 intro wh pins s σ H Q I h;refine isTrue_and (aW (ha pins s σ H Q I h) λc s1 e=>?_);cases c with
 | true=>exact isTrue_and_nil e
 | false=>exact e
theorem Uk(ha:PT X a tA):PW X (.BoolOp .Or [a] pos) tA:=by
 intro wh pins s σ H Q I h;refine isTrue_or (aW (ha pins s σ H Q I h) λc s1 e=>?_);cases c with
 | false=>exact isTrue_or_nil e
 | true=>exact e
theorem Ul(ha:PT X a tA)(hb:PW X (.BoolOp .And (b::rest) pos) yX):PW X (.BoolOp .And (a::b::rest) pos) (uy tA yX):=by
 intro wh pins s σ H Q I h;refine isTrue_and (aW (ha pins s σ H _ I h) λc s1 ⟨H1,I1,q1⟩=>?_);cases c with
 | true=>exact hb wh pins s1 σ H1 Q I1 q1
 | false=>exact⟨H1,I1,q1⟩
theorem Xl(ha:PT X a tA)(hb:PW X (.BoolOp .Or (b::rest) pos) yX):PW X (.BoolOp .Or (a::b::rest) pos) (Lw tA yX):=by
 intro wh pins s σ H Q I h;refine isTrue_or (aW (ha pins s σ H _ I h) λc s1 ⟨H1,I1,q1⟩=>?_);cases c with
 | true=>exact⟨H1,I1,q1⟩
 | false=>exact hb wh pins s1 σ H1 Q I1 q1
theorem Um(ha:PT X a tA):PT X (.UnaryOp .Not a pos) (Zf tA):=by
 intro pins s σ H Q I h;exact isTrue_not (ha pins s σ H (λc H1=>Q (!c) H1) I h)
noncomputable def Xm(ta tb:TE):TE:=λσ H Q=>ta σ H λx H1=>∃c,x=.bl c/\if c=true then tb σ H1 Q else Q (.bl false) H1
noncomputable def Zg(ta tb:TE):TE:=λσ H Q=>ta σ H λx H1=>∃c,x=.bl c/\if c=true then Q (.bl true) H1 else tb σ H1 Q
noncomputable def Xn(ta:TE):TE:=λσ H Q=>ta σ H λx H1=>∃c,x=.bl c/\Q (.bl (!c)) H1
theorem Uo{op}{t:TE}(h:PE X a t):PE X (.BoolOp op [a] pos) t:=λpins s σ H Q I hw=>BoolOp_one (h pins s σ H Q I hw)
theorem Up(ha:PE X a ta)(hb:PE X (.BoolOp .And (b::rest) pos) tb):PE X (.BoolOp .And (a::b::rest) pos) (Xm ta tb):=by
 intro pins s σ H Q I h;refine BoolOp_and (aW (ha pins s σ H _ I h) λv s1 ⟨x,H1,I1,r1,q1⟩=>?_);obtain⟨c,rfl,q1⟩:=q1;cases r1;refine adn ?_;cases c with
 | true=>exact hb pins s1 σ H1 Q I1 q1
 | false=>exact⟨.bl false,H1,I1,rfl,q1⟩
theorem Xo(ha:PE X a ta)(hb:PE X (.BoolOp .Or (b::rest) pos) tb):PE X (.BoolOp .Or (a::b::rest) pos) (Zg ta tb):=by
 intro pins s σ H Q I h;refine BoolOp_or (aW (ha pins s σ H _ I h) λv s1 ⟨x,H1,I1,r1,q1⟩=>?_);obtain⟨c,rfl,q1⟩:=q1;cases r1;refine adn ?_;cases c with
 | false=>exact hb pins s1 σ H1 Q I1 q1
 | true=>exact⟨.bl true,H1,I1,rfl,q1⟩
theorem Uq(ha:PE X a ta):PE X (.UnaryOp .Not a pos) (Xn ta):=by
 intro pins s σ H Q I h;refine UnaryOp_ (aW (ha pins s σ H _ I h) λv s1 ⟨x,H1,I1,r1,q1⟩=>?_);obtain⟨c,rfl,q1⟩:=q1;cases r1;exact not_of (adn ⟨.bl (!c),H1,I1,rfl,q1⟩)
noncomputable def tIf(t:TT)(ta tb:TE):TE:=λσ H Q=>t σ H λc H1=>if c=true then ta σ H1 Q else tb σ H1 Q
theorem P2{c:adA}(hc:PT X c tA)(ha:PE X a ta)(hb:PE X b tb):PE X (.IfExp c a b pos) (tIf tA ta tb):=by
 intro pins s σ H Q I h;refine wpAny_IfExp (aW (hc pins s σ H _ I h) λd s1 ⟨H1,I1,q1⟩=>?_);cases d with
 | true=>exact ha pins s1 σ H1 Q I1 q1
 | false=>exact hb pins s1 σ H1 Q I1 q1
end
noncomputable def bK(K:abG)(H:Hp)(a:abV)(xs:aJ):Prop:=
 Rd H a (.lst xs) \/
  ∃(o:Obj) (its:dC) (n:Nat),K.lookup a=O o/\o.cls=.type "list"/\o.dict=Z/\o.data=.seq its n/\its.size<=acd/\Vals xs its.toList
noncomputable def bX(K:abG)(H:Hp)(a:abV)(xs:aJ):Prop:=
 Rd H a (.tup xs) \/
  ∃(o:Obj) (its:dC) (n:Nat),K.lookup a=O o/\o.cls=.type "tuple"/\o.data=.seq its n/\its.size<=acd/\Vals xs its.toList
noncomputable def Zh:acb->Option V
 | .none=>O .ay
 | .bool b=>O (.bl b)
 | .int i _=>O (.int i)
 | .str x _=>O (.str x)
 | .bytes b _=>O (.jt b)
 | .float b _=>O (.yS b)
 | .ref a=>O (.ref a)
 | .type n=>O (.ty n)
 | _=>Z
theorem RelV.abs{x:V}(r:RelV x u):Zh u=O x:=by
 cases x with
 | ay=>cases r;rfl
 | bl _=>cases r;rfl
 | int _=>obtain⟨t,rfl⟩:=r;rfl
 | str _=>obtain⟨t,rfl⟩:=r;rfl
 | jt _=>obtain⟨t,rfl⟩:=r;rfl
 | yS _=>obtain⟨t,rfl⟩:=r;rfl
 | ref _=>cases r;rfl
 | ty _=>cases r;rfl
 | pv _ _=>exact(show False from r).elim
theorem RelV.inj{x y:V}{u:acb}(r:RelV x u)(q:RelV y u):x=y:=acM (r.abs.symm.trans q.abs)
theorem Vals.inj:∀{xs ys:aJ} {us:aS},Vals xs us->Vals ys us->xs=ys
 | _,_,_,.nil,.nil=>rfl
 | _,_,_,.cons r t,.cons r' t'=>by rw[r.inj r',Vals.inj t t']
section
variable{X:Cx}{pins:List (abV×Obj)}{σ:St}{H:Hp}{s:abT}{a:abV}{xs ys:aJ}
theorem bK.of{K:abG}(h:H a=O (.lst xs)):bK K H a xs:=.inl (.inl h)
theorem bX.of{K:abG}(h:H a=O (.tup xs)):bX K H a xs:=.inl (.inl h)
theorem Inv.list(I:Inv X pins σ H s)(h:bK X.K H a xs):∃its:aS,Vals xs its/\PlainL s.heap a its.toArray/\↑xs<=sizeLine:=by
 rcases h with h | ⟨o,its,n,hk,hc,hd,hs,hz,r⟩
 ·obtain⟨z,its,n,r,e⟩:=h.ok I.aA;exact⟨its,r,⟨_,n,e,rfl,rfl,rfl⟩,z⟩
 ·refine⟨its.toList,r,⟨o,n,I.cS a o hk,hc,hd,by simpa using hs⟩,?_⟩;have e:=↑r;simp only[afA] at e;omega
theorem Inv.tuple(I:Inv X pins σ H s)(h:bX X.K H a xs):∃its:aS,Vals xs its/\IsTup s.heap a its.toArray/\↑xs<=sizeLine:=by
 rcases h with h | ⟨o,its,n,hk,hc,hs,hz,r⟩
 ·obtain⟨z,its,r,p⟩:=h.ok I.aA;exact⟨its,r,p,z⟩
 ·refine⟨its.toList,r,⟨o,I.cS a o hk,hc,n,by simpa using hs⟩,?_⟩;have e:=↑r;simp only[afA] at e;omega
theorem Inv.AF(I:Inv X pins σ H s)(h:bK X.K H a xs)(h':bK X.K H a ys):xs=ys:=by
 obtain⟨its,r,⟨o,n,e,_,_,d⟩,_⟩:=I.list h;obtain⟨its',r',⟨o',n',e',_,_,d'⟩,_⟩:=I.list h';rw[e] at e';cases e';rw[d] at d';injection d' with d1 _
 have:its=its':=by simpa using congrArg aiJ d1
 subst this;exact r.inj r'
theorem Inv.Fy(I:Inv X pins σ H s)(h:bX X.K H a xs)(h':bX X.K H a ys):xs=ys:=by
 obtain⟨its,r,⟨o,e,_,n,d⟩,_⟩:=I.tuple h;obtain⟨its',r',⟨o',e',_,n',d'⟩,_⟩:=I.tuple h';rw[e] at e';cases e';rw[d] at d';injection d' with d1 _
 have:its=its':=by simpa using congrArg aiJ d1
 subst this;exact r.inj r'
end
section
variable{X:Cx}{st:ahZ}{rest:d8}{t u:TS}{e:adA}{te:TE}{pos:Pos}
noncomputable def Xp:TS:=λD σ H=>D.nx σ H
noncomputable def KG(t u:TS):TS:=λD σ H=>t { D with nx:=u D } σ H
theorem Rn:iu X [] Xp:=λ_ _ σ H _ I h=>afa ⟨σ,H,I,h⟩
theorem Gh(h1:PS X st t)(h2:iu X rest u):iu X (st::rest) (KG t u):=by
 intro pins s σ H D I h;refine aht (aW (h1 pins s σ H { D with nx:=u D } I h) λf s1 q=>?_);cases f with
 | next=>
  obtain⟨ao,H',I',q⟩:=q;exact h2 pins s1 ao H' D I' q
 | ret v=>exact q
 | brk=>exact q
 | cont=>exact q
theorem G7(h1:PS X st t):iu X [st] t:=by
 intro pins s σ H D I h;refine aht (aW (h1 pins s σ H D I h) λf s1 q=>?_);cases f with
 | next=>exact afa q
 | ret v=>exact q
 | brk=>exact q
 | cont=>exact q
theorem Inv.quiet{pins:List (abV×Obj)}{σ:St}{H:Hp}{s:abT}(I:Inv X pins σ H s):interactive X.env=false:=by simp[interactive,I.ok.kind]
noncomputable def Xq(te:TE):TS:=λD σ H=>te σ H λ_ H1=>D.nx σ H1
theorem G8(he:PE X e te)(hs:aeQ e Z pos.line X.env=pure false:=by rfl):PS X (.Expr e pos) (Xq te):=by
 intro pins s σ H D I h;exact wpAny_Expr_any (aW (he pins s σ H _ I h) λv s1 ⟨x,H1,I1,r1,q1⟩=>⟨σ,H1,I1,q1⟩) I.quiet hs
noncomputable def Zi(te:TE):TS:=λD σ H=>te σ H D.rt
theorem Ur(he:PE X e te):PS X (.Return (O e) pos) (Zi te):=by
 intro pins s σ H D I h;exact wpAny_Return_some (aW (he pins s σ H _ I h) λv s1 ⟨x,H1,I1,r1,q1⟩=>⟨x,σ,H1,I1,r1,q1⟩)
noncomputable def Zj(c:TT)(t u:TS):TS:=λD σ H=>c σ H λb H1=>if b=true then t D σ H1 else u D σ H1
theorem Xr{c:adA}{a b:d8}{tc:TT}(hc:PT X c tc)(ha:iu X a t)(hb:iu X b u):PS X (.If c a b pos) (Zj tc t u):=by
 intro pins s σ H D I h;refine wpAny_If (aW (hc pins s σ H _ I h) λd s1 ⟨H1,I1,q1⟩=>?_);cases d with
 | true=>exact ha pins s1 σ H1 D I1 q1
 | false=>exact hb pins s1 σ H1 D I1 q1
end
abbrev TG:=V->St->Hp->(St->Hp->Prop)->Prop
abbrev lR:=aJ->St->Hp->(St->Hp->Prop)->Prop
noncomputable def PG(X:Cx)(target:adA)(t:TG):Prop:=
 ∀(pins:List (abV×Obj)) (s:abT) (σ:St) (H:Hp) (v:V) (u:acb) (Q:St->Hp->Prop),Inv X pins σ H s->RelV v u->t v σ H Q →
  acf (acr X.prog X.w) X.A (ahS target X.env u) (λ_ s'=>∃ao H',Inv X pins ao H' s'/\Q ao H') X.xe s
noncomputable def ix(X:Cx)(ts:bS)(t:lR):Prop:=
 ∀(pins:List (abV×Obj)) (s:abT) (σ:St) (H:Hp) (vs:aJ) (us:aS) (Q:St->Hp->Prop),Inv X pins σ H s->Vals vs us->t vs σ H Q →
  acf (acr X.prog X.w) X.A (assignInOrder ((adL ts X.env).map (·.2)) us) (λ_ s'=>∃ao H',Inv X pins ao H' s'/\Q ao H') X.xe s
abbrev yn:=V->V->V->Hp->(Hp->Prop)->Prop
noncomputable def mW(X:Cx)(t:yn):Prop:=
 ∀(pins:List (abV×Obj)) (s:abT) (σ:St) (H:Hp) (o i v:V) (ov iv u:acb) (Q:Hp->Prop),Inv X pins σ H s->RelV o ov->RelV i iv->RelV v u->t o i v H Q →
  acf (acr X.prog X.w) X.A (setItem ov iv u) (λ_ s'=>∃H',Inv X pins σ H' s'/\Q H') X.xe s
section
variable{X:Cx}{pos:Pos}
noncomputable def BQ(i:Nat):TG:=λv σ H Q=>Q (σ.set i (O v)) H
theorem Ro{i:Nat}{x:Str}(hN:X.N.Nodup)(hi:X.N[i]? =O x)(hx:Loc X.env.scope x)(hf:(X.fn x=true\/X.env.scope.names.lookup x=O .local)/\iN X x):PG X (.Name x pos) (BQ i):=by
 intro pins s σ H v u Q I r h;exact wpAny_assign_Name (w8 I hN hi hx r (λs' I'=>⟨_,H,I',h⟩) hf)
noncomputable def Zk:lR:=λvs σ H Q=>vs=[]/\Q σ H
noncomputable def Xs(t:TG)(u:lR):lR:=λvs σ H Q=>∃v r,vs=v::r/\t v σ H λao H'=>u r ao H' Q
theorem Rp:ix X [] Zk:=by
 intro pins s σ H vs us Q I r h;obtain⟨e,h⟩:=h;subst e;cases r;exact assignInOrder_nil ⟨σ,H,I,h⟩
theorem P4{e:adA}{es:bS}{t:TG}{u:lR}(h1:PG X e t)(h2:ix X es u)(hs:(adL (e::es) X.env).map (·.2)=ahS e X.env::(adL es X.env).map (·.2):=by rfl):ix X (e::es) (Xs t u):=by
 intro pins s σ H vs us Q I r h;obtain⟨v,vr,e1,h⟩:=h;subst e1;cases r with
 | cons r rr=>
  rw[hs];refine assignInOrder_cons (aW (h1 pins s σ H _ _ _ I r h) λ_ s1 ⟨σ1,H1,I1,q1⟩=>?_);exact h2 pins s1 σ1 H1 _ _ Q I1 rr q1
noncomputable def Zl(K:abG)(n:Nat)(t:lR):TG:=λv σ H Q=>∃a xs,v=.ref a/\bX K H a xs/\↑xs=n/\t xs σ H Q
theorem Us{es:bS}{k:Nat}{t:lR}{n:Nat}(hc:X.calm=true)(h:ix X es t)(hn:(adL es X.env).length=n:=by rfl)(c7:(adL es X.env).findIdx? (·.1)=none:=by rfl):PG X (.Tuple es k pos) (Zl X.K n t):=by
 intro pins s σ H v u Q I r hw;obtain⟨a,xs,e1,hq,hl,hw⟩:=hw;subst e1;cases r;obtain⟨its,rv,ht,hz⟩:=I.tuple hq;refine assign_Tuple_tuple (I.ok.hd hc) ht (by simp[hn,<- hl,rv.length]) c7 λh' hx=>?_
 have I1:Inv X pins σ H { s with heap:=h' }:=I.kept (t':=s.toks) λb o e=>hx b o (acQ (abW e)) e
 exact h pins _ σ H xs _ Q I1 (by simpa using rv) hw
noncomputable def Zm(to ti:TE)(t:yn):TG:=λv σ H Q=>to σ H λo H1=>ti σ H1 λi H2=>t o i v H2 λH3=>Q σ H3
theorem Ut{o i:adA}{to ti:TE}{t:yn}(ho:PE X o to)(hi:PE X i ti)(hs:mW X t)
  (ha:∀v,ahS (.Subscript o i pos) X.env v=(do
   let ov <- ags [v] (aeX o X.env)
   let iv <- ags [v,ov] (aeX i X.env)
   standAt pos
   ags [v,ov,iv] (setItem ov iv v)
   release [v,ov,iv] []):=by intro _;rfl):PG X (.Subscript o i pos) (Zm to ti t):=by
 intro pins s σ H v u Q I r h;rw[ha];refine abF (acJ (aW (ho pins s σ H _ I h) λov s1 ⟨x,H1,I1,r1,q1⟩=>?_));refine abF (acJ (aW (hi pins s1 σ H1 _ I1 q1) λiv s2 ⟨y,H2,I2,r2,q2⟩=>?_));refine abF (aet (abF (acJ (aW (hs pins s2 σ H2 x y v ov iv u _ I2 r1 r2 r q2) λ_ s3 ⟨H3,I3,q3⟩=>?_))));exact wpAny_release ⟨σ,H3,I3,q3⟩
noncomputable def yo(te:TE)(g:TG):TS:=λD σ H=>te σ H λx H1=>g x σ H1 D.nx
theorem Uu{tg e:adA}{te:TE}{g:TG}(he:PE X e te)(hg:PG X tg g)(hs:swapsWithSole [tg] e pos.line X.env=pure false:=by rfl)(hw:swappedStores [tg] e X.env=pure none:=by rfl)
  (h1:(adL [tg] X.env).map (·.2)=[ahS tg X.env]:=by rfl):PS X (.Assign [tg] e pos) (yo te g):=by
 intro pins s σ H D I h;refine wpAny_Assign_stores (aW (he pins s σ H _ I h) λv s1 ⟨x,H1,I1,r1,q1⟩=>?_) hs hw;rw[h1];exact aW (hg pins s1 σ H1 x v _ I1 r1 q1) λ_ s2 q=>q
theorem Uv{i:Nat}{x:Str}{e:adA}{te:TE}{pos':Pos}(hN:X.N.Nodup)(hi:X.N[i]? =O x)(hx:Loc X.env.scope x)(he:PE X e te)(hs:aeQ e (O (.Name x pos')) pos.line X.env=pure false:=by rfl)(hf:(X.fn x=true\/X.env.scope.names.lookup x=O .local)/\iN X x) :
  PS X (.Assign [.Name x pos'] e pos) (yo te (BQ i)):=by
 intro pins s σ H D I h;refine wpAny_Assign_Name (aW (he pins s σ H _ I h) λv s1 ⟨y,H1,I1,r1,q1⟩=>?_) hs;exact w8 I1 hN hi hx r1 (λs2 I2=>⟨_,H1,I2,q1⟩) hf
end
structure It where
 go:Nat->Hp->Prop
 rB:Nat->Hp->V->Hp->Prop
 stop:Nat->Hp->Prop
noncomputable def jk(X:Cx)(pins:List (abV×Obj))(H:Hp)(b:abV):Prop:=
 H b=Z/\b≠X.env.locals/\b∉X.fs/\(b∈X.ex\/X.aI.heap.objs.size<=b)/\(∀x c,X.env.cells.lookup x=O c->c≠b)/\∀p∈X.pn++pins,p.1≠b
theorem Inv.qO{pins:List (abV×Obj)}{σ:St}{H':Hp}{s:abT}(I:Inv X pins σ H s)(hb:s.heap.objs.size<=b)(hn:H' b=Z):jk X pins H' b:=by
 refine⟨hn,aed (aci I.lt hb),I.Zd hb,.inr (abX I.sz hb),λx c e z=>?_,λp hp z=>?_⟩
 ·obtain⟨v,q⟩:=I.cell x c e;exact absurd (aci q.lt (by rw[z];exact hb)) (aer _)
 ·exact absurd (aci (abW (I.pin p hp).1) (by rw[z];exact hb)) (aer _)
structure Turn(P:acL)(w:adl)(K:abG)(tg:adA)(J:It)(fp:List abV)(it:abV)(tn:Nat->adt->Prop):Prop where
 mem:it∈fp
 obj:∀i h,tn i h->∀b∈fp,∃o,h.get? b=O o/\∀v,o.data≠.cell v
 keep:∀i h h',tn i h->(∀b∈fp,∀o,h.get? b=O o->h'.get? b=O o)->tn i h'
 item:∀(X:Cx),X.prog=P->X.w=w->X.K=K->X.calm=true->∀(i:Nat) (pins:List (abV×Obj)) (s:abT) (σ:St) (H:Hp) (E:aY),Inv X pins σ H s->(∀b∈fp,jk X pins H b)->tn i s.heap->J.go i H →
  acf (acr P w) X.A (ahu (.ref it)) (λr s1=>∃u,r=O u /\
   acf (acr P w) X.A (afb tg (.ref it) u) (λ_ s2=>∃x H',Inv X pins σ H' s2/\RelV x u/\J.rB i H x H'/\tn (i+1) s2.heap/\∀b∈fp,H' b=Z) E s1) E s
 done:∀(X:Cx),X.prog=P->X.w=w->X.K=K->X.calm=true->∀(i:Nat) (pins:List (abV×Obj)) (s:abT) (σ:St) (H:Hp) (E:aY),Inv X pins σ H s->(∀b∈fp,jk X pins H b)->tn i s.heap->J.stop i H →
  acf (acr P w) X.A (ahu (.ref it)) (λr s1=>r=Z/\Inv X pins σ H s1) E s
 self:∀(A:adq) (i:Nat) (s:abT) (Q:aY) (E:aY),tn i s.heap->Q (.ref it) s->acf (acr P w) A (pyIter (.ref it)) Q E s
abbrev TI:=St->Hp->(It->Hp->Prop)->Prop
noncomputable def Lx(X:Cx)(pins:List (abV×Obj))(σ:St)(tg:adA)(R:It->Hp->Prop)(C4:acb)(s2:abT):Prop:=
 ∃(it:abV) (fp:List abV) (tn:Nat->adt->Prop) (J:It) (H':Hp),C4=.ref it/\Inv X pins σ H' s2/\Turn X.prog X.w X.K tg J fp it tn/\tn 0 s2.heap/\(∀b∈fp,jk X pins H' b)/\R J H'
noncomputable def PI(X:Cx)(tg iter:adA)(wi:TI):Prop:=
 ∀(pins:List (abV×Obj)) (s:abT) (σ:St) (H:Hp) (R:It->Hp->Prop),Inv X pins σ H s->wi σ H R →
  acf (acr X.prog X.w) X.A (aeX iter X.env) (λv s1=>acf (acr X.prog X.w) X.A (pyIter v) (Lx X pins σ tg R) X.xe s1) X.xe s
variable{tg:adA}
theorem xT {M : ahY} {E : aY} {s : abT} {it : abV} {o : Obj} {n : String} {vs : dC} {Q : Unit -> abT -> Prop} (ho : s.heap.get? it = some o) (hc : o.cls = .type n) (hd : o.data = .fields vs) (hn : ["enumerate", "zip", "dict_itemiterator", "dict_reverseitemiterator", "odict_iterator", "itertools.zip_longest", "itertools.pairwise"].contains n = false) (hQ : Q () s) : acf M A (afb tg (.ref it) u) Q E s := by
  unfold afb;cases tg <;> first
    | exact abM hQ
    | (cases u <;> first
        | exact abM hQ
        | (refine abF (wpAny_load ho ?_)
           rw [hc, hd];show acf M A (if (["enumerate", "zip", "dict_itemiterator", "dict_reverseitemiterator", "odict_iterator", "itertools.zip_longest", "itertools.pairwise"].contains n && vs[0]? == some (adZ _)) = true then _ else _) Q E s;rw [if_neg (by intro h; rw [hn, aeS] at h; cases h)];exact abM hQ))
noncomputable def Ly(K:abG)(a:abV):It:=
 ⟨λi H=>∃xs x,bK K H a xs/\xs[i]? =O x,λi H x H'=>H'=H/\∀xs,bK K H a xs->xs[i]? =O x,λi H=>∃xs,bK K H a xs/\↑xs<=i⟩
noncomputable def Lz(K:abG)(a:abV):It:=
 ⟨λi H=>∃xs x,bX K H a xs/\xs[i]? =O x,λi H x H'=>H'=H/\∀xs,bX K H a xs->xs[i]? =O x,λi H=>∃xs,bX K H a xs/\↑xs<=i⟩
noncomputable def u4(lo:Int)(n:Nat):It:=⟨λi _=>i<n,λi H x H'=>H'=H/\x=.int (lo+i),λi _=>n<=i⟩
variable{K:abG}
theorem OH{w:adl}(a it:abV):Turn P w K tg (Ly K a) [it] it (λi h=>h.IsListIter it a i) where
 mem:=by simp
 obj:=λi h st b hb=>by
  have e:b=it:=by simpa using hb
  subst e;obtain⟨o,e,c,d⟩:=st;exact⟨o,e,λv z=>by rw[d] at z;cases z⟩
 keep:=λi h h' st k=>st.at λo e=>k it (by simp) o e
 item:=by
  intro X hP hw hK hc i pins s σ H E I hf st hg;subst hP hw hK;obtain⟨xs,x,hq,hx⟩:=hg;obtain⟨its,rv,p,hz⟩:=I.list hq;obtain⟨u,hu,ru⟩:=rv.get hx;obtain⟨f0,f1,f2,f3,f4,f5⟩:=hf it (by simp);refine wpAny_pyNext_list_item st p.isList (x:=u) (by simpa using hu) λh' ej sb=>?_
  have I1:Inv X pins σ H { s with heap:=h' }:=I.turned (t':=s.toks) (λb o hb e=>(sb.2 b hb).trans e) f0 f1 f3 f4 f5;obtain⟨o,e,c,d⟩:=id ej;exact⟨u,rfl,xT (s:={ s with heap:=h' }) e c d (by decide) ⟨x,H,I1,ru,⟨rfl,λys hy=>by rw[I.AF hy hq];exact hx⟩,ej,λb hb=>(hf b hb).1⟩⟩
 done:=by
  intro X hP hw hK hc i pins s σ H E I hf st hg;subst hP hw hK;obtain⟨xs,hq,hx⟩:=hg;obtain⟨its,rv,p,hz⟩:=I.list hq;obtain⟨f0,f1,f2,f3,f4,f5⟩:=hf it (by simp);have hl:=↑rv;exact wpAny_pyNext_list_end (I.ok.hd hc) st p.isList (by simp;omega) λh' eb=>⟨rfl,I.turned (t':=s.toks) (λb o hb e=>eb b o hb e) f0 f1 f3 f4 f5⟩
 self:=λ_ _ _ _ _ st h=>wpAny_pyIter_listiter st h
theorem N5{w:adl}(a it:abV):Turn P w K tg (Lz K a) [it] it (λi h=>h.IsTupleIter it a i) where
 mem:=by simp
 obj:=λi h st b hb=>by
  have e:b=it:=by simpa using hb
  subst e;obtain⟨o,e,c,d⟩:=st;exact⟨o,e,λv z=>by rw[d] at z;cases z⟩
 keep:=λi h h' st k=>st.at λo e=>k it (by simp) o e
 item:=by
  intro X hP hw hK hc i pins s σ H E I hf st hg;subst hP hw hK;obtain⟨xs,x,hq,hx⟩:=hg;obtain⟨its,rv,p,hz⟩:=I.tuple hq;obtain⟨u,hu,ru⟩:=rv.get hx;obtain⟨f0,f1,f2,f3,f4,f5⟩:=hf it (by simp);refine wpAny_pyNext_tuple_item st (show s.heap.IsTuple a its.toArray from p) (x:=u) (by simpa using hu) λh' ej sb=>?_
  have I1:Inv X pins σ H { s with heap:=h' }:=I.turned (t':=s.toks) (λb o hb e=>(sb.2 b hb).trans e) f0 f1 f3 f4 f5;obtain⟨o,e,c,d⟩:=id ej;exact⟨u,rfl,xT (s:={ s with heap:=h' }) e c d (by decide) ⟨x,H,I1,ru,⟨rfl,λys hy=>by rw[I.Fy hy hq];exact hx⟩,ej,λb hb=>(hf b hb).1⟩⟩
 done:=by
  intro X hP hw hK hc i pins s σ H E I hf st hg;subst hP hw hK;obtain⟨xs,hq,hx⟩:=hg;obtain⟨its,rv,p,hz⟩:=I.tuple hq;obtain⟨f0,f1,f2,f3,f4,f5⟩:=hf it (by simp);have hl:=↑rv;exact wpAny_pyNext_tuple_end (I.ok.hd hc) st (show s.heap.IsTuple a its.toArray from p) (by simp;omega) λh' eb=>⟨rfl,I.turned (t':=s.toks) (λb o hb e=>eb b o hb e) f0 f1 f3 f4 f5⟩
 self:=λ_ _ _ _ _ st h=>wpAny_pyIter_tupleiter st h
theorem N6{w:adl}(it:abV)(lo:Int)(n:Nat):Turn P w K tg (u4 lo n) [it] it (λi h=>IsRangeIter h it (lo+(i:Nat)*1) ((n:Int)-(i:Nat)) 1) where
 mem:=by simp
 obj:=λi h st b hb=>by
  have e:b=it:=by simpa using hb
  subst e;exact⟨_,st,λv z=>by
   have z':Data.fields _=Data.cell v:=z;cases z'⟩
 keep:=λi h h' st k=>k it (by simp) _ st
 item:=by
  intro X hP hw hK hc i pins s σ H E I hf st hg;subst hP hw hK;obtain⟨f0,f1,f2,f3,f4,f5⟩:=hf it (by simp);have W:=Walks.range (prog:=X.prog) (w:=X.w) (I.ok.hd hc) it lo 1 n;refine W.item i s _ _ hg st λv h' tk hv ej kk=>?_
  obtain⟨t,rfl⟩:=hv;have I1:Inv X pins σ H { s with heap:=h',toks:=tk }:=I.turned (λb o hb e=>kk b o (by simpa using hb) e) f0 f1 f3 f4 f5;refine⟨_,rfl,xT (s:={ s with heap:=h',toks:=tk }) (n:="range_iterator") ej rfl rfl (by decide) ⟨.int (lo+i),H,I1,⟨t,?_⟩,⟨rfl,rfl⟩,ej,λb hb=>(hf b hb).1⟩⟩;rw[Int.mul_one]
 done:=by
  intro X hP hw hK hc i pins s σ H E I hf st hg;subst hP hw hK;obtain⟨f0,f1,f2,f3,f4,f5⟩:=hf it (by simp);exact wpAny_pyNext_range_end (I.ok.hd hc) st (by have:n<=i:=hg;omega) λh' eb=>⟨rfl,I.turned (t':=s.toks) (λb o hb e=>eb b o hb e) f0 f1 f3 f4 f5⟩
 self:=λ_ _ _ _ _ st h=>wpAny_pyIter_rangeiter st h
section
variable{X:Cx}{tg:adA}
noncomputable def Xt(K:abG)(tl:TE):TI:=λσ H R=>tl σ H λx H1=>∃a,x=.ref a/\(∃xs,bK K H1 a xs)/\R (Ly K a) H1
noncomputable def Zn(K:abG)(tl:TE):TI:=λσ H R=>tl σ H λx H1=>∃a,x=.ref a/\(∃xs,bX K H1 a xs)/\R (Lz K a) H1
theorem Rq{l:adA}{tl:TE}(hl:PE X l tl):PI X tg l (Xt X.K tl):=by
 intro pins s σ H R I h;refine aW (hl pins s σ H _ I h) λv s1 ⟨x,H1,I1,r1,q1⟩=>?_
 obtain⟨a,e,⟨xs,hq⟩,q⟩:=q1;subst e;cases r1;obtain⟨its,rv,p,hz⟩:=I1.list hq;refine agV p.isList ?_;refine⟨s1.heap.objs.size,[s1.heap.objs.size],_,_,H1,rfl,I1.kept (t':=s1.toks) λb o e=>abJ _ e,OH a _,⟨_,acp _ rfl,rfl,rfl⟩,λb hb=>?_,q⟩;have e:b=s1.heap.objs.size:=by simpa using hb
 subst e;exact I1.qO (abO _) (I1.aA.fresh (abO _))
theorem Uw{l:adA}{tl:TE}(hl:PE X l tl):PI X tg l (Zn X.K tl):=by
 intro pins s σ H R I h;refine aW (hl pins s σ H _ I h) λv s1 ⟨x,H1,I1,r1,q1⟩=>?_
 obtain⟨a,e,⟨xs,hq⟩,q⟩:=q1;subst e;cases r1;obtain⟨its,rv,p,hz⟩:=I1.tuple hq;refine agH (show s1.heap.IsTuple a its.toArray from p) ?_;refine⟨s1.heap.objs.size,[s1.heap.objs.size],_,_,H1,rfl,I1.kept (t':=s1.toks) λb o e=>abJ _ e,N5 a _,⟨_,acp _ rfl,rfl,rfl⟩,λb hb=>?_,q⟩;have e:b=s1.heap.objs.size:=by simpa using hb
 subst e;exact I1.qO (abO _) (I1.aA.fresh (abO _))
variable{σ:St}{H:Hp}
theorem Gi{pins:List (abV×Obj)}{s:abT}{R:It->Hp->Prop}{E:aY}{lo hi:Int}{t u v:Tok}{tk:Nat}(I:Inv X pins σ H s)(h1: -(2 ^ 62)<=lo)(h2:lo<2 ^ 62)(h3: -(2 ^ 62)<=hi)(h4:hi<2 ^ 62)(q:R (u4 lo (hi-lo).toNat) H):acf (acr X.prog X.w) X.A (pyIter (.ref s.heap.objs.size)) (Lx X pins σ tg R) E { s with heap:=s.heap.push { cls:=.type "range",data:=.fields #[.int lo t,.int hi u,.int 1 v] },toks:=tk }:=by
 refine wpAny_pyIter_range (IsRange.new ..) (small_one h1 h2 h3 h4) ?_;have I1:Inv X pins σ H { s with heap:=s.heap.push { cls:=.type "range",data:=.fields #[.int lo t,.int hi u,.int 1 v] },toks:=tk }:=I.kept λb o e=>abJ _ e
 refine⟨(s.heap.push { cls:=.type "range",data:=.fields #[.int lo t,.int hi u,.int 1 v] }).objs.size,[(s.heap.push { cls:=.type "range",data:=.fields #[.int lo t,.int hi u,.int 1 v] }).objs.size],_,_,H,rfl,
  I1.kept (t':=tk) λb o e=>abJ _ e,N6 _ lo (hi-lo).toNat,?_,λb hb=>?_,q⟩
 ·have e1:lo+((0:Nat):Int)*1=lo:=by simp
  have e2:(((hi-lo).toNat:Nat):Int)-((0:Nat):Int)=Builtin.Range.rangeSize lo hi 1:=by rw[rangeSize_one];split <;> omega
  show IsRangeIter _ _ (lo+((0:Nat):Int)*1) ((((hi-lo).toNat:Nat):Int)-((0:Nat):Int)) 1;rw[e1,e2];exact acp _ rfl
 ·have e:b=(s.heap.push { cls:=.type "range",data:=.fields #[.int lo t,.int hi u,.int 1 v] }).objs.size:=by simpa using hb
  subst e;exact I1.qO (abO _) (I1.aA.fresh (abO _))
noncomputable def Xu(ta:TA):TI:=λσ H R=>ta σ H λvs H1=>∃j:Int,vs=[.int j]/\ -(2 ^ 62)<=j/\j<2 ^ 62/\R (u4 0 j.toNat) H1
noncomputable def Xv(ta:TA):TI:=λσ H R=>ta σ H λvs H1=>∃i j:Int,vs=[.int i,.int j]/\(-(2 ^ 62)<=i/\i<2 ^ 62/\ -(2 ^ 62)<=j/\j<2 ^ 62)/\R (u4 i (j-i).toNat) H1
variable{pos:Pos}
theorem OI{a:adA}{ta:TA}{p:Pos}(hg:Gl X "range")(hm:X.mg "range"=Z)(ha:PA X [a] ta)(hs:acv [a] X.env=[(false,aeX a X.env)]:=by rfl):PI X tg (.Call (.Name "range" p) [a] [] pos) (Xu ta):=by
 intro pins s σ H R I h;refine Call_ (ou I hg hm boot_range (adG (aW (ha pos pins s σ H _ I h) λus s1 ⟨vs,H1,I1,r1,q1⟩=>?_) hs rfl));obtain⟨j,e,q1,q2,q⟩:=q1;subst e;cases r1 with
 | cons r rr=>
  cases rr;obtain⟨t,rfl⟩:=r;exact call_range_1 (Gi I1 ∅ ∅ q1 q2 (by simpa using q))
theorem OJ{a b:adA}{ta:TA}{p:Pos}(hg:Gl X "range")(hm:X.mg "range"=Z)(ha:PA X [a,b] ta)(hs:acv [a,b] X.env=[(false,aeX a X.env),(false,aeX b X.env)]:=by rfl)(dI:acv [b] X.env=[(false,aeX b X.env)]:=by rfl) :
  PI X tg (.Call (.Name "range" p) [a,b] [] pos) (Xv ta):=by
 intro pins s σ H R I h;refine Call_ (ou I hg hm boot_range (adG (aW (ha pos pins s σ H _ I h) λus s1 ⟨vs,H1,I1,r1,q1⟩=>?_) (by rw[hs,dI]) (by rw[dI];rfl)));obtain⟨i,j,e,⟨q1,q2,q3,q4⟩,q⟩:=q1;subst e;cases r1 with
 | cons r rr=>
  cases rr with
  | cons r' rr=>
   cases rr;obtain⟨t,rfl⟩:=r;obtain⟨t',rfl⟩:=r';exact call_range_2 (Gi I1 q1 q2 q3 q4 q)
noncomputable def KH(wi:TI)(g:TG)(tb:TS):TS:=λD σ H=>wi σ H λJ H1=>∃W:Nat->Nat->St->Hp->Prop,(∃m,W 0 m σ H1)/\∀i m σ H,W i m σ H →
 (J.stop i H/\D.nx σ H)\/(J.go i H/\∃N:St->Hp->Prop,(∀ao H',N ao H'->∃m',m'<m/\W (i+1) m' ao H')/\∀x H',J.rB i H x H'->g x σ H' λbE H2=>tb { D with nx:=N,ct:=N,bk:=D.nx } bE H2)
noncomputable def tK(fp:List abV)(h:adt):List (abV×Obj):=fp.filterMap λb=>(h.get? b).map λo=>(b,o)
variable{fp:List abV}
theorem wL{h:adt}{b:abV}{o:Obj}(hb:b∈fp)(e:h.get? b=O o):(b,o)∈tK fp h:=afL.mpr ⟨b,hb,by rw[e];rfl⟩
theorem OK{h:adt}{p:abV×Obj}(hp:p∈tK fp h):p.1∈fp/\h.get? p.1=O p.2:=by
 obtain⟨b,hb,e⟩:=afL.mp hp;cases q:h.get? b with
 | none=>rw[q] at e;cases e
 | some o=>
  rw[q] at e;have e':(b,o)=p:=acM e;subst e';exact⟨hb,q⟩
theorem Inv.pinned{pins:List (abV×Obj)}{s:abT}(I:Inv X pins σ H s)(hf:∀b∈fp,jk X pins H b)(ho:∀b∈fp,∃o,s.heap.get? b=O o/\∀v,o.data≠.cell v):Inv X (pins++tK fp s.heap) σ H s:=
 I.G5 λp hp=>(acG.mp hp).elim (λz=>I.pin p (acZ _ z)) λz=>by
  obtain⟨hb,e⟩:=OK z;obtain⟨f0,f1,f2,_⟩:=hf p.1 hb;obtain⟨o,e',d⟩:=ho p.1 hb;rw[e] at e';cases e';exact⟨e,f0,f1,f2,d⟩
theorem Inv.xa{pins pl:List (abV×Obj)}{s:abT}(I:Inv X (pins++pl) σ H s):Inv X pins σ H s:=I.G5 λp hp=>I.pin p (acZ _ (aeE _ hp))
theorem Ux{iter:adA}{body:d8}{wi:TI}{g:TG}{tb:TS}(hp:PassesOwn (acr X.prog X.w) X.A X.env X.xe)(hc:X.calm=true)(hi:PI X tg iter wi)(hg:PG X tg g)(hb:iu X body tb)(hs:∀x,acX iter X.env x=pure x:=by intro _;rfl):PS X (.For tg iter body [] pos) (KH wi g tb):=by
 intro pins s σ H D I h;refine wpAny_For (aW (hi pins s σ H _ I h) λv s1 h1=>aW h1 λC4 s2 h2=>?_) hs;obtain⟨it,fp,tn,J,H2,e,I2,T,jx,f2,W,⟨m0,w0⟩,turn⟩:=h2;subst e;have Cm:∀{H':Hp},(∀b∈fp,H' b=Z)->∀b∈fp,jk X pins H' b:=λhn b hb=>⟨hn b hb,(f2 b hb).2⟩
 refine codeAny_forLoop_any (λn s'=>∃i ao H',Inv X pins ao H' s'/\tn i s'.heap/\(∀b∈fp,H' b=Z)/\W i n ao H') ?_ m0 ⟨0,σ,H2,I2,jx,λb hb=>(f2 b hb).1,w0⟩;rintro n s3 ⟨i,kf,H3,I3,LA,LB,w3⟩
 rcases turn i n kf H3 w3 with⟨stop,qn⟩ | ⟨go,N,hN,step⟩
 ·refine afM hp (aW (T.done X rfl rfl rfl hc i pins s3 kf H3 X.xe I3 (Cm LB) LA stop) λr s4 ⟨hr,I4⟩=>?_);subst hr;exact afa ⟨kf,H3,I4,qn⟩
 ·refine afM hp (aW (T.item X rfl rfl rfl hc i pins s3 kf H3 X.xe I3 (Cm LB) LA go) λr s4 ⟨u,hr,h4⟩=>?_);subst hr;refine afM hp (aW h4 λ_ s5 ⟨x,H5,I5,r5,y5,rC,yY⟩=>?_);have I5':=I5.pinned (Cm yY) (T.obj _ _ rC);refine afM hp (aW (hg _ s5 kf H5 x u _ I5' r5 (step x H5 y5)) λ_ s6 ⟨eX,H6,I6,q6⟩=>?_);refine afM hp (aW (hb _ s6 eX H6 _ I6 q6) λf s7 q7=>?_);have again:∀{kg:St} {H7:Hp},Inv X (pins++tK fp s5.heap) kg H7 s7->N kg H7->∃m,m<n/\∃i ao H',Inv X pins ao H' s7/\tn i s7.heap/\(∀b∈fp,H' b=Z)/\W i m ao H':=λ{kg H7} I7 n7=>by
   obtain⟨m',hm,w7⟩:=hN kg H7 n7;refine⟨m',hm,i+1,kg,H7,I7.xa,T.keep _ _ _ rC λb hb o e=>(I7.pin (b,o) (acZ _ (acZ _ (wL hb e)))).1,λb hb=>?_,w7⟩;obtain⟨o,e,d⟩:=T.obj _ _ rC b hb;exact(I7.pin (b,o) (acZ _ (acZ _ (wL hb e)))).2.1
  cases f with
  | next=>obtain⟨kg,H7,I7,n7⟩:=q7;exact again I7 n7
  | cont=>obtain⟨kg,H7,I7,n7⟩:=q7;exact again I7 n7
  | brk=>obtain⟨kg,H7,I7,q7⟩:=q7;exact⟨kg,H7,I7.xa,q7⟩
  | ret v=>obtain⟨x7,kg,H7,I7,r7,q7⟩:=q7;exact⟨x7,kg,H7,I7.xa,r7,q7⟩
end
abbrev R2:=V->V->Hp->VK->Prop
noncomputable def bH(X:Cx)(f:acb->acb->Sem acb)(r:R2):Prop:=
 ∀(pins:List (abV×Obj)) (s:abT) (σ:St) (H:Hp) (x y:V) (v u:acb) (Q:VK),Inv X pins σ H s->RelV x v->RelV y u->r x y H Q →
  acf (acr X.prog X.w) X.A (f v u) (EP X pins σ Q) X.xe s
noncomputable def yZ(X:Cx)(f:acb->Sem acb)(r:V->Hp->VK->Prop):Prop:=
 ∀(pins:List (abV×Obj)) (s:abT) (σ:St) (H:Hp) (x:V) (v:acb) (Q:VK),Inv X pins σ H s->RelV x v->r x H Q →
  acf (acr X.prog X.w) X.A (f v) (EP X pins σ Q) X.xe s
noncomputable def cD(X:Cx)(f:acb)(r:aJ->Hp->VK->Prop):Prop:=
 ∀(pins:List (abV×Obj)) (s:abT) (σ:St) (H:Hp) (xs:aJ) (us:aS) (Q:VK),Inv X pins σ H s->Vals xs us->r xs H Q →
  acf (acr X.prog X.w) X.A (call f us) (EP X pins σ Q) X.xe s
noncomputable def Zo(X:Cx)(r:V->Hp->(Bool->Hp->Prop)->Prop):Prop:=
 ∀(pins:List (abV×Obj)) (s:abT) (σ:St) (H:Hp) (x:V) (v:acb) (Q:Bool->Hp->Prop),Inv X pins σ H s->RelV x v->r x H Q →
  acf (acr X.prog X.w) X.A (truthy v) (TP X pins σ Q) X.xe s
noncomputable def pB(r:R2)(ta tb:TE):TE:=λσ H Q=>ta σ H λx H1=>tb σ H1 λy H2=>r x y H2 Q
noncomputable def tUn(r:V->Hp->VK->Prop)(ta:TE):TE:=λσ H Q=>ta σ H λx H1=>r x H1 Q
noncomputable def rI(C:Int->Int->Prop)(g:Int->Int->V):R2:=λx y H Q=>∃i j,x=.int i/\y=.int j/\C i j/\Q (g i j) H
noncomputable def jZ(g:Int->Int->V):R2:=λx y H Q=>∃i j,x=.int i/\y=.int j/\Q (g i j) H
noncomputable def rU(g:Int->V):V->Hp->VK->Prop:=λx H Q=>∃i,x=.int i/\Q (g i) H
section
variable{X:Cx}{a b c:adA}{ta tb tc:TE}{pos:Pos}
variable{f:acb->acb->Sem acb}
theorem yp(ha:PE X a ta)(hb:PE X b tb){pins:List (abV×Obj)}{s:abT}{σ:St}{H:Hp}{R:V->V->Hp->Prop}(I:Inv X pins σ H s)(h:ta σ H λx H1=>tb σ H1 λy H2=>R x y H2){Q:aY}(hf:∀v u s2 x y H2,Inv X pins σ H2 s2->RelV x v->RelV y u->R x y H2->acf (acr X.prog X.w) X.A (f v u) Q X.xe s2):acf (acr X.prog X.w) X.A (aeX a X.env) (λv bB=>acf (acr X.prog X.w) X.A (aeX b X.env) (λu iY=>acf (acr X.prog X.w) X.A (f v u) Q X.xe iY) X.xe bB) X.xe s:=by
 refine aW (ha pins s σ H _ I h) λv s1 ⟨x,H1,I1,r1,q1⟩=>?_
 refine aW (hb pins s1 σ H1 _ I1 q1) λu s2 ⟨y,H2,I2,r2,q2⟩=>?_
 exact hf v u s2 x y H2 I2 r1 r2 q2
theorem Xw{op:Operator}{r:R2}(ho:bH X (afj op) r)(ha:PE X a ta)(hb:PE X b tb):PE X (.BinOp a op b pos) (pB r ta tb):=by
 intro pins s σ H Q I h;exact wpAny_BinOp (yp ha hb I h λv u s2 x y H2 I2 rx ry q=>ho pins s2 σ H2 x y v u Q I2 rx ry q)
theorem Xx{op:UnaryOp}{r:V->Hp->VK->Prop}(ho:yZ X (unaryOp op) r)(ha:PE X a ta):PE X (.UnaryOp op a pos) (tUn r ta):=by
 intro pins s σ H Q I h;exact UnaryOp_ (aW (ha pins s σ H _ I h) λv s1 ⟨x,H1,I1,r1,q1⟩=>ho pins s1 σ H1 x v Q I1 r1 q1)
theorem C5{C:Int->Int->Prop}{g:Int->Int->Int}(rule:∀(i j:Int) (t u:Tok) (s:abT) (Q:aY) (E:aY),C i j->Q (.int (g i j) s.toks) { s with toks:=s.toks+1 }->acf (acr X.prog X.w) X.A (f (.int i t) (.int j u)) Q E s) :
  bH X f (rI C λi j=>.int (g i j)):=by
 intro pins s σ H x y v u Q I rx ry h;obtain⟨i,j,rfl,rfl,hc,q⟩:=h;obtain⟨t,rfl⟩:=rx;obtain⟨t',rfl⟩:=ry;exact rule i j t t' s _ _ hc ⟨.int (g i j),H,I.tok _,⟨_,rfl⟩,q⟩
theorem KI{g:Int->Int->Int}(rule:∀(i j:Int) (t u:Tok) (s:abT) (Q:aY) (E:aY),Q (.int (g i j) s.toks) { s with toks:=s.toks+1 }->acf (acr X.prog X.w) X.A (f (.int i t) (.int j u)) Q E s) :
  bH X f (jZ λi j=>.int (g i j)):=by
 intro pins s σ H x y v u Q I rx ry h;obtain⟨i,j,rfl,rfl,q⟩:=h;obtain⟨t,rfl⟩:=rx;obtain⟨t',rfl⟩:=ry;exact rule i j t t' s _ _ ⟨.int (g i j),H,I.tok _,⟨_,rfl⟩,q⟩
theorem Co{g:Int->Int->Bool}(rule:∀(i j:Int) (t u:Tok) (s:abT) (Q:aY) (E:aY),Q (.bool (g i j)) s->acf (acr X.prog X.w) X.A (f (.int i t) (.int j u)) Q E s):bH X f (jZ λi j=>.bl (g i j)):=by
 intro pins s σ H x y v u Q I rx ry h;obtain⟨i,j,rfl,rfl,q⟩:=h;obtain⟨t,rfl⟩:=rx;obtain⟨t',rfl⟩:=ry;exact rule i j t t' s _ _ ⟨.bl (g i j),H,I,rfl,q⟩
noncomputable def uz(i j:Int):Prop:=(-(2 ^ 64)<i/\i<2 ^ 64)\/(-(2 ^ 64)<j/\j<2 ^ 64)
theorem uz.ok{i j:Int}(h:uz i j):IntMulOk i j:=by
 rcases h with⟨h1,h2⟩ | ⟨h1,h2⟩
 ·exact .of_left (intBits_le_64 h1 h2)
 ·exact .of_right (intBits_le_64 h1 h2)
theorem Uy:bH X (afj .Add) (jZ λi j=>.int (i+j)):=KI λ_ _ _ _ _ _ _ q=>add_int q
theorem Uz:bH X (afj .Sub) (jZ λi j=>.int (i-j)):=KI λ_ _ _ _ _ _ _ q=>sub_int q
theorem UA:bH X (afj .Mult) (rI uz λi j=>.int (i*j)):=C5 λ_ _ _ _ _ _ _ hc q=>mul_int q hc.ok
theorem Rr:bH X (afj .Mod) (rI (λ_ j=>j≠0) λi j=>.int (i.fmod j)):=C5 λ_ _ _ _ _ _ _ hc q=>mod_int' hc q
theorem unI{f:acb->Sem acb}{g:Int->Int}(rule:∀(i:Int) (t:Tok) (s:abT) (Q:aY) (E:aY),Q (.int (g i) s.toks) { s with toks:=s.toks+1 }->acf (acr X.prog X.w) X.A (f (.int i t)) Q E s) :
  yZ X f (rU λi=>.int (g i)):=by
 intro pins s σ H x v Q I rx h;obtain⟨i,rfl,q⟩:=h;obtain⟨t,rfl⟩:=rx;exact rule i t s _ _ ⟨.int (g i),H,I.tok _,⟨_,rfl⟩,q⟩
theorem UB:yZ X (unaryOp .USub) (rU λi=>.int (-i)):=unI λ_ _ _ _ _ q=>neg_int q
end
noncomputable def Zp:V->V->Bool
 | .ay,.ay=>true | .ay,.int _=>true | .int _,.ay=>true | .ay,.bl _=>true | .bl _,.ay=>true | .ay,.str _=>true | .str _,.ay=>true
 | .int _,.int _=>true | .bl _,.bl _=>true | .str _,.str _=>true | .jt _,.jt _=>true
 | .int _,.str _=>true | .str _,.int _=>true | .bl _,.str _=>true | .str _,.bl _=>true
 | _,_=>false
noncomputable def LC:R2:=λx y H Q=>Zp x y=true/\Q (.bl (decide (x=y))) H
theorem Rt{i j:Int}:decide (V.int i=V.int j)=(i==j):=by
 rw[aei];simp
theorem UC{i j:Bool}:decide (V.bl i=V.bl j)=(i==j):=by
 rw[aei];simp
theorem Ru{i j:Str}:decide (V.str i=V.str j)=(i==j):=by
 rw[aei];simp
theorem Rx{i j:Array UInt8}:decide (V.jt i=V.jt j)=(i.toList==j.toList):=by
 rw[aei];cases i;cases j;simp
section
variable{X:Cx}{a b c:adA}{ta tb tc:TE}{pos:Pos}
theorem fO{pins:List (abV×Obj)}{σ:St}{H:Hp}{s:abT}{Q:VK}{k k':Bool}(I:Inv X pins σ H s)(q:Q (.bl k) H)(e:k=k'):EP X pins σ Q (.bool k') s:=by
 subst e;exact⟨.bl k,H,I,rfl,q⟩
theorem Xy:bH X (acU .Eq) LC:=by
 intro pins s σ H x y v u Q I rx ry h;obtain⟨hs,q⟩:=h;cases x with
 | ay=>
  cases rx;cases y with
  | ay=>cases ry;exact PySem.EqNone.eq_none_none (fO I q (by simp))
  | bl j=>cases ry;exact PySem.EqNone.eq_none_bool (fO I q (by simp))
  | int j=>obtain⟨t',rfl⟩:=ry;exact PySem.EqNone.eq_none_int (fO I q (by simp))
  | str j=>obtain⟨t',rfl⟩:=ry;exact PySem.EqNone.eq_none_str (fO I q (by simp))
  | _=>exact absurd (show false=true from hs) acj
 | bl i=>
  cases rx;cases y with
  | ay=>cases ry;exact PySem.EqNone.eq_bool_none (fO I q (by simp))
  | bl j=>cases ry;exact eq_bool (fO I q UC)
  | str j=>obtain⟨t',rfl⟩:=ry;exact PySem.EqMixed.eq_bool_str (fO I q (by simp))
  | _=>exact absurd (show false=true from hs) acj
 | int i=>
  obtain⟨t,rfl⟩:=rx;cases y with
  | ay=>cases ry;exact PySem.EqNone.eq_int_none (fO I q (by simp))
  | int j=>obtain⟨t',rfl⟩:=ry;exact eq_int (fO I q Rt)
  | str j=>obtain⟨t',rfl⟩:=ry;exact PySem.EqMixed.eq_int_str (fO I q (by simp))
  | _=>exact absurd (show false=true from hs) acj
 | str i=>
  obtain⟨t,rfl⟩:=rx;cases y with
  | ay=>cases ry;exact PySem.EqNone.eq_str_none (fO I q (by simp))
  | bl j=>cases ry;exact PySem.EqMixed.eq_str_bool (fO I q (by simp))
  | int j=>obtain⟨t',rfl⟩:=ry;exact PySem.EqMixed.eq_str_int (fO I q (by simp))
  | str j=>obtain⟨t',rfl⟩:=ry;exact eq_str (fO I q Ru)
  | _=>exact absurd (show false=true from hs) acj
 | jt i=>
  obtain⟨t,rfl⟩:=rx;cases y with
  | jt j=>obtain⟨t',rfl⟩:=ry;exact PySem.W.eq_bytes (fO I q Rx)
  | _=>exact absurd (show false=true from hs) acj
 | _=>cases y <;> exact absurd (show false=true from hs) acj
theorem Xz:bH X (acU .Lt) (jZ λi j=>.bl (decide (i<j))):=Co λ_ _ _ _ _ _ _ q=>lt_int q
theorem XA:bH X (acU .LtE) (jZ λi j=>.bl (decide (i<=j))):=Co λ_ _ _ _ _ _ _ q=>le_int q
theorem XD:bH X (acU .Gt) (jZ λi j=>.bl (decide (j<i))):=Co λ_ _ _ _ _ _ _ q=>gt_int q
theorem OL:bH X (acU .In) (λx y H Q=>∃i j,x=.str i/\y=.str j/\Q (.bl (!(adg j i 0 ↑j 1).isEmpty)) H):=by
 intro pins s σ H x y v u Q I rx ry h;obtain⟨i,j,rfl,rfl,q⟩:=h;obtain⟨t,rfl⟩:=rx;obtain⟨t',rfl⟩:=ry;exact in_str (fO I q rfl)
theorem UD:bH X (acU .Is) (λx y H Q=>y=.ay/\Q (.bl (decide (x=.ay))) H):=by
 intro pins s σ H x y v u Q I rx ry h;obtain⟨rfl,q⟩:=h;cases ry;refine is_none_gen (fO I q ?_);cases x <;> first
  | (cases rx;done)
  | (cases rx;rfl)
  | (obtain⟨t,rfl⟩:=rx;rfl)
theorem NE:bH X (acU .NotIn) (λx y H Q=>∃i j,x=.str i/\y=.str j/\Q (.bl (!(!(adg j i 0 ↑j 1).isEmpty))) H):=by
 intro pins s σ H x y v u Q I rx ry h;obtain⟨i,j,rfl,rfl,q⟩:=h;obtain⟨t,rfl⟩:=rx;obtain⟨t',rfl⟩:=ry;exact notIn_str (fO I q rfl)
variable{r r':R2}
theorem bH.or{f:acb->acb->Sem acb}(h:bH X f r)(h':bH X f r'):bH X f (λx y H Q=>r x y H Q\/r' x y H Q):=by
 intro pins s σ H x y v u Q I rx ry q
 rcases q with q | q
 ·exact h pins s σ H x y v u Q I rx ry q
 ·exact h' pins s σ H x y v u Q I rx ry q
theorem oy(b:adA){op:aiS}(h:op≠.In:=by decide)(h2:op≠.NotIn:=by decide):adB op b=false:=by
 have e1:(op==CmpOp.In)=false:=by cases op <;> first | rfl | exact absurd rfl h
 have e2:(op==CmpOp.NotIn)=false:=by cases op <;> first | rfl | exact absurd rfl h2
 cases b <;> simp[adB,e1,e2]
theorem Ry{op:aiS}(ho:bH X (acU op) r)(ha:PE X a ta)(hb:PE X b tb)(hm:adB op b=false):PE X (.Compare a [op] [b] pos) (pB r ta tb):=by
 intro pins s σ H Q I h;exact wpAny_Compare1 (yp ha hb I h λv u s2 x y H2 I2 rx ry q=>ho pins s2 σ H2 x y v u Q I2 rx ry q) hm
noncomputable def BR(t:TE):TT:=λσ H Q=>t σ H λx H'=>∃k,x=.bl k/\Q k H'
theorem G9{op:aiS}(ho:bH X (acU op) r)(ha:PE X a ta)(hb:PE X b tb)(hm:adB op b=false):PT X (.Compare a [op] [b] pos) (BR (pB r ta tb)):=by
 intro pins s σ H Q I h;refine wpAny_isTrue_Compare1 (aW (ha pins s σ H _ I h) λv s1 ⟨x,H1,I1,r1,q1⟩=>aW (hb pins s1 σ H1 _ I1 q1) λu s2 ⟨y,H2,I2,r2,q2⟩=>
  aW (ho pins s2 σ H2 x y v u _ I2 r1 r2 q2) λc s3 ⟨z,H3,I3,r3,k,e,q3⟩=>?_) hm
 subst e;cases r3;exact adn ⟨H3,I3,q3⟩
noncomputable def Bw(r r':R2)(ta tb tc:TE):TE:=λσ H Q=>ta σ H λx H1=>tb σ H1 λy H2=>r x y H2 λz H3=>∃k,z=.bl k /\
 (if k=true then tc σ H3 λw' H4=>r' y w' H4 Q else Q (.bl false) H3)
theorem P5{op el:aiS}(ho:bH X (acU op) r)(eM:bH X (acU el) r')(ha:PE X a ta)(hb:PE X b tb)(hc:PE X c tc)(hm:ahF [op,el] [b,c]=false:=by with_unfolding_all rfl):PE X (.Compare a [op,el] [b,c] pos) (Bw r r' ta tb tc):=by
 intro pins s σ H Q I h;refine Compare_chain (aW (ha pins s σ H _ I h) λv s1 ⟨x,H1,I1,r1,q1⟩=>chain_link (aW (hb pins s1 σ H1 _ I1 q1) λu s2 ⟨y,H2,I2,r2,q2⟩=>
  aW (ho pins s2 σ H2 x y v u _ I2 r1 r2 q2) λd s3 ⟨z,H3,I3,r3,k,e,q3⟩=>?_)) hm
 subst e;cases r3;refine adn ?_;cases k with
 | false=>exact ite_ff ⟨.bl false,H3,I3,rfl,q3⟩
 | true=>exact ite_tt (chain_last (aW (hc pins s3 σ H3 _ I3 q3) λw' s4 ⟨z',H4,I4,r4,q4⟩=>eM pins s4 σ H4 y z' u w' Q I4 r2 r4 q4))
theorem P6{op el:aiS}(ho:bH X (acU op) r)(eM:bH X (acU el) r')(ha:PE X a ta)(hb:PE X b tb)(hc:PE X c tc)(hm:ahF [op,el] [b,c]=false:=by with_unfolding_all rfl):PT X (.Compare a [op,el] [b,c] pos) (BR (Bw r r' ta tb tc)):=by
 intro pins s σ H Q I h;refine isTrue_chain (aW (ha pins s σ H _ I h) λv s1 ⟨x,H1,I1,r1,q1⟩=>test_link (aW (hb pins s1 σ H1 _ I1 q1) λu s2 ⟨y,H2,I2,r2,q2⟩=>
  aW (ho pins s2 σ H2 x y v u _ I2 r1 r2 q2) λd s3 ⟨z,H3,I3,r3,k,e,q3⟩=>?_)) hm
 subst e;cases r3;refine adn ?_;cases k with
 | false=>
  obtain⟨k',e',q'⟩:=q3;cases e';exact ite_ff ⟨H3,I3,q'⟩
 | true=>
  refine ite_tt (test_last (aW (hc pins s3 σ H3 _ I3 q3) λw' s4 ⟨z',H4,I4,r4,q4⟩=>aW (eM pins s4 σ H4 y z' u w' _ I4 r2 r4 q4) λd' s5 ⟨z2,H5,I5,r5,k2,e2,q5⟩=>?_));subst e2;cases r5;exact adn ⟨H5,I5,q5⟩
noncomputable def KJ(K:abG)(x:V)(H:Hp)(k:Bool):Prop:=
 match x with
 | .ay=>k=false
 | .bl b=>k=b
 | .int i=>k=(i != 0)
 | .str y=>↑y<=acd/\k=((↑y:Int) != 0)
 | .jt y=>y.size<=acd/\k=((y.size:Int) != 0)
 | .ref p=>(∃xs,bK K H p xs/\k= !xs.isEmpty)\/(∃xs,bX K H p xs/\k= !xs.isEmpty)\/∃kvs,H p=O (.dK kvs)/\k= !kvs.isEmpty
 | _=>False
theorem N7{κ:Type}{kvs:List (κ×V)}{vs:List (κ×acb)}(r:KV kvs vs):(!vs.isEmpty)= !kvs.isEmpty:=by
 cases r <;> rfl
theorem Fg{xs:aJ}{its:aS}(r:Vals xs its):(!its.toArray.isEmpty)= !xs.isEmpty:=by
 cases r <;> simp
theorem oz:(acd:Nat)<2 ^ 63:=by rw[afB];decide
theorem UE:Zo X (λx H Q=>∃k,KJ X.K x H k/\Q k H):=by
 intro pins s σ H x v Q I rx h;obtain⟨k,e,q⟩:=h;have hl:=oz;have hs:acd=16777216:=afB;cases x with
 | ay=>
  cases rx;have e':k=false:=e;subst e';exact truthy_none ⟨H,I,q⟩
 | bl b=>
  cases rx;have e':k=b:=e;subst e';exact adn ⟨H,I,q⟩
 | int i=>
  obtain⟨t,rfl⟩:=rx;have e':k=(i != 0):=e;subst e';exact PySem.P.truthy_int ⟨H,I,q⟩
 | str y=>
  obtain⟨t,rfl⟩:=rx;obtain⟨hy,e'⟩:↑y<=acd/\k=((↑y:Int) != 0):=e;subst e';exact PySem.P.truthy_str ∅ ⟨H,I.tok _,q⟩
 | jt y=>
  obtain⟨t,rfl⟩:=rx;obtain⟨hy,e'⟩:y.size<=acd/\k=((y.size:Int) != 0):=e;subst e';exact PySem.W.truthy_bytes ∅ ⟨H,I.tok _,q⟩
 | ref p=>
  cases rx;have e':(∃xs,bK X.K H p xs/\k= !xs.isEmpty)\/(∃xs,bX X.K H p xs/\k= !xs.isEmpty)\/∃kvs,H p=O (.dK kvs)/\k= !kvs.isEmpty:=e
  rcases e' with⟨xs,hx,e'⟩ | ⟨xs,hx,e'⟩ | ⟨kvs,hx,e'⟩
  ·subst e';obtain⟨its,r,pl,hz⟩:=I.list hx;have bj:=↑r;exact wpAny_truthy_list pl.isList (by simp only[aca];omega) ⟨H,I.tok _,by rw[Fg r];exact q⟩
  ·subst e';obtain⟨its,r,pl,hz⟩:=I.tuple hx;have bj:=↑r;exact truthy_tuple pl (by simp only[aca];omega) ⟨H,I.tok _,by rw[Fg r];exact q⟩
  ·subst e';obtain⟨hz,hS,vs,r,m⟩:↑kvs<=acd/\(p==aee)=false/\∃vs,KV kvs vs/\s.heap.DictOf (dm X.prog X.w) p vs:=I.aA p _ hx;have bj:↑kvs=↑vs:=afi r;exact wpAny_truthy_dict hS m ∅ ⟨H,I.tok _,by rw[N7 r];exact q⟩
 | _=>exact(show False from e).elim
theorem P7(ha:PE X a ta)(he:∀whole,isTrue a X.env whole=(do let v <- whole;standAt a.pos;ags [v] (truthy v))) :
  PT X a (λσ H Q=>ta σ H λx H'=>∃k,KJ X.K x H' k/\Q k H'):=by
 intro pins s σ H Q I h;exact isTrue_plain (aW (ha pins s σ H _ I h) λv s1 ⟨x,H1,I1,r1,q1⟩=>UE pins s1 σ H1 x v Q I1 r1 q1) (he _)
theorem N8:bH X (afj .Add) (λx y H Q=>∃i j,x=.str i/\y=.str j/\↑i+↑j<=acd/\Q (.str (i++j)) H):=by
 intro pins s σ H x y v u Q I rx ry h;obtain⟨i,j,rfl,rfl,hz,q⟩:=h;obtain⟨t,rfl⟩:=rx;obtain⟨t',rfl⟩:=ry;exact add_str (λt' tk=>⟨.str (i++j),H,I.tok _,⟨_,rfl⟩,q⟩) hz
theorem vals1{x:V}{us:aS}(r:Vals [x] us):∃u,us=[u]/\RelV x u:=by
 cases r with
 | cons r1 r2=>cases r2;exact⟨_,rfl,r1⟩
theorem aaL:cD X (.builtin "abs") (λxs H Q=>∃i,xs=[.int i]/\Q (.int (if i<0 then -i else i)) H):=by
 intro pins s σ H xs us Q I r h;obtain⟨i,rfl,q⟩:=h;obtain⟨u,rfl,t,rfl⟩:=vals1 r;exact call_abs_int λu tk=>⟨.int (if i<0 then -i else i),H,I.tok _,⟨_,rfl⟩,q⟩
theorem ON:cD X (.type "int") (λxs H Q=>(∃i,xs=[.int i]/\Q (.int i) H)\/∃k,xs=[.bl k]/\Q (.int (if k then 1 else 0)) H):=by
 intro pins s σ H xs us Q I r h
 rcases h with⟨i,rfl,q⟩ | ⟨k,rfl,q⟩
 ·obtain⟨u,rfl,t,rfl⟩:=vals1 r;exact call_int_int ⟨.int i,H,I,⟨_,rfl⟩,q⟩
 ·obtain⟨u,rfl,r1⟩:=vals1 r;cases r1;exact call_int_bool ⟨.int (if k then 1 else 0),H,I.tok _,⟨_,rfl⟩,q⟩
end
theorem OO{dx:abV}{mA:dr}(n:h.Ns1 dx mA):∃od,h.get? dx=O od/\∀name,PySem.W.lookIn name od=O (mA name):=by
 obtain⟨o,es,ep,ho,hd,hk,_,hm⟩:=n;refine⟨o,ho,λname=>?_⟩;have e:=hm name;unfold nsFind findBy at e;rw[<- Array.find?_toList] at e;unfold PySem.W.lookIn;rw[hd]
 dsimp only
 split
 ·rename_i y q;rw[q] at e;exact congrArg O e
 ·rename_i q;rw[q] at e;have a:es.toList.any (·.refKey)=false:=by
   rw[List.any_eq_false];intro y hy;obtain⟨z,t,Zq⟩:=hk y (Array.mem_toList_iff.mp hy);simp[DictEntry.refKey,Zq]
  have a':¬es.toList.any (·.refKey)=true:=by rw[a];exact acj
  rw[if_neg a'];exact congrArg O e
abbrev _root_.fQ:=Option acb
theorem ji.some_of{o:fQ}(r:ji (O v) o):∃u,o=O u/\RelV v u:=by
 cases o with
 | none=>exact(show False from r).elim
 | some u=>exact⟨u,rfl,r⟩
theorem OP(r:RelV v u):aiT u=true:=by
 cases v with
 | ay=>cases(show u=acB from r);rfl
 | bl b=>cases(show u=afG b from r);rfl
 | int i=>obtain⟨t,e⟩:=(show ∃t,u=aij i t from r);cases e;rfl
 | str x=>obtain⟨t,e⟩:=(show ∃t,u=aik x t from r);cases e;rfl
 | jt b=>obtain⟨t,e⟩:=(show ∃t,u=Value.bytes b t from r);cases e;rfl
 | yS b=>obtain⟨t,e⟩:=(show ∃t,u=Value.float b t from r);cases e;rfl
 | ref a=>cases(show u=acu a from r);rfl
 | ty n=>cases(show u=Value.type n from r);rfl
 | pv _ _=>exact(show False from r).elim
section
variable{X:Cx}{pins:List (abV×Obj)}{σ:St}{H:Hp}{s:abT}{a C dx:abV}{fs:List (Str×V)}{f:Str}{v:V}{A:adq}{E:aY}
theorem Rz{prog:acL}{w:adl}{env:Env}{e:adA}{f:Str}{pos:Pos}{s:abT}{Q:aY}(hb:aeM e f env (aeX e env)=aeX e env)(h:acf (acr prog w) A (aeX e env) (λo bB=>acf (acr prog w) A (getAttr o f true) Q E bB) E s):acf (acr prog w) A (aeX (.Attribute e f pos) env) Q E s:=
 Attribute_any_ h (by rw[arm_eval_Attribute,hb])
end
structure dw(k:Nat)(A:adq):Prop where
 hd:A.handled=Z
 dp:A.depth+3*k+5<recursionLimit
 un:A.units+16*k+200<aix
variable{k:Nat}
theorem dw.mono{j:Nat}(r:dw k A)(h:j<=k):dw j A:=⟨r.hd,by have:=r.dp;omega,by have:=r.un;omega⟩
theorem dw.deeper{k:Nat}{A:adq}(r:dw (k+1) A)(env:Env):dw k (A.deeper env):=
 ⟨r.hd,by have:=r.dp;show A.depth+1+3*k+5<_;omega,by have:=r.un;show A.units+3+16*k+200<_;omega⟩
variable{us:aS}
theorem N9{C:abV}{kw:List (Str×acb)}:(A.under (.builtin "type.__call__" ⟨.ref C::us,kw⟩)).depth=A.depth+1:=by
 first | rfl | simp[aiK,Code.weight,Code.isCreation,Code.isGuard,Code.isCaller,Code.frames,aiL,guardIds]
theorem Oa{C:abV}{kw:List (Str×acb)}:(A.under (.builtin "type.__call__" ⟨.ref C::us,kw⟩)).units=A.units+1:=by
 first | rfl | simp[aiK,Code.cUnits,Code.frames,aiL]
theorem dw.make(r:dw (k+1) A)(C:abV)(us:aS)(kw:List (Str×acb)):dw k (A.under (.builtin "type.__call__" ⟨.ref C::us,kw⟩)):=
 ⟨r.hd,by have:=r.dp;rw[N9];omega,by have:=r.un;rw[Oa];omega⟩
theorem dw.depth{k:Nat}{A:adq}(r:dw k A):A.depth<recursionLimit:=by have:=r.dp;omega
theorem dw.units{k:Nat}{A:adq}(r:dw k A):A.units+64<cLine:=by have:=r.un;omega
noncomputable def KN:TA:=λ_ H Q=>Q [] H
noncomputable def JQ(ta:TE)(tr:TA):TA:=λσ H Q=>ta σ H λx H1=>tr σ H1 λxs H2=>Q (x::xs) H2
section
variable{X:Cx}{e:adA}{es:bS}{te:TE}{t:TA}{pos:Pos}
theorem tL:PA X [] KN:=λ_ _ _ _ H Q I h=>Calls.spliced_nil ⟨[],H,I,.nil,h⟩
theorem mB(ha:PE X e te)(hr:PA X es t)(hs:acv (e::es) X.env=(false,aeX e X.env)::acv es X.env:=by rfl):PA X (e::es) (JQ te t):=by
 intro pos pins s σ H Q I h;rw[hs];show acf _ _ (spliced ((false,aeX e X.env)::afv pos (acv es X.env))) _ _ s;refine Calls.spliced_cons (aW (ha pins s σ H _ I h) λu s1 ⟨x,H1,I1,r1,q1⟩=>?_);exact aW (hr pos pins s1 σ H1 _ I1 q1) λus s2 ⟨xs,H2,I2,r2,q2⟩=>⟨x::xs,H2,I2,.cons r1 r2,q2⟩
noncomputable def Zr(t:TA):TE:=λσ H Q=>t σ H λxs H1=>↑xs<=acd/\∀p,H1 p=Z->Q (.ref p) (upd H1 p (.tup xs))
noncomputable def Zs(t:TA):TE:=λσ H Q=>t σ H λxs H1=>↑xs<=acd/\∀p,H1 p=Z->Q (.ref p) (upd H1 p (.lst xs))
theorem UG{x1}(h:PA X es t):PE X (.Tuple es x1 pos) (Zr t):=by
 intro pins s σ H Q I hq;refine wpAny_Tuple_spliced (aW (h pos pins s σ H _ I hq) λus s1 ⟨xs,H1,I1,r,z,q⟩=>⟨by rw[<- ↑r];exact z,?_⟩);have hf:H1 s1.heap.objs.size=none:=I1.aA.fresh (abO _);refine⟨.ref s1.heap.objs.size,upd H1 s1.heap.objs.size (.tup xs),I1.laid (t':=s1.toks) (λb u e=>abJ _ e) (abO _) ?_,rfl,q _ hf⟩;exact⟨z,us,r,⟨_,acp _ rfl,rfl,_,rfl⟩⟩
theorem UH(h:PA X es t):PE X (.List es pos) (Zs t):=by
 intro pins s σ H Q I hq;refine wpAny_List_spliced (aW (h pos pins s σ H _ I hq) λus s1 ⟨xs,H1,I1,r,z,q⟩=>⟨by rw[<- ↑r];exact z,?_⟩);have hf:H1 s1.heap.objs.size=none:=I1.aA.fresh (abO _);refine⟨.ref s1.heap.objs.size,upd H1 s1.heap.objs.size (.lst xs),I1.laid (t':=s1.toks) (λb u e=>abJ _ e) (abO _) ?_,rfl,q _ hf⟩;exact⟨z,us,0,r,acp _ rfl⟩
end
abbrev Sp:=aJ->Hp->VK->XK->Prop
abbrev pC:=List Env->Hp->abT->XK->acb->abT->Prop
structure oU(P:acL)(w:adl)(K:abG)(mg:dr)(base:adt)(A:adq)(outer:List Env)(s:abT)(H:Hp):Prop where
 frames:A.frames=O outer
 mod:Mod K mg base
 bs:∀b o,base.get? b=O o->s.heap.get? b=O o/\H b=Z
 jX:base.objs.size<=s.heap.objs.size
 gz:s.heap.FunFrames base outer
 kK:∀b∈dz outer,H b=Z
 aA:cI P w H s.heap
 bare:ahf s.gens
noncomputable def CE(outer:List Env)(P:acL)(w:adl)(H:Hp)(s:abT)(Q:VK)(u:acb)(s':abT):Prop:=
 ∃v H',s'.os=s.os/\ahf s'.gens/\Un (dz outer) [] H H' s.heap s'.heap/\cI P w H' s'.heap/\RelV v u/\Q v H'
noncomputable def CR(CX:pC)(outer:List Env)(P:acL)(w:adl)(H:Hp)(s:abT)(Q:VK)(E:XK)(r:Result)(s':abT):Prop:=
 match r with
 | .ok (.ret u)=>CE outer P w H s Q u s'
 | .ok _=>False
 | .error e=>CX outer H s E e s'
structure fV(P:acL)(w:adl)(K:abG)(mg:dr)(base:adt)(CX:pC)(k:Nat)(f:abV)(fd:adR)(ps:aN)(sp:Sp):Prop where
 len:∀vs H Q E,sp vs H Q E->↑vs=↑ps
 run:∀(A:adq) (outer:List Env) (s:abT) (H:Hp) (args:Args) (us:aS) (vs:aJ) (Q:VK) (E:XK),dw k A->oU P w K mg base A outer s H->BindsTo s fd args (ps.zip us)->Vals vs us->sp vs H Q E →
  ahG (acr P w) A (.call (.ref f) args) (CR CX outer P w H s Q E) s
variable{mg:dr}
theorem oU.make{w:adl}{base:adt}{outer:List Env}{s:abT}(e:oU P w K mg base A outer s H)(C:abV)(us:aS)(kw:List (Str×acb)):oU P w K mg base (A.under (.builtin "type.__call__" ⟨.ref C::us,kw⟩)) outer s H:=⟨by first | exact e.frames | (simpa[aiK,Code.envs,aiL,pushEnvs] using e.frames),e.mod,e.bs,e.jX,e.gz,e.kK,e.aA,e.bare⟩
section
variable{X:Cx}{pins:List (abV×Obj)}{σ:St}{H:Hp}{s s':abT}
theorem Inv.KO(I:Inv X pins σ H s):oU X.prog X.w X.K X.mg X.base X.A X.stack s H:=
 ⟨I.ok.frames,I.ok.mod,I.bs,abX I.ok.jX I.sz,I.stack,I.tD,I.aA,I.bare⟩
theorem Inv.after{Q:VK}{u:acb}(I:Inv X pins σ H s)(h:CE X.stack X.prog X.w H s Q u s'):EP X pins σ Q u s':=by
 obtain⟨v,H',os,bare,un,aA,r,q⟩:=h;obtain⟨hh,g,d,t,os'⟩:=s';obtain rfl:os'=s.os:=os;exact⟨v,H',I.call (h':=hh) (g':=g) (d':=d) (t':=t) (ch:=[]) un aA bare (λb z=>absurd z (by simp)),r,q⟩
end
noncomputable def Binds(K:abG)(fd:adR)(ps:aN)(ds:aS):Prop:=
 ∀(s:abT) (us:aS),K.In s.heap->(us++ds).length=↑ps->BindsTo s fd ⟨us,[]⟩ (ps.zip (us++ds))
variable{ps:aN}
theorem Binds.all{fd:adR}(h:∀us:aS,↑us=↑ps->bindArgs fd ⟨us,[]⟩=pure (ps.zip us)):Binds K fd ps []:=λs us _ hl=>by
 rw[afN] at hl ⊢;exact .of_eq (h us hl)
structure mC(N P:aN)(sc:aes):Prop where
 kind:sc.kind=.function
 co:sc.isCoroutine=false
 gen:sc.isGenerator=false
 nd:N.Nodup
 pre:N.take ↑P=P
 C6:∀x∈P,sc.names.lookup x=O .local\/sc.names.lookup x=O .cell
 UI:∀y∈sc.names,y.2≠.free
theorem Fz{kindOf:Str->Option afk}{x:Str}:∀{binds:List (Str×acb)} {m:dr},(∀v,(x,v)∉binds)->bindL kindOf binds m x=m x
 | [],_,_=>rfl
 | (n,v)::r,m,h=>by
  unfold bindL;rw[Fz λw hw=>h w (abN _ hw)];split
  ·have:x≠n:=by rintro rfl;exact h v adF
   simp[this]
  ·rfl
theorem FA{kindOf:Str->Option afk}{x:Str}:∀{binds:List (Str×acb)} {m:dr},(∀v,(x,v)∉binds)->bindC kindOf binds m x=m x
 | [],_,_=>rfl
 | (n,v)::r,m,h=>by
  unfold bindC;rw[FA λw hw=>h w (abN _ hw)];split
  ·rfl
  ·have:x≠n:=by rintro rfl;exact h v adF
   simp[this]
theorem FC{kindOf:Str->Option afk}{x:Str}{v:acb}:∀{P:aN} {vs:aS} {i:Nat} {m:dr},P.Nodup->P[i]? =O x->vs[i]? =O v->kindOf x=O .local →
  bindL kindOf (P.zip vs) m x=O v
 | [],_,_,_,_,h,_,_=>by simp at h
 | _::_,[],_,_,_,_,h,_=>by simp at h
 | p::P,w::vs,0,m,nd,h1,h2,hk=>by
  simp at h1 h2;subst h1;subst h2
  show bindL kindOf ((p,w)::P.zip vs) m p=_;unfold bindL;rw[Fz λv hv=>(afc.mp nd).1 (afd hv).1,if_pos hk];simp
 | p::P,w::vs,i+1,m,nd,h1,h2,hk=>by
  show bindL kindOf ((p,w)::P.zip vs) m x=_;unfold bindL;exact FC (i:=i) (afc.mp nd).2 (by simpa using h1) (by simpa using h2) hk
theorem FD{kindOf:Str->Option afk}{x:Str}{v:acb}:∀{P:aN} {vs:aS} {i:Nat} {m:dr},P.Nodup->P[i]? =O x->vs[i]? =O v->kindOf x≠O .local →
  bindC kindOf (P.zip vs) m x=O v
 | [],_,_,_,_,h,_,_=>by simp at h
 | _::_,[],_,_,_,_,h,_=>by simp at h
 | p::P,w::vs,0,m,nd,h1,h2,hk=>by
  simp at h1 h2;subst h1;subst h2
  show bindC kindOf ((p,w)::P.zip vs) m p=_;unfold bindC;rw[FA λv hv=>(afc.mp nd).1 (afd hv).1,if_neg hk];simp
 | p::P,w::vs,i+1,m,nd,h1,h2,hk=>by
  show bindC kindOf ((p,w)::P.zip vs) m x=_;unfold bindC;exact FD (i:=i) (afc.mp nd).2 (by simpa using h1) (by simpa using h2) hk
noncomputable def start(N:aN)(vs:aJ):St:=vs.map O++abS (↑N-↑vs) Z
noncomputable def jl(CX:pC)(P:acL)(w:adl)(K:abG)(mg:dr)(base:adt)(N:aN)(qual:Str)(scope:aes)(f:abV)(cd:acb)(A:adq)(outer:List Env)(s:abT)(H:Hp)(E:XK):Cx where
 prog:=P
 w:=w
 K:=K
 mg:=mg
 base:=base
 A:=A.deeper (ahT qual scope s.heap.objs.size f cd)
 N:=N
 aI:=s
 ba:=H
 env:=ahT qual scope s.heap.objs.size f cd
 outer:=outer
 stack:=ahT qual scope s.heap.objs.size f cd::outer
 ex:=[]
 calm:=true
 fn:=λ_=>true
 pn:=[]
 kp:=λ_=>True
 xe:=λe s'=>acf (acr P w) (A.deeper (ahT qual scope s.heap.objs.size f cd)) (leaving (ahT qual scope s.heap.objs.size f cd) e) (λ_ fe=>CX outer H s E e fe) (λe' fe=>CX outer H s E e' fe) s'
theorem Gj{sc:aes}{n:Nat}{x:Str}(h:sc.names.lookup x=O .cell):∃c,(cellsFrom n sc.names []).lookup x=O c:=by
 have q:=ahy sc.names n [] (.inl h);exact ads.mp q
theorem OQ{CX:pC}{w:adl}{base:adt}{N:aN}{qual:Str}{scope:aes}{f:abV}{cd:acb}{outer:List Env}{s s1:abT}{E:XK}{vs:aJ}(S:mC N ps scope)(hd:A.handled=Z)(e0:oU P w K mg base A outer s H)(hl:↑vs=↑ps)(r:Vals vs us)(x:InCallC s s.heap.objs.size (bindL (ahT qual scope s.heap.objs.size f cd).kindOf (ps.zip us) λ_=>Z) (cellsFrom (s.heap.objs.size+1) scope.names []) (bindC (ahT qual scope s.heap.objs.size f cd).kindOf (ps.zip us) λ_=>Z) s1):Inv (jl CX P w K mg base N qual scope f cd A outer s H E) [] (start N vs) H s1:=by
 have hpl:↑ps<=↑N:=by have:=congrArg List.length S.pre;rw[acw] at this;omega
 obtain⟨h1,tk,rfl,hk⟩:=x.done;have C7:∀b:abV,b∉(jl CX P w K mg base N qual scope f cd A outer s H E).ex:=λb z=>absurd (show b∈([]:List abV) from z) (by simp)
 refine⟨⟨e0.mod,S.kind,rfl,rfl,abO _,λy z c h1 h2=>?_,λy hy=>?_,λy c _ h=>?_,λ_=>hd,Around.frames_deeper e0.frames,.inr ⟨rfl,rfl⟩,λb z=>absurd z (C7 b),e0.bs,e0.jX,λb _ _=>C7 b,λb z=>absurd z (C7 b),e0.gz,e0.kK⟩,
  rfl,e0.bare,Un.kept hk,⟨_,x.toInCall.ns,λi y v h1 h2 h3=>?_⟩,λy c h=>⟨_,x.cell y c h⟩,e0.aA.fresh (abO _),λy c h=>?_,λp hp=>absurd (show p∈([]:List (abV×Obj)) from hp) (by simp),e0.aA.kept hk,⟨?_,trivial⟩⟩
 ·exact name_of_addr x.apart (aeN h1) (aeN h2)
 ·have hy:scope.names.lookup y=O .cell\/scope.names.lookup y=O .free:=hy
  rcases hy with hy | hy
  ·exact Gj hy
  ·exact absurd rfl (S.UI _ (aeN hy))
 ·exact ahE (x.above y c (aeN h))
 ·have hi:i<↑vs:=by
   unfold start at h2;by_cases hi:i<↑vs
   ·exact hi
   ·rw[agD (by simpa using hi)] at h2;rw[List.getElem?_replicate] at h2;split at h2 <;> cases h2
  have ha:vs[i]? =O v:=by
   unfold start at h2;rw[ado (by simpa using hi),abQ] at h2;cases e:vs[i]? with
   | none=>rw[e] at h2;cases h2
   | some a=>rw[e] at h2;cases h2;rfl
  obtain⟨u,hu,rv⟩:=r.get ha;have hp:ps[i]? =O y:=by
   rw[<- S.pre,agW ∅];exact h1
  have LD:ps.Nodup:=by rw[<- S.pre];exact S.nd.sublist (List.take_sublist _ _)
  refine⟨u,rv,?_⟩
  rcases S.C6 y (abY hp) with k | k
  ·exact .inl ⟨k,FC LD hp hu k⟩
  ·obtain⟨c,e⟩:=Gj (n:=s.heap.objs.size+1) k;refine .inr ⟨.inl k,c,e,?_⟩;have q:=x.cell y c e;rw[FD LD hp hu (by show scope.names.lookup y≠_;rw[k];decide)] at q;exact q
 ·have z:=e0.aA.fresh (ahE (x.above y c (aeN h)));exact⟨λ_=>z,.inl z⟩
 ·unfold start;show _=↑N;rw[acg,abI,List.length_replicate];omega
abbrev _root_.ce:=Option abV
theorem JR{CX:pC}{w:adl}{base:adt}{f:abV}{name qual:Str}{params:Arguments}{body:d8}{scope:aes}{dV kV doc pm bQ ct oc:acb}{an od:ce}{gC:Array fQ}{N:aN}{sp:Sp}(lk:K.lookup f=O ⟨oc,od,.func (adu name qual params body scope dV kV doc pm an bQ ct),gC⟩)(hcd:aey K bQ qual=true)(S:mC N ps scope)(len:∀vs H Q E,sp vs H Q E->↑vs=↑ps)(ub:∀(A:adq) (outer:List Env) (s:abT) (H:Hp) (vs:aJ) (Q:VK) (E:XK),dw k (A.deeper (ahT qual scope s.heap.objs.size f bQ))->sp vs H Q E → ∃t,iu (jl CX P w K mg base N qual scope f bQ A outer s H E) body t/\t { nx:=λ_ H'=>Q .ay H',rt:=Q } (start N vs) H) :
  fV P w K mg base CX (k+1) f (adu name qual params body scope dV kV doc pm an bQ ct) ps sp:=by
 refine⟨len,λA outer s H args us vs Q E hr e0 hb r LF=>?_⟩;have hl:=len _ _ _ _ LF;have KX:K.In s.heap:=e0.mod.cR.keeps λb o e=>(e0.bs b o e).1
 have lim:s.heap.NoLimit:=e0.mod.nolimit.keeps λb o e=>(e0.bs b o e).1
 have XF:∀y∈ps.zip us,scope.names.lookup y.1=O .local\/(scope.names.lookup y.1=O .cell/\((cellsFrom (s.heap.objs.size+1) scope.names []).lookup y.1).isSome=true):=λ⟨n,v⟩ hy=>by
  rcases S.C6 n (afd hy).1 with q | q
  ·exact .inl q
  ·exact .inr ⟨q,ahy _ _ _ (.inl q)⟩
 refine codeAny_call_function hr.depth (KX _ _ lk) rfl S.co S.gen rfl (PySem.W.codeRec_of KX hcd) (hb _ _ _ _ ?_);refine wpAny_newFunctionEnv_cells S.kind XF λenv he s1 x=>?_
 subst he;refine⟨lim.keeps x.toInCall.keep,codeAny_func ?_⟩;obtain⟨t,ht,hq⟩:=ub A outer s H vs Q E (hr.deeper _) LF;have I:Inv (jl CX P w K mg base N qual scope f bQ A outer s H E) [] (start N vs) H s1:=OQ S hr.hd e0 hl r x;refine acW (ht [] s1 (start N vs) H _ I hq) (λfl s' hs=>?_) λe s' hs=>hs
 have fin:∀{ao:St} {H':Hp} {v:V} {u:acb},Inv (jl CX P w K mg base N qual scope f bQ A outer s H E) [] ao H' s'->RelV v u->Q v H'->CE outer P w H s Q u s':=
  λ{ao H' v u} J rv q=>⟨v,H',J.os,J.bare,J.base,J.aA,rv,q⟩
 cases fl with
 | ret u=>
  obtain⟨v,ao,H',J,rv,q⟩:=hs;exact fin J rv q
 | next=>
  obtain⟨ao,H',J,q⟩:=hs;exact fin (v:=V.ay) (u:=acB) J rfl q
 | brk=>
  obtain⟨_,_,_,q⟩:=hs;exact afl q
 | cont=>
  obtain⟨_,_,_,q⟩:=hs;exact afl q
section
variable{X:Cx}{x:Str}{p pos:Pos}{e:adA}{es:bS}{t:TA}{id T:String}{r:aJ->Hp->VK->Prop}
noncomputable def C8(r:aJ->Hp->VK->Prop)(t:TA):TE:=λσ H Q=>t σ H λvs H1=>r vs H1 Q
theorem AG(hc:cD X (.builtin id) r)(hg:Gl X x)(hm:X.mg x=Z)(hv:adp x=O (.builtin id))(ha:PA X (e::es) t)(hn:x≠"__name__":=by decide)(bR:(x==("__debug__":Str))=false:=by decide)
  (he:acv (e::es) X.env=(false,aeX e X.env)::acv es X.env:=by rfl) (hpl:(afv pos (acv es X.env)).any (·.1)=false:=by rfl):PE X (.Call (.Name x p) (e::es) [] pos) (C8 r t):=by
 intro pins s σ H Q I h;refine afO (ou I hg hm hv ?_ hn bR);exact agb (aW (ha pos pins s σ H _ I h) λus s1 ⟨vs,H1,I1,r1,q1⟩=>hc pins s1 σ H1 vs us Q I1 r1 q1) he hpl
theorem OR(hc:cD X (.type T) r)(hg:Gl X x)(hm:X.mg x=Z)(hv:adp x=O (.type T))(ha:PA X (e::es) t)(hn:x≠"__name__":=by decide)(bR:(x==("__debug__":Str))=false:=by decide)
  (he:acv (e::es) X.env=(false,aeX e X.env)::acv es X.env:=by rfl) (hpl:(afv pos (acv es X.env)).any (·.1)=false:=by rfl):PE X (.Call (.Name x p) (e::es) [] pos) (C8 r t):=by
 intro pins s σ H Q I h;refine afO (ou I hg hm hv ?_ hn bR);exact adG (aW (ha pos pins s σ H _ I h) λus s1 ⟨vs,H1,I1,r1,q1⟩=>hc pins s1 σ H1 vs us Q I1 r1 q1) he hpl
end
end L2
namespace HT
open PySem PyProof.Rows
section
open PySem.SeqAt
open PySem.AutoSeq1 (wpAny_loadPart')
open PySem.MeetsSeq PySem.MeetsSeq2 PySem.MeetsSeq3
end
section
variable{prog:acL}{w:adl}{A:adq}{E:aY}{s:abT}
theorem RA{t b:abV}{vs ws:aS}{Q:aY}(ht:IsTup s.heap t vs.toArray)(hb:IsTup s.heap b ws.toArray)(hv:vs≠[])(h1:ws=[]->Q (.ref t) s)(h2:ws≠[]->Q (.ref s.heap.objs.size) { s with heap:=s.heap.push { cls:=.type "tuple",data:=.seq (vs++ws).toArray } })
  (hsz:↑vs+↑ws<=acd):acf (acr prog w) A (afj .Add (.ref t) (.ref b)) Q E s:=by
 obtain⟨⟨cls,dd,data,sl⟩,ho,hc,n,hd⟩:=id ht;obtain⟨⟨abp,y0,data2,nE⟩,y4,y6,n2,hd2⟩:=id hb;simp only at hc hd y6 hd2;subst hc hd y6 hd2;have e:vs.toArray++ws.toArray=(vs++ws).toArray:=by simp
 by_cases hw:ws=[]
 ·exact concat_meets ⟨_,ho,rfl⟩ ⟨_,y4,rfl⟩ noFill_tuple_add seq_tuple_add ahz ahg (agX _ _)
   (tuple_addW1 t b vs.toArray ws.toArray n n2 dd y0 sl nE (by simpa using hv) (by simp[hw])) ⟨ho,y4,h1 hw⟩
 ·refine concat_meets ⟨_,ho,rfl⟩ ⟨_,y4,rfl⟩ noFill_tuple_add seq_tuple_add ahz ahg (agX _ _)
   (tuple_addW2 t b vs.toArray ws.toArray n n2 dd y0 sl nE (by simpa using hv) (by simpa using hw) (by rw[aca,aca];exact hsz)) ⟨ho,y4,?_⟩
  rw[e];exact h2 hw
noncomputable def bD(n d:Nat):Option Int->Nat
 | none=>d
 | some v=>if v<0 then(v+(n:Int)).toNat else min v.toNat n
theorem UJ(n d:Nat)(hd:d<=n)(o:Option Int):bD n d o<=n:=by
 cases o with
 | none=>exact hd
 | some v=>
  show(if v<0 then(v+(n:Int)).toNat else min v.toNat n)<=n;by_cases hv:v<0
  ·rw[if_pos hv];omega
  ·rw[if_neg hv];exact ahv _ _
theorem Ha(v:Int)(n d:Nat):(if v<0 then max (v+(n:Int)) 0 else min v (n:Int))=((bD n d (O v):Nat):Int):=by
 show(if v<0 then max (v+(n:Int)) 0 else min v (n:Int))=(((if v<0 then(v+(n:Int)).toNat else min v.toNat n):Nat):Int);by_cases hv:v<0
 ·simp only[if_pos hv];omega
 ·simp only[if_neg hv];omega
theorem Ob(lo hi:Option Int)(n:Nat):afw lo hi 1 (n:Int)=(((bD n 0 lo:Nat):Int),((bD n n hi:Nat):Int)):=by
 have h1:¬((1:Int)<0):=by omega
 unfold afw;simp only[h1,if_false];refine Prod.ext ?_ ?_
 ·cases lo with
  | none=>rfl
  | some v=>exact Ha v n 0
 ·cases hi with
  | none=>rfl
  | some v=>exact Ha v n n
theorem Oc(i j:Nat):aez (i:Int) (j:Int) 1=j-i:=by
 unfold aez;have h1:(1:Int)>0:=by omega
 simp only[h1,if_true,Int.ediv_one];split <;> omega
theorem Fh{v:acb}{o:Option Int}{Q:Option Int->abT->Prop}(p:aiX v o)(h:Q o s):acf (acr prog w) A (Builtin.Slice.slicePartIndex v) Q E s:=by
 cases p with
 | none=>exact slicePart_none h
 | int i t=>exact slicePart_int h
theorem Nn{sl:abV}{vl vu:acb}{lo hi:Option Int}{n:Nat}{Q:Int×Int×Nat->abT->Prop}(hs:s.heap.IsSliceOf sl vl vu .none)(pl:aiX vl lo)(pu:aiX vu hi)(h:Q (((bD n 0 lo:Nat):Int),1,bD n n hi-bD n 0 lo) s):acf (acr prog w) A (agE (.ref sl) (pure (n:Int))) Q E s:=by
 obtain⟨os,u5,LG,y8⟩:=id hs;unfold agE Builtin.Slice.sliceFields;refine abF (abF (acD u5 y8 (x:=vl) rfl (abF (acD u5 y8 (x:=vu) rfl (abF (acD u5 y8 (x:=.none) rfl (abM ?_)))))));refine abF (slicePart_none ?_);show acf _ _ (if((1:Int)==0)=true then _ else _) _ _ s;rw[if_neg (by decide)];refine abF (Fh pl (abF (Fh pu (abF (abM ?_)))));show acf _ _ (match afw lo hi 1 (n:Int) with | (lo,hi)=>pure (lo,(1:Int),aez lo hi 1)) _ _ s;rw[Ob lo hi n];show acf _ _ (pure (((bD n 0 lo:Nat):Int),(1:Int),aez ((bD n 0 lo:Nat):Int) ((bD n n hi:Nat):Int) 1)) _ _ s;rw[Oc];exact abM h
theorem P8(xs:dC)(i k:Nat):((adm k).filterMap λ(m:Nat)=>xs[((i:Int)+(m:Int)*1).toNat]?).toArray=((xs.toList.drop i).take k).toArray:=by
 have e:(λ(m:Nat)=>xs[((i:Int)+(m:Int)*1).toNat]?)=λm=>xs[i+m]? :=by
  funext m
  have:((i:Int)+(m:Int)*1).toNat=i+m:=by omega
  rw[this]
 rw[e];have:=pick_run xs i k;rw[List.filterMap_map] at this;have e2:((λx=>xs[x]?)∘λx=>i+x)=λm=>xs[i+m]? :=rfl
 rw[e2] at this;rw[this]
theorem Nk{t sl:abV}{items:dC}{vl vu:acb}{lo hi:Option Int}{Q:aY}(ht:IsTup s.heap t items)(hs:s.heap.IsSliceOf sl vl vu .none)(pl:aiX vl lo)(pu:aiX vu hi)(hw:¬(bD items.size 0 lo=0/\bD items.size items.size hi=items.size))(h:Q (.ref s.heap.objs.size) { s with heap:=s.heap.push { cls:=.type "tuple",data:=.seq ((items.toList.drop (bD items.size 0 lo)).take (bD items.size items.size hi-bD items.size 0 lo)).toArray } })
  (hsz:items.size<=acd):acf (acr prog w) A (aia (.ref t) (.ref sl)) Q E s:=by
 have xU:sizeOk (.seq ((items.toList.drop (bD items.size 0 lo)).take (bD items.size items.size hi-bD items.size 0 lo)).toArray):=by
  show((items.toList.drop (bD items.size 0 lo)).take (bD items.size items.size hi-bD items.size 0 lo)).toArray.size<=acd;rw[aca,acw,adC,afA];omega
 have hj:bD items.size items.size hi<=items.size:=UJ _ _ (abO _) hi;obtain⟨os,u5,LG,y8⟩:=id hs;have hTs:s.TypeIs (.ref sl) "slice":=⟨os,u5,LG⟩
 unfold aia
 try with_reducible refine acJ ?_
 first | refine abF (abM ?_) | skip
 refine abF (wpAny_sequenceKey ht.typeIs (by decide) ?_);refine abF (ada (name:=abH "__getitem__") ht.typeIs aeG
  (adv aeG ht.typeIs entry_tuple_getitem ?_ (args_tuple_getitem _ _)))
 show acf _ _ (Builtin.Tuple.tupleItemsOf (.ref t) >>= _) _ _ s;refine abF (tupleItemsOf_ ht ?_);refine abF (wpAny_typeOf hTs ?_);rw[if_pos (by decide)];refine abF (Nn hs pl pu ?_);have C9:¬((((bD items.size 0 lo:Nat):Int)==0&&(1:Int)==1&&(bD items.size items.size hi-bD items.size 0 lo)==items.size)=true):=by
  intro q;rw[abK,abK] at q;have q1:((bD items.size 0 lo:Nat):Int)=0:=eq_of_beq q.1.1;have q2:bD items.size items.size hi-bD items.size 0 lo=items.size:=eq_of_beq q.2;exact hw ⟨∅,∅⟩
 show acf _ _ (if(((bD items.size 0 lo:Nat):Int)==0&&(1:Int)==1&&(bD items.size items.size hi-bD items.size 0 lo)==items.size)=true then _ else _) _ _ s;rw[if_neg C9,P8]
 first
  | exact abF (m:=aeH _) (adx (abM ⟨_,rfl,abM h⟩) xU)
  | exact abF (m:=aeH _) (adx (abF (abM (abM ⟨_,rfl,abM h⟩))) xU)
  | exact abF (abF (m:=aeH _) (adx (abM (abM ⟨_,rfl,abM h⟩)) xU))
  | exact abF (abF (m:=aeH _) (adx (abM ⟨_,rfl,abM h⟩) xU))
end
end HT
namespace L2
open PySem PySem.Spec PyProof.Rows
abbrev TO:=St->Hp->(Option Int->Hp->Prop)->Prop
noncomputable def PO(X:Cx)(e:Option adA)(t:TO):Prop:=
 ∀(pins:List (abV×Obj)) (s:abT) (σ:St) (H:Hp) (Q:Option Int->Hp->Prop),Inv X pins σ H s->t σ H Q →
  acf (acr X.prog X.w) X.A (evalPart e X.env) (λu s'=>∃o H',Inv X pins σ H' s'/\aiX u o/\Q o H') X.xe s
noncomputable def RB:TO:=λ_ H Q=>Q Z H
noncomputable def XG(t:TE):TO:=λσ H Q=>t σ H λx H1=>∃i,x=.int i/\Q (O i) H1
section
variable{X:Cx}{e:adA}{te:TE}{lo hi:Option adA}{tl th:TO}{pos p2:Pos}
theorem RC:PO X Z RB:=by
 intro pins s σ H Q I h;rw[evalPart_none];exact abM ⟨Z,H,I,.none,h⟩
theorem RD(h:PE X e te):PO X (O e) (XG te):=by
 intro pins s σ H Q I hw;rw[evalPart_some];refine aW (h pins s σ H _ I hw) λu s1 ⟨x,H1,I1,r1,q1⟩=>?_
 obtain⟨i,rfl,q⟩:=q1;obtain⟨t,rfl⟩:=r1;exact⟨O i,H1,I1,.int i t,q⟩
noncomputable def lS(X:Cx)(r:V->Option Int->Option Int->Hp->VK->Prop):Prop:=
 ∀(pins:List (abV×Obj)) (s:abT) (σ:St) (H:Hp) (x:V) (v vl vu:acb) (lo hi:Option Int) (sl:abV) (Q:VK),Inv X pins σ H s->RelV x v->s.heap.IsSliceOf sl vl vu .none->aiX vl lo->aiX vu hi->r x lo hi H Q →
  ∃T id,agY (.type T) "__getitem__"=pure (O (.builtin id))/\s.TypeIs v T/\acf (acr X.prog X.w) X.A (aia v (.ref sl)) (EP X pins σ Q) X.xe s
theorem lS.or{r r':V->Option Int->Option Int->Hp->VK->Prop}(h:lS X r)(h':lS X r'):lS X (λx lo hi H Q=>r x lo hi H Q\/r' x lo hi H Q):=by
 intro pins s σ H x v vl vu lo hi sl Q I rx hs pl pu q
 rcases q with q | q
 ·exact h pins s σ H x v vl vu lo hi sl Q I rx hs pl pu q
 ·exact h' pins s σ H x v vl vu lo hi sl Q I rx hs pl pu q
noncomputable def tSl(r:V->Option Int->Option Int->Hp->VK->Prop)(te:TE)(tl th:TO):TE:=λσ H Q=>te σ H λx H1=>tl σ H1 λl H2=>th σ H2 λu H3=>r x l u H3 Q
theorem Gk{r:V->Option Int->Option Int->Hp->VK->Prop}(hr:lS X r)(he:PE X e te)(hl:PO X lo tl)(hu:PO X hi th):PE X (.Subscript e (.Slice lo hi Z p2) pos) (tSl r te tl th):=by
 intro pins s σ H Q I h;refine Subscript_ (aW (he pins s σ H _ I h) λv s1 ⟨x,H1,I1,r1,q1⟩=>?_);refine wpAny_Slice (aW (hl pins s1 σ H1 _ I1 q1) λvl s2 ⟨l,H2,I2,pl,q2⟩=>aW (hu pins s2 σ H2 _ I2 q2) λvu s3 ⟨u,H3,I3,pu,q3⟩=>?_);rw[evalPart_none];refine abM ?_;have I4:Inv X pins σ H3 { s3 with heap:=s3.heap.push { cls:=.type "slice",data:=.fields #[vl,vu,.none] } }:=I3.kept (t':=s3.toks) λb ob q=>abJ _ q
 obtain⟨T,id,hT,ht,hg⟩:=hr pins { s3 with heap:=s3.heap.push { cls:=.type "slice",data:=.fields #[vl,vu,.none] } } σ H3 x v vl vu l u s3.heap.objs.size Q I4 r1 (Heap.IsSliceOf.new ..) pl pu q3;show acf (acr X.prog X.w) X.A (ahh e (.Slice lo hi Z p2) v (.ref s3.heap.objs.size)) (EP X pins σ Q) X.xe { s3 with heap:=s3.heap.push { cls:=.type "slice",data:=.fields #[vl,vu,.none] } };exact tail_any (ops:=[.ref s3.heap.objs.size,v]) ht hT hg (by with_unfolding_all rfl)
noncomputable def mX(xs:aJ)(lo hi:Option Int):aJ:=(xs.drop (HT.bD ↑xs 0 lo)).take (HT.bD ↑xs ↑xs hi-HT.bD ↑xs 0 lo)
theorem E4(xs:aJ)(lo hi:Option Int):(mX xs lo hi).length<=↑xs:=by
 unfold mX;rw[acw,adC];omega
noncomputable def Cq(K:abG):V->Option Int->Option Int->Hp->VK->Prop:=λx lo hi H Q=>∃a xs,x=.ref a/\bX K H a xs /\
 ¬(HT.bD ↑xs 0 lo=0/\HT.bD ↑xs ↑xs hi=↑xs)/\∀p,H p=Z->Q (.ref p) (upd H p (.tup (mX xs lo hi)))
theorem tN:lS X (Cq X.K):=by
 intro pins s σ H x v vl vu lo hi sl Q I rx hs pl pu h;obtain⟨a,xs,rfl,hx,hw,q⟩:=h;cases rx;obtain⟨its,r,ht,hz⟩:=I.tuple hx;have bj:its.toArray.size=↑xs:=by rw[aca];exact r.length.symm
 refine⟨"tuple",_,aeG.lookup,ht.typeIs,?_⟩;refine HT.Nk ht hs pl pu (by rw[bj];exact hw) ?_ (by rw[bj];exact hz);rw[bj];refine⟨.ref s.heap.objs.size,_,I.laid (t':=s.toks) (o:=.tup (mX xs lo hi)) (λb ob q=>abJ _ q) (abO _) ?_,rfl,q _ (I.aA.fresh (abO _))⟩;exact⟨abX (E4 xs lo hi) hz,_,(r.drop (HT.bD ↑xs 0 lo)).take (HT.bD ↑xs ↑xs hi-HT.bD ↑xs 0 lo),IsTup.new _ _⟩
noncomputable def JU(K:abG):R2:=λx y H Q=>∃a b xs ys,x=.ref a/\y=.ref b/\bX K H a xs/\bX K H b ys/\xs≠[]/\↑xs+↑ys<=acd /\
 (ys=[]->Q (.ref a) H)/\(ys≠[]->∀p,H p=Z->Q (.ref p) (upd H p (.tup (xs++ys))))
theorem Vals.A2{xs:aJ}{us:aS}(r:Vals xs us):us=[]↔xs=[]:=by
 cases r with
 | nil=>simp
 | cons _ _=>simp
theorem RE:bH X (afj .Add) (JU X.K):=by
 intro pins s σ H x y v u Q I rx ry h;obtain⟨a,b,xs,ys,rfl,rfl,ha,hb,hx,hz,q1,q2⟩:=h;cases rx;cases ry;obtain⟨its,r1,p1,_⟩:=I.tuple ha;obtain⟨mY,r2,p2,_⟩:=I.tuple hb;refine HT.RA p1 p2 (λz=>hx (r1.A2.mp z)) (λz=>⟨.ref a,H,I,rfl,q1 (r2.A2.mp z)⟩) (λz=>?_) (by rw[<- ↑r1,<- ↑r2];exact hz);refine⟨.ref s.heap.objs.size,_,I.laid (t':=s.toks) (o:=.tup (xs++ys)) (λb ob q=>abJ _ q) (abO _) ?_,rfl,q2 (λw=>z (r2.A2.mpr w)) _ (I.aA.fresh (abO _))⟩;exact⟨by rw[acg];exact hz,_,r1.append r2,IsTup.new _ _⟩
end
noncomputable def hG(n:Nat)(i:Int):Option Nat:=if 0<=i then(if i<n then O i.toNat else Z) else if -(n:Int)<=i then O (i+n).toNat else Z
noncomputable def cJ{α:Type}(xs:List α)(i:Int):Option α:=(hG ↑xs i).bind λj=>xs[j]?
theorem Hb{n:Nat}{i:Int}{j:Nat}(h:hG n i=O j):seqIndex? i n=O j/\j<n/\ -(n:Int)<=i/\i<n:=by
 unfold hG at h;by_cases h0:0<=i
 ·rw[if_pos h0] at h;by_cases h1:i<n
  ·rw[if_pos h1] at h;have e:i.toNat=j:=acM h;exact⟨by rw[seqIndex_of h0 h1,e],∅,∅,h1⟩
  ·rw[if_neg h1] at h;cases h
 ·rw[if_neg h0] at h;by_cases h1: -(n:Int)<=i
  ·rw[if_pos h1] at h;have e:(i+n).toNat=j:=acM h;exact⟨by rw[seqIndex_neg ∅ h1,e],∅,h1,∅⟩
  ·rw[if_neg h1] at h;cases h
theorem A3{α:Type}{xs:List α}{i:Int}{v:α}(h:cJ xs i=O v):∃j,seqIndex? i ↑xs=O j/\xs[j]? =O v/\j<↑xs/\ -(↑xs:Int)<=i/\i<↑xs:=by
 unfold cJ at h;cases e:hG ↑xs i with
 | none=>rw[e] at h;cases h
 | some j=>
  rw[e] at h;obtain⟨h1,h2,h3,h4⟩:=Hb e;exact⟨j,h1,h,h2,h3,h4⟩
noncomputable def qf(b:adA):Prop:=∀o i,aib b false o i=operate [o,i] (aia o i)
noncomputable def j0(X:Cx)(r:R2):Prop:=
 ∀(value slice:adA) (pins:List (abV×Obj)) (s:abT) (σ:St) (H:Hp) (x y:V) (v u:acb) (Q:VK),Inv X pins σ H s->RelV x v->RelV y u->r x y H Q →
  aib slice false v u=operate [v,u] (aia v u)->acf (acr X.prog X.w) X.A (ahh value slice v u) (EP X pins σ Q) X.xe s
noncomputable def nF(X:Cx)(id:String)(r:V->List V->Hp->VK->Prop):Prop:=
 ∀(pins:List (abV×Obj)) (s:abT) (σ:St) (H:Hp) (x:V) (xs:aJ) (v:acb) (us:aS) (Q:VK),Inv X pins σ H s->RelV x v->Vals xs us->r x xs H Q →
  acf (acr X.prog X.w) X.A (call (.builtin id) (v::us)) (EP X pins σ Q) X.xe s
section
variable{X:Cx}{a b:adA}{ta tb:TE}{pos:Pos}
theorem j0.or{r r':R2}(h:j0 X r)(h':j0 X r'):j0 X (λx y H Q=>r x y H Q\/r' x y H Q):=by
 intro value slice pins s σ H x y v u Q I rx ry q hs
 rcases q with q | q
 ·exact h value slice pins s σ H x y v u Q I rx ry q hs
 ·exact h' value slice pins s σ H x y v u Q I rx ry q hs
theorem JV{r:R2}(hr:j0 X r)(ha:PE X a ta)(hb:PE X b tb)(hs:qf b):PE X (.Subscript a b pos) (pB r ta tb):=by
 intro pins s σ H Q I h;exact Subscript_ (yp ha hb I h λv u s2 x y H2 I2 rx ry q=>hr a b pins s2 σ H2 x y v u Q I2 rx ry q (hs _ _))
noncomputable def KP(K:abG):R2:=λx y H Q=>∃p xs i v,x=.ref p/\y=.int i/\bK K H p xs/\cJ xs i=O v/\Q v H
noncomputable def KQ(K:abG):R2:=λx y H Q=>∃p xs i v,x=.ref p/\y=.int i/\bX K H p xs/\cJ xs i=O v/\Q v H
noncomputable def KR:R2:=λx y H Q=>∃z i c,x=.str z/\y=.int i/\↑z<=acd/\cJ z.cps.toList i=O c/\Q (.str ⟨#[c]⟩) H
theorem RF:j0 X (KP X.K):=by
 intro value slice pins s σ H x y v u Q I rx ry h hs;obtain⟨p,xs,i,z,rfl,rfl,hq,he,q⟩:=h;cases rx;obtain⟨t,rfl⟩:=ry;obtain⟨its,r,pl,hz⟩:=I.list hq;obtain⟨j,h1,h2,h3,h4,h5⟩:=A3 he;obtain⟨w,ew,hO⟩:=r.get h2;have hl:=↑r;have hn:=oz;have fin:EP X pins σ Q w s:=⟨z,H,I,hO,q⟩
 by_cases h0:0<=i
 ·have hj:i.toNat=j:=by
   rw[seqIndex_of h0 h5] at h1;exact acM h1
  exact item_listR pl.isList h0 ∅ (by rw[hj];simpa using ew) fin hs
 ·have hj:(i+(its.toArray.size:Int)).toNat=j:=by
   rw[seqIndex_neg ∅ h4] at h1;rw[aca,<- hl];exact acM h1
  exact subscriptTail_builtinR (x:=w) pl.isList.typeIs slot_list_getitem.lookup
   (wpAny_getItem_list_neg (Q:=λr s'=>r=w/\EP X pins σ Q r s') pl.isList ∅ (by rw[aca] <;> omega) ∅ (by rw[hj];simpa using ew) ⟨rfl,fin⟩) hs
theorem UK:j0 X (KQ X.K):=by
 intro value slice pins s σ H x y v u Q I rx ry h hs;obtain⟨p,xs,i,z,rfl,rfl,hq,he,q⟩:=h;cases rx;obtain⟨t,rfl⟩:=ry;obtain⟨its,r,pl,hz⟩:=I.tuple hq;obtain⟨j,h1,h2,h3,h4,h5⟩:=A3 he;obtain⟨w,ew,hO⟩:=r.get h2;have hl:=↑r;have hn:=oz;have fin:EP X pins σ Q w s:=⟨z,H,I,hO,q⟩
 exact subscriptTail_builtinR (x:=w) pl.typeIs slot_tuple_getitem.lookup
  (getItem_tuple (j:=j) (Q:=λr s'=>r=w/\EP X pins σ Q r s') pl ∅ ∅ (by rw[aca,<- hl];exact h1) (by simpa using ew) ⟨rfl,fin⟩) hs
theorem UL:j0 X KR:=by
 intro value slice pins s σ H x y v u Q I rx ry h hs;obtain⟨z,i,c,rfl,rfl,hz,he,q⟩:=h;obtain⟨t,rfl⟩:=rx;obtain⟨t',rfl⟩:=ry;obtain⟨j,h1,h2,h3,h4,h5⟩:=A3 he;have hl:z.cps.toList.length=↑z:=by simp[Str.length]
 rw[hl] at h1 h4 h5;have hn:=oz;exact tail_any (afm s z t) slot_str_getitem.lookup (getItem_str (c:=c) (by
  have e1:decide (i< -(2 ^ 63:Int))=false:=aX ∅;have e2:decide (i >= 2 ^ 63)=false:=aX ∅;rw[e1,e2,ahi]) (by rw[h1];simpa using h2) ⟨.str ⟨#[c]⟩,H,I.tok _,⟨_,rfl⟩,q⟩) hs
noncomputable def Dc(K:abG):R2:=λx y H Q=>KP K x y H Q\/KQ K x y H Q\/KR x y H Q
theorem Iv:j0 X (Dc X.K):=RF.or (UK.or UL)
theorem Od(its:aS)(n j:Nat)(u:acb):ahP (·.setIfInBounds j u) { cls:=.type "list",data:=.seq its.toArray n }={ cls:=.type "list",data:=.seq (its.set j u).toArray n }:=by
 simp[ahP]
variable{σ:St}{H:Hp}
theorem Inv.lst{pins:List (abV×Obj)}{s:abT}{p:abV}{xs:aJ}(I:Inv X pins σ H s)(h:H p=O (.lst xs)):∃(its:aS) (n:Nat),Vals xs its/\s.heap.get? p=O { cls:=.type "list",data:=.seq its.toArray n }/\↑xs<=sizeLine:=by
 obtain⟨z,its,n,r,e⟩:=I.aA p _ h;exact⟨its,n,r,e,z⟩
theorem Inv.UM{pins:List (abV×Obj)}{s:abT}{p:abV}{xs ys:aJ}{its its':aS}{n n':Nat}{f:Obj->Obj}(I:Inv X pins σ H s)(h:H p=O (.lst xs))(ho:s.heap.get? p=O { cls:=.type "list",data:=.seq its.toArray n })(hf:f { cls:=.type "list",data:=.seq its.toArray n }={ cls:=.type "list",data:=.seq its'.toArray n' })(r:Vals ys its')(hz:↑ys<=acd)(t:Nat) :
  Inv X pins σ (upd H p (.lst ys)) { s with heap:=s.heap.update p f,toks:=t }:=by
 have e:(s.heap.update p f).get? p=O { cls:=.type "list",data:=.seq its'.toArray n' }:=by
  rw[acN f ho (by rw[hf] <;> rfl),hf]
 refine I.write (x:=p) (e:=p) (by rw[h];trivial) (.inl rfl) (λb u hb q=>(acl _ _ (adD hb)).trans q) ⟨_,e⟩ ?_;exact⟨hz,its',n',r,e⟩
noncomputable def XH:V->V->V->Hp->(Hp->Prop)->Prop:=λo i v H Q=>∃p xs k j,o=.ref p/\i=.int k/\H p=O (.lst xs)/\hG ↑xs k=O j/\Q (upd H p (.lst (xs.set j v)))
theorem set_list:mW X XH:=by
 intro pins s σ H o i v ov iv u Q I ro ri rv h;obtain⟨p,xs,k,j,rfl,rfl,hp,hj,q⟩:=h;cases ro;obtain⟨t,rfl⟩:=ri;obtain⟨its,n,r,ho,hz⟩:=I.lst hp;obtain⟨h1,h2,h3,h4⟩:=Hb hj;have hl:=↑r;have hn:=oz;have I':Inv X pins σ (upd H p (.lst (xs.set j v))) { s with heap:=s.heap.update p (ahP (·.setIfInBounds j u)) }:=
  I.UM hp ho (Od its n j u) (r.set rv j) (by rw[adU];exact hz) s.toks
 by_cases h0:0<=k
 ·have hk:k.toNat=j:=by
   rw[seqIndex_of h0 h4] at h1;exact acM h1
  exact PySem.W.ki_setAt ho h0 ∅ (by rw[aca,<- hl];exact h4) (by rw[hk];exact⟨_,I',q⟩)
 ·have hk:(k+(its.toArray.size:Int)).toNat=j:=by
   rw[seqIndex_neg ∅ h3] at h1;rw[aca,<- hl];exact acM h1
  exact PySem.W.ki_setBack ho ∅ (by rw[aca,<- hl];exact h3) ∅ (by rw[hk];exact⟨_,I',q⟩)
theorem NF(lo hi:Option Int)(n:Nat):(afY lo hi Z n).1=((HT.bD n 0 lo:Nat):Int)/\(afY lo hi Z n).2.1=((HT.bD n n hi:Nat):Int)/\(afY lo hi Z n).2.2=1:=by
 refine⟨?_,?_,rfl⟩
 ·cases lo with
  | none=>simp[afY,HT.bD]
  | some i=>
   simp only[afY,HT.bD,Option.getD_none,show(1:Int)>0 by decide,if_true];by_cases h:i<0
   ·simp only[h,if_true] <;> omega
   ·simp only[h,if_false] <;> omega
 ·cases hi with
  | none=>simp[afY,HT.bD]
  | some i=>
   simp only[afY,HT.bD,Option.getD_none,show(1:Int)>0 by decide,if_true];by_cases h:i<0
   ·simp only[h,if_true] <;> omega
   ·simp only[h,if_false] <;> omega
theorem Nz(its:aS)(lo hi:Option Int):slicePick its.toArray lo hi Z=((its.drop (HT.bD ↑its 0 lo)).take (HT.bD ↑its ↑its hi-HT.bD ↑its 0 lo)).toArray:=by
 obtain⟨h1,h2,h3⟩:=NF lo hi its.toArray.size;unfold slicePick;rw[h1,h2,h3];simp only[sliceRange_one,pick_run,aca] <;> rfl
noncomputable def Zt(K:abG):V->Option Int->Option Int->Hp->VK->Prop:=λx lo hi H Q=>∃a xs,x=.ref a/\bK K H a xs/\∀p,H p=Z->Q (.ref p) (upd H p (.lst (mX xs lo hi)))
theorem RG:lS X (Zt X.K):=by
 intro pins s σ H x v vl vu lo hi sl Q I rx hs pl pu h;obtain⟨a,xs,rfl,hx,q⟩:=h;cases rx;obtain⟨its,r,ht,hz⟩:=I.list hx;have bj:=↑r;refine⟨"list",_,slot_list_getitem.lookup,ht.isList.typeIs,?_⟩;refine wpAny_getItem_list_slice ht.isList hs pl pu .none (by simp) ?_ (by rw[aca] <;> omega);rw[Nz,<- bj];refine⟨.ref s.heap.objs.size,_,I.laid (t':=s.toks) (o:=.lst (mX xs lo hi)) (λb ob q=>abJ _ q) (abO _) ?_,rfl,q _ (I.aA.fresh (abO _))⟩;exact⟨abX (E4 xs lo hi) hz,_,0,(r.drop (HT.bD ↑xs 0 lo)).take (HT.bD ↑xs ↑xs hi-HT.bD ↑xs 0 lo),acp _ rfl⟩
noncomputable def lg:V->Bool
 | .ay=>true
 | .bl _=>true
 | .int _=>true
 | .str _=>true
 | _=>false
noncomputable def nG:V->V->Bool
 | .ay,.ay=>true
 | .bl a,.bl b=>a==b
 | .bl a,.int b=>(if a then 1 else 0)==b
 | .int a,.bl b=>a==(if b then 1 else 0)
 | .int a,.int b=>a==b
 | .str a,.str b=>a==b
 | _,_=>false
variable{x:V}
theorem UN{A:adq}{s:abT}{y:V}{u v:acb}(ry:RelV y u)(rx:RelV x v)(fy:lg y=true)(fx:lg x=true):aiy A s u v (nG y x):=by
 cases y with
 | ay=>
  cases ry;cases x with
  | ay=>cases rx;exact SeqAt.EqAt.same _
  | bl b=>cases rx;exact SeqAt.EqAt.none_bool b
  | int b=>obtain⟨t,rfl⟩:=rx;exact SeqAt.EqAt.none_int b t
  | str b=>obtain⟨t,rfl⟩:=rx;exact SeqAt.EqAt.none_str b t
  | _=>exact absurd (show false=true from fx) acj
 | bl a=>
  cases ry;cases x with
  | ay=>cases rx;exact SeqAt.EqAt.bool_none a
  | bl b=>cases rx;exact SeqAt.EqAt.bool_bool a b
  | int b=>obtain⟨t,rfl⟩:=rx;exact SeqAt.EqAt.bool_int a b t
  | str b=>obtain⟨t,rfl⟩:=rx;exact SeqAt.EqAt.bool_str a b t
  | _=>exact absurd (show false=true from fx) acj
 | int a=>
  obtain⟨t',rfl⟩:=ry;cases x with
  | ay=>cases rx;exact SeqAt.EqAt.int_none a t'
  | bl b=>cases rx;exact SeqAt.EqAt.int_bool a t' b
  | int b=>obtain⟨t,rfl⟩:=rx;exact SeqAt.EqAt.int_int a t' b t
  | str b=>obtain⟨t,rfl⟩:=rx;exact ail a t' b t
  | _=>exact absurd (show false=true from fx) acj
 | str a=>
  obtain⟨t',rfl⟩:=ry;cases x with
  | ay=>cases rx;exact SeqAt.EqAt.str_none a t'
  | bl b=>cases rx;exact SeqAt.EqAt.str_bool a t' b
  | int b=>obtain⟨t,rfl⟩:=rx;exact aim a t' b t
  | str b=>obtain⟨t,rfl⟩:=rx;exact SeqAt.EqAt.str_str a t' b t
  | _=>exact absurd (show false=true from fx) acj
 | _=>exact absurd (show false=true from fy) acj
noncomputable def lT(x:V)(u:acb):Bool:=match u with
 | .none=>nG .ay x
 | .bool b=>nG (.bl b) x
 | .int i _=>nG (.int i) x
 | .str z _=>nG (.str z) x
 | _=>false
theorem Iw{y:V}{u:acb}(r:RelV y u)(f:lg y=true):lT x u=nG y x:=by
 cases y with
 | ay=>cases r;rfl
 | bl b=>cases r;rfl
 | int i=>obtain⟨t,rfl⟩:=r;rfl
 | str z=>obtain⟨t,rfl⟩:=r;rfl
 | _=>exact absurd (show false=true from f) acj
theorem A4{x:V}:∀{xs:aJ} {us:aS},Vals xs us->xs.all lg=true->us.any (lT x)=xs.any λy=>nG y x
 | _,_,.nil,_=>rfl
 | y::xs,u::us,.cons r t,f=>by
  rw[ady,abK] at f;rw[acO,acO,Iw r f.1,A4 t f.2]
theorem AH{A:adq}{s:abT}{x:V}{v:acb}(rx:RelV x v)(fx:lg x=true):∀{xs:aJ} {us:aS},Vals xs us->xs.all lg=true->∀u∈us,aiy A s u v (lT x u)
 | _,_,.nil,_=>λu hu=>by cases hu
 | y::xs,u::us,.cons r t,f=>λu' hu=>by
  rw[ady,abK] at f
  rcases abR.mp hu with rfl | hu
  ·rw[Iw r f.1];exact UN r rx f.1 fx
  ·exact AH rx fx t f.2 u' hu
noncomputable def fD(x:V)(xs:aJ):Bool:=xs.any λy=>nG y x
noncomputable def LH(K:abG)(neg:Bool):R2:=λx y H Q=>∃p xs,y=.ref p/\(bK K H p xs\/bX K H p xs)/\lg x=true/\xs.all lg=true/\Q (.bl (if neg then !fD x xs else fD x xs)) H
theorem OS:bH X (acU .In) (LH X.K false):=by
 intro pins s σ H x y v u Q I rx ry h;obtain⟨p,xs,rfl,hq,fx,fs,q⟩:=h;cases ry
 rcases hq with hq | hq
 ·obtain⟨its,r,pl,hz⟩:=I.list hq;refine SeqAt.in_listAt (lT x) pl.isList (λw hw=>AH rx fx r fs w (by simpa using hw)) ⟨.bl _,H,I,rfl,?_⟩;rw[show its.toArray.any (lT x)=its.any (lT x) by simp,A4 r fs];exact q
 ·obtain⟨its,r,pl,hz⟩:=I.tuple hq;refine SeqAt.in_tupleAt (lT x) pl (λw hw=>AH rx fx r fs w (by simpa using hw)) ⟨.bl _,H,I,rfl,?_⟩;rw[show its.toArray.any (lT x)=its.any (lT x) by simp,A4 r fs];exact q
theorem NG:cD X (.builtin "len") (λxs H Q=>∃p ys,xs=[.ref p]/\(bK X.K H p ys\/bX X.K H p ys)/\Q (.int ↑ys) H):=by
 intro pins s σ H xs us Q I r h;obtain⟨p,ys,rfl,hq,q⟩:=h;obtain⟨u,rfl,rx⟩:=vals1 r;cases rx;have hn:=oz
 rcases hq with hq | hq
 ·obtain⟨its,r',pl,hz⟩:=I.list hq;have bj:=↑r';exact Calls.call_len_list pl.isList (by simp only[aca] <;> omega) ⟨.int ↑ys,H,I.tok _,⟨s.toks+1,by rw[aca,bj]⟩,q⟩
 ·obtain⟨its,r',pl,hz⟩:=I.tuple hq;have bj:=↑r';exact len_tuple pl (by simp only[aca] <;> omega) ⟨.int ↑ys,H,I.tok _,⟨s.toks+1,by rw[aca,bj]⟩,q⟩
theorem NH:cD X (.builtin "len") (λxs H Q=>∃z,xs=[.str z]/\↑z<=acd/\Q (.int ↑z) H):=by
 intro pins s σ H xs us Q I r h;obtain⟨z,rfl,hz,q⟩:=h;obtain⟨u,rfl,t,rfl⟩:=vals1 r;have hn:=oz;exact len_str ∅ ⟨.int ↑z,H,I.tok _,⟨_,rfl⟩,q⟩
theorem cD.or{f:acb}{r r':aJ->Hp->VK->Prop}(h:cD X f r)(h':cD X f r'):cD X f (λxs H Q=>r xs H Q\/r' xs H Q):=by
 intro pins s σ H xs us Q I rs q
 rcases q with q | q
 ·exact h pins s σ H xs us Q I rs q
 ·exact h' pins s σ H xs us Q I rs q
theorem NJ:cD X (.type "list") (λxs H Q=>∃p ys,xs=[.ref p]/\(bK X.K H p ys\/bX X.K H p ys)/\∀l,H l=Z->Q (.ref l) (upd H l (.lst ys))):=by
 intro pins s σ H xs us Q I r h;obtain⟨p,ys,rfl,hq,q⟩:=h;obtain⟨u,rfl,rx⟩:=vals1 r;cases rx;have fin:∀(its:aS),Vals ys its->↑ys<=acd->∀(h':adt) (c':Nat),(∀b o',s.heap.get? b=O o'->h'.get? b=O o') →
   h'.get? s.heap.objs.size=O { cls:=.type "list",dict:=Z,data:=.seq its.toArray c',slots:= #[] }->EP X pins σ Q (.ref s.heap.objs.size) { s with heap:=h' }:=λits r' hz h' c' kp e=>
  ⟨.ref s.heap.objs.size,_,I.laid (t':=s.toks) kp (abO _) (show cZ X.prog X.w _ h' _ (.lst ys) from⟨hz,its,c',r',e⟩),rfl,q _ (I.aA.fresh (abO _))⟩
 rcases hq with hq | hq
 ·obtain⟨its,r',pl,hz⟩:=I.list hq;have bj:=↑r';obtain⟨o,ho,hc,n,hd⟩:=pl.isList;exact call_list_seq p (.inl rfl) ho hc hd (λh' c' kp e=>fin its r' hz h' c' kp e) (by simp only[aca] <;> omega)
 ·obtain⟨its,r',pl,hz⟩:=I.tuple hq;have bj:=↑r';obtain⟨o,ho,hc,n,hd⟩:=pl;exact call_list_seq p (.inr rfl) ho hc hd (λh' c' kp e=>fin its r' hz h' c' kp e) (by simp only[aca] <;> omega)
theorem NA:cD X (.type "tuple") (λxs H Q=>∃p ys,xs=[.ref p]/\((bK X.K H p ys/\∀l,H l=Z->Q (.ref l) (upd H l (.tup ys)))\/(bX X.K H p ys/\Q (.ref p) H))):=by
 intro pins s σ H xs us Q I r h;obtain⟨p,ys,rfl,h⟩:=h;obtain⟨u,rfl,rx⟩:=vals1 r;cases rx
 rcases h with⟨hq,q⟩ | ⟨hq,q⟩
 ·obtain⟨its,r',pl,hz⟩:=I.list hq;have bj:=↑r';refine call_tuple_list pl.isList (λh' kp=>?_) (by simp only[aca] <;> omega);have I1:Inv X pins σ H { s with heap:=h' }:=I.kept (t':=s.toks) kp;have I2:Inv X pins σ (upd H h'.objs.size (.tup ys)) { s with heap:=h'.push { cls:=.type "tuple",data:=.seq its.toArray } }:=
   I1.laid (t':=s.toks) (λb o e=>abJ _ e) (abO _) (show cZ X.prog X.w _ _ _ (.tup ys) from⟨hz,its,r',IsTup.new _ _⟩)
  exact⟨.ref h'.objs.size,_,I2,rfl,q _ (I1.aA.fresh (abO _))⟩
 ·obtain⟨its,r',pl,hz⟩:=I.tuple hq;exact call_tuple_same pl ⟨.ref p,H,I,rfl,q⟩
noncomputable def Dd(K:abG)(T:String)(x:V)(H:Hp):Prop:=match x with
 | .str _=>T="str"
 | .int _=>T="int"
 | .ref p=>(T="list"/\∃xs,bK K H p xs)\/(T="tuple"/\∃o,K.lookup p=O o/\o.cls=.type "tuple"/\o.dict=Z) \/
   (T="dict"/\((∃kvs,H p=O (.dK kvs))\/∃kvs,H p=O (.dT kvs)))\/(T="set"/\∃S n,H p=O (.set S n))\/(T="dict"/\∃kvs,H p=O (.dU kvs))
 | _=>False
theorem UO{pins:List (abV×Obj)}{s:abT}{T:String}{v:acb}(I:Inv X pins σ H s)(r:RelV x v)(ty:Dd X.K T x H):s.TypeIs v T/\∀a,v=.ref a->∃ob,s.heap.get? a=O ob/\ob.dict=none:=by
 cases x with
 | str z=>
  obtain⟨t,rfl⟩:=r;cases(show T="str" from ty);exact⟨afm s z t,λ_ e=>nomatch e⟩
 | int i=>
  obtain⟨t,rfl⟩:=r;cases(show T="int" from ty);exact⟨typeIs_int s i t,λ_ e=>nomatch e⟩
 | ref p=>
  cases r
  rcases ty with⟨rfl,xs,hq⟩ | ⟨rfl,o,hk,hc,hd⟩ | ⟨rfl,hk⟩ | ⟨rfl,S,n,hk⟩ | ⟨rfl,kvs,hk⟩
  ·obtain⟨its,_,pl,_⟩:=I.list hq;refine⟨pl.isList.typeIs,λa e=>?_⟩;cases e;obtain⟨o,n,e,c,hd,_⟩:=pl;exact⟨o,e,hd⟩
  ·refine⟨⟨o,I.cS p o hk,hc⟩,λa e=>?_⟩;cases e;exact⟨o,I.cS _ o hk,hd⟩
  ·have z:∃o,s.heap.get? p=O o/\o.ExactDict:=by
    rcases hk with⟨kvs,hk⟩ | ⟨kvs,hk⟩
    ·obtain⟨_,_,_,_,o,_,_,e,ex,_⟩:=I.aA p _ hk;exact⟨o,e,ex⟩
    ·obtain⟨_,_,_,_,o,_,_,e,ex,_⟩:=I.aA p _ hk;exact⟨o,e,ex⟩
   obtain⟨o,e,ex⟩:=z;refine⟨⟨o,e,ex.1⟩,λa e2=>?_⟩;cases e2;exact⟨o,e,ex.2.1⟩
  ·obtain⟨o,_,_,_,e,ex,_⟩:=I.aA p _ hk;refine⟨⟨o,e,ex.1⟩,λa e2=>?_⟩;cases e2;exact⟨o,e,ex.2.1⟩
  ·obtain⟨_,_,o,_,_,e,ex,_⟩:=I.aA p _ hk;refine⟨⟨o,e,ex.1⟩,λa e2=>?_⟩;cases e2;exact⟨o,e,ex.2.1⟩
 | _=>exact afl ty
noncomputable def LJ(K:abG)(T:String)(r:V->List V->Hp->VK->Prop)(to:TE)(t:TA):TE:=λσ H Q=>to σ H λx H1=>Dd K T x H1/\t σ H1 λxs H2=>r x xs H2 Q
variable{o e:adA}{es:bS}{to:TE}{t:TA}{name:Str}{apos cV:Pos}{T id:String}{r:V->List V->Hp->VK->Prop}
theorem XI(pa:aiz T)(slot:Slot T name id)(lU:typeOf (.builtin id)=pure (.type "method_descriptor"))(hm:nF X id r)(ho:PE X o to)(ha:PA X (e::es) t)(iI:aeM o name X.env (aeX o X.env)=aeX o X.env:=by rfl)
  (Cr:((afv cV (acv (e::es) X.env)).all (λx=> !x.1)&&(backToKw cV (ahj [] X.env)).all (λx=>x.1.isSome)
   && decide ((e::es).length+([]:List Keyword).length+(if([]:List Keyword).isEmpty then 0 else 1)<30))=true:=by rfl)
  (lh:(apos.endLine==cV.line)=true:=by rfl) (hs:acv (e::es) X.env=(false,aeX e X.env)::acv es X.env:=by rfl) (tP:(afv cV (acv es X.env)).any (·.1)=false:=by rfl) :
  PE X (.Call (.Attribute o name apos) (e::es) [] cV) (LJ X.K T r to t):=by
 intro pins s σ H Q I h;refine wpAny_Call_method_late iI Cr lh rfl (aW (ho pins s σ H _ I h) λv s1 ⟨x,H1,I1,r1,ty,q1⟩=>?_);obtain⟨h1,h2⟩:=UO I1 r1 ty;refine⟨T,id,pa,slot,lU,h1,h2,?_⟩;have hA:=ha cV pins s1 σ H1 _ I1 q1;rw[hs] at hA ⊢;refine Calls.callWith_builtin (by show(false||(afv cV (acv es X.env)).any (·.1))=false;rw[tP] <;> rfl) (agj ?_);exact aW hA λus s2 ⟨vs,H2,I2,r2,q2⟩=>hm pins s2 σ H2 x vs v us Q I2 r1 r2 q2
end
noncomputable def LK(X:Cx)(id:String)(r:V->List V->Hp->VK->Prop):Prop:=
 ∀(pins:List (abV×Obj)) (s:abT) (σ:St) (H:Hp) (x:V) (xs:aJ) (v:acb) (us:aS) (Q:VK),Inv X pins σ H s->RelV x v->Vals xs us->r x xs H Q →
  acf (acr X.prog X.w) X.A (call (.builtin id) (v::us)) (EP X pins σ Q) X.xe s
theorem Vals.one{x:V}{us:aS}(h:Vals [x] us):∃u,us=[u]/\RelV x u:=by
 cases h with
 | cons r t=>cases t;exact⟨_,rfl,r⟩
theorem Vals.two{x y:V}{us:aS}(h:Vals [x,y] us):∃u v,us=[u,v]/\RelV x u/\RelV y v:=by
 cases h with
 | cons r t=>
  obtain⟨v,e,q⟩:=Vals.one t;subst e;exact⟨_,_,rfl,r,q⟩
theorem Vals.rep{xs:aJ}{us:aS}(h:Vals xs us):∀k:Nat,Vals (abS k xs).flatten (abS k us).flatten
 | 0=>.nil
 | k+1=>by
  rw[adh,adh,aef,aef];exact Vals.append h (Vals.rep h k)
theorem foldl_rep(its:aS):∀(k:Nat) (acc:aS),
  List.foldl (λx1 x2=>x1++x2) acc.toArray (abS k its.toArray)=(acc++(abS k its).flatten).toArray
 | 0,acc=>by simp
 | k+1,acc=>by
  have e:acc.toArray++its.toArray=(acc++its).toArray:=by simp
  have e2:(acc++its)++(abS k its).flatten=acc++(abS (k+1) its).flatten:=by
   rw[adh,aef,adM]
  rw[<- e2,<- foldl_rep its k (acc++its),<- e,adh,aej]
section
variable{X:Cx}{pins:List (abV×Obj)}{σ:St}{H:Hp}{s:abT}{l b:abV}{xs ys zs:aJ}
theorem Inv.KS{its its':aS}{n:Nat}{f:dC->Array acb}{t':Nat}(I:Inv X pins σ H s)(hH:H l=O (.lst xs))(e:s.heap.get? l=O { cls:=.type "list",data:=.seq its.toArray n })(hf:f its.toArray=its'.toArray)(hv:Vals ys its')(hz:↑ys<=acd) :
  Inv X pins σ (upd H l (.lst ys)) { s with heap:=s.heap.update l (ahP f),toks:=t' }:=by
 have q:=PySem.IsL.update e f;rw[hf] at q;refine I.write (x:=l) (e:=l) (by rw[hH];exact trivial) (.inl rfl) (λb' u hb hu=>(acl s.heap (ahP f) (adD hb)).trans hu) ⟨_,q⟩ ?_;exact⟨hz,its',_,hv,q⟩
theorem Inv.Cs{its:aS}{t':Nat}(I:Inv X pins σ H s)(hv:Vals ys its)(hz:↑ys<=acd):Inv X pins σ (upd H s.heap.objs.size (.lst ys)) { s with heap:=s.heap.push { cls:=.type "list",data:=.seq its.toArray },toks:=t' }:=
 I.laid (λ_ _ q=>abJ _ q) (abO _) ⟨hz,its,0,hv,acp _ rfl⟩
theorem Inv.fresh(I:Inv X pins σ H s):H s.heap.objs.size=none:=I.aA.fresh (abO _)
theorem Inv.qP(I:Inv X pins σ H s)(hH:H l=O (.lst xs)):↑xs<=acd/\∃(its:aS) (n:Nat),Vals xs its/\↑xs=↑its/\s.heap.get? l=O { cls:=.type "list",data:=.seq its.toArray n }:=by
 obtain⟨z,its,n,r,e⟩:=I.aA l _ hH;exact⟨z,its,n,r,↑r,e⟩
theorem Gm{n:Nat}(h:n<=acd):aeI n=false:=by
 unfold aeI;exact aX ∅
end
section
variable{X:Cx}
noncomputable def Hc:V->List V->Hp->VK->Prop:=λx vs H Q=>∃l xs y,x=.ref l/\vs=[y]/\H l=O (.lst xs)/\↑xs<acd/\Q .ay (upd H l (.lst (xs++[y])))
theorem FE:LK X "list.append" Hc:=by
 intro pins s σ H x vs v us Q I rx rv h;obtain⟨l,xs,y,rfl,rfl,hH,hz,q⟩:=h;cases rx;obtain⟨u,rfl,ru⟩:=rv.one;obtain⟨z,its,n,r,hl,e⟩:=I.qP hH;refine agq F.slot_list_append ⟨_,e,rfl⟩ F.entry_list_append (F.args_list_append_2 _ _) (PySem.list_append l its.toArray n u (by rw[aca];omega)) ⟨e,?_⟩;refine⟨.ay,_,I.KS (its':=its++[u]) hH e (by simp) (r.append (.cons ru .nil)) ?_,rfl,q⟩;rw[acg,List.length_singleton];omega
noncomputable def RH:V->List V->Hp->VK->Prop:=λx vs H Q=>∃l b xs zs,x=.ref l/\vs=[.ref b]/\H l=O (.lst xs)/\H b=O (.lst zs)/\↑xs+↑zs<=acd/\Q .ay (upd H l (.lst (xs++zs)))
theorem aaD:LK X "list.extend" RH:=by
 intro pins s σ H x vs v us Q I rx rv h;obtain⟨l,b,xs,zs,rfl,rfl,hH,hB,hz,q⟩:=h;cases rx;obtain⟨u,rfl,ru⟩:=rv.one;cases ru;obtain⟨z,its,n,r,hl,e⟩:=I.qP hH;obtain⟨z2,mY,n2,r2,c8,e2⟩:=I.qP hB;have hsz:its.toArray.size+mY.toArray.size<=sizeLine:=by rw[aca,aca];omega
 have BS:¬(!its.toArray.isEmpty&&aeI (its.toArray.size+mY.toArray.size))=true:=by
  rw[Gm hsz,ahU];exact acj
 refine agq F.slot_list_extend ⟨_,e,rfl⟩ F.entry_list_extend (F.args_list_extend_2 _ _)
  (AutoSeq1.list_extend_list_list_0 l its.toArray n b mY.toArray n2 BS (by rw[aca];omega) ∅) ⟨e,e2,?_⟩
 refine⟨.ay,_,I.KS (its':=its++mY) hH e (by simp) (r.append r2) ?_,rfl,q⟩;rw[acg];omega
noncomputable def KU:R2:=λx y H Q=>∃l b xs zs,x=.ref l/\y=.ref b/\H l=O (.lst xs)/\H b=O (.lst zs)/\↑xs+↑zs<=acd/\∀p,H p=Z->Q (.ref p) (upd H p (.lst (xs++zs)))
theorem UP:bH X (afj .Add) KU:=by
 intro pins s σ H x y v u Q I rx ry h;obtain⟨l,b,xs,zs,rfl,rfl,hH,hB,hz,q⟩:=h;cases rx;cases ry;obtain⟨z,its,n,r,hl,e⟩:=I.qP hH;obtain⟨z2,mY,n2,r2,c8,e2⟩:=I.qP hB;refine PySem.P.add_list e e2 ?_ (by rw[aca,aca];omega);have ea:its.toArray++mY.toArray=(its++mY).toArray:=by simp
 rw[ea];exact⟨.ref _,_,I.Cs (t':=s.toks) (r.append r2) (by rw[acg];omega),rfl,q _ I.fresh⟩
noncomputable def KW:R2:=λx y H Q=>∃l k xs,x=.ref l/\y=.int k/\H l=O (.lst xs)/\ -(2 ^ 63)<=k/\k<2 ^ 63/\↑xs*k.toNat<=acd /\
 ∀p,H p=Z->Q (.ref p) (upd H p (.lst (abS k.toNat xs).flatten))
theorem len_rep{α:Type}(xs:List α)(k:Nat):(abS k xs).flatten.length=k*↑xs:=by
 induction k with
 | zero=>simp
 | succ k ih=>rw[adh,aef,acg,ih,Nat.succ_mul,aiM]
theorem UQ:bH X (afj .Mult) KW:=by
 intro pins s σ H x y v u Q I rx ry h;obtain⟨l,k,xs,rfl,rfl,hH,h1,h2,hz,q⟩:=h;cases rx;obtain⟨t,rfl⟩:=ry;obtain⟨z,its,n,r,hl,e⟩:=I.qP hH;have bj:its.toArray.size*k.toNat<=sizeLine:=by rw[aca,<- hl];exact hz
 have Zu:¬its.toArray.size*k.toNat>(2 ^ 63-1) / 8:=by
  have:(acd:Nat)<=(2 ^ 63-1) / 8:=by decide
  omega
 have Ct:¬(!Builtin.List.listFitsIndex k)=true:=by
  rw[fitsIndex_both h1 h2];exact acj
 have BS:¬aeI (its.toArray.size*k.toNat)=true:=by
  rw[Gm bj];exact acj
 have Zv:List.foldl (λx1 x2=>x1++x2) #[] (abS (if its.toArray.isEmpty=true then 0 else k.toNat) its.toArray)=(abS k.toNat its).flatten.toArray:=by
  have f0:∀m:Nat,List.foldl (λx1 x2=>x1++x2) #[] (abS m its.toArray)=(abS m its).flatten.toArray:=λm=>by
   have:=foldl_rep its m [];rw[ahH] at this;exact this
  rw[f0];cases its with
  | nil=>simp
  | cons a r'=>rw[if_neg (by simp)]
 refine wpAny_binaryOp_repeat_ref (T:="list") (U:="int") (by decide) ⟨_,e,rfl⟩ (λs'=>typeIs_int s' k t) noFill_list_mul F.fills_int_mul F.slot_int_rmul repeat_list F.slot_int_index.lookup
  (agq F.slot_int_rmul (typeIs_int s k t) F.entry_int_rmul (F.args_int_rmul_2 _ _) (int___rmul___int_list k t l its.toArray n)
   ⟨e,rfl,⟨_,e,rfl⟩,agq F.slot_list_mul ⟨_,e,rfl⟩ F.entry_list_mul (F.args_list_mul_2 _ _) (AutoListH.list___mul___list_int_3 l its.toArray n k t Ct Zu BS) ⟨e,?_⟩⟩)
 rw[Zv];exact⟨.ref _,_,I.Cs (t':=s.toks) (r.rep k.toNat) (by rw[len_rep,Nat.mul_comm];exact hz),rfl,q _ I.fresh⟩
end
end L2
namespace LL
open PySem PySem.W PySem.Calls PyProof.Rows
abbrev _root_.gM:=List Int
theorem Nr{P:Params}{h:adt}:∀(ns:gM) (vs:aS),WellAll P h vs (ns.map WData.int)->IntsAre vs ns:=by
 intro ns
 induction ns with
 | nil=>
  intro vs w;rw[afH] at w;cases w;exact .nil
 | cons n ns ih=>
  intro vs w;rw[ace] at w;cases w with
  | cons a b=>
   cases a;exact .cons _ _ (ih _ b)
theorem OT{l:OpenLaw}{n:Nat}(hn:l.most=O n){P:Params}{h:adt}{args:List WData}{vals:aS}(yq:l.row.toRowW.claim.pre args=true)(y9:WellAll P h vals args):∃a vs ns,vals=[acu a]/\args=[WData.list (ns.map WData.int)]/\h.get? a=O { cls:=.type "list",data:=.seq vs.toArray }/\IntsAre vs ns/\↑ns<=n:=by
 have hsh:WShape.hasAll [] args [.list .int]=true:=(pre_splitW yq).1;have hc:l.pre.holds [] { args:=args }=true:=(pre_splitW yq).2;obtain⟨d,r,rfl,h1,h2⟩:=hasAllW_cons hsh;obtain rfl:=hasAllW_nil h2;obtain⟨xs,rfl,h3⟩:=hasW_list h1;obtain⟨ns,rfl⟩:=items_int h3;have bj:↑ns<=n:=by
  unfold OpenLaw.pre at hc;have h4:(WTm.not (.lt (.lit (.int n)) (.len (.arg 0)))).holds [] { args:=[.list (ns.map .int)] }=true:=by
   have h4:=(holds_andW hc).1;rw[hn] at h4;exact h4
  have h5:=condW_of h4 (w_not (w_lt w_lit (w_len_list (w_arg rfl))));rw[abI] at h5;refine Nat.le_of_not_lt λq=>?_
  have q':(n:Int)<((↑ns:Nat):Int):=by omega
  first
   | (rw[aL q'] at h5;exact absurd h5 (by decide))
   | (simp at h5;omega)
 cases y9 with
 | cons w1 w2=>
  cases w2;cases w1 with
  | list ho oV=>exact⟨_,_,ns,rfl,rfl,ho,Nr ns _ oV,bj⟩
theorem OU(l:OpenLaw)(args:List WData):l.row.toRowW.claim.post args (.bool true) args=true:=
 postW_of (r:=l.row.toRowW) (X:=(true==true))
  (show WShape.has [] (.bool true) .bool=true by first | rfl | decide | simp[WShape.has,WShape.arms,WShape.armsAll])
  (show(WTm.eq .res (.lit (.bool true))).value [] { args:=args,res:=O (.bool true),after:=args }=O (.bool (true==true)) from w_eq_bool (w_res rfl) w_lit) rfl
theorem NR{l:OpenLaw}{n:Nat}{q:acL}{loose:aN}{XP:(Str->Option acb)->adt->Prop}{YP:adl->adt->Prop}{d:DefRec}(hn:l.most=O n)(u6:d.params.defaults=[])(call:∀(w:adl) (aI bB:abT) (mg mb:dr) (fa:abV) (o:Obj) (pm cd doc:acb) (a:abV) (vs:aS) (ns:gM),Ground q loose [] XP w aI mg mb bB.heap->YP w bB.heap → bB.heap.get? fa=O o->o.data=.func (docDef d.name d.params d.body d.scope pm cd doc)->bB.heap.CodeRec cd d.name->mg d.name=O (.ref fa) → bB.heap.get? a=O { cls:=.type "list",data:=.seq vs.toArray }->IntsAre vs ns->↑ns<=n->bB.gens= #[] → ahG (acr l.prog w) callerA (.call (.ref fa) ⟨[.ref a],[]⟩) (λr s'=>r=.ok (.ret (.bool true))/\OldK bB.heap s'.heap/\s'.os=bB.os/\ahf s'.gens) bB):WalkO q loose XP YP l.row.toRowW d [] (λf vs=>PySem.call f vs):=by
 intro w aI bB mg mb G Y fa o pm cd doc dV kV ho hd hcd hD hmg hg args vals as yq abq hrd y9 hlo;obtain rfl:dV=.none:=Dflts.none hD u6;obtain rfl:kV=.none:=Dflts.noKw hD;obtain⟨a,vs,ns,rfl,rfl,Cu,BU,bj⟩:=OT hn yq y9;refine enter_call (agI (call w aI bB mg mb fa o pm cd doc a vs ns G Y ho (fd_plain hd) hcd hmg Cu BU bj hg) λr s' hq=>?_);obtain⟨rfl,h2,h3,h4⟩:=hq;exact⟨.inl ⟨.bool true,.bool true,[],rfl,λ_=>rfl,.bool true,OU l _,λ_=>⟨List.Pairwise.nil,λ_ hm=>(nomatch hm)⟩⟩,h2,h3,h4⟩
end LL
namespace L2
open PySem PySem.Spec PyProof.Rows
theorem FF:∀{vs:aS} {ns:gM},IntsAre vs ns->Vals (ns.map V.int) vs
 | _,_,.nil=>.nil
 | _,_,.cons n t h=>.cons ⟨t,rfl⟩ (FF h)
noncomputable def inClass(s:ahZ)(j:Nat):Stmt:=match s with
 | .ClassDef _ _ _ body _ _ _ _ _ _ _=>body.getD j (.Pass ⟨0,0,0,0⟩)
 | _=>.Pass ⟨0,0,0,0⟩
noncomputable def ij(s:ahZ):Arguments:=match s with
 | .FunctionDef _ a _ _ _ _ _ _ _ _=>a
 | _=>{ posonlyargs:=[],args:=[],vararg:=Z,kwonlyargs:=[],kw_defaults:=[],kwarg:=Z,defaults:=[] }
noncomputable def fN(s:ahZ):d8:=match s with
 | .FunctionDef _ _ b _ _ _ _ _ _ _=>b
 | _=>[]
noncomputable def cx(s:ahZ):Scope:=match s with
 | .FunctionDef _ _ _ _ _ _ sc _ _ _=>sc
 | _=>{ kind:=.function,names:=[],isGenerator:=false,isCoroutine:=false }
abbrev E0:XK:=λ_ _ _=>False
structure nH(K:abG)(x qual:Str)(st:ahZ)(f:abV)(fd:adR):Prop where
 ex:∃(oc:acb) (od:ce) (kV doc pm:acb) (an:ce) (bQ ct:acb) (gC:Array fQ),
  fd=adu x qual (ij st) (fN st) (cx st) .none kV doc pm an bQ ct/\K.lookup f=O ⟨oc,od,.func fd,gC⟩/\aey K bQ qual=true
 kp:adw K (.ref f)=true
section
variable{P:acL}{w:adl}{K:abG}{mg:dr}{base:adt}
theorem nH.binds{x qual:Str}{st:ahZ}{f:abV}{fd:adR}{ps:aN}(F:nH K x qual st f fd)(h:∀(kV doc pm:acb) (an:ce) (bQ ct:acb) (us:aS),↑us=↑ps->bindArgs (adu x qual (ij st) (fN st) (cx st) .none kV doc pm an bQ ct) ⟨us,[]⟩=pure (ps.zip us)):Binds K fd ps []:=by
 obtain⟨oc,od,kV,doc,pm,an,bQ,ct,gC,rfl,lk,hcd⟩:=F.ex;exact .all (h kV doc pm an bQ ct)
theorem Iy{x qual:Str}{st:ahZ}{f:abV}{oc:acb}{od an:ce}{gC:Array fQ}{kV doc pm bQ ct:acb}(l:K.lookup f=O ⟨oc,od,.func (adu x qual (ij st) (fN st) (cx st) .none kV doc pm an bQ ct),gC⟩)(c:aey K bQ qual=true)(k:adw K (.ref f)=true):nH K x qual st f (adu x qual (ij st) (fN st) (cx st) .none kV doc pm an bQ ct):=⟨⟨oc,od,kV,doc,pm,an,bQ,ct,gC,rfl,l,c⟩,k⟩
end
theorem xV{A:adq}{k:Nat}(hr:dw k A):A.units+1<cLine:=Nat.lt_of_le_of_lt (Nat.add_le_add_left (by decide:1<=64) _) hr.units
theorem mZ{A B:Prop}(h:B):if false=true then A else B:=by
 rw[if_neg acj];exact h
theorem m7{A B:Prop}(h:A):if true=true then A else B:=by
 rw[if_pos rfl];exact h
section
variable{κ:Type}[DecidableEq κ]
noncomputable def jo(kvs:List (κ×V))(k:κ):Option V:=(kvs.find? λkv=>decide (kv.1=k)).map (·.2)
noncomputable def putK(kvs:List (κ×V))(k:κ)(v:V):List (κ×V):=
 if(kvs.any λkv=>decide (kv.1=k))=true then kvs.map (λkv=>if kv.1=k then(kv.1,v) else kv) else kvs++[(k,v)]
theorem sV{p:κ×V}{r:List (κ×V)}{k:κ}(e:p.1=k):jo (p::r) k=O p.2:=by simp[jo,adV,e]
theorem sW{p:κ×V}{r:List (κ×V)}{k:κ}(e:¬p.1=k):jo (p::r) k=jo r k:=by simp[jo,adV,e]
theorem Gn(k:κ):∀kvs:List (κ×V),(kvs.any λkv=>decide (kv.1=k))=(jo kvs k).isSome
 | []=>rfl
 | p::r=>by
  rw[acO];by_cases e:p.1=k
  ·simp only[sV e,aL e,Bool.true_or,Option.isSome_some]
  ·rw[sW e,aX e,Bool.false_or];exact Gn k r
theorem An(kvs:List (κ×V))(k:κ)(v:V):(putK kvs k v).length<=↑kvs+1:=by
 unfold putK;split
 ·rw[abI];omega
 ·rw[acg,abP,acS];omega
theorem ji.sN{o:Option V}{u:fQ}(r:ji o u):o.isSome=u.isSome:=by
 cases o with
 | none=>cases u with
  | none=>rfl
  | some _=>exact(show False from r).elim
 | some _=>cases u with
  | none=>exact(show False from r).elim
  | some _=>rfl
theorem KV.val{kvs:List (κ×V)}{vs:List (κ×acb)}(r:KV kvs vs)(k:κ):ji (jo kvs k) (aiA vs k):=by
 unfold KV at r
 induction r with
 | nil=>exact aeT
 | @cons p q ps qs h t ih=>
  obtain⟨h1,h2⟩:=h;by_cases e:p.1=k
  ·have e':q.1=k:=h1.symm.trans e;have b:aiA (q::qs) k=O q.2:=by simp[aiA,adV,e']
   rw[sV e,b];exact h2
  ·have e':¬q.1=k:=λz=>e (h1.trans z)
   have b:aiA (q::qs) k=aiA qs k:=by simp[aiA,adV,e']
   rw[sW e,b];exact ih
theorem KV.any{kvs:List (κ×V)}{vs:List (κ×acb)}(r:KV kvs vs)(k:κ):(kvs.any λkv=>decide (kv.1=k))=vs.any λkv=>decide (kv.1=k):=by
 unfold KV at r
 induction r with
 | nil=>rfl
 | cons h t ih=>rw[acO,acO,ih,h.1]
theorem KV.jS{kvs:List (κ×V)}{vs:List (κ×acb)}(r:KV kvs vs)(k:κ){y:V}{u:acb}(ry:RelV y u):KV (kvs.map λkv=>if kv.1=k then(kv.1,y) else kv) (vs.map λkv=>if kv.1=k then(kv.1,u) else kv):=by
 unfold KV at r ⊢
 induction r with
 | nil=>exact .nil
 | @cons p q ps qs h t ih=>
  rw[ace,ace];refine .cons ?_ ih;obtain⟨h1,h2⟩:=h;by_cases e:p.1=k
  ·rw[if_pos e,if_pos (h1.symm.trans e)];exact⟨h1,ry⟩
  ·rw[if_neg e,if_neg (λz=>e (h1.trans z))];exact⟨h1,h2⟩
theorem KV.put{kvs:List (κ×V)}{vs:List (κ×acb)}(r:KV kvs vs)(k:κ){y:V}{u:acb}(ry:RelV y u):KV (putK kvs k y) (stored vs k u):=by
 unfold putK stored;rw[r.any k];by_cases e:(vs.any λkv=>decide (kv.1=k))=true
 ·rw[if_pos e,if_pos e];exact r.jS k ry
 ·rw[if_neg e,if_neg e];exact Paired.snoc r ⟨rfl,ry⟩
theorem KV.keys{kvs:List (κ×V)}{vs:List (κ×acb)}(r:KV kvs vs):kvs.map (·.1)=vs.map (·.1):=by
 unfold KV at r
 induction r with
 | nil=>rfl
 | cons h t ih=>rw[ace,ace,ih,h.1]
theorem KV.length{kvs:List (κ×V)}{vs:List (κ×acb)}(r:KV kvs vs):↑kvs=↑vs:=afi r
end
variable{u:acb}
theorem qA{P:acL}{w:adl}{k:Key}(r:RelV (kV k) u):(dm P w).is k u=true:=by
 cases k with
 | inl i=>obtain⟨t,e⟩:=(show ∃t,u=aij i t from r);subst e;exact NP P w i t
 | inr x=>obtain⟨t,e⟩:=(show ∃t,u=aik x t from r);subst e;exact NQ P w x t
theorem FG{P:acL}{w:adl}:∀{ks:cC} {us:aS},Vals (ks.map kV) us->ItemsAre (dm P w) ks us
 | [],_,r=>by rw[afH] at r;cases r;exact .nil
 | k::ks,_,r=>by
  rw[ace] at r;cases r with
  | cons h t=>exact .cons (qA h) (FG t)
abbrev KT(H:Hp):gK->List (cC×abV×acb)->Prop:=afu λp q=>p.1=q.1/\H q.2.1=O (.tup (p.1.map kV))/\RelV p.2 q.2.2
variable{H:Hp}{kvs:gK}{xs:List (cC×abV×acb)}
theorem KT.val(r:KT H kvs xs)(k:cC):ji (jo kvs k) ((atKey xs k).map (·.2)):=by
 induction r with
 | nil=>exact aeT
 | @cons p q ps qs h t ih=>
  obtain⟨h1,_,h2⟩:=h;by_cases e:p.1=k
  ·have e':q.1=k:=h1.symm.trans e;have b:atKey (q::qs) k=O q.2:=by simp[atKey,adV,e']
   rw[sV e,b];exact h2
  ·have e':¬q.1=k:=λz=>e (h1.trans z)
   have b:atKey (q::qs) k=atKey qs k:=by simp[atKey,adV,e']
   rw[sW e,b];exact ih
variable{y:V}
theorem KT.jS(r:KT H kvs xs)(k:cC)(ry:RelV y u):KT H (kvs.map λkv=>if kv.1=k then(kv.1,y) else kv) (xs.map (putAt k u)):=by
 induction r with
 | nil=>exact .nil
 | @cons p q ps qs h t ih=>
  rw[ace,ace];refine .cons ?_ ih;obtain⟨h1,h2,h3⟩:=h;unfold putAt;by_cases e:p.1=k
  ·rw[if_pos e,if_pos (h1.symm.trans e)];exact⟨h1,h2,ry⟩
  ·rw[if_neg e,if_neg (λz=>e (h1.trans z))];exact⟨h1,h2,h3⟩
theorem KT.put(r:KT H kvs xs)(k:cC){b:abV}(hb:H b=O (.tup (k.map kV)))(ry:RelV y u):KT H (putK kvs k y) (storedH xs k b u):=by
 have e:(kvs.any λkv=>decide (kv.1=k))=(atKey xs k).isSome:=by
  rw[Gn,(r.val k).sN,afn]
 unfold putK storedH;rw[e];by_cases q:(atKey xs k).isSome=true
 ·rw[if_pos q,if_pos q];exact r.jS k ry
 ·rw[if_neg q,if_neg q];exact Paired.snoc r ⟨rfl,hb,ry⟩
theorem KT.keeps{H':Hp}(r:KT H kvs xs)(ht:∀b ys,H b=O (.tup ys)->H' b=O (.tup ys)):KT H' kvs xs:=
 afu.ux r λ_ _ z=>⟨z.1,ht _ _ z.2.1,z.2.2⟩
section
variable{P:acL}{w:adl}{H:Hp}{h:adt}{a:abV}
theorem JY{u:HO}(ok:cI P w H h)(e:Rd H a u):cZ P w H h a u:=e.ok ok
theorem uc{kvs:dc}(ok:cI P w H h)(e:Rd H a (.dK kvs)):↑kvs<=acd/\(a==aee)=false/\∃vs,KV kvs vs/\h.DictOf (dm P w) a vs:=
 show cZ P w H h a (.dK kvs) from JY ok e
theorem mM{kvs:dc}(ok:cI P w H h)(e:H a=O (.dK kvs)):↑kvs<=acd/\(a==aee)=false/\∃vs,KV kvs vs/\h.DictOf (dm P w) a vs:=uc ok (.inl e)
theorem tQ{ks:cC}(ok:cI P w H h)(e:H a=O (.tup (ks.map kV))):(ain (dm P w)).is h ks a:=by
 obtain⟨_,its,r,o,h1,h2,n,h3⟩:=(show cZ P w H h a (.tup (ks.map kV)) from ok a _ e)
 exact⟨o,its.toArray,n,h1,h2,h3,by simpa using FG r⟩
theorem ud{kvs:gK}(ok:cI P w H h)(e:Rd H a (.dT kvs)):↑kvs<=acd/\(a==aee)=false/\∃xs,KT H kvs xs/\h.DictOfH (ain (dm P w)) a xs:=by
 obtain⟨z,y,xs,r,o,es,ep,h1,h2,h3,h4,h5⟩:=(show cZ P w H h a (.dT kvs) from JY ok e)
 refine⟨z,y,xs,r,o,es,ep,h1,h2,h3,h4,λx hx=>?_,h5⟩;have all:∀{l:gK} {m:List (cC×abV×acb)},KT H l m->∀x∈m,(ain (dm P w)).is h x.1 x.2.1:=by
  intro l m q
  induction q with
  | nil=>intro x hx;exact nomatch hx
  | @cons p q ps qs hq t ih=>
   intro x hx
   rcases abR.mp hx with e | hx
   ·subst e;exact tQ ok (by rw[<- hq.1];exact hq.2.1)
   ·exact ih x hx
 exact all r x hx
theorem BV{kvs:gK}(ok:cI P w H h)(e:H a=O (.dT kvs)):↑kvs<=acd/\(a==aee)=false/\∃xs,KT H kvs xs/\h.DictOfH (ain (dm P w)) a xs:=ud ok (.inl e)
end
noncomputable def jT(H:Hp)(a:abV)(y:V)(r:Option V):Prop:=
 (∃kvs k,Rd H a (.dK kvs)/\y=kV k/\r=jo kvs k)\/∃kvs k b,Rd H a (.dT kvs)/\y=.ref b/\H b=O (.tup (k.map kV))/\r=jo kvs k
noncomputable def yr(H:Hp)(a:abV)(y v:V)(H':Hp):Prop:=
 (∃kvs k,H a=O (.dK kvs)/\y=kV k/\↑kvs<acd/\H'=upd H a (.dK (putK kvs k v))) \/
 ∃kvs k b,H a=O (.dT kvs)/\y=.ref b/\H b=O (.tup (k.map kV))/\↑kvs<acd/\H'=upd H a (.dT (putK kvs k v))
section
variable{X:Cx}{pins:List (abV×Obj)}{σ:St}{H:Hp}{s:abT}{a:abV}{y v:V}{u r:acb}{o:Option V}{A:adq}{E:aY}
theorem Inv.big(I:Inv X pins σ H s):aee<s.heap.objs.size:=by
 have h:acm<s.heap.objs.size:=(I.mod.glob.keeps I.bk).lt;exact Nat.lt_trans (by decide) h
variable{Q:aY}
theorem OV(hu:A.units+1<aix)(I:Inv X pins σ H s)(g:jT H a y (O v))(ry:RelV y u)(h:∀w' s',Inv X pins σ H s'->RelV v w'->Q w' s'):acf (acr X.prog X.w) A (aia (.ref a) u) Q E s:=by
 rcases g with⟨kvs,k,e,ey,l⟩ | ⟨kvs,k,b,e,ey,eb,l⟩
 ·subst ey;obtain⟨z,hd,vs,rel,dd⟩:=uc I.aA e;obtain⟨w',hw,hO⟩:=ji.some_of (v:=v) (o:=aiA vs k) (by rw[l];exact rel.val k);exact wpAny_getItem_of (qA ry) dd.mapOf hw (h w' _ (I.tok _) hO)
 ·subst ey;cases(show u=acu b from ry);obtain⟨z,hd,xs,rel,dd⟩:=ud I.aA e;obtain⟨w',hw,hO⟩:=ji.some_of (v:=v) (o:=(atKey xs k).map (·.2)) (by rw[l];exact rel.val k);obtain⟨p,hp,hp2⟩:=abU.mp hw;refine wpAny_getItem_heap (afP hu) (tQ I.aA eb) dd hp ?_;rw[hp2];exact h w' _ (I.tok _) hO
theorem Cv(hu:A.units+1<aix)(I:Inv X pins σ H s)(g:jT H a y o)(ry:RelV y u)(h:∀s',Inv X pins σ H s'->Q (.bool o.isSome) s'):acf (acr X.prog X.w) A (acU .In u (.ref a)) Q E s:=by
 rcases g with⟨kvs,k,e,ey,l⟩ | ⟨kvs,k,b,e,ey,eb,l⟩
 ·subst ey;obtain⟨z,hd,vs,rel,dd⟩:=uc I.aA e;refine wpAny_in_of (qA ry) hd dd.mapOf ?_;rw[<- (rel.val k).sN,<- l];exact h _ (I.tok _)
 ·subst ey;cases(show u=acu b from ry);obtain⟨z,hd,xs,rel,dd⟩:=ud I.aA e;refine wpAny_in_heap (afP hu) (tQ I.aA eb) hd dd ?_;have q:=(rel.val k).sN;rw[afn] at q;rw[<- q,<- l];exact h _ (I.tok _)
theorem A5(hu:A.units+1<aix)(I:Inv X pins σ H s)(g:jT H a y o)(ry:RelV y u)(h:∀s',Inv X pins σ H s'->Q (.bool (!o.isSome)) s'):acf (acr X.prog X.w) A (acU .NotIn u (.ref a)) Q E s:=by
 rcases g with⟨kvs,k,e,ey,l⟩ | ⟨kvs,k,b,e,ey,eb,l⟩
 ·subst ey;obtain⟨z,hd,vs,rel,dd⟩:=uc I.aA e;refine wpAny_notIn_of (qA ry) hd dd.mapOf ?_;rw[<- (rel.val k).sN,<- l];exact h _ (I.tok _)
 ·subst ey;cases(show u=acu b from ry);obtain⟨z,hd,xs,rel,dd⟩:=ud I.aA e;refine wpAny_notIn_heap (afP hu) (tQ I.aA eb) hd dd ?_;have q:=(rel.val k).sN;rw[afn] at q;rw[<- q,<- l];exact h _ (I.tok _)
theorem xo{h':adt}{t':Nat}{ob:HO}(I:Inv X pins σ H s)(mu:lM (H a))(hs:aeZ a s.heap h')(he:∃q,h'.get? a=O q)(new:cZ X.prog X.w (upd H a ob) h' a ob):Inv X pins σ (upd H a ob) { s with heap:=h',toks:=t' }:=
 I.write (x:=a) (e:=a) mu (.inl rfl) (λb q hb z=>(hs.2 b hb).trans z) he new
theorem Bx{P:acL}{w:adl}{H':Hp}{h':adt}{kvs:dc}{vs:List (Key×acb)}(z:↑kvs<=acd)(hd:(a==aee)=false)(rel:KV kvs vs)(dd:h'.DictOf (dm P w) a vs):cZ P w H' h' a (.dK kvs):=⟨z,hd,vs,rel,dd⟩
theorem As{H':Hp}{Q:Unit->abT->Prop}(hu:A.units+1<aix)(I:Inv X pins σ H s)(g:yr H a y v H')(ry:RelV y u)(rv:RelV v r)(h:∀s',Inv X pins σ H' s'->Q () s'):acf (acr X.prog X.w) A (setItem (.ref a) u r) Q E s:=by
 rcases g with⟨kvs,k,e,ey,l,eH⟩ | ⟨kvs,k,b,e,ey,eb,l,eH⟩
 ·subst ey eH;obtain⟨z,hd,vs,rel,dd⟩:=mM I.aA e;have hz:↑vs<=sizeLine:=by rw[<- ↑rel];exact z
  have hl:(putK kvs k v).length<=sizeLine:=by have:=An kvs k v;omega
  refine wpAny_setItem_pairs (hsz:=hz) (qA ry) dd λh' iT hs=>h _ ?_
  have he:∃q,h'.get? a=O q:=let ⟨q,_,_,hq,_⟩:=iT;⟨q,hq⟩
  exact xo I (by rw[e];exact aeT) hs he (Bx hl hd (rel.put k rv) iT)
 ·subst ey eH;cases(show u=acu b from ry);obtain⟨z,hd,xs,rel,dd⟩:=BV I.aA e;have hz:↑xs<=sizeLine:=by rw[<- afi rel];exact z
  have hl:(putK kvs k v).length<=sizeLine:=by have:=An kvs k v;omega
  refine wpAny_setItem_heap (hsz:=hz) (afP hu) (tQ I.aA eb) dd λh' iT hs=>h _ ?_
  obtain⟨q,es,ep,hq,h2,h3,h4,_,h5⟩:=iT;refine xo I (by rw[e];exact aeT) hs ⟨q,hq⟩ ⟨hl,hd,_,(rel.put k eb rv).keeps λc ys ec=>?_,q,es,ep,hq,h2,h3,h4,h5⟩;rw[bF (qz ec e (λz=>nomatch z))];exact ec
end
variable{X:Cx}
theorem NU{pins:List (abV×Obj)}{σ:St}{s:abT}{a:abV}{o:Option V}(I:Inv X pins σ H s)(g:jT H a y o):s.TypeIs (.ref a) "dict":=by
 rcases g with⟨kvs,k,e,_,_⟩ | ⟨kvs,k,b,e,_,_,_⟩
 ·obtain⟨_,_,vs,_,dd⟩:=uc I.aA e;exact dd.typeIs
 ·obtain⟨_,_,xs,_,dd⟩:=ud I.aA e;exact dd.typeIs
theorem Gp{P:acL}{w:adl}(h:adt)(hb:aee<h.objs.size):cZ P w H (h.push { cls:=.type "dict",data:=.dict #[] }) h.objs.size (.dK []):=
 ⟨adH _,beq_eq_false_iff_ne.mpr (adD (acQ hb)),[],.nil,Heap.DictOf.new h⟩
noncomputable def UR:TE:=λ_ H Q=>∀p,H p=Z->Q (.ref p) (upd H p (.dK []))
section
variable{X:Cx}{pos:Pos}
theorem P9:PE X (.Dict [] [] pos) UR:=λpins s σ H Q I h=>
 wpAny_Dict_empty ⟨.ref s.heap.objs.size,_,I.laid (a:=s.heap.objs.size) (o:=.dK []) (t':=s.toks) (λ_ _ q=>abJ _ q) (abO _) (Gp s.heap I.big),rfl,h _ (I.aA.fresh (abO _))⟩
end
noncomputable def xy:List (TE×TE)->St->Hp->(List (V×V)->Hp->Prop)->Prop
 | [],_,H,Q=>Q [] H
 | (tk,tv)::r,σ,H,Q=>tk σ H λx H1=>tv σ H1 λy H2=>xy r σ H2 λps H3=>Q ((x,y)::ps) H3
abbrev VV:List (V×V)->List (acb×acb)->Prop:=afu λp q=>RelV p.1 q.1/\RelV p.2 q.2
noncomputable def u7(X:Cx)(pos:Pos)(keys:List (Option adA))(values:bS)(lV:List (TE×TE)):Prop:=
 ∀(pins:List (abV×Obj)) (s:abT) (σ:St) (H:Hp) (Q:List (V×V)->Hp->Prop),Inv X pins σ H s->xy lV σ H Q →
  acf (acr X.prog X.w) X.A (evalPairs (pairTrees keys values X.env pos)) (λvs s'=>∃ps H',Inv X pins σ H' s'/\VV ps vs/\Q ps H') X.xe s
theorem RI{pos:Pos}:u7 X pos [] [] []:=λpins s σ H Q I h=>pairTrees_nil_walk ⟨[],H,I,.nil,h⟩
theorem Qa{pos:Pos}{k v:adA}{ks:List (Option adA)}{vs:bS}{tk tv:TE}{lV:List (TE×TE)}(hk:PE X k tk)(hv:PE X v tv)(hr:u7 X pos ks vs lV):u7 X pos (O k::ks) (v::vs) ((tk,tv)::lV):=λpins s σ H Q I h=>
 pairTrees_cons_walk (aW (hk pins s σ H _ I h) λu s1 ⟨x,H1,I1,rx,q1⟩=>aW (hv pins s1 σ H1 _ I1 q1) λw2 s2 ⟨y,H2,I2,ry,q2⟩=>
  aW (hr pins s2 σ H2 _ I2 q2) λws s3 ⟨ps,H3,I3,rel,q3⟩=>⟨(x,y)::ps,H3,I3,.cons ⟨rx,ry⟩ rel,q3⟩)
noncomputable def i6(kvs more:dc):dc:=more.foldl (λacc kv=>putK acc kv.1 kv.2) kvs
theorem KV.merge:∀{more:dc} {rs:List (Key×acb)} {kvs:dc} {vs:List (Key×acb)},KV more rs->KV kvs vs->KV (i6 kvs more) (merged vs rs):=by
 intro more rs kvs vs r;unfold KV at r
 induction r generalizing kvs vs with
 | nil=>intro q;exact q
 | @cons p q ps qs h t ih=>
  intro r0;have e:KV (putK kvs p.1 p.2) (stored vs q.1 q.2):=by
   have:=r0.put p.1 h.2;rw[<- h.1];exact this
  exact ih e
theorem Ad:∀(more kvs:dc),(i6 kvs more).length<=↑kvs+↑more
 | [],kvs=>by show ↑kvs<=↑kvs+0;omega
 | p::r,kvs=>by
  have h1:=Ad r (putK kvs p.1 p.2);have h2:=An kvs p.1 p.2;show(i6 (putK kvs p.1 p.2) r).length<=_;rw[abP];omega
theorem Fi{P:acL}{w:adl}:∀{kvs:dc} {ws:List (acb×acb)},VV (kvs.map λkv=>(kV kv.1,kv.2)) ws->∃rs,Carries (dm P w) ws rs/\KV kvs rs
 | [],_,r=>by rw[afH] at r;cases r;exact⟨[],aeT,.nil⟩
 | p::kvs,_,r=>by
  rw[ace] at r;cases r with
  | @cons a b as bs h t=>
   obtain⟨rs,c,q⟩:=Fi (P:=P) (w:=w) t;obtain⟨b1,b2⟩:=b;exact⟨(p.1,b2)::rs,⟨qA h.1,rfl,c⟩,.cons ⟨rfl,h.2⟩ q⟩
end L2
namespace PySem
open Sem (wp)
noncomputable def kx(o:Obj):Bool:=match o.data with
 | .fields vs=>vs[2]? ==O acB
 | _=>false
noncomputable def kk(o:Obj):acb×ce:=(o.cls,if kx o=true then o.dict else Z)
theorem Iz(o:Obj){i:Nat}{v:acb}(hi:i≠2):kk (acK (·.setIfInBounds i v) o)=kk o:=by
 obtain⟨c,d,dt,sl⟩:=o;cases dt
 case fields vs=>
  show(c,if((vs.setIfInBounds i v)[2]? ==O acB)=true then d else Z)=(c,if(vs[2]? ==O acB)=true then d else Z);rw[aeJ hi]
 all_goals rfl
theorem RJ{o:Obj}{c:acb}{d:abV}(h:kk o=(c,O d)):o.dict=O d/\kx o=true:=by
 have h2:(if kx o=true then o.dict else Z)=O d:=congrArg (·.2) h;by_cases q:kx o=true
 ·rw[if_pos q] at h2;exact⟨h2,q⟩
 ·rw[if_neg q] at h2;cases h2
namespace Heap
noncomputable def oi(h base:adt)(e:abV)(cls:acb×ce)(a0:acb):Prop:=
 ∃oe vs T oT ts,h.get? e=O oe/\(kk oe=cls/\vs[0]? =O a0)/\oe.data=.fields vs/\vs[1]? =O (.ref T)/\base.get? T=Z/\T≠e/\h.get? T=O oT/\oT.data=.fields ts/\ts[3]? =O .none
noncomputable def wU(h base:adt)(e:abV)(cls:acb×ce)(a0 fl:acb):Prop:=
 ∃oe vs T oT ts,h.get? e=O oe/\(kk oe=cls/\vs[0]? =O a0)/\oe.data=.fields vs/\vs[1]? =O (.ref T)/\base.get? T=Z/\T≠e/\h.get? T=O oT/\oT.data=.fields ts/\ts[3]? =O fl
theorem oi.at{h base:adt}{e:abV}{cls:acb×ce}{a0:acb}(x:h.oi base e cls a0):h.wU base e cls a0 .none:=x
noncomputable def IB(base:adt)(l:List Env)(e:abV)(cls:acb×ce)(a0 fl:acb)(h h':adt):Prop:=
 base.StaysIn h'/\h'.FunFrames base l/\h'.wU base e cls a0 fl/\∀b o,h.get? b=O o->(∀vs,o.data≠.fields vs)->∃sl,h'.get? b=O { o with slots:=sl }
end Heap
section
variable{M:ahY}{A:adq}{E:aY}{s:abT}
noncomputable def adt.BW(base:adt)(l:List Env)(e:abV)(cls:acb×ce)(a0:acb)(h h':adt):Prop:=
 base.StaysIn h'/\h'.FunFrames base l/\h'.oi base e cls a0 /\
  ∀b o,h.get? b=O o->(∀vs,o.data≠.fields vs)->∃sl,h'.get? b=O { o with slots:=sl }
variable{env:Env}{L:abV}{oe:Obj}{vs:dC}{a0:acb}{Q:Unit->abT->Prop}
theorem EF {base : adt} {outer : List Env} {e : abV} {head : acb} {A6 : Bool} (eO : A.frames = some (env :: outer)) (hl : s.heap.FunFrames base (env :: outer)) (hf : env.frame = some L) (he : s.heap.get? e = some oe) (gD : base.StaysIn s.heap) (lW : base.get? e = none) (hd : oe.data = .fields vs) (hsz : 1 < vs.size) (h0 : vs[0]? = some a0) (h : ∀ h', adt.BW base (env :: outer) e (kk oe) a0 s.heap h' -> Q () { s with heap := h' }) :
    acf M A (do let a <- frameOf env; let pl <- entryPlaceOf L A6; let b <- afC head a .none (adZ L) .none pl; setField (.ref e) 1 b) (fun _ s' => acf M A (agt (.ref e) none) Q E s') E s := by
  have Cw : e ∉ (env :: outer).filterMap (·.frame) := fun hm => by
    obtain ⟨_, o, ho, cj⟩ := hl.mem hm;rw [he] at ho; injection ho with ho; subst ho; exact cj vs hd
  refine abF (wpAny_frameOf_fun eO hl hf fun bO bY => ?_);refine abF (wpAny_entryPlaceOf fun pl hpl => ?_);unfold afC newFields;refine abF (adx ?_ (hpl.sizeOk5 _ _ _ _ _));have u9 : bO.get? e = some oe := (bY.2.1 e Cw).trans he;have vc : base.StaysIn bO := fun b o dA => (bY.2.1 b fun hm => by rw [(hl.mem hm).1] at dA; cases dA).trans (gD b o dA)
  have vd := abJ (h := bO) { cls := .type "traceback", dict := none, data := .fields ([head, .ref L, .none, adZ L, .none] ++ (if pl.isEmpty then abS 6 acB else pl)).toArray } u9;refine adS vd hd hsz ?_;have gP : bO.objs.size ≠ e := aed (abW u9);have rE := adI hd (·.setIfInBounds 1 (acu bO.objs.size));have za := acN (acK (·.setIfInBounds 1 (acu bO.objs.size))) vd (aeu rE);have zb := (acl (bO.push { cls := .type "traceback", dict := none, data := .fields ([head, .ref L, .none, adZ L, .none] ++ (if pl.isEmpty then abS 6 acB else pl)).toArray })
    (acK (·.setIfInBounds 1 (acu bO.objs.size))) (adD gP)).trans (acp bO rfl)
  unfold agt;refine abF (acD za rE (x := .ref bO.objs.size) (by simp [hsz]) ?_);rw [if_pos (show (acu bO.objs.size != acB) = true from by simp)];refine adS zb rfl (by simp only [aca, acg, abP, acS] <;> omega) (h _ ?_);have keep : ∀ b o, b ≠ e -> bO.get? b = some o →
      (((bO.push { cls := .type "traceback", dict := none, data := .fields ([head, .ref L, .none, adZ L, .none] ++ (if pl.isEmpty then abS 6 acB else pl)).toArray }).update e (acK (·.setIfInBounds 1 (acu bO.objs.size)))).update bO.objs.size
        (acK (·.setIfInBounds 3 ((none : ce).elim acB fun f => adZ f)))).get? b = some o := fun b o jW hb => by
    have hbT : bO.objs.size ≠ b := aed (abW hb);rw [acl _ _ hbT, acl _ _ (adD jW)];exact abJ _ hb
  have ic : ∀ b o, s.heap.get? b = some o -> (∀ vs, o.data ≠ .fields vs) -> b ≠ e := fun b o hb cj q => by
    rw [q, he] at hb; injection hb with hb; subst hb; exact cj vs hd
  refine ⟨fun b o dA => keep b o (fun q => by rw [q, lW] at dA; cases dA) (vc b o dA), hl.of_keeps fun b o hb cj => ?_, ?_, fun b o hb cj => ?_⟩
  · obtain ⟨sl, hs⟩ := bY.2.2 b o hb
    exact ⟨_, keep b _ (ic b o hb cj) hs, rfl⟩
  · refine ⟨_, _, bO.objs.size, _, _, ?_, ⟨Iz _ (by decide), by rw [aeJ (by decide)]; exact h0⟩, rE, by simp [hsz], vc.fresh, gP, acN _ zb (aeu (adI rfl _)), adI rfl _, by first | (simp; done) | (rcases hpl with rfl | ⟨_, _, _, _, _, _, _, rfl⟩ <;> simp)⟩
    rw [acl _ _ gP]; exact za
  · obtain ⟨sl, hs⟩ := bY.2.2 b o hb
    exact ⟨sl, keep b _ (ic b o hb cj) hs⟩
theorem M4{base:adt}{outer:List Env}{e:abV}(eO:A.frames=O (env::outer))(hl:s.heap.FunFrames base (env::outer))(hf:env.frame=O L)(he:s.heap.get? e=O oe)(gD:base.StaysIn s.heap)(lW:base.get? e=Z)(hd:oe.data=.fields vs)(h1:vs[1]? =O .none)(h0:vs[0]? =O a0)(h:∀h',adt.BW base (env::outer) e (kk oe) a0 s.heap h'->Q () { s with heap:=h' }):acf M A (leaving env (.ref e)) Q E s:=by
 unfold leaving afe;simp only[hf];refine abF (abF (acD he hd h1 ?_));rw[if_neg (by decide)];exact EF eO hl hf he gD lW hd (acV.mp h1).1 h0 h
variable{cls:acb×ce}
theorem M5{base:adt}{outer:List Env}{e:abV}(eO:A.frames=O (env::outer))(hl:s.heap.FunFrames base (env::outer))(hf:env.frame=O L)(ht:s.heap.oi base e cls a0)(gD:base.StaysIn s.heap)(lW:base.get? e=Z)(h:∀h',adt.BW base (env::outer) e cls a0 s.heap h'->Q () { s with heap:=h' }):acf M A (leaving env (.ref e)) Q E s:=by
 obtain⟨oe,vs,T,oT,ts,he,⟨lx,h0⟩,hd,h1,rF,gP,hT,jy,h3⟩:=ht;subst lx;unfold leaving afe;simp only[hf];refine abF (abF (acD he hd h1 ?_));rw[if_pos (show(acu T != acB)=true from by simp)];refine abF (acD hT jy h3 ?_);rw[if_neg (show ¬((acB==adZ L)=true) from by simp[adZ])];refine abF (adS hT jy (acV.mp h3).1 ?_);have other:∀b,b≠T->(s.heap.update T (acK (·.setIfInBounds 3 acB))).get? b=s.heap.get? b:=λb hb=>acl _ _ (adD hb)
 have ic:∀b o,s.heap.get? b=O o->(∀vs,o.data≠.fields vs)->b≠T:=λb o hb cj q=>by
  rw[q,hT] at hb;injection hb with hb;subst hb;exact cj ts jy
 refine EF eO (hl.of_keeps λb o hb cj=>⟨o,(other b (ic b o hb cj)).trans hb,rfl⟩) hf ((other e (adD gP)).trans he)
  (λb o dA=>(other b λq=>by rw[q,rF] at dA;cases dA).trans (gD b o dA)) lW hd (acV.mp h1).1 h0
  λh' ⟨x1,x2,x3,x4⟩=>h h' ⟨x1,x2,x3,λb o hb cj=>x4 b o ((other b (ic b o hb cj)).trans hb) cj⟩
noncomputable def adt.jK(base:adt)(l:List Env)(e:abV)(cls:acb×ce)(a0:acb)(h:adt):Prop:=
 base.StaysIn h/\base.get? e=Z/\h.FunFrames base l/\h.oi base e cls a0
theorem Np{base:adt}{outer:List Env}{e:abV}(eO:A.frames=O (env::outer))(hf:env.frame=O L)(fE:adt.jK base (env::outer) e cls a0 s.heap)(hQ:∀h',adt.jK base outer e cls a0 h'->s.heap.UpToSlots h'->Q () { s with heap:=h' }):acf M A (leaving env (.ref e)) Q E s:=by
 obtain⟨f1,f2,f3,f4⟩:=fE;refine M5 eO f3 hf f4 f1 f2 λh' hL=>?_
 obtain⟨k1,⟨_,_,k2⟩,k3,k4⟩:=hL;exact hQ h' ⟨k1,f2,k2,k3⟩ k4
theorem EX{base:adt}{outer:List Env}{e:abV}{head:acb}{A6:Bool}(eO:A.frames=O (env::outer))(hl:s.heap.FunFrames base (env::outer))(hf:env.frame=O L)(he:s.heap.get? e=O oe)(gD:base.StaysIn s.heap)(lW:base.get? e=Z)(hd:oe.data=.fields vs)(hsz:1<vs.size)(h0:vs[0]? =O a0)(h:∀h',adt.IB base (env::outer) e (kk oe) a0 (adZ L) s.heap h'->Q () { s with heap:=h' }) :
  acf M A (do let a <- frameOf env;let pl <- entryPlaceOf L A6;let b <- afC head a .none (adZ L) .none pl;setField (.ref e) 1 b) Q E s:=by
 have Cw:e∉(env::outer).filterMap (·.frame):=λhm=>by
  obtain⟨_,o,ho,cj⟩:=hl.mem hm;rw[he] at ho;injection ho with ho;subst ho;exact cj vs hd
 refine abF (wpAny_frameOf_fun eO hl hf λbO bY=>?_);refine abF (wpAny_entryPlaceOf λpl hpl=>?_);unfold afC newFields;refine abF (adx ?_ (hpl.sizeOk5 _ _ _ _ _));have u9:bO.get? e=O oe:=(bY.2.1 e Cw).trans he;have vc:base.StaysIn bO:=λb o dA=>(bY.2.1 b λhm=>by rw[(hl.mem hm).1] at dA;cases dA).trans (gD b o dA)
 have vd:=abJ (h:=bO) { cls:=.type "traceback",dict:=Z,data:=.fields ([head,.ref L,.none,adZ L,.none]++(if pl.isEmpty then abS 6 acB else pl)).toArray } u9;refine adS vd hd hsz (h _ ?_);have gP:bO.objs.size≠e:=aed (abW u9);have rE:=adI hd (·.setIfInBounds 1 (acu bO.objs.size));have za:=acN (acK (·.setIfInBounds 1 (acu bO.objs.size))) vd (aeu rE);have zb:=(acl (bO.push { cls:=.type "traceback",dict:=Z,data:=.fields ([head,.ref L,.none,adZ L,.none]++(if pl.isEmpty then abS 6 acB else pl)).toArray })
  (acK (·.setIfInBounds 1 (acu bO.objs.size))) (adD gP)).trans (acp bO rfl)
 have keep:∀b o,b≠e->bO.get? b=O o →
   ((bO.push { cls:=.type "traceback",dict:=Z,data:=.fields ([head,.ref L,.none,adZ L,.none]++(if pl.isEmpty then abS 6 acB else pl)).toArray }).update e (acK (·.setIfInBounds 1 (acu bO.objs.size)))).get? b=O o:=
  λb o jW hb=>by
   rw[acl _ _ (adD jW)];exact abJ _ hb
 have ic:∀b o,s.heap.get? b=O o->(∀vs,o.data≠.fields vs)->b≠e:=λb o hb cj q=>by
  rw[q,he] at hb;injection hb with hb;subst hb;exact cj vs hd
 refine⟨λb o dA=>keep b o (λq=>by rw[q,lW] at dA;cases dA) (vc b o dA),hl.of_keeps λb o hb cj=>?_,?_,λb o hb cj=>?_⟩
 ·obtain⟨sl,hs⟩:=bY.2.2 b o hb;exact⟨_,keep b _ (ic b o hb cj) hs,rfl⟩
 ·exact⟨_,_,bO.objs.size,_,_,za,⟨Iz _ (by decide),by rw[aeJ (by decide)];exact h0⟩,rE,by simp[hsz],vc.fresh,gP,zb,rfl,by first | (simp;done) | (rcases hpl with rfl | ⟨_,_,_,_,_,_,_,rfl⟩ <;> simp)⟩
 ·obtain⟨sl,hs⟩:=bY.2.2 b o hb;exact⟨sl,keep b _ (ic b o hb cj) hs⟩
theorem M6{base:adt}{outer:List Env}{e:abV}(eO:A.frames=O (env::outer))(hl:s.heap.FunFrames base (env::outer))(hf:env.frame=O L)(ht:s.heap.oi base e cls a0)(gD:base.StaysIn s.heap)(lW:base.get? e=Z)(h:∀h',adt.IB base (env::outer) e cls a0 (adZ L) s.heap h'->Q () { s with heap:=h' }):acf M A (afe (.ref e) env) Q E s:=by
 obtain⟨oe,vs,T,oT,ts,he,⟨lx,h0⟩,hd,h1,rF,gP,hT,jy,h3⟩:=ht;subst lx;unfold afe;simp only[hf];refine abF (acD he hd h1 ?_);rw[if_pos (show(acu T != acB)=true from by simp)];refine abF (acD hT jy h3 ?_);rw[if_neg (show ¬((acB==adZ L)=true) from by simp[adZ])];refine abF (adS hT jy (acV.mp h3).1 ?_);have other:∀b,b≠T->(s.heap.update T (acK (·.setIfInBounds 3 acB))).get? b=s.heap.get? b:=λb hb=>acl _ _ (adD hb)
 have ic:∀b o,s.heap.get? b=O o->(∀vs,o.data≠.fields vs)->b≠T:=λb o hb cj q=>by
  rw[q,hT] at hb;injection hb with hb;subst hb;exact cj ts jy
 refine EX eO (hl.of_keeps λb o hb cj=>⟨o,(other b (ic b o hb cj)).trans hb,rfl⟩) hf ((other e (adD gP)).trans he)
  (λb o dA=>(other b λq=>by rw[q,rF] at dA;cases dA).trans (gD b o dA)) lW hd (acV.mp h1).1 h0
  λh' ⟨x1,x2,x3,x4⟩=>h h' ⟨x1,x2,x3,λb o hb cj=>x4 b o ((other b (ic b o hb cj)).trans hb) cj⟩
variable{l:List Env}
theorem El{base:adt}{e:abV}{fl:acb}(gD:base.StaysIn s.heap)(hl:s.heap.FunFrames base l)(ht:s.heap.wU base e cls a0 fl)(h:∀h',base.StaysIn h'->h'.FunFrames base l->h'.oi base e cls a0->(∀b o,s.heap.get? b=O o->(∀vs,o.data≠.fields vs)->h'.get? b=O o)->Q () { s with heap:=h' }) :
  acf M A (agt (.ref e) Z) Q E s:=by
 obtain⟨oe,vs,T,oT,ts,he,lx,hd,h1,rF,gP,hT,jy,h3⟩:=ht;have KY:3<ts.size:=(acV.mp h3).1;have other:∀b,b≠T->(s.heap.update T (acK (·.setIfInBounds 3 ((Z:ce).elim acB λf=>adZ f)))).get? b=s.heap.get? b:=
  λb hb=>acl _ _ (adD hb)
 have ic:∀b o,s.heap.get? b=O o->(∀vs,o.data≠.fields vs)->b≠T:=λb o hb cj q=>by
  rw[q,hT] at hb;injection hb with hb;subst hb;exact cj ts jy
 unfold agt;refine abF (acD he hd h1 ?_);rw[if_pos (show(acu T != acB)=true from by simp)];refine adS hT jy KY (h _ (λb o dA=>(other b λq=>by rw[q,rF] at dA;cases dA).trans (gD b o dA))
  (hl.of_keeps λb o hb cj=>⟨o,(other b (ic b o hb cj)).trans hb,rfl⟩) ?_ λb o hb cj=>(other b (ic b o hb cj)).trans hb)
 exact⟨oe,vs,T,_,_,(other e (adD gP)).trans he,lx,hd,h1,rF,gP,acN _ hT (aeu (adI jy _)),adI jy _,by simp[KY]⟩
noncomputable def adt.xW(base:adt)(l:List Env)(e:abV)(cls:acb×ce)(a0:acb)(L:abV)(h:adt):Prop:=
 base.StaysIn h/\base.get? e=Z/\h.FunFrames base l/\h.wU base e cls a0 (adZ L)
theorem Nt{base:adt}{outer:List Env}{e:abV}(eO:A.frames=O (env::outer))(hf:env.frame=O L)(fE:adt.jK base (env::outer) e cls a0 s.heap)(hQ:∀h',adt.xW base (env::outer) e cls a0 L h'->s.heap.UpToSlots h'->Q () { s with heap:=h' }):acf M A (afe (.ref e) env) Q E s:=by
 obtain⟨f1,f2,f3,f4⟩:=fE;refine M6 eO f3 hf f4 f1 f2 λh' hN=>?_
 obtain⟨k1,k2,k3,k4⟩:=hN;exact hQ h' ⟨k1,f2,k2,k3⟩ k4
theorem Aj{base:adt}{e:abV}(hh:adt.xW base l e cls a0 L s.heap)(hQ:∀h',adt.jK base l e cls a0 h'->s.heap.UpToSlots h'->Q () { s with heap:=h' }):acf M A (agt (.ref e) Z) Q E s:=by
 obtain⟨f1,f2,f3,f4⟩:=hh;exact El f1 f3 f4 λh' k1 k2 k3 k4=>hQ h' ⟨k1,f2,k2,k3⟩ λb o hb hn=>⟨o.slots,k4 b o hb hn⟩
theorem adt.jK.first{base h:adt}{e:abV}(x:adt.jK base l e cls a0 h):∃oe vs,h.get? e=O oe/\kk oe=cls/\oe.data=.fields vs/\vs[0]? =O a0:=
 let ⟨_,_,_,oe,vs,_,_,_,he,hc,hd,_⟩:=x;⟨oe,vs,he,hc.1,hd,hc.2⟩
end
theorem Ak{M:ahY}{A:adq}{E:aY}{s:abT}{base:adt}{l:List Env}{e:abV}{cls:acb×ce}{a0:acb}{Q:Unit->abT->Prop}(hh:adt.jK base l e cls a0 s.heap)(hQ:∀h',adt.jK base l e cls a0 h'->s.heap.UpToSlots h'->Q () { s with heap:=h' }):acf M A (agt (.ref e) Z) Q E s:=by
 obtain⟨f1,f2,f3,f4⟩:=hh;exact El f1 f3 f4.at λh' k1 k2 k3 k4=>hQ h' ⟨k1,f2,k2,k3⟩ λb o hb hn=>⟨o.slots,k4 b o hb hn⟩
end PySem
namespace IL
open PySem PySem.Spec PyProof.Rows L2
inductive W where
 | ay | bl (b:Bool) | int (i:Int) | str (x:Str) | tup (ws:List W) | fl (ws:List W) | ref (i:Nat) | exc (c:Str) (ns:aN) (ws:List W) | fn (x:Str) (ws:List W) | kt (ws:List W)
abbrev _root_.aw:=List W
mutual
noncomputable def W.dec:(a b:W)->Decidable (a=b)
 | .ay,.ay=>acF rfl
 | .bl a,.bl b=>if h:a=b then acF (by rw[h]) else abZ (λe=>h (W.bl.inj e))
 | .int a,.int b=>if h:a=b then acF (by rw[h]) else abZ (λe=>h (W.int.inj e))
 | .str a,.str b=>if h:a=b then acF (by rw[h]) else abZ (λe=>h (W.str.inj e))
 | .tup a,.tup b=>match W.qQ a b with
  | acF h=>acF (by rw[h])
  | abZ h=>abZ (λe=>h (W.tup.inj e))
 | .fl a,.fl b=>match W.qQ a b with
  | acF h=>acF (by rw[h])
  | abZ h=>abZ (λe=>h (W.fl.inj e))
 | .ref a,.ref b=>if h:a=b then acF (by rw[h]) else abZ (λe=>h (W.ref.inj e))
 | .exc c ns a,.exc c' ns' b=>match W.qQ a b with
  | acF h=>if h1:c=c' then if h2:ns=ns' then acF (by rw[h,h1,h2]) else abZ (λe=>h2 (W.exc.inj e).2.1) else abZ (λe=>h1 (W.exc.inj e).1)
  | abZ h=>abZ (λe=>h (W.exc.inj e).2.2)
 | .fn c a,.fn c' b=>match W.qQ a b with
  | acF h=>if h1:c=c' then acF (by rw[h,h1]) else abZ (λe=>h1 (W.fn.inj e).1)
  | abZ h=>abZ (λe=>h (W.fn.inj e).2)
 | .kt a,.kt b=>match W.qQ a b with
  | acF h=>acF (by rw[h])
  | abZ h=>abZ (λe=>h (W.kt.inj e))
 | .ay,.bl _ | .ay,.int _ | .ay,.str _ | .ay,.tup _ | .ay,.fl _ | .ay,.ref _ | .ay,.exc _ _ _=>abZ (λe=>nomatch e)
 | .bl _,.ay | .bl _,.int _ | .bl _,.str _ | .bl _,.tup _ | .bl _,.fl _ | .bl _,.ref _ | .bl _,.exc _ _ _=>abZ (λe=>nomatch e)
 | .int _,.ay | .int _,.bl _ | .int _,.str _ | .int _,.tup _ | .int _,.fl _ | .int _,.ref _ | .int _,.exc _ _ _=>abZ (λe=>nomatch e)
 | .str _,.ay | .str _,.bl _ | .str _,.int _ | .str _,.tup _ | .str _,.fl _ | .str _,.ref _ | .str _,.exc _ _ _=>abZ (λe=>nomatch e)
 | .tup _,.ay | .tup _,.bl _ | .tup _,.int _ | .tup _,.str _ | .tup _,.fl _ | .tup _,.ref _ | .tup _,.exc _ _ _=>abZ (λe=>nomatch e)
 | .fl _,.ay | .fl _,.bl _ | .fl _,.int _ | .fl _,.str _ | .fl _,.tup _ | .fl _,.ref _ | .fl _,.exc _ _ _=>abZ (λe=>nomatch e)
 | .ref _,.ay | .ref _,.bl _ | .ref _,.int _ | .ref _,.str _ | .ref _,.tup _ | .ref _,.fl _ | .ref _,.exc _ _ _=>abZ (λe=>nomatch e)
 | .exc _ _ _,.ay | .exc _ _ _,.bl _ | .exc _ _ _,.int _ | .exc _ _ _,.str _ | .exc _ _ _,.tup _ | .exc _ _ _,.fl _ | .exc _ _ _,.ref _=>abZ (λe=>nomatch e)
 | .ay,.fn _ _ | .bl _,.fn _ _ | .int _,.fn _ _ | .str _,.fn _ _ | .tup _,.fn _ _ | .fl _,.fn _ _ | .ref _,.fn _ _ | .exc _ _ _,.fn _ _=>abZ (λe=>nomatch e)
 | .fn _ _,.ay | .fn _ _,.bl _ | .fn _ _,.int _ | .fn _ _,.str _ | .fn _ _,.tup _ | .fn _ _,.fl _ | .fn _ _,.ref _ | .fn _ _,.exc _ _ _=>abZ (λe=>nomatch e)
 | .ay,.kt _ | .bl _,.kt _ | .int _,.kt _ | .str _,.kt _ | .tup _,.kt _ | .fl _,.kt _ | .ref _,.kt _ | .exc _ _ _,.kt _ | .fn _ _,.kt _=>abZ (λe=>nomatch e)
 | .kt _,.ay | .kt _,.bl _ | .kt _,.int _ | .kt _,.str _ | .kt _,.tup _ | .kt _,.fl _ | .kt _,.ref _ | .kt _,.exc _ _ _ | .kt _,.fn _ _=>abZ (λe=>nomatch e)
noncomputable def W.qQ:(a b:aw)->Decidable (a=b)
 | [],[]=>acF rfl
 | a::as,b::bs=>match W.dec a b,W.qQ as bs with
  | acF h,acF h'=>acF (by rw[h,h'])
  | abZ h,_=>abZ (λe=>h (ahk e).1)
  | _,abZ h=>abZ (λe=>h (ahk e).2)
 | [],_::_ | _::_,[]=>abZ (λe=>nomatch e)
end
instance:DecidableEq W:=W.dec
abbrev _root_.bN:=List (W×W)
inductive PO where
 | lst (ws:aw)
 | bI (kvs:bN)
 | obj (c:Str) (fs:List (Str×W))
 | ve (kvs:bN)
 | zc (kvs:bN)
 | vg (kvs:bN)
 deriving DecidableEq
noncomputable def PO.fz:PO->Bool
 | .ve _=>true
 | .vg _=>true
 | _=>false
abbrev PH:=List PO
abbrev Po(α:Type):=PH->Option (α×PH)
variable{α:Type}
noncomputable def ret(a:α):Po α:=λph=>O (a,ph)
noncomputable def eG:Po α:=λ_=>Z
structure XC where
 cls:Str
 fs:List (Str×W)
inductive Out(α:Type) where
 | ok (a:α) (ph:PH)
 | ex (x:XC) (ph:PH)
 | no
noncomputable def Out.Run(r:Out α)(N:α->PH->Prop)(E:XC->PH->Prop):Prop:=match r with
 | .ok a ph=>N a ph
 | .ex x ph=>E x ph
 | .no=>False
variable{E:XC->PH->Prop}
theorem Out.Run.mono{r:Out α}{N N':α->PH->Prop}{E':XC->PH->Prop}(h:r.Run N E)(hn:∀a ph,N a ph->N' a ph)(he:∀x ph,E x ph->E' x ph):r.Run N' E':=by
 cases r with
 | ok a ph=>exact hn a ph h
 | ex x ph=>exact he x ph h
 | no=>exact h
abbrev Mo(α:Type):=PH->Out α
noncomputable def aD(a:α):Mo α:=λph=>.ok a ph
noncomputable def fF:Mo α:=λ_=>.no
noncomputable def lift(o:Po α):Mo α:=λph=>match o ph with
 | some p=>.ok p.1 p.2
 | none=>.no
noncomputable def ax{β:Type}(m:Mo α)(f:α->Mo β):Mo β:=λph=>match m ph with
 | .ok a ph'=>f a ph'
 | .ex x ph'=>.ex x ph'
 | .no=>.no
variable{ph:PH}
theorem dW{β:Type}{m:Mo α}{f:α->Mo β}{N:β->PH->Prop}:(ax m f ph).Run N E=(m ph).Run (λa ph1=>(f a ph1).Run N E) E:=by
 unfold ax;cases m ph <;> rfl
theorem run_lift{o:Po α}{N:α->PH->Prop}(h:(lift o ph).Run N E):∃a ph',o ph=O (a,ph')/\N a ph':=by
 unfold lift at h;cases e:o ph with
 | none=>rw[e] at h;exact h.elim
 | some p=>rw[e] at h;exact⟨p.1,p.2,rfl,h⟩
abbrev _root_.dO:=Option W
abbrev aG:=List dO
abbrev EM:=aG->Mo W
abbrev TM:=aG->Mo Bool
abbrev AM:=aG->Mo aw
inductive Fl where
 | nx (σ:aG) | rt (w:W) | bk (σ:aG) | ct (σ:aG)
abbrev SM:=aG->Mo Fl
noncomputable def KL(K:abG)(a:abV)(xs:aJ):Prop:=
 ∃(o:Obj) (its:dC) (n:Nat),K.lookup a=O o/\o.cls=.type "list"/\o.dict=Z/\o.data=.seq its n/\its.size<=acd/\Vals xs its.toList
noncomputable def yt(K:abG)(H:Hp)(a:abV)(xs:aJ):Prop:=(∃o,H a=O (.bC o (.lst xs)))\/KL K a xs
variable{K:abG}{H:Hp}{a:abV}
theorem yt.sq{xs:aJ}(h:yt K H a xs):bK K H a xs:=by
 rcases h with⟨o,h⟩ | h
 ·exact .inl (.inr ⟨o,h⟩)
 ·exact .inr h
noncomputable def uB(H:Hp)(o:Obj)(ns:aN)(vs:aJ):Prop:=(ns=[]/\vs=[])\/∃d od,o.dict=O d/\↑ns=↑vs/\H d=O (.bC od (.xd (ns.zip vs)))
abbrev kB:HO:=.ext λ_=>True
structure rG where
 ar:Arguments
 bd:adA
 sc:aes
 pos:Pos
noncomputable def xX:ahZ->Option rG
 | .Return (O (.Call _ [_,.Lambda a b s p] _ _)) _=>O ⟨a,b,s,p⟩
 | .Assign _ (.Call _ [.Call _ [_,.Lambda a b s p] _ _] _ _) _=>O ⟨a,b,s,p⟩
 | .Assign _ (.Call _ [_,.Lambda a b s p] _ _) _=>O ⟨a,b,s,p⟩
 | .Assign _ (.Call _ _ [⟨_,.Lambda a b s p,_⟩] _) _=>O ⟨a,b,s,p⟩
 | _=>Z
noncomputable def JZ:ahZ->Option rG
 | .For _ _ b _ _=>b.findSome? xX
 | .While _ b _ _=>b.findSome? xX
 | st=>xX st
noncomputable def Zw:ahZ->Option rG
 | .For _ (.Call _ _ [⟨_,.Lambda a b s p,_⟩] _) _ _ _=>O ⟨a,b,s,p⟩
 | .For _ _ b _ _=>b.findSome? JZ
 | .While _ b _ _=>b.findSome? JZ
 | st=>xX st
noncomputable def Zx(l:d8):Option rG:=l.findSome? Zw
noncomputable def J0(K:abG)(x:Str):Option rG:=match acx K acm x with
 | some (O (.ref f))=>(match K.lookup f with
  | some ⟨_,_,.func fd,_⟩=>(match fd.body with
   | .stmts b=>Zx b
   | _=>Z)
  | _=>Z)
 | _=>Z
noncomputable def kl(K:abG):List (Str×abV×abV):=match K.lookup acm with
 | some ⟨_,_,.dict es _,_⟩=>es.toList.filterMap λe=>match e.key with
  | .str x _=>if(J0 K x).isSome then(PySem.W.tabIn K x).map (x,·) else Z
  | _=>Z
 | _=>[]
noncomputable def KZ(x:Str):Str:=(x++".<locals>.")++"<lambda>"
noncomputable def ue(H:Hp)(v:acb)(x:Str):Prop:=∃c oc vs t,v=.ref c/\H c=O (.bC oc kB)/\oc.data=.fields vs/\vs[1]? =O (.str (KZ x) t)
noncomputable def m8(H:Hp)(x:Str)(P:abV):Prop:=∃ps,H P=O (.ir ps)/\PySem.TriplesOk ps.toList/\∀pos v,codeAmong pos ps.toList=O v->ue H v x
noncomputable def Zy(L:rG):aN:=((L.sc.names.filter λp=>p.2==.free).map (·.1)).reverse
noncomputable def yu(K:abG)(H:Hp)(x:Str)(o:Obj)(cl:List (Str×abV)):Prop:=∃L pm v De,J0 K x=O L/\o={ cls:=.type "function",data:=.func (PySem.W.kla_fn "<lambda>" (KZ x) L.ar L.bd L.sc cl pm v De) }/\ue H v x /\
 (↑cl=2->cl.map (·.1)=Zy L)/\∀y,L.sc.names.lookup y=O .free->∃c,cl.lookup y=O c
noncomputable def qj(H:Hp):List (Str×abV)->List V->Prop
 | [],[]=>True
 | p::cl,v::vs=>(∃oc u,H p.2=O (.bC oc kB)/\oc.data=.cell (O u)/\RelV v u)/\(∀z∈cl,z.2≠p.2)/\qj H cl vs
 | _,_=>False
noncomputable def m9(K:abG)(a:abV)(vs:aJ):Prop:=∃(o:Obj) (its:dC) (n:Nat),K.lookup a=O o/\o.cls=.type "tuple"/\o.data=.seq its n/\its.size<=acd/\Vals vs its.toList
mutual
inductive aQ(K:abG)(φ:Nat->abV)(n:Nat)(H:Hp):W->V->Prop where
 | ay:aQ K φ n H .ay .ay
 | bl (b:Bool):aQ K φ n H (.bl b) (.bl b)
 | int (i:Int):aQ K φ n H (.int i) (.int i)
 | str (x:Str):aQ K φ n H (.str x) (.str x)
 | tup {ws:aw} {a:abV} {vs:aJ} (h:H a=O (.tup vs)) (r:a9 K φ n H ws vs):aQ K φ n H (.tup ws) (.ref a)
 | fl {ws:aw} {a:abV} {vs:aJ} (h:yt K H a vs) (r:a9 K φ n H ws vs):aQ K φ n H (.fl ws) (.ref a)
 | ref {i:Nat} (h:i<n):aQ K φ n H (.ref i) (.ref (φ i))
 | exc {c:Str} {ns:aN} {ws:aw} {a C:abV} {vs:aJ} {o:Obj} {u:HO} (h:H a=O (.bC o u)) (hc:o.cls=.ref C) (hn:acx K acm c=O (O (.ref C))) (hk:ahV o=true) (hf:uB H o ns vs) (r:a9 K φ n H ws vs):aQ K φ n H (.exc c ns ws) (.ref a)
 | fn {x:Str} {ws:aw} {a:abV} {vs:aJ} {o:Obj} {cl:List (Str×abV)} (h:H a=O (.bC o kB)) (hl:yu K H x o cl) (hc:qj H cl vs) (r:a9 K φ n H ws vs):aQ K φ n H (.fn x ws) (.ref a)
 | kt {ws:aw} {a:abV} {vs:aJ} (h:m9 K a vs) (r:a9 K φ n H ws vs):aQ K φ n H (.kt ws) (.ref a)
inductive a9(K:abG)(φ:Nat->abV)(n:Nat)(H:Hp):aw->List V->Prop where
 | nil:a9 K φ n H [] []
 | cons {w:W} {v:V} {ws:aw} {vs:aJ} (h:aQ K φ n H w v) (r:a9 K φ n H ws vs):a9 K φ n H (w::ws) (v::vs)
end
structure Step(K:abG)(φ:Nat->abV)(n:Nat)(H:Hp)(ak:Nat->abV)(n':Nat)(H':Hp):Prop where
 le:n<=n'
 eq:∀i,i<n->ak i=φ i
 tup:∀a xs,H a=O (.tup xs)->H' a=O (.tup xs)
 bC:∀a o u,H a=O (.bC o u)->H' a=O (.bC o u)
section
variable{K:abG}{φ ak Df:Nat->abV}{n n' Dg:Nat}{H H' eQ:Hp}
theorem Step.refl:Step K φ n H φ n H:=⟨abO _,λ_ _=>rfl,λ_ _ h=>h,λ_ _ _ h=>h⟩
theorem Step.trans(a:Step K φ n H ak n' H')(b:Step K ak n' H' Df Dg eQ):Step K φ n H Df Dg eQ:=
 ⟨abX a.le b.le,λi h=>(b.eq i (aci h a.le)).trans (a.eq i h),λc xs h=>b.tup c xs (a.tup c xs h),λc o u h=>b.bC c o u (a.bC c o u h)⟩
theorem uB.mono(s:Step K φ n H ak n' H'){o:Obj}{ns:aN}{vs:aJ}(h:uB H o ns vs):uB H' o ns vs:=
 h.imp_right λ⟨d,od,e1,e2,e3⟩=>⟨d,od,e1,e2,s.bC _ _ _ e3⟩
theorem ue.mono{v:acb}{x:Str}(h:ue H v x)(s:∀a o,H a=O (.bC o kB)->H' a=O (.bC o kB)):ue H' v x:=
 let ⟨c,oc,vs,t,e1,e2,e3⟩:=h;⟨c,oc,vs,t,e1,s _ _ e2,e3⟩
theorem yu.mono{x:Str}{o:Obj}{cl:List (Str×abV)}(h:yu K H x o cl)(s:∀a o,H a=O (.bC o kB)->H' a=O (.bC o kB)):yu K H' x o cl:=
 let ⟨L,pm,v,De,e1,e2,e3,e4⟩:=h;⟨L,pm,v,De,e1,e2,e3.mono s,e4⟩
theorem qj.mono(s:∀a o,H a=O (.bC o kB)->H' a=O (.bC o kB)):∀{cl:List (Str×abV)} {vs:aJ},qj H cl vs->qj H' cl vs
 | [],[],_=>trivial
 | _::_,_::_,⟨⟨oc,u,e1,e2⟩,d,r⟩=>⟨⟨oc,u,s _ _ e1,e2⟩,d,qj.mono s r⟩
 | [],_::_,h=>h.elim
 | _::_,[],h=>h.elim
mutual
theorem aQ.mono(s:Step K φ n H ak n' H'):∀{w:W} {v:V},aQ K φ n H w v->aQ K ak n' H' w v
 | _,_,.ay=>.ay
 | _,_,.bl b=>.bl b
 | _,_,.int i=>.int i
 | _,_,.str x=>.str x
 | _,_,.tup h r=>.tup (s.tup _ _ h) (a9.mono s r)
 | _,_,.fl h r=>.fl (h.elim (λ⟨o,e⟩=>.inl ⟨o,s.bC _ _ _ e⟩) .inr) (a9.mono s r)
 | _,_,.ref (i:=i) h=>(s.eq i h)▸.ref (aci h s.le)
 | _,_,.exc h hc hn hk hf r=>.exc (s.bC _ _ _ h) hc hn hk (hf.mono s) (a9.mono s r)
 | _,_,.fn h hl hc r=>.fn (s.bC _ _ _ h) (hl.mono λa o z=>s.bC a o _ z) (hc.mono λa o z=>s.bC a o _ z) (a9.mono s r)
 | _,_,.kt h r=>.kt h (a9.mono s r)
theorem a9.mono(s:Step K φ n H ak n' H'):∀{ws:aw} {vs:aJ},a9 K φ n H ws vs->a9 K ak n' H' ws vs
 | _,_,.nil=>.nil
 | _,_,.cons h r=>.cons (aQ.mono s h) (a9.mono s r)
end
theorem a9.length:∀{ws:aw} {vs:aJ},a9 K φ n H ws vs->↑ws=↑vs
 | _,_,.nil=>rfl
 | _,_,.cons _ r=>by simp[a9.length r]
theorem a9.get:∀{ws:aw} {vs:aJ} {i:Nat} {w:W},a9 K φ n H ws vs->ws[i]? =O w->∃v,vs[i]? =O v/\aQ K φ n H w v
 | _,_,_,_,.nil,e=>by simp at e
 | _,_,0,_,.cons h _,e=>by simp at e;subst e;exact⟨_,rfl,h⟩
 | _,_,i+1,w,.cons _ r,e=>by
  obtain⟨u,h1,h2⟩:=a9.get (i:=i) (w:=w) r (by simpa using e);exact⟨u,by simpa using h1,h2⟩
theorem a9.append:∀{ws xs:aw} {vs us:aJ},a9 K φ n H ws vs->a9 K φ n H xs us->a9 K φ n H (ws++xs) (vs++us)
 | _,_,_,_,.nil,s=>s
 | _,_,_,_,.cons h r,s=>.cons h (a9.append r s)
theorem a9.take:∀{ws:aw} {vs:aJ} (k:Nat),a9 K φ n H ws vs->a9 K φ n H (ws.take k) (vs.take k)
 | _,_,0,_=>.nil
 | _,_,_+1,.nil=>.nil
 | _,_,k+1,.cons h r=>.cons h (a9.take k r)
theorem a9.drop:∀{ws:aw} {vs:aJ} (k:Nat),a9 K φ n H ws vs->a9 K φ n H (ws.drop k) (vs.drop k)
 | _,_,0,r=>r
 | _,_,_+1,.nil=>.nil
 | _,_,k+1,.cons h r=>a9.drop k r
theorem a9.set{w:W}{v:V}(q:aQ K φ n H w v):∀{ws:aw} {vs:aJ} (i:Nat),a9 K φ n H ws vs->a9 K φ n H (ws.set i w) (vs.set i v)
 | _,_,_,.nil=>.nil
 | _,_,0,.cons _ r=>.cons q r
 | _,_,i+1,.cons h r=>.cons h (a9.set q i r)
end
noncomputable def b9:Key->W
 | .inl i=>.int i
 | .inr x=>.str x
inductive bV(K:abG)(φ:Nat->abV)(n:Nat)(H:Hp):bN->List (Key×V)->Prop where
 | nil:bV K φ n H [] []
 | cons {k:Key} {w:W} {v:V} {kws:bN} {kvs:dc} (h:aQ K φ n H w v) (r:bV K φ n H kws kvs):bV K φ n H ((b9 k,w)::kws) ((k,v)::kvs)
inductive cH(K:abG)(φ:Nat->abV)(n:Nat)(H:Hp):bN->List (cC×V)->Prop where
 | nil:cH K φ n H [] []
 | cons {k:cC} {w:W} {v:V} {kws:bN} {kvs:gK} (h:aQ K φ n H w v) (r:cH K φ n H kws kvs):cH K φ n H ((.tup (k.map b9),w)::kws) ((k,v)::kvs)
theorem bV.mono{K:abG}{φ ak:Nat->abV}{n n':Nat}{H H':Hp}(s:Step K φ n H ak n' H'):∀{ws:bN} {vs:dc},bV K φ n H ws vs->bV K ak n' H' ws vs
 | _,_,.nil=>.nil
 | _,_,.cons h r=>.cons (h.mono s) (bV.mono s r)
theorem cH.mono{K:abG}{φ ak:Nat->abV}{n n':Nat}{H H':Hp}(s:Step K φ n H ak n' H'):∀{ws:bN} {vs:gK},cH K φ n H ws vs->cH K ak n' H' ws vs
 | _,_,.nil=>.nil
 | _,_,.cons h r=>.cons (h.mono s) (cH.mono s r)
noncomputable def kA:W->Option Key
 | .int i=>O (.inl i)
 | .bl b=>O (.inl (if b then 1 else 0))
 | .str x=>O (.inr x)
 | _=>Z
noncomputable def LM:aw->Option cC
 | []=>O []
 | v::vs=>match kA v,LM vs with
  | some k,O ks=>O (k::ks)
  | _,_=>Z
noncomputable def RelK(K:abG)(φ:Nat->abV)(n:Nat)(H:Hp)(k:W)(u:V):Prop:=(aQ K φ n H k u/\∀ws,k≠.kt ws)\/∃ws a vs ks,k=.kt ws/\u=.pv a ks/\m9 K a vs/\a9 K φ n H ws vs/\LM ws=O ks
theorem RelK.mono{K:abG}{φ ak:Nat->abV}{n n':Nat}{H H':Hp}(s:Step K φ n H ak n' H'){k:W}{u:V}(r:RelK K φ n H k u):RelK K ak n' H' k u:=
 r.elim (λz=>.inl ⟨z.1.mono s,z.2⟩) λ⟨ws,a,vs,ks,e1,e2,e3,e4,e5⟩=>.inr ⟨ws,a,vs,ks,e1,e2,e3,a9.mono s e4,e5⟩
inductive ly(K:abG)(φ:Nat->abV)(n:Nat)(H:Hp):bN->List (V×V)->Prop where
 | nil:ly K φ n H [] []
 | cons {k w:W} {u v:V} {kws:bN} {kvs:List (V×V)} (hk:RelK K φ n H k u) (h:aQ K φ n H w v) (r:ly K φ n H kws kvs):ly K φ n H ((k,w)::kws) ((u,v)::kvs)
theorem ly.mono{K:abG}{φ ak:Nat->abV}{n n':Nat}{H H':Hp}(s:Step K φ n H ak n' H'):∀{ws:bN} {vs:List (V×V)},ly K φ n H ws vs->ly K ak n' H' ws vs
 | _,_,.nil=>.nil
 | _,_,.cons hk h r=>.cons (hk.mono s) (h.mono s) (ly.mono s r)
inductive nc(K:abG)(φ:Nat->abV)(n:Nat)(H:Hp):List (Str×W)->List (Str×V)->Prop where
 | nil:nc K φ n H [] []
 | cons {f:Str} {w:W} {v:V} {fs:List (Str×W)} {vs:List (Str×V)} (h:aQ K φ n H w v) (r:nc K φ n H fs vs):nc K φ n H ((f,w)::fs) ((f,v)::vs)
theorem nc.mono{K:abG}{φ ak:Nat->abV}{n n':Nat}{H H':Hp}(s:Step K φ n H ak n' H'):∀{ws:List (Str×W)} {vs:List (Str×V)},nc K φ n H ws vs->nc K ak n' H' ws vs
 | _,_,.nil=>.nil
 | _,_,.cons h r=>.cons (h.mono s) (nc.mono s r)
noncomputable def mO(K:abG)(φ:Nat->abV)(n:Nat)(H:Hp)(o:PO)(a:abV):Prop:=match o with
 | .lst ws=>∃vs,H a=O (.lst vs)/\a9 K φ n H ws vs
 | .bI kws=>(∃kvs,H a=O (.dK kvs)/\bV K φ n H kws kvs)\/∃kvs,H a=O (.dT kvs)/\cH K φ n H kws kvs
 | .obj c fs=>∃C dx vs,acx K acm c=O (O (.ref C))/\H a=O (.ins C dx vs)/\nc K φ n H fs vs
 | .zc kws=>∃kvs,H a=O (.dU kvs)/\ly K φ n H kws kvs/\(kws.map (·.1)).Nodup
 | .ve kws=>∃o,o.cls=.type "dict"/\((∃kvs,H a=O (.bC o (.dK kvs))/\bV K φ n H kws kvs)\/∃kvs,H a=O (.bC o (.dT kvs))/\cH K φ n H kws kvs)
 | .vg kws=>∃o kvs,o.cls=.type "dict"/\H a=O (.bC o (.dU kvs))/\ly K φ n H kws kvs/\(kws.map (·.1)).Nodup
structure aH(K:abG)(φ:Nat->abV)(ph:PH)(H:Hp):Prop where
 hp:∀i o,ph[i]? =O o->mO K φ ↑ph H o (φ i)
 inj:∀i j,i<↑ph->j<↑ph->φ i=φ j->i=j
 tb:∀p∈kl K,m8 H p.1 p.2.2
theorem m8.upd{H:Hp}{x:Str}{P a:abV}{o:HO}(h:m8 H x P)(n1:∀ps,H a≠O (.ir ps))(n2:∀oc,H a≠O (.bC oc kB)):m8 (upd H a o) x P:=by
 obtain⟨ps,e1,e2,e3⟩:=h;refine⟨ps,?_,e2,λpos v e=>?_⟩
 ·rw[bF (λz=>n1 ps (by rw[<- z];exact e1))];exact e1
 ·obtain⟨c,oc,vs,t,f1,f2,f3⟩:=e3 pos v e;refine⟨c,oc,vs,t,f1,?_,f3⟩;rw[bF (λz=>n2 oc (by rw[<- z];exact f2))];exact f2
variable{o:HO}
theorem m8.new{x:Str}{P:abV}(h:m8 H x P)(hn:H a=Z):m8 (L2.upd H a o) x P:=h.upd (λ_ z=>by rw[hn] at z;cases z) λ_ z=>by rw[hn] at z;cases z
inductive aZ(K:abG)(φ:Nat->abV)(n:Nat)(H:Hp):aG->L2.St->Prop where
 | nil:aZ K φ n H [] []
 | sm {w:W} {v:V} {ws:aG} {vs:L2.St} (h:aQ K φ n H w v) (r:aZ K φ n H ws vs):aZ K φ n H (O w::ws) (O v::vs)
 | nn {v:Option V} {ws:aG} {vs:L2.St} (r:aZ K φ n H ws vs):aZ K φ n H (Z::ws) (v::vs)
section
variable{K:abG}{φ ak Df:Nat->abV}{n n' Dg:Nat}{H H' eQ:Hp}{ph:PH}
theorem aZ.mono(s:Step K φ n H ak n' H'):∀{ws:aG} {vs:L2.St},aZ K φ n H ws vs->aZ K ak n' H' ws vs
 | _,_,.nil=>.nil
 | _,_,.sm h r=>.sm (h.mono s) (aZ.mono s r)
 | _,_,.nn r=>.nn (aZ.mono s r)
theorem aZ.get:∀{ws:aG} {vs:L2.St} {i:Nat} {w:W},aZ K φ n H ws vs->ws[i]? =O (O w)->∃v,vs[i]? =O (O v)/\aQ K φ n H w v
 | _,_,_,_,.nil,e=>by simp at e
 | _,_,0,_,.sm h _,e=>by simp at e;subst e;exact⟨_,rfl,h⟩
 | _,_,0,_,.nn _,e=>by simp at e
 | _,_,i+1,w,.sm _ r,e=>by
  obtain⟨u,h1,h2⟩:=aZ.get (i:=i) (w:=w) r (by simpa using e);exact⟨u,by simpa using h1,h2⟩
 | _,_,i+1,w,.nn r,e=>by
  obtain⟨u,h1,h2⟩:=aZ.get (i:=i) (w:=w) r (by simpa using e);exact⟨u,by simpa using h1,h2⟩
theorem aZ.set{w:W}{v:V}(q:aQ K φ n H w v):∀{ws:aG} {vs:L2.St} (i:Nat),aZ K φ n H ws vs->aZ K φ n H (ws.set i (aeA w)) (vs.set i (aeA v))
 | _,_,_,.nil=>.nil
 | _,_,0,.sm _ r=>.sm q r
 | _,_,0,.nn r=>.sm q r
 | _,_,i+1,.sm h r=>.sm h (aZ.set q i r)
 | _,_,i+1,.nn r=>.nn (aZ.set q i r)
theorem aZ.start:∀{ws:aw} {vs:aJ} (k:Nat),a9 K φ n H ws vs->aZ K φ n H (ws.map aeA++abS k aic) (vs.map aeA++abS k aic)
 | _,_,0,.nil=>.nil
 | _,_,k+1,.nil=>.nn (aZ.start k .nil)
 | _,_,k,.cons h r=>.sm h (aZ.start k r)
theorem mO.some{o:PO}{a:abV}(h:mO K φ n H o a):∃x,H a=aeA x/\(o.fz=false->lM (aeA x)):=by
 cases o with
 | lst ws=>obtain⟨vs,e,_⟩:=h;exact⟨_,e,λ_=>trivial⟩
 | bI kws=>
  rcases h with⟨vs,e,_⟩ | ⟨vs,e,_⟩
  ·exact⟨_,e,λ_=>trivial⟩
  ·exact⟨_,e,λ_=>trivial⟩
 | obj c fs=>obtain⟨C,dx,vs,_,e,_⟩:=h;exact⟨_,e,λ_=>trivial⟩
 | zc kws=>obtain⟨kvs,e,_⟩:=h;exact⟨_,e,λ_=>trivial⟩
 | vg kws=>obtain⟨o,kvs,_,e,_⟩:=h;exact⟨_,e,λz=>nomatch z⟩
 | ve kws=>
  obtain⟨o,_,⟨vs,e,_⟩ | ⟨vs,e,_⟩⟩:=h
  ·exact⟨_,e,λz=>nomatch z⟩
  ·exact⟨_,e,λz=>nomatch z⟩
theorem mO.mono{o:PO}{a:abV}(s:Step K φ n H ak n' H')(e:H' a=H a)(h:mO K φ n H o a):mO K ak n' H' o a:=by
 cases o with
 | lst ws=>obtain⟨vs,q,r⟩:=h;exact⟨vs,e.trans q,r.mono s⟩
 | bI kws=>
  rcases h with⟨vs,q,r⟩ | ⟨vs,q,r⟩
  ·exact .inl ⟨vs,e.trans q,r.mono s⟩
  ·exact .inr ⟨vs,e.trans q,r.mono s⟩
 | obj c fs=>obtain⟨C,dx,vs,q1,q2,r⟩:=h;exact⟨C,dx,vs,q1,e.trans q2,r.mono s⟩
 | zc kws=>obtain⟨kvs,q,r,nd⟩:=h;exact⟨kvs,e.trans q,r.mono s,nd⟩
 | vg kws=>obtain⟨o,kvs,hc,q,r,nd⟩:=h;exact⟨o,kvs,hc,e.trans q,r.mono s,nd⟩
 | ve kws=>
  obtain⟨o,hc,⟨vs,q,r⟩ | ⟨vs,q,r⟩⟩:=h
  ·exact⟨o,hc,.inl ⟨vs,e.trans q,r.mono s⟩⟩
  ·exact⟨o,hc,.inr ⟨vs,e.trans q,r.mono s⟩⟩
variable{i:Nat}
theorem aH.at(h:aH K φ ph H)(hi:i<↑ph):∃x,H (φ i)=aeA x/\(ph[i].fz=false->lM (aeA x)):=(h.hp i ph[i] (by simp[hi])).some
theorem aH.mu(h:aH K φ ph H){o:PO}(hw:ph[i]? =aeA o)(hz:o.fz=false):∃x,H (φ i)=aeA x/\lM (aeA x):=let ⟨x,e,k⟩:=(h.hp i o hw).some;⟨x,e,k hz⟩
theorem gI{p:abV}{xs:aJ}(hp:H p=Z):Step K φ n H φ n (upd H p (.tup xs)):=by
 refine⟨abO _,λ_ _=>rfl,λa ys h=>?_,λa o u h=>?_⟩
 ·rw[bF (gH h hp)];exact h
 ·rw[bF (gH h hp)];exact h
theorem aH.tup{p:abV}{xs:aJ}(h:aH K φ ph H)(hp:H p=Z):aH K φ ph (upd H p (.tup xs)):=by
 refine⟨λi o e=>?_,h.inj,λp hm=>(h.tb p hm).new hp⟩;have hi:i<↑ph:=(abL.mp e).1;obtain⟨x,ex,_⟩:=h.at hi;exact(h.hp i o e).mono (gI hp) (bF (gH ex hp))
noncomputable def ext(φ:Nat->abV)(n:Nat)(p:abV):Nat->Addr:=λi=>if i=n then p else φ i
theorem qm{p:abV}(h:i<n):ext φ n p i=φ i:=by unfold ext;rw[if_neg ∅]
theorem mI{p:abV}:ext φ n p n=p:=by unfold ext;rw[if_pos rfl]
theorem AI{p:abV}{o:HO}(hp:H p=Z):Step K φ n H (ext φ n p) (n+1) (upd H p o):=by
 refine⟨ahl _,λi h=>qm h,λa ys h=>?_,λa o u h=>?_⟩
 ·rw[bF (gH h hp)];exact h
 ·rw[bF (gH h hp)];exact h
theorem aH.new{p:abV}{x:HO}{o:PO}(h:aH K φ ph H)(hp:H p=Z)(r:mO K (ext φ ↑ph p) (↑ph+1) (upd H p x) o p):aH K (ext φ ↑ph p) (ph++[o]) (upd H p x):=by
 refine⟨λi o' e=>?_,λi j hi hj e=>?_,λp hm=>(h.tb p hm).new hp⟩
 ·rw[acg];by_cases hi:i<↑ph
  ·rw[ado hi] at e;obtain⟨y,ey,_⟩:=h.at hi;rw[qm hi];exact(h.hp i o' e).mono (AI hp) (bF (gH ey hp))
  ·have hl:=(abL.mp e).1;simp at hl;have:i=↑ph:=by omega
   subst this;simp at e;subst e;rw[mI];exact r
 ·simp at hi hj
  have key:∀k,k<↑ph->φ k≠p:=λk hk z=>by
   obtain⟨y,ey,_⟩:=h.at hk;rw[z,hp] at ey;cases ey
  by_cases h1:i<↑ph <;> by_cases h2:j<↑ph
  ·rw[qm h1,qm h2] at e;exact h.inj i j h1 h2 e
  ·have:j=↑ph:=by omega
   subst this;rw[qm h1,mI] at e;exact(key i h1 e).elim
  ·have:i=↑ph:=by omega
   subst this;rw[qm h2,mI] at e;exact(key j h2 e.symm).elim
  ·omega
theorem ms{a:abV}{x y:HO}(ha:H a=O x)(mx:lM (O x)):Step K φ n H φ n (upd H a y):=by
 refine⟨abO _,λ_ _=>rfl,λc ys h=>?_,λc o u h=>?_⟩
 ·rw[bF (qz h ha (by rintro rfl;exact mx))];exact h
 ·rw[bF (qz h ha (by rintro rfl;exact mx))];exact h
theorem aH.put{x:HO}{o o0:PO}(h:aH K φ ph H)(hw:ph[i]? =O o0)(hz:o0.fz=false)(r:mO K φ ↑ph (upd H (φ i) x) o (φ i)):aH K φ (ph.set i o) (upd H (φ i) x):=by
 have hi:i<↑ph:=(abL.mp hw).1;obtain⟨y,ey,my⟩:=h.mu hw hz;refine⟨λj o' e=>?_,λj k hj hk e=>?_,λp hm=>(h.tb p hm).upd (λps z=>?_) λoc z=>?_⟩
 ·rw[adU];by_cases hj:j=i
  ·subst hj;rw[aeV hi] at e;cases e;exact r
  ·rw[aea (adD hj)] at e;have j1:=(abL.mp e).1;exact(h.hp j o' e).mono (ms ey my) (bF λz=>hj (h.inj j i j1 hi z))
 ·rw[adU] at hj hk;exact h.inj j k hj hk e
 ·rw[ey] at z;cases z;exact my
 ·rw[ey] at z;cases z;exact my
end
abbrev gi(C:abV)(dd:ce)(t:abV):Obj:={ cls:=.ref C,dict:=dd,data:=.fields #[.ref t,.none,.none,.none,.bool false,.none] }
structure mP(h h':adt)(a C:abV)(dd:ce):Prop where
 keeps:∀b o,h.get? b=O o->h'.get? b=O o
 new:h.get? a=Z
 there:∃o vs t,h'.get? a=O o/\kk o=(.ref C,dd)/\o.data=.fields vs/\vs[0]? =O (.ref t)/\vs[1]? =O .none
variable{C:abV}
theorem mP.LN{h':adt}{t:abV}{dd:ce}(e:h'.get? a=O (gi C dd t)):∃o vs t,h'.get? a=O o/\kk o=(.ref C,dd)/\o.data=.fields vs/\vs[0]? =O (.ref t)/\vs[1]? =O .none:=⟨_,_,t,e,rfl,rfl,rfl,rfl⟩
variable{h:adt}
theorem mP.of{h':adt}{vs:aS}(x:Heap.MadeExcOf h h' a (.ref C) vs):mP h h' a C none:=⟨x.keeps,x.new,let ⟨_,e,_⟩:=x.there;mP.LN e⟩
noncomputable def Made(X:Cx)(C:abV)(dd:ce)(H':Hp)(e:acb)(s':abT):Prop:=
 ∃pins σ s h' a,e=.ref a/\s'={ s with heap:=h' }/\Inv X pins σ H' s/\mP s.heap h' a C dd
structure LO(fs:List abV)(H H':Hp)(h B h':adt):Prop where
 keep:∀b o,h.get? b=O o->H b=Z->b∉fs->B.get? b=O o
 slot:∀b o,h.get? b=O o->H b=Z->b∈fs->∃sl,h'.get? b=O { o with slots:=sl }
 free:∀b o,h.get? b=O o->H b=Z->H' b=Z
 there:∀b o,h.get? b=O o->b∉fs->∃o',B.get? b=O o'
 g7:∀b xs,H b=O (.tup xs)->H' b=O (.tup xs)
 fU:∀b o u,H b=O (.bC o u)->H' b=O (.bC o u)
 gL:∀b ps,H b=O (.ir ps)->∃more,H' b=O (.ir (ps++more))
noncomputable def Flew(P:acL)(w:adl)(l:List Env)(H:Hp)(s:abT)(C:abV)(dd:ce)(H':Hp)(e:acb)(s':abT):Prop:=
 ∃a a0 B,e=.ref a/\s'.os=s.os/\ahf s'.gens/\adt.jK B l a (.ref C,dd) a0 s'.heap/\cI P w H' B/\LO (dz l) H H' s.heap B s'.heap
noncomputable def vh(K:abG)(φ:Nat->abV)(n:Nat)(H:Hp)(dd:ce)(fs:List (Str×W)):Prop:=fs=[]\/∃d od f w v,dd=O d/\fs=[(f,w)]/\H d=O (.bC od (.xd [(f,v)]))/\aQ K φ n H w v
noncomputable def kM(X:Cx)(φ:Nat->abV)(n:Nat)(x:XC)(H':Hp)(e:acb)(s':abT):Prop:=∃C dd,X.mg x.cls=O (.ref C)/\vh X.K φ n H' dd x.fs/\(Made X C dd H' e s'\/∃pins σ H s,Inv X pins σ H s/\Flew X.prog X.w X.stack H s C dd H' e s')
noncomputable def XE(X:Cx)(φ:Nat->abV)(n:Nat)(H:Hp):XC->PH->Prop:=λx ph'=>∀ak H' e s',aH X.K ak ph' H'->Step X.K φ n H ak ↑ph' H'->kM X ak ↑ph' x H' e s'->X.xe e s'
variable{X:Cx}{φ:Nat->abV}{n:Nat}{ph':PH}
theorem XE.step{av:Nat->abV}{n1:Nat}{H1:Hp}{x:XC}(h:XE X φ n H x ph')(s:Step X.K φ n H av n1 H1):XE X av n1 H1 x ph':=λak H' e s' r t q=>h ak H' e s' r (s.trans t) q
noncomputable def tM(X:Cx)(m:EM):TE:=λσ H Q=>∃φ ph ws,aH X.K φ ph H/\aZ X.K φ ↑ph H ws σ/\(m ws ph).Run (λw ph'=>
 ∀ak H' v,aH X.K ak ph' H'->Step X.K φ ↑ph H ak ↑ph' H'->aQ X.K ak ↑ph' H' w v->Q v H') (XE X φ ↑ph H)
noncomputable def tT(X:Cx)(m:TM):TT:=λσ H Q=>∃φ ph ws,aH X.K φ ph H/\aZ X.K φ ↑ph H ws σ/\(m ws ph).Run (λb ph'=>
 ∀ak H',aH X.K ak ph' H'->Step X.K φ ↑ph H ak ↑ph' H'->Q b H') (XE X φ ↑ph H)
noncomputable def tA(X:Cx)(m:AM):TA:=λσ H Q=>∃φ ph ws,aH X.K φ ph H/\aZ X.K φ ↑ph H ws σ/\(m ws ph).Run (λxs ph'=>
 ∀ak H' vs,aH X.K ak ph' H'->Step X.K φ ↑ph H ak ↑ph' H'->a9 X.K ak ↑ph' H' xs vs->Q vs H') (XE X φ ↑ph H)
noncomputable def yv(X:Cx)(D:Ends)(ak:Nat->abV)(ph':PH)(H':Hp)(f:Fl):Prop:=match f with
 | .nx cO=>∀ao,aZ X.K ak ↑ph' H' cO ao->D.nx ao H'
 | .bk cO=>∀ao,aZ X.K ak ↑ph' H' cO ao->D.bk ao H'
 | .ct cO=>∀ao,aZ X.K ak ↑ph' H' cO ao->D.ct ao H'
 | .rt w=>∀v,aQ X.K ak ↑ph' H' w v->D.rt v H'
noncomputable def tS(X:Cx)(m:SM):TS:=λD σ H=>∃φ ph ws,aH X.K φ ph H/\aZ X.K φ ↑ph H ws σ/\(m ws ph).Run (λf ph'=>
 ∀ak H',aH X.K ak ph' H'->Step X.K φ ↑ph H ak ↑ph' H'->yv X D ak ph' H' f) (XE X φ ↑ph H)
section
variable{X:Cx}{e:adA}
theorem PE.imp{t t':TE}(h:PE X e t)(k:∀σ H Q,t' σ H Q->t σ H Q):PE X e t':=λpins s σ H Q I q=>h pins s σ H Q I (k σ H Q q)
theorem PT.imp{t t':TT}(h:PT X e t)(k:∀σ H Q,t' σ H Q->t σ H Q):PT X e t':=λpins s σ H Q I q=>h pins s σ H Q I (k σ H Q q)
theorem PA.imp{es:bS}{t t':TA}(h:PA X es t)(k:∀σ H Q,t' σ H Q->t σ H Q):PA X es t':=λpos pins s σ H Q I q=>h pos pins s σ H Q I (k σ H Q q)
theorem PS.imp{st:ahZ}{t t':TS}(h:PS X st t)(k:∀D σ H,t' D σ H->t D σ H):PS X st t':=λpins s σ H D I q=>h pins s σ H D I (k D σ H q)
theorem iu.imp{st:d8}{t t':TS}(h:iu X st t)(k:∀D σ H,t' D σ H->t D σ H):iu X st t':=λpins s σ H D I q=>h pins s σ H D I (k D σ H q)
abbrev IE(X:Cx)(e:adA)(m:EM):Prop:=PE X e (tM X m)
abbrev IT(X:Cx)(e:adA)(m:TM):Prop:=PT X e (tT X m)
abbrev IA(X:Cx)(es:bS)(m:AM):Prop:=PA X es (tA X m)
abbrev IS(X:Cx)(st:ahZ)(m:SM):Prop:=PS X st (tS X m)
abbrev hU(X:Cx)(st:d8)(m:SM):Prop:=iu X st (tS X m)
end
noncomputable def af(i:Nat):EM:=λσ=>lift λph=>match σ[i]? with
 | some (O w)=>O (w,ph)
 | _=>Z
noncomputable def eC(w:W):EM:=λ_=>aD w
noncomputable def ah(f:W->W->Po W)(a b:EM):EM:=λσ=>ax (a σ) λx=>ax (b σ) λy=>lift (f x y)
noncomputable def fY(f:W->Po W)(a:EM):EM:=λσ=>ax (a σ) λx=>lift (f x)
noncomputable def cK(K:abG)(r:R2)(f:W->W->Po W):Prop:=∀{φ:Nat->abV} {ph:PH} {H:Hp} {x y:W} {vx vy:V} {w:W} {ph':PH} {Q:VK},aH K φ ph H->aQ K φ ↑ph H x vx->aQ K φ ↑ph H y vy->f x y ph=O (w,ph') →
 (∀ak H' v,aH K ak ph' H'->Step K φ ↑ph H ak ↑ph' H'->aQ K ak ↑ph' H' w v->Q v H')->r vx vy H Q
noncomputable def LP(K:abG)(r:V->Hp->VK->Prop)(f:W->Po W):Prop:=∀{φ:Nat->abV} {ph:PH} {H:Hp} {x:W} {vx:V} {w:W} {ph':PH} {Q:VK},aH K φ ph H->aQ K φ ↑ph H x vx->f x ph=O (w,ph') →
 (∀ak H' v,aH K ak ph' H'->Step K φ ↑ph H ak ↑ph' H'->aQ K ak ↑ph' H' w v->Q v H')->r vx H Q
section
variable{X:Cx}{a b c:adA}{ma mb mc:EM}{pos:Pos}
theorem US(i:Nat){x:Str}(hN:X.N[i]? =O x:=by rfl)(hv:ju X.env.scope x:=by first | exact Or.inl rfl | exact Or.inr (Or.inl rfl) | exact Or.inr (Or.inr rfl))(hd:(x==("__debug__":Str))=false:=by decide)
  (hcd:(x==("__classdict__":Str))=false:=by decide):IE X (.Name x pos) (af i):=by
 refine PE.imp (Bv hN hv hd hcd) λσ H Q h=>?_
 obtain⟨φ,ph,ws,hH,hS,h⟩:=h;obtain⟨w,ph',e,k⟩:=run_lift h;split at e
 ·rename_i w' ew;cases e;obtain⟨v,ev,rv⟩:=hS.get ew;exact⟨v,ev,k φ H v hH Step.refl rv⟩
 ·cases e
theorem oW{t:V}{w:W}(h:PE X a (tC t))(r:∀φ n H,aQ X.K φ n H w t):IE X a (eC w):=by
 refine PE.imp h λσ H Q h=>?_
 obtain⟨φ,ph,ws,hH,hS,h⟩:=h;exact h φ H _ hH Step.refl (r _ _ _)
variable{j:Nat}
theorem UT{i:Int}:IE X (.Constant (.int i) j pos) (eC (.int i)):=oW Ui λ_ _ _=>.int i
theorem IC{x:Str}:IE X (.Constant (.str x) j pos) (eC (.str x)):=oW Iu λ_ _ _=>.str x
theorem XJ{x:Bool}:IE X (.Constant (.bool x) j pos) (eC (.bl x)):=oW Xk λ_ _ _=>.bl x
theorem UU:IE X (.Constant .none j pos) (eC .ay):=oW Uj λ_ _ _=>.ay
variable{β:Type}{σ:L2.St}{H:Hp}{φ:Nat->abV}{ph:PH}{ws:aG}
theorem tM.bind{m:EM}{Q:VK}{f:W->Mo β}{N:β->PH->Prop}(hH:aH X.K φ ph H)(hS:aZ X.K φ ↑ph H ws σ)(h:(ax (m ws) f ph).Run N (XE X φ ↑ph H))(k:∀w ph1 av H1 v,aH X.K av ph1 H1->Step X.K φ ↑ph H av ↑ph1 H1->aQ X.K av ↑ph1 H1 w v->(f w ph1).Run N (XE X av ↑ph1 H1)->Q v H1):tM X m σ H Q:=by
 rw[dW] at h;exact⟨φ,ph,ws,hH,hS,h.mono (λw ph1 h1 av H1 v aB s1 r1=>k w ph1 av H1 v aB s1 r1 (h1.mono (λ_ _ z=>z) λ_ _ z=>z.step s1)) λ_ _ z=>z⟩
theorem tT.bind{m:TM}{Q:Bool->Hp->Prop}{f:Bool->Mo β}{N:β->PH->Prop}(hH:aH X.K φ ph H)(hS:aZ X.K φ ↑ph H ws σ)(h:(ax (m ws) f ph).Run N (XE X φ ↑ph H))(k:∀b ph1 av H1,aH X.K av ph1 H1->Step X.K φ ↑ph H av ↑ph1 H1->(f b ph1).Run N (XE X av ↑ph1 H1)->Q b H1):tT X m σ H Q:=by
 rw[dW] at h;exact⟨φ,ph,ws,hH,hS,h.mono (λb ph1 h1 av H1 aB s1=>k b ph1 av H1 aB s1 (h1.mono (λ_ _ z=>z) λ_ _ z=>z.step s1)) λ_ _ z=>z⟩
theorem tA.bind{m:AM}{Q:aJ->Hp->Prop}{f:aw->Mo β}{N:β->PH->Prop}(hH:aH X.K φ ph H)(hS:aZ X.K φ ↑ph H ws σ)(h:(ax (m ws) f ph).Run N (XE X φ ↑ph H))(k:∀xs ph1 av H1 vs,aH X.K av ph1 H1->Step X.K φ ↑ph H av ↑ph1 H1->a9 X.K av ↑ph1 H1 xs vs->(f xs ph1).Run N (XE X av ↑ph1 H1)->Q vs H1):tA X m σ H Q:=by
 rw[dW] at h;exact⟨φ,ph,ws,hH,hS,h.mono (λw ph1 h1 av H1 v aB s1 r1=>k w ph1 av H1 v aB s1 r1 (h1.mono (λ_ _ z=>z) λ_ _ z=>z.step s1)) λ_ _ z=>z⟩
variable{r:R2}{f:W->W->Po W}
theorem tE(hi:cK X.K r f){Q:VK}(h:tM X (ah f ma mb) σ H Q):pB r (tM X ma) (tM X mb) σ H Q:=by
 obtain⟨φ,ph,ws,hH,hS,h⟩:=h;refine tM.bind hH hS h λx ph1 av H1 vx aB s1 rx h=>tM.bind aB (hS.mono s1) h λy ph2 bf H2 vy bu s2 ry h=>?_
 obtain⟨w,ph',e,k⟩:=run_lift h;exact hi bu (rx.mono s2) ry e λgc H3 v eS s3 r3=>k gc H3 v eS ((s1.trans s2).trans s3) r3
theorem qB{op:Operator}(ho:bH X (afj op) r)(hi:cK X.K r f)(ha:IE X a ma)(hb:IE X b mb):IE X (.BinOp a op b pos) (ah f ma mb):=
 PE.imp (Xw ho ha hb) λ_ _ _ h=>tE hi h
theorem XM{op:UnaryOp}{r:V->Hp->VK->Prop}{f:W->Po W}(ho:yZ X (unaryOp op) r)(hi:LP X.K r f)(ha:IE X a ma):IE X (.UnaryOp op a pos) (fY f ma):=by
 refine PE.imp (Xx ho ha) λσ H Q h=>?_
 obtain⟨φ,ph,ws,hH,hS,h⟩:=h;refine tM.bind hH hS h λx ph1 av H1 vx aB s1 rx h=>?_
 obtain⟨w,ph',e,k⟩:=run_lift h;exact hi aB rx e λgc H3 v eS s3 r3=>k gc H3 v eS (s1.trans s3) r3
theorem UV{op:aiS}(ho:bH X (acU op) r)(hi:cK X.K r f)(ha:IE X a ma)(hb:IE X b mb)(hm:adB op b=false):IE X (.Compare a [op] [b] pos) (ah f ma mb):=
 PE.imp (Ry ho ha hb hm) λ_ _ _ h=>tE hi h
noncomputable def eT(m:EM):TM:=λσ=>ax (m σ) λw=>lift (match w with
 | .bl b=>ret b
 | _=>eG)
theorem UW{op:aiS}(ho:bH X (acU op) r)(hi:cK X.K r f)(ha:IE X a ma)(hb:IE X b mb)(hm:adB op b=false):IT X (.Compare a [op] [b] pos) (eT (ah f ma mb)):=by
 refine PT.imp (G9 ho ha hb hm) λσ H Q h=>?_
 obtain⟨φ,ph,ws,hH,hS,h⟩:=h;refine tE hi (tM.bind hH hS h λx ph1 av H1 vx aB s1 rx h=>?_);obtain⟨w,ph',e,k⟩:=run_lift h;split at e
 ·cases e;cases rx;exact⟨_,rfl,k av H1 aB s1⟩
 ·cases e
end
noncomputable def Dh(g:Int->Int->Int):W->W->Po W:=λx y=>match x,y with
 | .int i,.int j=>ret (.int (g i j))
 | _,_=>eG
noncomputable def qR(c:Int->Int->Bool)(g:Int->Int->Int):W->W->Po W:=λx y=>match x,y with
 | .int i,.int j=>if c i j=true then ret (.int (g i j)) else eG
 | _,_=>eG
noncomputable def qS(g:Int->Int->Bool):W->W->Po W:=λx y=>match x,y with
 | .int i,.int j=>ret (.bl (g i j))
 | _,_=>eG
theorem XN{g:Int->Int->Int}:cK K (jZ λi j=>.int (g i j)) (Dh g):=by
 intro φ ph H x y vx vy w ph' Q hH rx ry e k;unfold Dh at e;split at e
 ·cases e;cases rx;cases ry;exact⟨_,_,rfl,rfl,k φ H _ hH Step.refl (.int _)⟩
 ·cases e
theorem ID{C:Int->Int->Prop}{c:Int->Int->Bool}{g:Int->Int->Int}(hc:∀i j,c i j=true->C i j):cK K (rI C λi j=>.int (g i j)) (qR c g):=by
 intro φ ph H x y vx vy w ph' Q hH rx ry e k;unfold qR at e;split at e
 ·split at e
  ·cases e;cases rx;cases ry;exact⟨_,_,rfl,rfl,hc _ _ (by assumption),k φ H _ hH Step.refl (.int _)⟩
  ·cases e
 ·cases e
theorem By{g:Int->Int->Bool}:cK K (jZ λi j=>.bl (g i j)) (qS g):=by
 intro φ ph H x y vx vy w ph' Q hH rx ry e k;unfold qS at e;split at e
 ·cases e;cases rx;cases ry;exact⟨_,_,rfl,rfl,k φ H _ hH Step.refl (.bl _)⟩
 ·cases e
noncomputable def d9(a b:TM):TM:=λσ=>ax (a σ) λc=>if c=true then b σ else aD false
noncomputable def cF(a b:TM):TM:=λσ=>ax (a σ) λc=>if c=true then aD true else b σ
noncomputable def de(a:TM):TM:=λσ=>ax (a σ) λc=>aD (!c)
noncomputable def iO(a b:EM):EM:=λσ=>ax (a σ) λw=>match w with
 | .bl c=>if c=true then b σ else aD (.bl false)
 | _=>fF
noncomputable def rJ(a b:EM):EM:=λσ=>ax (a σ) λw=>match w with
 | .bl c=>if c=true then aD (.bl true) else b σ
 | _=>fF
noncomputable def yw(a:EM):EM:=λσ=>ax (a σ) λw=>match w with
 | .bl c=>aD (.bl (!c))
 | _=>fF
noncomputable def vj(t:TM)(a b:EM):EM:=λσ=>ax (t σ) λc=>if c=true then a σ else b σ
section
variable{X:Cx}{a b c:adA}{rest:bS}{ma mb mc:EM}{ta tb:TM}{pos:Pos}
theorem UX(ha:IT X a ta):IT X (.UnaryOp .Not a pos) (de ta):=by
 refine PT.imp (Um ha) λσ H Q h=>?_
 obtain⟨φ,ph,ws,hH,hS,h⟩:=h;exact tT.bind hH hS h λx ph1 av H1 aB s1 h=>h av H1 aB s1
variable{H:Hp}
theorem and_imp{σ:L2.St}{Q:Bool->Hp->Prop}(h:tT X (d9 ta tb) σ H Q):uy (tT X ta) (tT X tb) σ H Q:=by
 obtain⟨φ,ph,ws,hH,hS,h⟩:=h;refine tT.bind hH hS h λx ph1 av H1 aB s1 h=>?_
 cases x with
 | true=>exact m7 ⟨av,ph1,ws,aB,hS.mono s1,h.mono (λ_ _ k bf H2 bu s2=>k bf H2 bu (s1.trans s2)) λ_ _ z=>z⟩
 | false=>exact mZ (h av H1 aB s1)
theorem or_imp{σ:L2.St}{Q:Bool->Hp->Prop}(h:tT X (cF ta tb) σ H Q):Lw (tT X ta) (tT X tb) σ H Q:=by
 obtain⟨φ,ph,ws,hH,hS,h⟩:=h;refine tT.bind hH hS h λx ph1 av H1 aB s1 h=>?_
 cases x with
 | false=>exact mZ ⟨av,ph1,ws,aB,hS.mono s1,h.mono (λ_ _ k bf H2 bu s2=>k bf H2 bu (s1.trans s2)) λ_ _ z=>z⟩
 | true=>exact m7 (h av H1 aB s1)
theorem UY{op:BoolOp}(ha:IT X a ta):PW X (.BoolOp op [a] pos) (tT X ta):=by
 cases op with
 | And=>exact Rm ha
 | Or=>exact Uk ha
theorem UZ(ha:IT X a ta)(hb:PW X (.BoolOp .And (b::rest) pos) (tT X tb)):PW X (.BoolOp .And (a::b::rest) pos) (tT X (d9 ta tb)):=
 λwh pins s σ H Q I h=>Ul ha hb wh pins s σ H Q I (and_imp h)
theorem XO(ha:IT X a ta)(hb:PW X (.BoolOp .Or (b::rest) pos) (tT X tb)):PW X (.BoolOp .Or (a::b::rest) pos) (tT X (cF ta tb)):=
 λwh pins s σ H Q I h=>Xl ha hb wh pins s σ H Q I (or_imp h)
theorem U0(ha:IE X a ma)(hb:IE X (.BoolOp .And (b::rest) pos) mb):IE X (.BoolOp .And (a::b::rest) pos) (iO ma mb):=by
 refine PE.imp (Up ha hb) λσ H Q h=>?_
 obtain⟨φ,ph,ws,hH,hS,h⟩:=h;refine tM.bind hH hS h λx ph1 av H1 vx aB s1 rx h=>?_
 cases rx with
 | bl c=>
  refine⟨c,rfl,?_⟩;cases c with
  | true=>exact m7 ⟨av,ph1,ws,aB,hS.mono s1,h.mono (λ_ _ k bf H2 v bu s2 r2=>k bf H2 v bu (s1.trans s2) r2) λ_ _ z=>z⟩
  | false=>exact mZ (h av H1 _ aB s1 (.bl false))
 | _=>exact h.elim
theorem XQ(ha:IE X a ma)(hb:IE X (.BoolOp .Or (b::rest) pos) mb):IE X (.BoolOp .Or (a::b::rest) pos) (rJ ma mb):=by
 refine PE.imp (Xo ha hb) λσ H Q h=>?_
 obtain⟨φ,ph,ws,hH,hS,h⟩:=h;refine tM.bind hH hS h λx ph1 av H1 vx aB s1 rx h=>?_
 cases rx with
 | bl c=>
  refine⟨c,rfl,?_⟩;cases c with
  | false=>exact mZ ⟨av,ph1,ws,aB,hS.mono s1,h.mono (λ_ _ k bf H2 v bu s2 r2=>k bf H2 v bu (s1.trans s2) r2) λ_ _ z=>z⟩
  | true=>exact m7 (h av H1 _ aB s1 (.bl true))
 | _=>exact h.elim
theorem U1{op:BoolOp}(ha:IE X a ma):IE X (.BoolOp op [a] pos) ma:=Uo ha
theorem U2(ha:IE X a ma):IE X (.UnaryOp .Not a pos) (yw ma):=by
 refine PE.imp (Uq ha) λσ H Q h=>?_
 obtain⟨φ,ph,ws,hH,hS,h⟩:=h;refine tM.bind hH hS h λx ph1 av H1 vx aB s1 rx h=>?_
 cases rx with
 | bl c=>exact⟨_,rfl,h av H1 _ aB s1 (.bl _)⟩
 | _=>exact h.elim
theorem XR(hc:IT X c ta)(ha:IE X a ma)(hb:IE X b mb):IE X (.IfExp c a b pos) (vj ta ma mb):=by
 refine PE.imp (P2 hc ha hb) λσ H Q h=>?_
 obtain⟨φ,ph,ws,hH,hS,h⟩:=h;refine tT.bind hH hS h λx ph1 av H1 aB s1 h=>?_
 cases x with
 | true=>exact m7 ⟨av,ph1,ws,aB,hS.mono s1,h.mono (λ_ _ k bf H2 v bu s2 r2=>k bf H2 v bu (s1.trans s2) r2) λ_ _ z=>z⟩
 | false=>exact mZ ⟨av,ph1,ws,aB,hS.mono s1,h.mono (λ_ _ k bf H2 v bu s2 r2=>k bf H2 v bu (s1.trans s2) r2) λ_ _ z=>z⟩
noncomputable def qT(w:W):Po Bool:=λph=>match w with
 | .ay=>O (false,ph)
 | .bl b=>O (b,ph)
 | .int i=>O (i != 0,ph)
 | .str y=>if ↑y<=acd then O ((↑y:Int) != 0,ph) else Z
 | .tup ws=>O (!ws.isEmpty,ph)
 | .fl ws=>O (!ws.isEmpty,ph)
 | .ref i=>match ph[i]? with
  | some (.lst ws)=>O (!ws.isEmpty,ph)
  | _=>Z
 | .exc .. =>Z
 | .fn .. =>Z
 | .kt .. =>Z
noncomputable def bW(m:EM):TM:=λσ=>ax (m σ) λw=>lift (qT w)
theorem Bz{K:abG}{φ:Nat->abV}{n:Nat}{ws:aw}{vs:aJ}(r:a9 K φ n H ws vs):(!vs.isEmpty)= !ws.isEmpty:=by cases r <;> rfl
theorem U3(ha:IE X a ma)(he:∀whole,isTrue a X.env whole=(do let v <- whole;standAt a.pos;ags [v] (truthy v)):=by intro _;rfl):IT X a (bW ma):=by
 refine PT.imp (P7 ha he) λσ H Q h=>?_
 obtain⟨φ,ph,ws,hH,hS,h⟩:=h;refine tM.bind hH hS h λx ph1 av H1 vx aB s1 rx h=>?_
 obtain⟨b,ph2,e,k⟩:=run_lift h;unfold qT at e;cases rx with
 | ay=>cases e;exact⟨_,rfl,k av H1 aB s1⟩
 | bl b=>cases e;exact⟨_,rfl,k av H1 aB s1⟩
 | int i=>cases e;exact⟨_,rfl,k av H1 aB s1⟩
 | str y=>
  simp only at e;split at e
  ·rename_i hy;cases e;exact⟨_,⟨hy,rfl⟩,k av H1 aB s1⟩
  ·cases e
 | tup hq r=>cases e;exact⟨_,.inr (.inl ⟨_,bX.of hq,rfl⟩),by rw[Bz r];exact k av H1 aB s1⟩
 | fl hq r=>cases e;exact⟨_,.inl ⟨_,hq.sq,rfl⟩,by rw[Bz r];exact k av H1 aB s1⟩
 | ref hi=>
  simp only at e;split at e
  ·rename_i cO hw;cases e;obtain⟨vs,hv,r⟩:=aB.hp _ _ hw;exact⟨_,.inl ⟨vs,bK.of hv,rfl⟩,by rw[Bz r];exact k av H1 aB s1⟩
  ·cases e
 | exc=>cases e
 | fn=>cases e
 | kt _ _=>cases e
end
noncomputable def bt:SM:=λσ=>aD (.nx σ)
noncomputable def aC(a b:SM):SM:=λσ=>ax (a σ) λf=>match f with
 | .nx ao=>b ao
 | f=>aD f
noncomputable def d3(e:EM):SM:=λσ=>ax (e σ) λ_=>aD (.nx σ)
noncomputable def aO(e:EM):SM:=λσ=>ax (e σ) λw=>aD (.rt w)
noncomputable def bi(t:TM)(a b:SM):SM:=λσ=>ax (t σ) λc=>if c=true then a σ else b σ
abbrev GM:=W->aG->Mo aG
noncomputable def gN(i:Nat):GM:=λw σ=>aD (σ.set i (O w))
noncomputable def aM(e:EM)(g:GM):SM:=λσ=>ax (e σ) λw=>ax (g w σ) λao=>aD (.nx ao)
noncomputable def tG(X:Cx)(g:GM):TG:=λv σ H Q=>∃φ ph ws w,aH X.K φ ph H/\aZ X.K φ ↑ph H ws σ/\aQ X.K φ ↑ph H w v/\(g w ws ph).Run (λcO ph'=>
 ∀ak H' ao,aH X.K ak ph' H'->Step X.K φ ↑ph H ak ↑ph' H'->aZ X.K ak ↑ph' H' cO ao->Q ao H') (XE X φ ↑ph H)
abbrev IG(X:Cx)(tg:adA)(g:GM):Prop:=PG X tg (tG X g)
section
variable{X:Cx}{e c:adA}{m:EM}{t:TM}{a b:SM}{st:ahZ}{as bs rest:d8}{pos:Pos}{tg:adA}{g:GM}
theorem PG.imp{t t':TG}(h:PG X tg t)(k:∀v σ H Q,t' v σ H Q->t v σ H Q):PG X tg t':=λpins s σ H v u Q I r q=>h pins s σ H v u Q I r (k v σ H Q q)
theorem RK:hU X [] bt:=iu.imp Rn λD σ H h=>by
 obtain⟨φ,ph,ws,hH,hS,h⟩:=h;exact h φ H hH Step.refl σ hS
variable{σ:L2.St}{H:Hp}
theorem RL{D:Ends}(h:tS X (aC a b) D σ H):KG (tS X a) (tS X b) D σ H:=by
 obtain⟨φ,ph,ws,hH,hS,h⟩:=h;unfold aC at h;rw[dW] at h;refine⟨φ,ph,ws,hH,hS,h.mono (λf ph1 h av H1 aB s1=>?_) λ_ _ z=>z⟩;cases f with
 | nx gQ=>exact λσ1 lX=>⟨av,ph1,gQ,aB,lX,h.mono (λf ph2 k bf H2 bu s2=>k bf H2 bu (s1.trans s2)) λ_ _ z=>z.step s1⟩
 | bk gQ=>exact h av H1 aB s1
 | ct gQ=>exact h av H1 aB s1
 | rt w=>exact h av H1 aB s1
theorem Qb(h1:IS X st a)(h2:hU X rest b):hU X (st::rest) (aC a b):=iu.imp (Gh h1 h2) λ_ _ _ h=>RL h
theorem RM(h1:IS X st a):hU X [st] a:=G7 h1
theorem RN(he:IE X e m)(hs:aeQ e Z pos.line X.env=pure false:=by rfl):IS X (.Expr e pos) (d3 m):=PS.imp (G8 he hs) λD σ H h=>by
 obtain⟨φ,ph,ws,hH,hS,h⟩:=h;exact tM.bind hH hS h λw ph1 av H1 v aB s1 r1 h=>h av H1 aB s1 σ (hS.mono s1)
theorem U4(he:IE X e m):IS X (.Return (O e) pos) (aO m):=PS.imp (Ur he) λD σ H h=>by
 obtain⟨φ,ph,ws,hH,hS,h⟩:=h;exact tM.bind hH hS h λw ph1 av H1 v aB s1 r1 h=>h av H1 aB s1 v r1
theorem XS(hc:IT X c t)(ha:hU X as a)(hb:hU X bs b):IS X (.If c as bs pos) (bi t a b):=PS.imp (Xr hc ha hb) λD σ H h=>by
 obtain⟨φ,ph,ws,hH,hS,h⟩:=h;refine tT.bind hH hS h λx ph1 av H1 aB s1 h=>?_
 cases x with
 | true=>exact m7 ⟨av,ph1,ws,aB,hS.mono s1,h.mono (λ_ _ k bf H2 bu s2=>k bf H2 bu (s1.trans s2)) λ_ _ z=>z⟩
 | false=>exact mZ ⟨av,ph1,ws,aB,hS.mono s1,h.mono (λ_ _ k bf H2 bu s2=>k bf H2 bu (s1.trans s2)) λ_ _ z=>z⟩
theorem RO{i:Nat}{x:Str}(hN:X.N.Nodup)(hi:X.N[i]? =O x)(hx:Loc X.env.scope x)(hf:(X.fn x=true\/X.env.scope.names.lookup x=O .local)/\iN X x):IG X (.Name x pos) (gN i):=
 PG.imp (Ro hN hi hx hf) λv σ H Q h=>by
  obtain⟨φ,ph,ws,w,hH,hS,hO,h⟩:=h;exact h φ H _ hH Step.refl (hS.set hO i)
theorem tG.bind{β:Type}{g:GM}{Q:L2.St->Hp->Prop}{φ:Nat->abV}{ph:PH}{ws:aG}{w:W}{v:V}{f:aG->Mo β}{N:β->PH->Prop}(hH:aH X.K φ ph H)(hS:aZ X.K φ ↑ph H ws σ)(hO:aQ X.K φ ↑ph H w v)(h:(ax (g w ws) f ph).Run N (XE X φ ↑ph H))(k:∀gQ ph1 av H1 σ1,aH X.K av ph1 H1->Step X.K φ ↑ph H av ↑ph1 H1->aZ X.K av ↑ph1 H1 gQ σ1->(f gQ ph1).Run N (XE X av ↑ph1 H1)->Q σ1 H1):tG X g v σ H Q:=by
 rw[dW] at h;exact⟨φ,ph,ws,w,hH,hS,hO,h.mono (λgQ ph1 h1 av H1 σ1 aB s1 r1=>k gQ ph1 av H1 σ1 aB s1 r1 (h1.mono (λ_ _ z=>z) λ_ _ z=>z.step s1)) λ_ _ z=>z⟩
theorem RP{D:Ends}(h:tS X (aM m g) D σ H):yo (tM X m) (tG X g) D σ H:=by
 obtain⟨φ,ph,ws,hH,hS,h⟩:=h;refine tM.bind hH hS h λw ph1 av H1 v aB s1 r1 h=>?_
 exact tG.bind aB (hS.mono s1) r1 h λgS ph2 bf H2 bE bu s2 rK h=>h bf H2 bu (s1.trans s2) bE rK
theorem U5{i:Nat}{x:Str}{pos':Pos}(hN:X.N.Nodup)(hi:X.N[i]? =O x)(hx:Loc X.env.scope x)(he:IE X e m)(hs:aeQ e (O (.Name x pos')) pos.line X.env=pure false:=by rfl)
  (hf:(X.fn x=true\/X.env.scope.names.lookup x=O .local)/\iN X x):IS X (.Assign [.Name x pos'] e pos) (aM m (gN i)):=
 PS.imp (Uv hN hi hx he hs hf) λD σ H h=>by
  obtain⟨φ,ph,ws,hH,hS,h⟩:=h;exact tM.bind hH hS h λw ph1 av H1 v aB s1 r1 h=>h av H1 aB s1 _ ((hS.mono s1).set r1 i)
theorem U6(he:IE X e m)(hg:IG X tg g)(hs:swapsWithSole [tg] e pos.line X.env=pure false:=by rfl)(hw:swappedStores [tg] e X.env=pure none:=by rfl)
  (h1:(adL [tg] X.env).map (·.2)=[ahS tg X.env]:=by rfl):IS X (.Assign [tg] e pos) (aM m g):=PS.imp (Uu he hg hs hw h1) λ_ _ _ h=>RP h
end
abbrev IM:=aG->Mo (aw×(PH->Bool))
noncomputable def dG(chk:PH->Bool)(g:GM)(b:SM):aw->SM
 | [],σ=>λph=>if chk ph=true then .ok (.nx σ) ph else .no
 | x::xs,σ=>λph=>if chk ph=true then ax (g x σ) (λσ1=>ax (b σ1) λf=>match f with
   | .nx ao=>dG chk g b xs ao
   | .ct ao=>dG chk g b xs ao
   | .bk ao=>aD (.nx ao)
   | .rt w=>aD (.rt w)) ph else .no
noncomputable def ei(im:IM)(g:GM)(b:SM):SM:=λσ=>ax (im σ) λr=>dG r.2 g b r.1 σ
noncomputable def Di(K:abG)(J:It)(items:aw)(chk:PH->Bool)(φ:Nat->abV)(n:Nat)(H:Hp):Prop:=
 ∀ak ph' H',aH K ak ph' H'->Step K φ n H ak ↑ph' H'->chk ph'=true->∀i:Nat,
  (∀w,items[i]? =O w->J.go i H'/\∀x eQ,J.rB i H' x eQ->aH K ak ph' eQ/\Step K ak ↑ph' H' ak ↑ph' eQ/\aQ K ak ↑ph' eQ w x)/\(items[i]? =Z->J.stop i H')
noncomputable def tI(X:Cx)(im:IM):TI:=λσ H R=>∃φ ph ws,aH X.K φ ph H/\aZ X.K φ ↑ph H ws σ/\(im ws ph).Run (λr ph'=>
 ∀ak H' J,aH X.K ak ph' H'->Step X.K φ ↑ph H ak ↑ph' H'->Di X.K J r.1 r.2 ak ↑ph' H'->R J H') (XE X φ ↑ph H)
abbrev II(X:Cx)(tg iter:adA)(im:IM):Prop:=PI X tg iter (tI X im)
section
variable{X:Cx}{iter tg c:adA}{im:IM}{g:GM}{b:SM}{t:TM}{body:d8}{pos:Pos}
theorem RQ{D:Ends}{σ:L2.St}{H:Hp}(h:tS X (ei im g b) D σ H):KH (tI X im) (tG X g) (tS X b) D σ H:=by
 obtain⟨φ,ph,ws,hH,hS,h⟩:=h;unfold ei at h;rw[dW] at h;refine⟨φ,ph,ws,hH,hS,h.mono (λr ph1 h av H1 J aB s1 hJ=>?_) λ_ _ z=>z⟩;obtain⟨items,chk⟩:=r;refine⟨λi m bE H2=>∃bf ph2 gS,m=(items.drop i).length/\aH X.K bf ph2 H2/\aZ X.K bf ↑ph2 H2 gS bE/\Step X.K av ↑ph1 H1 bf ↑ph2 H2 /\
   (dG chk g b (items.drop i) gS ph2).Run (λf ph'=>∀ak H',aH X.K ak ph' H'->Step X.K bf ↑ph2 H2 ak ↑ph' H'->yv X D ak ph' H' f) (XE X bf ↑ph2 H2),
  ⟨_,av,ph1,ws,rfl,aB,hS.mono s1,Step.refl,h.mono (λf ph' k ak H' r' s'=>k ak H' r' (s1.trans s')) λ_ _ z=>z.step s1⟩,?_⟩
 rintro i m bE H2 ⟨bf,ph2,gS,rfl,bu,rK,s2,h2⟩;cases hd:items.drop i with
 | nil=>
  rw[hd] at h2;unfold dG at h2;split at h2
  ·rename_i hc;have hn:items[i]? =none:=by
    have:↑items<=i:=by simpa using hd
    simpa using this
   exact .inl ⟨(hJ bf _ H2 bu s2 hc i).2 hn,h2 bf H2 bu Step.refl bE rK⟩
  ·exact h2.elim
 | cons x xs=>
  rw[hd] at h2;unfold dG at h2;split at h2
  ·rename_i hc;have hx:items[i]? =O x:=by
    have:=congrArg (λl=>l[0]?) hd
    simpa using this
   have kN:items.drop (i+1)=xs:=by
    have:=congrArg (λl=>l.drop 1) hd
    simpa[List.drop_drop,aiM] using this
   obtain⟨Dj,hy⟩:=(hJ bf _ H2 bu s2 hc i).1 x hx;refine .inr ⟨Dj,λao H'=>∃ak ng cO,aH X.K ak ng H'/\aZ X.K ak ↑ng H' cO ao/\Step X.K av ↑ph1 H1 ak ↑ng H' /\
     (dG chk g b xs cO ng).Run (λf p'=>∀gc H3,aH X.K gc p' H3->Step X.K ak ↑ng H' gc ↑p' H3->yv X D gc p' H3 f) (XE X ak ↑ng H'),
    λao H' ⟨ak,ng,cO,q1,q2,q3,q4⟩=>⟨↑xs,by simp,ak,ng,cO,by rw[kN],q1,q2,q3,by rw[kN];exact q4⟩,λv H3 y=>?_⟩
   obtain⟨eS,s3,rv⟩:=hy v H3 y;have h2':(ax (g x gS) (λσ1=>ax (b σ1) λf=>match f with
    | .nx ao=>dG chk g b xs ao
    | .ct ao=>dG chk g b xs ao
    | .bk ao=>aD (.nx ao)
    | .rt w=>aD (.rt w)) ph2).Run (λf ph'=>∀ak H',aH X.K ak ph' H'->Step X.K bf ↑ph2 H2 ak ↑ph' H'->yv X D ak ph' H' f) (XE X bf ↑ph2 H3):=Out.Run.mono h2 (λ_ _ z=>z) λ_ _ z=>z.step s3
   refine tG.bind eS (rK.mono s3) rv h2' λws4 j2 mj H4 iD pD s4 hS4 h4=>?_
   rw[dW] at h4;refine⟨mj,j2,ws4,pD,hS4,h4.mono (λf zd h5 nU H5 nI s5=>?_) λ_ _ z=>z⟩;have uC:=((s2.trans s3).trans s4).trans s5;have ze:=(s3.trans s4).trans s5;cases f with
   | nx ff=>exact λiZ kO=>⟨nU,zd,ff,nI,kO,uC,h5.mono (λf p' k ak H' r' s'=>k ak H' r' (ze.trans s')) λ_ _ z=>z.step s5⟩
   | ct ff=>exact λiZ kO=>⟨nU,zd,ff,nI,kO,uC,h5.mono (λf p' k ak H' r' s'=>k ak H' r' (ze.trans s')) λ_ _ z=>z.step s5⟩
   | bk ff=>exact λiZ kO=>h5 nU H5 nI ze iZ kO
   | rt w=>exact λv hv=>h5 nU H5 nI ze v hv
  ·exact h2.elim
theorem PI.imp{t t':TI}(h:PI X tg iter t)(k:∀σ H R,t' σ H R->t σ H R):PI X tg iter t':=λpins s σ H R I q=>h pins s σ H R I (k σ H R q)
theorem U7(hp:PassesOwn (acr X.prog X.w) X.A X.env X.xe)(hc:X.calm=true)(hi:II X tg iter im)(hg:IG X tg g)(hb:hU X body b)(hs:∀x,acX iter X.env x=pure x:=by intro _;rfl) :
  IS X (.For tg iter body [] pos) (ei im g b):=PS.imp (Ux hp hc hi hg hb hs) λ_ _ _ h=>RQ h
noncomputable def nh(w:W):Po (aw×(PH->Bool)):=λph=>match w with
 | .ref i=>match ph[i]? with
  | some (.lst ws)=>O ((ws,λph'=>decide (ph'[i]? =O (.lst ws))),ph)
  | _=>Z
 | .fl ws=>O ((ws,λ_=>true),ph)
 | _=>Z
noncomputable def tupI(w:W):Po (aw×(PH->Bool)):=λph=>match w with
 | .tup ws=>O ((ws,λ_=>true),ph)
 | _=>Z
noncomputable def yx(m:EM):IM:=λσ=>ax (m σ) λw=>lift (nh w)
noncomputable def BX(m:EM):IM:=λσ=>ax (m σ) λw=>lift (tupI w)
theorem RR{l:adA}{m:EM}(hl:IE X l m):II X tg l (yx m):=by
 refine PI.imp (Rq hl) λσ H R h=>?_
 obtain⟨φ,ph,ws,hH,hS,h⟩:=h;refine tM.bind hH hS h λw ph1 av H1 v aB s1 r1 h=>?_
 obtain⟨r,ph',e,k⟩:=run_lift h;unfold nh at e;cases r1 with
 | ref hi=>
  rename_i i;simp only at e;split at e
  ·rename_i items hw;cases e;obtain⟨vs,hv,r⟩:=aB.hp _ _ hw;refine⟨_,rfl,⟨vs,bK.of hv⟩,k av H1 _ aB s1 ?_⟩;intro bf ph2 H2 bu s2 hc j;have jY:ph2[i]? =O (.lst items):=of_decide_eq_true hc;obtain⟨us,hu,ru⟩:=bu.hp _ _ jY;rw[s2.eq i hi] at hu;refine⟨λw eU=>?_,λhn=>?_⟩
   ·obtain⟨u,eu,lY⟩:=ru.get eU;refine⟨⟨us,u,bK.of hu,eu⟩,λx eQ hy=>?_⟩;obtain⟨rfl,hy⟩:=hy;have:=hy us (bK.of hu);rw[eu] at this;cases this;exact⟨bu,Step.refl,lY⟩
   ·refine⟨us,bK.of hu,?_⟩;rw[<- ↑ru]
    simpa using hn
  ·cases e
 | fl hq r=>
  cases e;refine⟨_,rfl,⟨_,hq.sq⟩,k av H1 _ aB s1 ?_⟩;intro bf ph2 H2 bu s2 hc j;have h2:=aQ.mono s2 (.fl hq r);cases h2 with
  | fl h2 r2=>
   refine⟨λw eU=>?_,λhn=>?_⟩
   ·obtain⟨u,eu,lY⟩:=r2.get eU;refine⟨⟨_,u,h2.sq,eu⟩,λx eQ hy=>?_⟩;obtain⟨rfl,hy⟩:=hy;have:=hy _ h2.sq;rw[eu] at this;cases this;exact⟨bu,Step.refl,lY⟩
   ·refine⟨_,h2.sq,?_⟩;rw[<- ↑r2]
    simpa using hn
 | _=>cases e
theorem U8{l:adA}{m:EM}(hl:IE X l m):II X tg l (BX m):=by
 refine PI.imp (Uw hl) λσ H R h=>?_
 obtain⟨φ,ph,ws,hH,hS,h⟩:=h;refine tM.bind hH hS h λw ph1 av H1 v aB s1 r1 h=>?_
 obtain⟨r,ph',e,k⟩:=run_lift h;unfold tupI at e;cases r1 with
 | tup hq r=>
  cases e;refine⟨_,rfl,⟨_,bX.of hq⟩,k av H1 _ aB s1 ?_⟩;intro bf ph2 H2 bu s2 hc j;have h2:=bX.of (K:=X.K) (s2.tup _ _ hq);have r2:=r.mono s2;refine⟨λw eU=>?_,λhn=>?_⟩
  ·obtain⟨u,eu,lY⟩:=r2.get eU;refine⟨⟨_,u,h2,eu⟩,λx eQ hy=>?_⟩;obtain⟨rfl,hy⟩:=hy;have:=hy _ h2;rw[eu] at this;cases this;exact⟨bu,Step.refl,lY⟩
  ·refine⟨_,h2,?_⟩;rw[<- ↑r2]
   simpa using hn
 | _=>cases e
noncomputable def fv(lo:Int)(n:Nat):aw:=(adm n).map λi:Nat=>.int (lo+((i:Nat):Int))
noncomputable def Cy(xs:aw):Po (aw×(PH->Bool)):=λph=>match xs with
 | [.int j]=>if -(2 ^ 62)<=j/\j<2 ^ 62 then O ((fv 0 j.toNat,λ_=>true),ph) else Z
 | _=>Z
noncomputable def Cz(xs:aw):Po (aw×(PH->Bool)):=λph=>match xs with
 | [.int i,.int j]=>if -(2 ^ 62)<=i/\i<2 ^ 62/\ -(2 ^ 62)<=j/\j<2 ^ 62 then O ((fv i (j-i).toNat,λ_=>true),ph) else Z
 | _=>Z
noncomputable def iU(m:AM):IM:=λσ=>ax (m σ) λxs=>lift (Cy xs)
noncomputable def vk(m:AM):IM:=λσ=>ax (m σ) λxs=>lift (Cz xs)
theorem IF{K:abG}{lo:Int}{n:Nat}{chk:PH->Bool}{φ:Nat->abV}{k:Nat}{H:Hp}:Di K (u4 lo n) (fv lo n) chk φ k H:=by
 intro bf ph2 H2 bu s2 hc j;unfold fv;refine⟨λw eU=>?_,λhn=>?_⟩
 ·rw[abQ] at eU;have hj:j<n:=by
   by_cases hj:j<n
   ·exact hj
   ·rw[agc (by simpa using hj)] at eU;cases eU
  rw[agu hj] at eU;cases eU;refine⟨hj,λx eQ hy=>?_⟩;obtain⟨rfl,rfl⟩:=hy;exact⟨bu,Step.refl,.int _⟩
 ·have:n<=j:=by simpa using hn
  exact this
theorem OW{a:adA}{m:AM}{p:Pos}(hg:Gl X "range")(hm:X.mg "range"=Z)(ha:IA X [a] m)(hs:acv [a] X.env=[(false,aeX a X.env)]:=by rfl):II X tg (.Call (.Name "range" p) [a] [] pos) (iU m):=by
 refine PI.imp (OI hg hm ha hs) λσ H R h=>?_
 obtain⟨φ,ph,ws,hH,hS,h⟩:=h;refine tA.bind hH hS h λxs ph1 av H1 vs aB s1 r1 h=>?_
 obtain⟨r,ph',e,k⟩:=run_lift h;unfold Cy at e;split at e
 ·split at e
  ·rename_i hc;cases e;cases r1 with
   | cons r r'=>cases r;cases r';exact⟨_,rfl,hc.1,hc.2,k av H1 _ aB s1 IF⟩
  ·cases e
 ·cases e
theorem OX{a b':adA}{m:AM}{p:Pos}(hg:Gl X "range")(hm:X.mg "range"=Z)(ha:IA X [a,b'] m)(hs:acv [a,b'] X.env=[(false,aeX a X.env),(false,aeX b' X.env)]:=by rfl)(dI:acv [b'] X.env=[(false,aeX b' X.env)]:=by rfl) :
  II X tg (.Call (.Name "range" p) [a,b'] [] pos) (vk m):=by
 refine PI.imp (OJ hg hm ha hs dI) λσ H R h=>?_
 obtain⟨φ,ph,ws,hH,hS,h⟩:=h;refine tA.bind hH hS h λxs ph1 av H1 vs aB s1 r1 h=>?_
 obtain⟨r,ph',e,k⟩:=run_lift h;unfold Cz at e;split at e
 ·split at e
  ·rename_i hc;cases e;cases r1 with
   | cons r r'=>
    cases r;cases r' with
    | cons r r'=>cases r;cases r';exact⟨_,_,rfl,hc,k av H1 _ aB s1 IF⟩
  ·cases e
 ·cases e
end
noncomputable def ai:AM:=λ_=>aD []
noncomputable def ag(e:EM)(r:AM):AM:=λσ=>ax (e σ) λw=>ax (r σ) λws=>aD (w::ws)
noncomputable def kE(ws:aw):Po W:=λph=>if ↑ws<=acd then O (.tup ws,ph) else Z
noncomputable def uD(ws:aw):Po W:=λph=>if ↑ws<=acd then O (.ref ↑ph,ph++[.lst ws]) else Z
noncomputable def cw(a:AM):EM:=λσ=>ax (a σ) λws=>lift (kE ws)
noncomputable def bP(a:AM):EM:=λσ=>ax (a σ) λws=>lift (uD ws)
section
variable{X:Cx}{e:adA}{es:bS}{m:EM}{a:AM}{pos:Pos}
theorem IH:IA X [] ai:=PA.imp tL λσ H Q h=>by
 obtain⟨φ,ph,ws,hH,hS,h⟩:=h;exact h φ H [] hH Step.refl .nil
theorem Hd(he:IE X e m)(hr:IA X es a)(hs:acv (e::es) X.env=(false,aeX e X.env)::acv es X.env:=by rfl):IA X (e::es) (ag m a):=PA.imp (mB he hr hs) λσ H Q h=>by
 obtain⟨φ,ph,ws,hH,hS,h⟩:=h;refine tM.bind hH hS h λw ph1 av H1 v aB s1 r1 h=>tA.bind aB (hS.mono s1) h λys ph2 bf H2 vs bu s2 r2 h=>?_
 exact h bf H2 _ bu (s1.trans s2) (.cons (r1.mono s2) r2)
theorem U9{x1:Nat}(h:IA X es a):IE X (.Tuple es x1 pos) (cw a):=PE.imp (UG h) λσ H Q h=>by
 obtain⟨φ,ph,ws,hH,hS,h⟩:=h;refine tA.bind hH hS h λxs ph1 av H1 vs aB s1 r1 h=>?_
 obtain⟨w,ph',e,k⟩:=run_lift h;unfold kE at e;split at e
 ·rename_i hz;cases e;refine⟨by rw[<- ↑r1];exact hz,λp hp=>?_⟩;exact k av _ _ (aB.tup hp) (s1.trans (gI hp)) (.tup bU (r1.mono (gI hp)))
 ·cases e
theorem kW{K:abG}{φ:Nat->abV}{ph:PH}{H:Hp}{p:abV}{ws:aw}{vs:aJ}(hH:aH K φ ph H)(r:a9 K φ ↑ph H ws vs)(hp:H p=Z):aH K (ext φ ↑ph p) (ph++[.lst ws]) (upd H p (.lst vs))/\Step K φ ↑ph H (ext φ ↑ph p) (ph++[PO.lst ws]).length (upd H p (.lst vs))/\aQ K (ext φ ↑ph p) (ph++[PO.lst ws]).length (upd H p (.lst vs)) (.ref ↑ph) (.ref p):=by
 have hl:(ph++[PO.lst ws]).length=↑ph+1:=by simp
 rw[hl];have s:=AI (K:=K) (φ:=φ) (n:=↑ph) (o:=HO.lst vs) hp;refine⟨hH.new hp ⟨vs,bU,r.mono s⟩,s,?_⟩;have q:aQ K (ext φ ↑ph p) (↑ph+1) (upd H p (.lst vs)) (.ref ↑ph) (.ref (ext φ ↑ph p ↑ph)):=.ref (aeo _);rw[mI] at q;exact q
theorem Va(h:IA X es a):IE X (.List es pos) (bP a):=PE.imp (UH h) λσ H Q h=>by
 obtain⟨φ,ph,ws,hH,hS,h⟩:=h;refine tA.bind hH hS h λxs ph1 av H1 vs aB s1 r1 h=>?_
 obtain⟨w,ph',e,k⟩:=run_lift h;unfold uD at e;split at e
 ·rename_i hz;cases e;refine⟨by rw[<- ↑r1];exact hz,λp hp=>?_⟩;obtain⟨q1,q2,q3⟩:=kW aB r1 hp;exact k _ _ _ q1 (s1.trans q2) q3
 ·cases e
end
noncomputable def aP(f:aw->Mo W)(a:AM):EM:=λσ=>ax (a σ) f
noncomputable def fw:Fl->Mo W
 | .rt w=>aD w
 | .nx _=>aD .ay
 | _=>fF
noncomputable def fM(body:SM)(n np:Nat)(args:aw):Mo W:=if ↑args=np then ax (body (args.map O++abS (n-↑args) Z)) fw else fF
theorem IJ{body:SM}{np:Nat}{xs:aw}(h:↑xs≠np):fM body n np xs ph=.no:=by
 unfold fM;rw[if_neg h];rfl
noncomputable def dQ(P:acL)(w:adl):pC:=λl H s E e s'=>∃C dd H',Flew P w l H s C dd H' e s'/\E (.ref C) dd H'
noncomputable def j3(K:abG)(mg:dr)(np:Nat)(f:aw->Mo W):Sp:=λvs H Q E=>↑vs=np/\∃φ ph args,aH K φ ph H/\a9 K φ ↑ph H args vs/\(f args ph).Run (λw ph'=>
 ∀ak H' v,aH K ak ph' H'->Step K φ ↑ph H ak ↑ph' H'->aQ K ak ↑ph' H' w v->Q v H') (λx ph'=>
 ∀ak H' C dd,aH K ak ph' H'->Step K φ ↑ph H ak ↑ph' H'->mg x.cls=O (.ref C)->vh K ak ↑ph' H' dd x.fs->E (.ref C) dd H')
section
variable{X:Cx}{k:Nat}{f:abV}{fd:adR}{ps:aN}{fm:aw->Mo W}{x:Str}{p pos:Pos}{e:adA}{es:bS}{a:AM}
theorem RS{CX:pC}{sp:Sp}{E:XK}{pins:List (abV×Obj)}{σ:L2.St}{H:Hp}{s:abT}{Q:VK}{us:aS}{vs:aJ}(F:fV X.prog X.w X.K X.mg X.base CX k f fd ps sp)(hr:dw k X.A)(hb:Binds X.K fd ps [])(I:Inv X pins σ H s)(r:Vals vs us)(h:sp vs H Q E)(hx:∀e s',CX X.stack H s E e s'->X.xe e s'):acf (acr X.prog X.w) X.A (call (.ref f) us) (EP X pins σ Q) X.xe s:=by
 have hl:(us++[]).length=↑ps:=by rw[afN,<- ↑r];exact F.len _ _ _ _ h
 have zf:=hb s us I.cS hl;rw[afN] at zf;refine agr (agI (F.run X.A X.stack s H ⟨us,[]⟩ us vs Q E hr I.KO zf r h) λr s' hq=>?_);cases r with
 | error e=>exact hx e s' hq
 | ok fl=>
  cases fl with
  | ret u=>exact I.after hq
  | _=>exact afl hq
theorem RT(F:fV X.prog X.w X.K X.mg X.base (dQ X.prog X.w) k f fd ps (j3 X.K X.mg ↑ps fm))(hl:∀{xs:aw} {ph:PH},↑xs≠↑ps->fm xs ph=.no)(hr:dw k X.A)(hg:Gl X x)(hm:X.mg x=O (.ref f))(hk:adw X.K (.ref f)=true)(hb:Binds X.K fd ps [])(ha:IA X (e::es) a)(bR:(x==("__debug__":Str))=false:=by decide)(he:acv (e::es) X.env=(false,aeX e X.env)::acv es X.env:=by rfl)(hpl:(afv pos (acv es X.env)).any (·.1)=false:=by rfl) :
  IE X (.Call (.Name x p) (e::es) [] pos) (aP fm a):=by
 intro pins s σ H Q I h;obtain⟨φ,ph,ws,hH,hS,h⟩:=h;have hA:tA X a σ H (λvs H1=>∃av ph1 xs,aH X.K av ph1 H1/\a9 X.K av ↑ph1 H1 xs vs/\(fm xs ph1).Run (λw ph'=>∀ak H' v,aH X.K ak ph' H'->Step X.K av ↑ph1 H1 ak ↑ph' H'->aQ X.K ak ↑ph' H' w v->Q v H') (XE X av ↑ph1 H1)):=
  tA.bind hH hS h λxs ph1 av H1 vs aB s1 r1 h=>⟨av,ph1,xs,aB,r1,h.mono (λw ph' k ak H' v r' s' q=>k ak H' v r' (s1.trans s') q) λ_ _ z=>z⟩
 refine afO (mz I hg hm (aip (h₀:=X.base) I.ok.mod.cR hk (aW (ha pos pins s σ H _ I hA) λus s1 ⟨vs,H1,I1,r,q⟩=>⟨I1.cS,?_⟩) he hpl) bR);obtain⟨av,ph1,xs,aB,r1,h1⟩:=q;have bj:↑vs=↑ps:=by
  rw[<- ↑r1];by_cases z:↑xs=↑ps
  ·exact z
  ·rw[hl z] at h1;exact h1.elim
 refine RS (E:=λc dd H'=>∃x ph' ak,fm xs ph1=.ex x ph'/\aH X.K ak ph' H'/\Step X.K av ↑ph1 H1 ak ↑ph' H'/\∃C,c=.ref C/\X.mg x.cls=O (.ref C)/\vh X.K ak ↑ph' H' dd x.fs) F hr hb I1 r ⟨bj,av,ph1,xs,aB,r1,?_⟩ λe s' hx=>?_
 ·cases q:fm xs ph1 with
  | ok w ph'=>rw[q] at h1;exact h1
  | ex x ph'=>exact λak H' C dd hr hs hm hf=>⟨x,ph',ak,rfl,hr,hs,C,rfl,hm,hf⟩
  | no=>rw[q] at h1;exact h1
 ·obtain⟨C,dd,H',fE,x,ph',ak,ef,hr',zg,C',ec,j4,hf'⟩:=hx;cases ec;rw[ef] at h1;exact h1 ak H' e s' hr' zg ⟨C,dd,j4,hf',.inr ⟨pins,σ,H1,s1,I1,fE⟩⟩
end
section
variable{P:acL}{w:adl}{K:abG}{mg:dr}{base:adt}
variable{H':Hp}
theorem He{h:adt}{fr:List abV}(aA:cI P w H' h)(hf:∀b∈fr,H' b=Z):cI P w H' (aeY h fr):=λa o e=>by
 refine(aA a o e).jj (λb u hb q=>aeg _ q λhm=>?_) (λ_ q=>q) λ_ _ q=>q
 have:=hf b hm
 rcases hb with z | z
 ·rw[z,e] at this;cases this
 ·rw[z] at this;cases this
theorem AJ{env:Env}{l:List Env}(hf:env.frame=O env.locals):dz (env::l)=env.locals::dz l:=by
 unfold dz;rw[aeh,hf]
variable{E:aY}{C:abV}{dd:ce}
theorem NK{M:ahY}{A:adq}{s:abT}{base h:adt}{env:Env}{outer:List Env}{L e:abV}{Q:Unit->abT->Prop}(eO:A.frames=O (env::outer))(hf:env.frame=O L)(gD:base.StaysIn h)(hl:h.FunFrames base (env::outer))(hx:mP h s.heap e C dd)(hQ:∀h' t,adt.jK base outer e (.ref C,dd) (.ref t) h'->s.heap.UpToSlots h'->Q () { s with heap:=h' }):acf M A (leaving env (.ref e)) Q E s:=by
 obtain⟨o,vs,t,he,hk,hd,h0,h1⟩:=hx.there;rw[<- hk] at hQ;have fresh:∀b,h.get? b=Z->base.get? b=none:=λb hb=>by
  cases hq:base.get? b with
  | none=>rfl
  | some o'=>have:=gD b o' hq;rw[hb] at this;cases this
 refine M4 (a0:=.ref t) eO (hl.of_keeps λb o hb _=>⟨o,hx.keeps b o hb,rfl⟩) hf he (λb o hb=>hx.keeps b o (gD b o hb)) (fresh e hx.new) hd h1 h0 λh' hL=>?_
 obtain⟨k1,⟨_,_,k2⟩,k3,k4⟩:=hL;exact hQ h' t ⟨k1,fresh e hx.new,k2,k3⟩ k4
theorem Oe{X:Cx}{e:acb}{s':abT}(c7:X.stack=X.env::X.outer)(hf:X.env.frame=O X.env.locals)(hex:X.ex=[])(hm:Made X C dd H' e s'):acf (acr X.prog X.w) X.A (leaving X.env e) (λ_ fe=>Flew X.prog X.w X.outer X.ba X.aI C dd H' e fe) E s':=by
 obtain⟨pins,σ,s,h',a,rfl,rfl,I,hx⟩:=hm;have sf:=I.tD;have hl:=I.stack;rw[c7] at sf hl;have rL:∀env∈X.env::X.outer,∀b,env.frame=O b->b∈dz (X.env::X.outer):=λenv he b hb=>afL.mpr ⟨env,he,hb⟩
 have jz:∀b:abV,b∉X.ex:=λb z=>by rw[hex] at z;exact nomatch z
 have out:∀b o,X.aI.heap.get? b=O o->b∉X.fs->b∉dz (X.env::X.outer):=λb o e hb hm=>by
  rw[AJ hf] at hm
  rcases abR.mp hm with z | z
  ·exact absurd (aci (abW e) I.ok.above) (by rw[z];exact aer _)
  ·exact hb z
 refine NK (base:=aeY s.heap (dz (X.env::X.outer))) (h:=s.heap) (by rw[I.ok.frames,c7]) hf (λb o q=>agG _ q) (ahA hl rL) hx λvm t f1 f4=>?_
 refine⟨a,.ref t,_,rfl,I.os,I.bare,f1,He I.aA sf,⟨λb o e n hb=>aeg _ (I.base.keep b o e n hb (jz b)) (out b o e hb),λb o e n hb=>?_,λb o e n=>I.base.free b o e n (jz b),λb o e hb=>?_,I.base.g7,I.base.fU,I.base.gL⟩⟩
 ·obtain⟨sl,e1⟩:=I.base.slot b o e n hb (jz b);obtain⟨_,o',ho,hd⟩:=I.ok.gz.mem hb;rw[e] at ho;cases ho;obtain⟨nE,e2⟩:=f4 b _ (hx.keeps b _ e1) hd;exact⟨nE,e2⟩
 ·obtain⟨o',e1⟩:=I.base.there b o e (jz b);exact⟨o',aeg _ e1 (out b o e hb)⟩
theorem Of{X:Cx}{H0:Hp}{e:acb}{s s':abT}{pins:List (abV×Obj)}{σ:L2.St}(c7:X.stack=X.env::X.outer)(hf:X.env.frame=O X.env.locals)(hex:X.ex=[])(I:Inv X pins σ H0 s)(hm:Flew X.prog X.w X.stack H0 s C dd H' e s'):acf (acr X.prog X.w) X.A (leaving X.env e) (λ_ fe=>Flew X.prog X.w X.outer X.ba X.aI C dd H' e fe) E s':=by
 obtain⟨a,a0,B,rfl,ho,uf,fE,aA,u⟩:=hm;rw[c7] at fE u;have jz:∀b:abV,b∉X.ex:=λb z=>by rw[hex] at z;exact nomatch z
 have out:∀b o,X.aI.heap.get? b=O o->b∉X.fs->b∉dz (X.env::X.outer):=λb o e hb hm=>by
  rw[AJ hf] at hm
  rcases abR.mp hm with z | z
  ·exact absurd (aci (abW e) I.ok.above) (by rw[z];exact aer _)
  ·exact hb z
 refine Np (by rw[I.ok.frames,c7]) hf fE λvm f1 f4=>?_
 refine⟨a,a0,B,rfl,ho.trans I.os,uf,f1,aA,⟨λb o e n hb=>u.keep b o (I.base.keep b o e n hb (jz b)) (I.base.free b o e n (jz b)) (out b o e hb),λb o e n hb=>?_,λb o e n=>?_,λb o e hb=>?_,
  λb xs e=>u.g7 b xs (I.base.g7 b xs e),λb ob xs e=>u.fU b ob xs (I.base.fU b ob xs e),λb ps e=>?_⟩⟩
 ·obtain⟨sl,e1⟩:=I.base.slot b o e n hb (jz b);obtain⟨_,o',eM,hd⟩:=I.ok.gz.mem hb;rw[e] at eM;cases eM;obtain⟨nE,e2⟩:=u.slot b _ e1 (I.base.free b o e n (jz b)) (by rw[AJ hf];exact abN _ hb);obtain⟨sl3,e3⟩:=f4 b _ e2 hd;exact⟨sl3,e3⟩
 ·obtain⟨o',e1⟩:=I.base.there b o e (jz b);exact u.free b o' e1 (I.base.free b o e n (jz b))
 ·obtain⟨o',e1⟩:=I.base.there b o e (jz b);exact u.there b o' e1 (out b o e hb)
 ·obtain⟨m1,e1⟩:=I.base.gL b ps e;obtain⟨m2,e2⟩:=u.gL b _ e1;exact⟨m1++m2,by rw[e2,aio]⟩
theorem Vb{x qual:Str}{st:ahZ}{f:abV}{fd:adR}{N ps:aN}{k:Nat}{body:SM}(F:nH K x qual st f fd)(S:mC N ps (cx st))(ub:∀(bQ:acb) (A:adq) (outer:List Env) (s:abT) (H:Hp) (E:XK),dw k (A.deeper (ahT qual (cx st) s.heap.objs.size f bQ)) → hU (jl (dQ P w) P w K mg base N qual (cx st) f bQ A outer s H E) (fN st) body):fV P w K mg base (dQ P w) (k+1) f fd ps (j3 K mg ↑ps (fM body ↑N ↑ps)):=by
 obtain⟨oc,od,kV,doc,pm,an,bQ,ct,gC,rfl,lk,hcd⟩:=F.ex;refine JR lk hcd S (λvs H Q E h=>h.1) λA outer s H vs Q E hr h=>?_
 obtain⟨hl,φ,ph,args,hH,ra,h⟩:=h;refine⟨_,ub bQ A outer s H E hr,?_⟩;have LQ:↑args=↑vs:=↑ra;unfold fM at h;rw[if_pos (LQ.trans hl),dW,LQ] at h;refine⟨φ,ph,_,hH,aZ.start (↑N-↑vs) ra,h.mono (λfl ph' h av H1 aB s1=>?_) λx ph' h ak H' e s' r' ej th=>?_⟩
 ·cases fl with
  | rt w=>exact λv rv=>h av H1 v aB s1 rv
  | nx ao=>exact λσ1 lX=>h av H1 .ay aB s1 .ay
  | bk ao=>exact h.elim
  | ct ao=>exact h.elim
 ·obtain⟨C,dd,hm,pE,th⟩:=th;have hE:=h ak H' C dd r' ej hm pE;have key:acf (acr P w) (A.deeper (ahT qual (cx st) s.heap.objs.size f bQ)) (leaving (ahT qual (cx st) s.heap.objs.size f bQ) e) (λ_ fe=>Flew P w outer H s C dd H' e fe) (λe' fe=>dQ P w outer H s E e' fe) s':=by
   rcases th with th | ⟨pins,σ,H0,s0,I0,th⟩
   ·exact Oe (X:=jl (dQ P w) P w K mg base N qual (cx st) f bQ A outer s H E) rfl rfl rfl th
   ·exact Of (X:=jl (dQ P w) P w K mg base N qual (cx st) f bQ A outer s H E) rfl rfl rfl I0 th
  exact acW key (λ_ fe q=>⟨C,dd,H',q,hE⟩) λ_ _ q=>q
end
theorem Hf{K:abG}{φ:Nat->abV}{n:Nat}{H:Hp}:∀(ns:gM),a9 K φ n H (ns.map W.int) (ns.map V.int)
 | []=>.nil
 | n::ns=>.cons (.int n) (Hf ns)
theorem bH.or{f:acb->acb->Sem acb}{r r':R2}(h:bH X f r)(h':bH X f r'):bH X f (λx y H Q=>r x y H Q\/r' x y H Q):=by
 intro pins s σ H x y v u Q I rx ry q
 rcases q with q | q
 ·exact h pins s σ H x y v u Q I rx ry q
 ·exact h' pins s σ H x y v u Q I rx ry q
noncomputable def cM(w:W)(ph:PH):Option aw:=match w with
 | .tup ws=>O ws
 | .fl ws=>O ws
 | .ref i=>match ph[i]? with
  | some (.lst ws)=>O ws
  | _=>Z
 | _=>Z
variable{v:V}{ws:aw}
theorem AK{w:W}(hH:aH K φ ph H)(r:aQ K φ ↑ph H w v)(e:cM w ph=O ws):∃a vs,v=.ref a/\(bK K H a vs\/bX K H a vs)/\a9 K φ ↑ph H ws vs:=by
 unfold cM at e;cases r with
 | tup h r=>cases e;exact⟨_,_,rfl,.inr (bX.of h),r⟩
 | fl h r=>cases e;exact⟨_,_,rfl,.inl h.sq,r⟩
 | ref hi=>
  simp only at e;split at e
  ·rename_i cO hw;cases e;obtain⟨vs,hv,r⟩:=hH.hp _ _ hw;exact⟨_,vs,rfl,.inl (bK.of hv),r⟩
  ·cases e
 | _=>cases e
theorem OY{w:W}(hH:aH K φ ph H)(r:aQ K φ ↑ph H w v)(e:cM w ph=O ws):∃a vs,v=.ref a/\(bK K H a vs\/H a=O (.tup vs))/\a9 K φ ↑ph H ws vs:=by
 unfold cM at e;cases r with
 | tup h r=>cases e;exact⟨_,_,rfl,.inr h,r⟩
 | fl h r=>cases e;exact⟨_,_,rfl,.inl h.sq,r⟩
 | ref hi=>
  simp only at e;split at e
  ·rename_i cO hw;cases e;obtain⟨vs,hv,r⟩:=hH.hp _ _ hw;exact⟨_,vs,rfl,.inl (bK.of hv),r⟩
  ·cases e
 | _=>cases e
variable{vs:aJ}
theorem A7{i:Int}{w:W}(r:a9 K φ n H ws vs)(e:cJ ws i=O w):∃v,cJ vs i=O v/\aQ K φ n H w v:=by
 unfold cJ at e ⊢;rw[↑r] at e;cases q:hG ↑vs i with
 | none=>rw[q] at e;cases e
 | some j=>
  rw[q] at e;exact r.get e
noncomputable def cP:W->W->Po W:=λx y ph=>match y with
 | .int i=>match x with
  | .str z=>if ↑z<=acd then(cJ z.cps.toList i).map λc=>(.str ⟨#[c]⟩,ph) else Z
  | .kt ws=>(cJ ws i).map λw=>(w,ph)
  | x=>(cM x ph).bind λws=>(cJ ws i).map λw=>(w,ph)
 | _=>Z
theorem J3 : cK K (Dc K) cP := by
  intro φ ph H x y vx vy w ph' Q hH rx ry e k;unfold cP at e;cases ry with
  | int i =>
    cases rx with
    | str z =>
      simp only at e;split at e
      · rename_i hz
        cases q : cJ z.cps.toList i with
        | none => rw [q] at e; cases e
        | some c =>
          rw [q] at e;cases e;exact .inr (.inr ⟨z, i, c, rfl, rfl, hz, q, k φ H _ hH Step.refl (.str _)⟩)
      · cases e
    | kt h r =>
      simp only at e;cases q : cJ _ i with
      | none => rw [q] at e; cases e
      | some c =>
        rw [q] at e;cases e;obtain ⟨v, ev, rv⟩ := A7 r q;exact .inr (.inl ⟨_, _, i, v, rfl, rfl, .inr h, ev, k φ H _ hH Step.refl rv⟩)
    | _ =>
      all_goals
        first
          | (cases e; done)
          | (rename_i h r
             simp only [cM, Option.bind] at e;cases q : cJ _ i with
             | none => rw [q] at e; cases e
             | some c =>
               rw [q] at e;cases e;obtain ⟨v, ev, rv⟩ := A7 r q
               first
                 | exact .inr (.inl ⟨_, _, i, v, rfl, rfl, bX.of h, ev, k φ H _ hH Step.refl rv⟩)
                 | exact .inl ⟨_, _, i, v, rfl, rfl, h.sq, ev, k φ H _ hH Step.refl rv⟩)
          | (rename_i hi
             simp only [cM] at e;split at e
             · rename_i cO hw
               simp only [Option.bind] at e;cases q : cJ cO i with
               | none => rw [q] at e; cases e
               | some c =>
                 rw [q] at e;cases e;obtain ⟨vs, hv, r⟩ := hH.hp _ _ hw;obtain ⟨v, ev, rv⟩ := A7 r q;exact .inl ⟨_, _, i, v, rfl, rfl, bK.of hv, ev, k φ H _ hH Step.refl rv⟩
             · cases e)
  | _ => cases e
section
variable{X:Cx}{a b:adA}{ma mb:EM}{pos:Pos}
theorem XT(ha:IE X a ma)(hb:IE X b mb)(hs:qf b:=by intro _ _;rfl):IE X (.Subscript a b pos) (ah cP ma mb):=
 PE.imp (JV Iv ha hb hs) λ_ _ _ h=>tE J3 h
end
noncomputable def gp(K:abG)(r:aJ->Hp->VK->Prop)(f:aw->Po W):Prop:=∀{φ:Nat->abV} {ph:PH} {H:Hp} {xs:aw} {vs:aJ} {w:W} {ph':PH} {Q:VK},aH K φ ph H->a9 K φ ↑ph H xs vs->f xs ph=O (w,ph') →
 (∀ak H' v,aH K ak ph' H'->Step K φ ↑ph H ak ↑ph' H'->aQ K ak ↑ph' H' w v->Q v H')->r vs H Q
noncomputable def aR(f:aw->Po W)(a:AM):EM:=λσ=>ax (a σ) λxs=>lift (f xs)
section
variable{X:Cx}{x:Str}{p pos:Pos}{e:adA}{es:bS}{t:AM}{id T:String}{r:aJ->Hp->VK->Prop}{f:aw->Po W}
theorem Gq(hi:gp X.K r f){σ:L2.St}{H:Hp}{Q:VK}(h:tM X (aR f t) σ H Q):C8 r (tA X t) σ H Q:=by
 obtain⟨φ,ph,ws,hH,hS,h⟩:=h;refine tA.bind hH hS h λxs ph1 av H1 vs aB s1 r1 h=>?_
 obtain⟨w,ph',e,k⟩:=run_lift h;exact hi aB r1 e λbf H2 v bu s2 r2=>k bf H2 v bu (s1.trans s2) r2
theorem Qc(hc:cD X (.builtin id) r)(hi:gp X.K r f)(hg:Gl X x)(hm:X.mg x=Z)(hv:adp x=O (.builtin id))(ha:IA X (e::es) t)(hn:x≠"__name__":=by decide)(bR:(x==("__debug__":Str))=false:=by decide)
  (he:acv (e::es) X.env=(false,aeX e X.env)::acv es X.env:=by rfl) (hpl:(afv pos (acv es X.env)).any (·.1)=false:=by rfl):IE X (.Call (.Name x p) (e::es) [] pos) (aR f t):=
 PE.imp (AG hc hg hm hv ha hn bR he hpl) λ_ _ _ h=>Gq hi h
theorem OZ(hc:cD X (.type T) r)(hi:gp X.K r f)(hg:Gl X x)(hm:X.mg x=Z)(hv:adp x=O (.type T))(ha:IA X (e::es) t)(hn:x≠"__name__":=by decide)(bR:(x==("__debug__":Str))=false:=by decide)
  (he:acv (e::es) X.env=(false,aeX e X.env)::acv es X.env:=by rfl) (hpl:(afv pos (acv es X.env)).any (·.1)=false:=by rfl):IE X (.Call (.Name x p) (e::es) [] pos) (aR f t):=
 PE.imp (OR hc hg hm hv ha hn bR he hpl) λ_ _ _ h=>Gq hi h
end
theorem cD.or{f:acb}{r r':aJ->Hp->VK->Prop}(h:cD X f r)(h':cD X f r'):cD X f (λxs H Q=>r xs H Q\/r' xs H Q):=by
 intro pins s σ H xs us Q I rx q
 rcases q with q | q
 ·exact h pins s σ H xs us Q I rx q
 ·exact h' pins s σ H xs us Q I rx q
noncomputable def bz:aw->Po W:=λxs ph=>match xs with
 | [.str z]=>if ↑z<=acd then O (.int ↑z,ph) else Z
 | [.kt ws]=>O (.int ↑ws,ph)
 | [w]=>(cM w ph).map λws=>(.int ↑ws,ph)
 | _=>Z
abbrev yy(K:abG):aJ->Hp->VK->Prop:=λxs H Q=>(∃p ys,xs=[.ref p]/\(bK K H p ys\/bX K H p ys)/\Q (.int ↑ys) H)\/(∃z,xs=[.str z]/\↑z<=acd/\Q (.int ↑z) H)
theorem IK:gp K (yy K) bz:=by
 intro φ ph H xs vs w ph' Q hH r e k;unfold bz at e;split at e
 ·split at e
  ·rename_i hz;cases e;cases r with
   | cons r r'=>cases r;cases r';exact .inr ⟨_,rfl,hz,k φ H _ hH Step.refl (.int _)⟩
  ·cases e
 ·cases e;cases r with
  | cons r r'=>
   cases r';cases r with
   | kt h rs=>exact .inl ⟨_,_,rfl,.inr (.inr h),by rw[<- ↑rs];exact k φ H _ hH Step.refl (.int _)⟩
 ·rename_i w0 cT abr;cases r with
  | cons r r'=>
   cases r';cases q:cM w0 ph with
   | none=>rw[q] at e;cases e
   | some ws=>
    rw[q] at e;cases e;obtain⟨a,ys,rfl,hs,rs⟩:=AK hH r q;exact .inl ⟨a,ys,rfl,hs,by rw[<- ↑rs];exact k φ H _ hH Step.refl (.int _)⟩
 ·cases e
theorem FH:cD X (.builtin "len") (yy X.K):=cD.or NG NH
noncomputable def lZ(K:abG)(T:String)(r:V->List V->Hp->VK->Prop)(f:W->List W->Po W):Prop:=∀{φ:Nat->abV} {ph:PH} {H:Hp} {x:W} {xs:aw} {vx:V} {vs:aJ} {w:W} {ph':PH} {Q:VK},
 aH K φ ph H->aQ K φ ↑ph H x vx->a9 K φ ↑ph H xs vs->f x xs ph=O (w,ph') →
 (∀ak H' v,aH K ak ph' H'->Step K φ ↑ph H ak ↑ph' H'->aQ K ak ↑ph' H' w v->Q v H')->r vx vs H Q
noncomputable def pF(K:abG)(T:String)(ty:W->PH->Bool):Prop:=∀{φ:Nat->abV} {ph:PH} {H:Hp} {x:W} {vx:V},aH K φ ph H->aQ K φ ↑ph H x vx->ty x ph=true->Dd K T vx H
noncomputable def oX(b:PH->Bool):Po Unit:=λph=>if b ph=true then O ((),ph) else Z
noncomputable def bL(ty:W->PH->Bool)(f:W->List W->Po W)(o:EM)(a:AM):EM:=λσ=>ax (o σ) λx=>ax (lift (oX (ty x))) λ_=>ax (a σ) λxs=>lift (f x xs)
noncomputable def fg(w:W)(ph:PH):Bool:=match w with
 | .ref i=>match ph[i]? with
  | some (.lst _)=>true
  | _=>false
 | .fl _=>true
 | _=>false
theorem XU:pF K "list" fg:=by
 intro φ ph H x vx hH rx e;unfold fg at e;cases rx with
 | ref hi=>
  simp only at e;split at e
  ·rename_i cO hw;obtain⟨vs,hv,r⟩:=hH.hp _ _ hw;exact .inl ⟨rfl,vs,bK.of hv⟩
  ·cases e
 | fl h r=>exact .inl ⟨rfl,_,h.sq⟩
 | _=>cases e
section
variable{X:Cx}{o e:adA}{es:bS}{mo:EM}{t:AM}{name:Str}{apos cV:Pos}{T id:String}{r:V->List V->Hp->VK->Prop}{ty:W->PH->Bool}{f:W->List W->Po W}
theorem Qd(ht:pF X.K T ty)(hi:lZ X.K T r f){σ:L2.St}{H:Hp}{Q:VK}(h:tM X (bL ty f mo t) σ H Q):LJ X.K T r (tM X mo) (tA X t) σ H Q:=by
 obtain⟨φ,ph,ws,hH,hS,h⟩:=h;refine tM.bind hH hS h λx ph1 av H1 v aB s1 r1 h=>?_
 rw[dW] at h;obtain⟨_,ph2,e2,h⟩:=run_lift h;unfold oX at e2;split at e2
 ·rename_i hy;cases e2;refine⟨ht aB r1 hy,tA.bind aB (hS.mono s1) h λxs ph2 bf H2 vs bu s2 r2 h=>?_⟩;obtain⟨w,ph',e,k⟩:=run_lift h;exact hi bu (r1.mono s2) r2 e λgc H3 v eS s3 r3=>k gc H3 v eS ((s1.trans s2).trans s3) r3
 ·cases e2
theorem XW(pa:aiz T)(slot:Slot T name id)(lU:typeOf (.builtin id)=pure (.type "method_descriptor"))(hm:nF X id r)(ht:pF X.K T ty)(hi:lZ X.K T r f)(ho:IE X o mo)(ha:IA X (e::es) t)(iI:aeM o name X.env (aeX o X.env)=aeX o X.env:=by rfl)
  (Cr:((afv cV (acv (e::es) X.env)).all (λx=> !x.1)&&(backToKw cV (ahj [] X.env)).all (λx=>x.1.isSome)
   && decide ((e::es).length+([]:List Keyword).length+(if([]:List Keyword).isEmpty then 0 else 1)<30))=true:=by rfl)
  (lh:(apos.endLine==cV.line)=true:=by rfl) (hs:acv (e::es) X.env=(false,aeX e X.env)::acv es X.env:=by rfl) (tP:(afv cV (acv es X.env)).any (·.1)=false:=by rfl) :
  IE X (.Call (.Attribute o name apos) (e::es) [] cV) (bL ty f mo t):=
 PE.imp (XI pa slot lU hm ho ha iI Cr lh hs tP) λ_ _ _ h=>Qd ht hi h
end
variable{i:Nat}
theorem AL{zh:aw}(hH:aH K φ ph H)(hi:ph[i]? =O (.lst zh))(r:a9 K φ ↑ph H ws vs):aH K φ (ph.set i (.lst ws)) (upd H (φ i) (.lst vs))/\Step K φ ↑ph H φ (ph.set i (.lst ws)).length (upd H (φ i) (.lst vs)):=by
 obtain⟨y,ey,my⟩:=hH.mu hi rfl;have s:=ms (K:=K) (φ:=φ) (n:=↑ph) (y:=HO.lst vs) ey my;rw[adU];exact⟨hH.put hi rfl ⟨vs,bU,r.mono s⟩,s⟩
noncomputable def eE:W->List W->Po W:=λx xs ph=>match x,xs with
 | .ref i,[y]=>match ph[i]? with
  | some (.lst ws)=>if ↑ws<acd then O (.ay,ph.set i (.lst (ws++[y]))) else Z
  | _=>Z
 | _,_=>Z
theorem O0:lZ K "list" Hc eE:=by
 intro φ ph H x xs vx vs w ph' Q hH rx rs e k;unfold eE at e;split at e
 ·rename_i i y;split at e
  ·rename_i ws hw;split at e
   ·rename_i hz;cases e;cases rx with
    | ref hi=>
     cases rs with
     | cons ry rr=>
      cases rr;obtain⟨us,hv,r⟩:=hH.hp _ _ hw;obtain⟨q1,q2⟩:=AL hH hw (r.append (.cons ry .nil));exact⟨_,us,_,rfl,rfl,hv,by rw[<- ↑r];exact hz,k φ _ _ q1 q2 .ay⟩
   ·cases e
  ·cases e
 ·cases e
noncomputable def fA:W->Po W:=λx=>match x with
 | .int i=>ret (.int (-i))
 | _=>eG
theorem Vc:LP K (rU λi=>.int (-i)) fA:=by
 intro φ ph H x vx w ph' Q hH rx e k;unfold fA at e;split at e
 ·cases e;cases rx;exact⟨_,rfl,k φ H _ hH Step.refl (.int _)⟩
 ·cases e
noncomputable def lz:W->W->Po W:=Dh λi j=>i-j
theorem Vd:cK K (jZ λi j=>.int (i-j)) lz:=XN
noncomputable def aV:W->W->Po W:=qR (λ_ j=>decide (j≠0)) λi j=>i.fmod j
theorem Ve:cK K (rI (λ_ j=>j≠0) λi j=>.int (i.fmod j)) aV:=ID λi j h=>by simpa using h
noncomputable def J4(i j:Int):Prop:=j≠0/\j.natAbs<2 ^ 64
theorem Qe:bH X (afj .FloorDiv) (rI J4 λi j=>.int (i.fdiv j)):=C5 λi j _ _ _ _ _ hc q=>floordiv_int hc.1 q (.inl (PyProof.noPylong_of_log2 (by
 have h0:j.natAbs≠0:=by have:=hc.1;omega
 have:=(Nat.log2_lt h0).mpr hc.2;omega)))
noncomputable def bv:W->W->Po W:=qR (λ_ j=>decide (j≠0)&&decide (j.natAbs<2 ^ 64)) λi j=>i.fdiv j
theorem Vf:cK K (rI J4 λi j=>.int (i.fdiv j)) bv:=ID λi j h=>by
 rw[abK] at h;exact⟨of_decide_eq_true h.1,of_decide_eq_true h.2⟩
noncomputable def gE:W->W->Po W:=qS λi j=>decide (i<j)
noncomputable def d7:W->W->Po W:=qS λi j=>decide (i<=j)
noncomputable def gF:W->W->Po W:=qS λi j=>decide (j<i)
noncomputable def geW:W->W->Po W:=qS λi j=>decide (j<=i)
noncomputable def mulC(i j:Int):Bool:=(decide (-(2 ^ 64)<i)&&decide (i<2 ^ 64))||(decide (-(2 ^ 64)<j)&&decide (j<2 ^ 64))
noncomputable def qU:W->W->Po W:=λx y=>match x,y with
 | .int i,.int j=>if mulC i j=true then ret (.int (i*j)) else eG
 | _,_=>eG
theorem Vg:cK K (rI uz λi j=>.int (i*j)) qU:=by
 intro φ ph H x y vx vy w ph' Q hH rx ry e k;unfold qU at e;split at e
 ·split at e
  ·rename_i hc;cases e;cases rx;cases ry;refine⟨_,_,rfl,rfl,?_,k φ H _ hH Step.refl (.int _)⟩;unfold mulC at hc;simp only[afQ,abK,decide_eq_true_eq] at hc;exact hc
  ·cases e
 ·cases e
noncomputable def addW:W->W->Po W:=λx y ph=>match x,y with
 | .int i,.int j=>O (.int (i+j),ph)
 | .str i,.str j=>if ↑i+↑j<=acd then O (.str (i++j),ph) else Z
 | .ref a,.ref b=>match ph[a]?,ph[b]? with
  | some (.lst xs),O (.lst ys)=>if ↑xs+↑ys<=acd then O (.ref ↑ph,ph++[.lst (xs++ys)]) else Z
  | _,_=>Z
 | .tup xs,.tup ys=>if xs≠[]/\↑xs+↑ys<=acd then O (.tup (xs++ys),ph) else Z
 | _,_=>Z
abbrev Ka(K:abG):R2:=λx y H Q=>((jZ λi j=>.int (i+j)) x y H Q\/∃i j,x=.str i/\y=.str j/\↑i+↑j<=acd/\Q (.str (i++j)) H)\/(KU x y H Q\/JU K x y H Q)
theorem RU:bH X (afj .Add) (Ka X.K):=bH.or (bH.or Uy N8) (bH.or UP RE)
theorem Vh:cK K (Ka K) addW:=by
 intro φ ph H x y vx vy w ph' Q hH rx ry e k;unfold addW at e;split at e
 ·cases e;cases rx;cases ry;exact .inl (.inl ⟨_,_,rfl,rfl,k φ H _ hH Step.refl (.int _)⟩)
 ·split at e
  ·rename_i hz;cases e;cases rx;cases ry;exact .inl (.inr ⟨_,_,rfl,rfl,hz,k φ H _ hH Step.refl (.str _)⟩)
  ·cases e
 ·split at e
  ·rename_i xs ys hx hy;split at e
   ·rename_i hz;cases e;cases rx;cases ry;obtain⟨us,hu,ru⟩:=hH.hp _ _ hx;obtain⟨vs,hv,rv⟩:=hH.hp _ _ hy;refine .inr (.inl ⟨_,_,us,vs,rfl,rfl,hu,hv,by rw[<- ↑ru,<- ↑rv];exact hz,λp hp=>?_⟩);obtain⟨q1,q2,q3⟩:=kW hH (ru.append rv) hp;exact k _ _ _ q1 q2 q3
   ·cases e
  ·cases e
 ·split at e
  ·rename_i xs ys hz;cases e;cases rx with
   | tup hx rx=>
    cases ry with
    | tup hy ry=>
     rename_i a us b vs;refine .inr (.inr ⟨a,b,us,vs,rfl,rfl,bX.of hx,bX.of hy,?_,by rw[<- ↑rx,<- ↑ry];exact hz.2,λhe=>?_,λhn p hp=>?_⟩)
     ·rintro rfl;cases rx;exact hz.1 rfl
     ·subst he;cases ry;refine k φ H _ hH Step.refl ?_;rw[afN];exact .tup hx rx
     ·exact k φ _ _ (hH.tup hp) (gI hp) (.tup bU ((rx.append ry).mono (gI hp)))
  ·cases e
 ·cases e
noncomputable def lA:W->W->Po W:=λx y=>match y with
 | .ay=>ret (.bl (decide (x=.ay)))
 | _=>eG
noncomputable def Kb:W->W->Po W:=λx y=>match y with
 | .ay=>ret (.bl (!decide (x=.ay)))
 | _=>eG
variable{x:W}
theorem RV(r:aQ K φ n H x v):decide (x=.ay)=decide (v=.ay):=by
 cases r <;> simp
theorem Vi:cK K (λx y H Q=>y=.ay/\Q (.bl (decide (x=.ay))) H) lA:=by
 intro φ ph H x y vx vy w ph' Q hH rx ry e k;unfold lA at e;split at e
 ·cases e;cases ry;exact⟨rfl,by rw[<- RV rx];exact k φ H _ hH Step.refl (.bl _)⟩
 ·cases e
noncomputable def uE:aw->Po W:=λxs=>match xs with
 | [.int i]=>ret (.int i)
 | [.bl b]=>ret (.int (if b then 1 else 0))
 | _=>eG
theorem Vj:gp K (λxs H Q=>(∃i,xs=[.int i]/\Q (.int i) H)\/∃k,xs=[.bl k]/\Q (.int (if k then 1 else 0)) H) uE:=by
 intro φ ph H xs vs w ph' Q hH r e k;unfold uE at e;split at e
 ·cases e;cases r with
  | cons r r'=>cases r;cases r';exact .inl ⟨_,rfl,k φ H _ hH Step.refl (.int _)⟩
 ·cases e;cases r with
  | cons r r'=>cases r;cases r';exact .inr ⟨_,rfl,k φ H _ hH Step.refl (.int _)⟩
 ·cases e
noncomputable def qV:aw->Po W:=λxs=>match xs with
 | [.int i]=>ret (.int (if i<0 then -i else i))
 | _=>eG
theorem aaY:gp K (λxs H Q=>∃i,xs=[.int i]/\Q (.int (if i<0 then -i else i)) H) qV:=by
 intro φ ph H xs vs w ph' Q hH r e k;unfold qV at e;split at e
 ·cases e;cases r with
  | cons r r'=>cases r;cases r';exact⟨_,rfl,k φ H _ hH Step.refl (.int _)⟩
 ·cases e
noncomputable def ug(w:W)(ph:PH):Option String:=match w with
 | .ay=>O "NoneType"
 | .bl _=>O "bool"
 | .int _=>O "int"
 | .str _=>O "str"
 | .tup _=>O "tuple"
 | .fl _=>O "list"
 | .ref i=>match ph[i]? with
  | some (.lst _)=>O "list"
  | some (.bI _)=>O "dict"
  | _=>Z
 | .exc .. =>Z
 | .fn .. =>Z
 | .kt .. =>Z
noncomputable def fb(t c:String):Bool:=t==c||(t=="bool"&&c=="int")
noncomputable def hV(c:String)(w:W):Po W:=λph=>match ug w ph with
 | some t=>O (.bl (fb t c),ph)
 | none=>Z
noncomputable def cN(c:String)(m:EM):EM:=λσ=>ax (m σ) λw=>lift (hV c w)
inductive kC(K:abG)(H:Hp):V->String->Prop where
 | ay:kC K H .ay "NoneType"
 | bl (x:Bool):kC K H (.bl x) "bool"
 | int (i:Int):kC K H (.int i) "int"
 | str (x:Str):kC K H (.str x) "str"
 | lst {a:abV} {xs:aJ} (e:bK K H a xs):kC K H (.ref a) "list"
 | tup {a:abV} {xs:aJ} (e:bX K H a xs):kC K H (.ref a) "tuple"
 | dk {a:abV} {kvs:dc} (e:H a=O (.dK kvs)):kC K H (.ref a) "dict"
 | dt {a:abV} {kvs:gK} (e:H a=O (.dT kvs)):kC K H (.ref a) "dict"
theorem RW{w:W}{t:String}(hH:aH K φ ph H)(r:aQ K φ ↑ph H w v)(e:ug w ph=O t):kC K H v t:=by
 unfold ug at e;cases r with
 | ay=>cases e;exact .ay
 | bl b=>cases e;exact .bl b
 | int b=>cases e;exact .int b
 | str b=>cases e;exact .str b
 | tup h r=>cases e;exact .tup (bX.of h)
 | fl h r=>cases e;exact .lst h.sq
 | ref hi=>
  simp only at e;split at e
  ·rename_i ws hw;cases e;obtain⟨vs,hv,_⟩:=hH.hp _ _ hw;exact .lst (bK.of hv)
  ·rename_i ws hw;cases e
   rcases hH.hp _ _ hw with⟨kvs,q,_⟩ | ⟨kvs,q,_⟩
   ·exact .dk q
   ·exact .dt q
  ·cases e
 | exc=>cases e
 | fn=>cases e
 | kt=>cases e
noncomputable def nj(K:abG)(c:String):Prop:=∀t∈["NoneType","bool","int","str","list","tuple","dict"],aco K (.type t) (.type c)=O (fb t c)
noncomputable def rIs(K:abG)(c:String):aJ->Hp->VK->Prop:=λxs H Q=>∃x t,xs=[x,.ty c]/\kC K H x t/\Q (.bl (fb t c)) H
theorem RX{c:String}(hk:nj X.K c):cD X (.builtin "isinstance") (rIs X.K c):=by
 intro pins s σ H xs us Q I r h;obtain⟨x,t,rfl,kv,q⟩:=h;obtain⟨u,u2,rfl,rx,rc⟩:=Vals.two r;obtain rfl:u2=Value.type c:=rc;have fin:∀tk,EP X pins σ Q (.bool (fb t c)) { s with toks:=tk }:=λtk=>⟨.bl _,H,I.tok tk,rfl,q⟩
 cases kv with
 | ay=>cases(show u=acB from rx);exact adW PySem.W.kitx_none I.cS aeT (hk _ (by decide)) (λz=>nomatch z) fin
 | bl y=>cases(show u=afG y from rx);exact adW PySem.W.kitx_bool I.cS aeT (hk _ (by decide)) (λz=>nomatch z) fin
 | int i=>obtain⟨t,rfl⟩:=(show ∃t,u=aij i t from rx);exact adW PySem.W.kitx_int I.cS aeT (hk _ (by decide)) (λz=>nomatch z) fin
 | str y=>obtain⟨t,rfl⟩:=(show ∃t,u=aik y t from rx);exact adW PySem.W.kitx_str I.cS aeT (hk _ (by decide)) (λz=>nomatch z) fin
 | @lst a ys e=>
  cases(show u=acu a from rx);obtain⟨its,_,⟨o,n,h1,h2,_⟩,_⟩:=I.list e;exact adW PySem.W.kitx_list I.cS ⟨_,h1,h2⟩ (hk _ (by decide)) (λz=>nomatch z) fin
 | @tup a ys e=>
  cases(show u=acu a from rx);obtain⟨its,_,⟨o,h1,h2,_⟩,_⟩:=I.tuple e;exact adW PySem.W.kitx_tuple I.cS ⟨_,h1,h2⟩ (hk _ (by decide)) (λz=>nomatch z) fin
 | @dk a kvs e=>
  cases(show u=acu a from rx);obtain⟨_,_,vs,_,ob,_,_,h1,h2,_⟩:=mM I.aA e;exact adW aiB I.cS ⟨_,h1,h2.1⟩ (hk _ (by decide)) (λz=>nomatch z) fin
 | @dt a kvs e=>
  cases(show u=acu a from rx);obtain⟨_,_,xs,_,ob,_,_,h1,h2,_⟩:=BV I.aA e;exact adW aiB I.cS ⟨_,h1,h2.1⟩ (hk _ (by decide)) (λz=>nomatch z) fin
section
variable{X:Cx}{e:adA}{m:EM}{p p2 pos:Pos}
theorem XX{c:Str}{cn:String}(hk:nj X.K cn)(hv:adp c=O (.type cn))(hg:Gl X "isinstance")(hm:X.mg "isinstance"=Z)(fG:Gl X c)(fH:X.mg c=Z)(he:IE X e m)(hn:c≠"__name__":=by decide)(hd:(c==("__debug__":Str))=false:=by decide)
  (hs:acv [e,.Name c p2] X.env=[(false,aeX e X.env),(false,aeX (.Name c p2) X.env)]:=by rfl) (dI:acv [.Name c p2] X.env=[(false,aeX (.Name c p2) X.env)]:=by rfl)
  (hpl:(afv pos (acv [.Name c p2] X.env)).any (·.1)=false:=by rfl) :
  IE X (.Call (.Name "isinstance" p) [e,.Name c p2] [] pos) (cN cn m):=by
 refine PE.imp (AG (RX hk) hg hm agm (mB he (mB (G6 (v:=.ty cn) fG fH hv rfl hn hd) tL (by rw[dI];rfl)) (by rw[hs,dI])) (he:=by rw[hs,dI]) (hpl:=hpl)) λσ H Q h=>?_
 obtain⟨φ,ph,ws,hH,hS,h⟩:=h;refine tM.bind hH hS h λx ph1 av H1 vx aB s1 rx h=>?_
 obtain⟨w,ph',e,k⟩:=run_lift h;unfold hV at e;split at e
 ·rename_i t ht;cases e;exact⟨vx,t,rfl,RW aB rx ht,k av H1 _ aB s1 (.bl _)⟩
 ·cases e
end
theorem aaM:nj K "int":=by
 intro t ht;simp only[abR,aeR,or_false] at ht
 rcases ht with rfl | rfl | rfl | rfl | rfl | rfl | rfl <;> rfl
theorem aaE:nj K "bool":=by
 intro t ht;simp only[abR,aeR,or_false] at ht
 rcases ht with rfl | rfl | rfl | rfl | rfl | rfl | rfl <;> rfl
theorem Qf:nj K "str":=by
 intro t ht;simp only[abR,aeR,or_false] at ht
 rcases ht with rfl | rfl | rfl | rfl | rfl | rfl | rfl <;> rfl
theorem O1:nj K "list":=by
 intro t ht;simp only[abR,aeR,or_false] at ht
 rcases ht with rfl | rfl | rfl | rfl | rfl | rfl | rfl <;> rfl
theorem aaA:nj K "tuple":=by
 intro t ht;simp only[abR,aeR,or_false] at ht
 rcases ht with rfl | rfl | rfl | rfl | rfl | rfl | rfl <;> rfl
noncomputable def aT{α β:Type}(f:α->Option β):List α->Option (List β)
 | []=>O []
 | a::as=>match f a,aT f as with
  | some b,O bs=>O (b::bs)
  | _,_=>Z
noncomputable def dat(ph:PH):Nat->W->Option afr
 | _,.ay=>O .none
 | _,.bl b=>O (.bool b)
 | _,.int i=>O (.int i)
 | _,.str x=>if adX x=true then O (.str x) else Z
 | n+1,.tup ws=>(aT (dat ph n) ws).map .tuple
 | n+1,.fl ws=>(aT (dat ph n) ws).map .list
 | n+1,.kt ws=>(aT (dat ph n) ws).map .tuple
 | n+1,.ref i=>match ph[i]? with
  | some (.lst ws)=>(aT (dat ph n) ws).map .list
  | _=>Z
 | _,_=>Z
section
variable{X:Cx}{pins:List (abV×Obj)}{σ:L2.St}{H:Hp}{s:abT}{φ:Nat->abV}{ph:PH}
noncomputable def nJ(s:abT)(n:Nat)(u:acb)(d:afr):Prop:=(∃as,Reads s.heap u d as)/\d.canLay0=true/\d.depth<=n
theorem Ap{n:Nat}(ih:∀{w:W} {v:V} {u:acb} {d:afr},aQ X.K φ ↑ph H w v->RelV v u->dat ph n w=O d->nJ s n u d) :
  ∀{ws:aw} {vs:aJ} {us:aS} {ds:List afr},a9 X.K φ ↑ph H ws vs->Vals vs us->aT (dat ph n) ws=O ds →
   (∃as,ReadsAll s.heap us ds as)/\aiC ds=true/\PyData.depthAll ds<=n
 | _,_,_,_,.nil,.nil,e=>by cases e;exact⟨⟨_,.nil⟩,rfl,adH _⟩
 | w::ws,_,_,ds,.cons h r,.cons hv rv,e=>by
  unfold aT at e;split at e
  ·rename_i b bs e1 e2;cases e;obtain⟨⟨as,r1⟩,c1,d1⟩:=ih h hv e1;obtain⟨⟨bs',r2⟩,c2,d2⟩:=Ap ih r rv e2;refine⟨⟨_,.cons r1 r2⟩,?_,?_⟩
   ·simp only[aiC,c1,c2,aiq]
   ·simp only[PyData.depthAll];omega
  ·cases e
theorem pV(I:Inv X pins σ H s)(hH:aH X.K φ ph H):∀(n:Nat) {w:W} {v:V} {u:acb} {d:afr},aQ X.K φ ↑ph H w v->RelV v u->dat ph n w=O d->nJ s n u d:=by
 have yz:∀(n:Nat) (ih:∀{w:W} {v:V} {u:acb} {d:afr},aQ X.K φ ↑ph H w v->RelV v u->dat ph n w=O d->nJ s n u d) {ws:aw} {vs:aJ} {d:afr} {a:abV},
   a9 X.K φ ↑ph H ws vs->((bK X.K H a vs/\(aT (dat ph n) ws).map PyData.list=O d)\/(bX X.K H a vs/\(aT (dat ph n) ws).map aiN=O d))->nJ s (n+1) (.ref a) d:=by
  intro n ih ws vs d a r h
  rcases h with⟨hq,e⟩ | ⟨hq,e⟩
  ·obtain⟨its,rv,⟨o,k,h1,h2,h3,h4⟩,_⟩:=I.list hq;obtain⟨ds,e1,e2⟩:=abU.mp e;subst e2;obtain⟨⟨as,r1⟩,c1,d1⟩:=Ap ih r rv e1;refine⟨⟨_,.list h1 h2 h4 (by simpa using r1)⟩,by simpa only[agP] using c1,?_⟩;simp only[PyData.depth];omega
  ·obtain⟨its,rv,⟨o,h1,h2,k,h4⟩,_⟩:=I.tuple hq;obtain⟨ds,e1,e2⟩:=abU.mp e;subst e2;obtain⟨⟨as,r1⟩,c1,d1⟩:=Ap ih r rv e1;refine⟨⟨_,.tuple h1 h2 h4 (by simpa using r1)⟩,by simpa only[agP] using c1,?_⟩;simp only[PyData.depth];omega
 intro n
 induction n with
 | zero=>
  intro w v u d r rv e;cases r with
  | ay=>cases rv;cases e;exact⟨⟨_,.none⟩,rfl,abO _⟩
  | bl b=>cases rv;cases e;exact⟨⟨_,.bool b⟩,rfl,abO _⟩
  | int i=>obtain⟨t,rfl⟩:=rv;cases e;exact⟨⟨_,.int i t⟩,rfl,abO _⟩
  | str x=>
   obtain⟨t,rfl⟩:=rv;unfold dat at e;split at e
   ·rename_i hx;cases e;exact⟨⟨_,.str x t⟩,by simpa only[agP] using hx,abO _⟩
   ·cases e
  | _=>cases e
 | succ n ih=>
  intro w v u d r rv e;cases r with
  | ay=>cases rv;cases e;exact⟨⟨_,.none⟩,rfl,adH _⟩
  | bl b=>cases rv;cases e;exact⟨⟨_,.bool b⟩,rfl,adH _⟩
  | int i=>obtain⟨t,rfl⟩:=rv;cases e;exact⟨⟨_,.int i t⟩,rfl,adH _⟩
  | str x=>
   obtain⟨t,rfl⟩:=rv;unfold dat at e;split at e
   ·rename_i hx;cases e;exact⟨⟨_,.str x t⟩,by simpa only[agP] using hx,adH _⟩
   ·cases e
  | tup h r=>cases rv;exact yz n ih r (.inr ⟨bX.of h,e⟩)
  | exc=>unfold dat at e;cases e
  | fn=>unfold dat at e;cases e
  | kt h r=>cases rv;exact yz n ih r (.inr ⟨.inr h,e⟩)
  | fl h r=>cases rv;exact yz n ih r (.inl ⟨h.sq,e⟩)
  | ref hi=>
   cases rv;unfold dat at e;split at e
   ·rename_i ws hw;obtain⟨vs,hv,r⟩:=hH.hp _ _ hw;exact yz n ih r (.inl ⟨bK.of hv,e⟩)
   ·cases e
end
noncomputable def fZ(ph:PH)(x y:W):Option Bool:=match dat ph 40 x,dat ph 40 y with
 | some a,O b=>O (acI a b)
 | _,_=>Z
noncomputable def bo:W->W->Po W:=λx y ph=>(fZ ph x y).map λb=>(.bl b,ph)
noncomputable def ck:W->W->Po W:=λx y ph=>(fZ ph x y).map λb=>(.bl (!b),ph)
noncomputable def rD(K:abG)(f:Bool->Bool):R2:=λx y H Q=>∃φ ph wx wy b,aH K φ ph H/\aQ K φ ↑ph H wx x/\aQ K φ ↑ph H wy y/\fZ ph wx wy=O b/\Q (.bl (f b)) H
variable{y:W}{b:Bool}
theorem Gr(h:fZ ph x y=O b):∃dx dy,dat ph 40 x=O dx/\dat ph 40 y=O dy/\b=acI dx dy:=by
 unfold fZ at h;split at h
 ·rename_i dx dy h1 h2;cases h;exact⟨dx,dy,h1,h2,rfl⟩
 ·cases h
theorem Vk(hu:X.A.units+64<aix):bH X (acU .Eq) (rD X.K λb=>b):=by
 intro pins s σ H x y v u Q I rx ry h;obtain⟨φ,ph,wx,wy,b,hH,r1,r2,e,q⟩:=h;obtain⟨dx,dy,e1,e2,rfl⟩:=Gr e;obtain⟨⟨as,k1⟩,c1,l1⟩:=pV I hH 40 r1 rx e1;obtain⟨⟨bs,k2⟩,c2,l2⟩:=pV I hH 40 r2 ry e2;exact SeqAt.compareEq_reads k1 k2 c1 c2 ∅ ⟨.bl _,H,I,rfl,q⟩
theorem Vl(hu:X.A.units+64<aix):bH X (acU .NotEq) (rD X.K λb=> !b):=by
 intro pins s σ H x y v u Q I rx ry h;obtain⟨φ,ph,wx,wy,b,hH,r1,r2,e,q⟩:=h;obtain⟨dx,dy,e1,e2,rfl⟩:=Gr e;obtain⟨⟨as,k1⟩,c1,l1⟩:=pV I hH 40 r1 rx e1;obtain⟨⟨bs,k2⟩,c2,l2⟩:=pV I hH 40 r2 ry e2;exact SeqAt.compareNe_reads k1 k2 c1 c2 ∅ ⟨.bl _,H,I,rfl,q⟩
theorem XY:cK K (rD K λb=>b) bo:=by
 intro φ ph H x y vx vy w ph' Q hH rx ry e k;obtain⟨b,e1,e2⟩:=abU.mp e;cases e2;exact⟨φ,ph,x,y,b,hH,rx,ry,e1,k φ H _ hH Step.refl (.bl _)⟩
theorem XZ:cK K (rD K λb=> !b) ck:=by
 intro φ ph H x y vx vy w ph' Q hH rx ry e k;obtain⟨b,e1,e2⟩:=abU.mp e;cases e2;exact⟨φ,ph,x,y,b,hH,rx,ry,e1,k φ H _ hH Step.refl (.bl _)⟩
noncomputable def inD(ph:PH)(x y:W):Option Bool:=match cM y ph,dat ph 40 x with
 | some ws,O dx=>(aT (dat ph 40) ws).map λds=>ds.any λd=>acI d dx
 | _,_=>Z
noncomputable def iV:W->W->Po W:=λx y ph=>(inD ph x y).map λb=>(.bl b,ph)
noncomputable def qW:W->W->Po W:=λx y ph=>(inD ph x y).map λb=>(.bl (!b),ph)
noncomputable def qX(K:abG)(f:Bool->Bool):R2:=λx y H Q=>∃φ ph wx wy b,aH K φ ph H/\aQ K φ ↑ph H wx x/\aQ K φ ↑ph H wy y/\inD ph wx wy=O b/\Q (.bl (f b)) H
open Classical in
noncomputable def oH(s:abT)(dx:afr)(u:acb):Bool:=if h:∃d,nJ s 40 u d then acI h.choose dx else false
theorem Gs{s:abT}{dx d:afr}{u:acb}(h:nJ s 40 u d):oH s dx u=acI d dx:=by
 unfold oH;have hx:∃d,nJ s 40 u d:=⟨d,h⟩
 rw[dif_pos hx];obtain⟨⟨as,r⟩,c,_⟩:=h;obtain⟨⟨as',r'⟩,c',_⟩:=hx.choose_spec;rw[SeqAt.Reads.unique _ _ _ _ _ c' r' r]
section
variable{X:Cx}{pins:List (abV×Obj)}{σ:L2.St}{H:Hp}{s:abT}{φ:Nat->abV}{ph:PH}
theorem Hg(I:Inv X pins σ H s)(hH:aH X.K φ ph H){dx:afr}:∀{ws:aw} {vs:aJ} {us:aS} {ds:List afr},a9 X.K φ ↑ph H ws vs->Vals vs us->aT (dat ph 40) ws=O ds →
  (us.any (oH s dx)=ds.any λd=>acI d dx)/\∀u∈us,∃d,nJ s 40 u d
 | _,_,_,_,.nil,.nil,e=>by cases e;exact⟨rfl,λ_ h=>nomatch h⟩
 | w::ws,_,_,ds,.cons h r,.cons hv rv,e=>by
  unfold aT at e;split at e
  ·rename_i b bs e1 e2;cases e;have q:=pV I hH 40 h hv e1;obtain⟨r1,r2⟩:=Hg I hH (dx:=dx) r rv e2;refine⟨by rw[acO,acO,r1,Gs q],λu hu=>?_⟩
   rcases abR.mp hu with rfl | hu
   ·exact⟨_,q⟩
   ·exact r2 u hu
  ·cases e
theorem Hh(I:Inv X pins σ H s)(hH:aH X.K φ ph H){wx wy:W}{x y:V}{v u:acb}{b:Bool}(hu:X.A.units+64<aix)(r1:aQ X.K φ ↑ph H wx x)(r2:aQ X.K φ ↑ph H wy y)(rx:RelV x v)(ry:RelV y u)(e:inD ph wx wy=O b):∃(a:abV) (its:aS) (f:acb->Bool),u=.ref a/\(s.heap.IsList a its.toArray\/s.heap.IsTuple a its.toArray)/\(∀z,z∈its.toArray->aiy X.A.in1 s z v (f z))/\its.toArray.any f=b:=by
 unfold inD at e;split at e
 ·rename_i ws dx hs hd;obtain⟨ds,e1,e2⟩:=abU.mp e;obtain⟨a,vs,rfl,hq,rs⟩:=AK hH r2 hs;cases ry;obtain⟨⟨as,k1⟩,c1,l1⟩:=pV I hH 40 r1 rx hd;have fin:∀{its:aS},Vals vs its->(∀z,z∈its.toArray->aiy X.A.in1 s z v (oH s dx z))/\its.toArray.any (oH s dx)=b:=λ{its} rv=>by
   obtain⟨q1,q2⟩:=Hg I hH (dx:=dx) rs rv e1;refine⟨λz hz=>?_,by rw[show its.toArray.any (oH s dx)=its.any (oH s dx) by simp,q1,e2]⟩;obtain⟨d,hd⟩:=q2 z (by simpa using hz);rw[Gs hd];obtain⟨⟨bs,k2⟩,c2,l2⟩:=hd;intro prog w E Q hQ;exact SeqAt.eqBoolOverData prog w _ E s z v d dx bs as Q k2 k1 c2 c1 (by show X.A.units+1+_<_;omega) hQ
  rcases hq with hq | hq
  ·obtain⟨its,rv,pl,_⟩:=I.list hq;obtain⟨f1,f2⟩:=fin rv;exact⟨a,its,_,rfl,.inl pl.isList,f1,f2⟩
  ·obtain⟨its,rv,pl,_⟩:=I.tuple hq;obtain⟨f1,f2⟩:=fin rv;exact⟨a,its,_,rfl,.inr pl,f1,f2⟩
 ·cases e
end
theorem Vm(hu:X.A.units+64<aix):bH X (acU .In) (qX X.K λb=>b):=by
 intro pins s σ H x y v u Q I rx ry h;obtain⟨φ,ph,wx,wy,b,hH,r1,r2,e,q⟩:=h;obtain⟨a,its,f,rfl,hq,hf,hb⟩:=Hh I hH hu r1 r2 rx ry e;subst hb
 rcases hq with hq | hq
 ·exact SeqAt.in_listAt f hq hf ⟨.bl _,H,I,rfl,q⟩
 ·exact SeqAt.in_tupleAt f hq hf ⟨.bl _,H,I,rfl,q⟩
theorem RY(hu:X.A.units+64<aix):bH X (acU .NotIn) (qX X.K λb=> !b):=by
 intro pins s σ H x y v u Q I rx ry h;obtain⟨φ,ph,wx,wy,b,hH,r1,r2,e,q⟩:=h;obtain⟨a,its,f,rfl,hq,hf,hb⟩:=Hh I hH hu r1 r2 rx ry e;subst hb
 rcases hq with hq | hq
 ·exact SeqAt.notIn_listAt f hq hf ⟨.bl _,H,I,rfl,q⟩
 ·exact SeqAt.notIn_tupleAt f hq hf ⟨.bl _,H,I,rfl,q⟩
theorem X1:cK K (qX K λb=>b) iV:=by
 intro φ ph H x y vx vy w ph' Q hH rx ry e k;obtain⟨b,e1,e2⟩:=abU.mp e;cases e2;exact⟨φ,ph,x,y,b,hH,rx,ry,e1,k φ H _ hH Step.refl (.bl _)⟩
theorem Vn:cK K (qX K λb=> !b) qW:=by
 intro φ ph H x y vx vy w ph' Q hH rx ry e k;obtain⟨b,e1,e2⟩:=abU.mp e;cases e2;exact⟨φ,ph,x,y,b,hH,rx,ry,e1,k φ H _ hH Step.refl (.bl _)⟩
noncomputable def pZ(env:Env)(x:Str×afk)(s:List (Str×abV)):Sem (ForInStep (List (Str×abV))):=
 if(x.2==acy)=true then do
  let a <- cellOf env x.1
  pure (aek ((x.1,a)::s))
 else pure (aek s)
theorem AN(env:Env):∀(names:List (Str×afk)) (acc:List (Str×abV)),(∀y∈names,y.2=.free->∃c,env.cells.lookup y.1=O c) →
  ∃cl,(forIn names acc (pZ env):Sem (List (Str×abV)))=pure cl/\(∀x c,cl.lookup x=O c->acc.lookup x=O c\/(env.cells.lookup x=O c/\(x,acy)∈names)) /\
   (∀x,((∃c,acc.lookup x=O c)\/(x,acy)∈names)->∃c,cl.lookup x=O c)
 | [],acc,_=>⟨acc,rfl,λx c h=>.inl h,λx h=>h.elim id λz=>nomatch z⟩
 | (n,k)::r,acc,h=>by
  by_cases hk:k=.free
  ·subst hk;obtain⟨c,hc⟩:=h (n,.free) adF rfl;obtain⟨cl,e,h1,h2⟩:=AN env r ((n,c)::acc) λy hy=>h y (abN _ hy)
   refine⟨cl,?_,λx c' hx=>?_,λx hx=>h2 x ?_⟩
   ·rw[ael];have eb:pZ env (n,.free) acc=pure (aek ((n,c)::acc)):=by
     unfold pZ;rw[if_pos (by rfl)];unfold cellOf;rw[hc];rfl
    rw[eb];exact e
   ·rcases h1 x c' hx with z | z
    ·rw[acq] at z;cases q:x==n with
     | true=>
      rw[q] at z;cases z;have:x=n:=eq_of_beq q;subst this;exact .inr ⟨hc,adF⟩
     | false=>rw[q] at z;exact .inl z
    ·exact .inr ⟨z.1,abN _ z.2⟩
   ·rcases hx with⟨c',hx⟩ | hx
    ·rw[acq];cases q:x==n with
     | true=>exact .inl ⟨c,rfl⟩
     | false=>exact .inl ⟨c',hx⟩
    ·rcases abR.mp hx with z | z
     ·cases z;exact .inl ⟨c,by rw[acq];simp⟩
     ·exact .inr z
  ·obtain⟨cl,e,h1,h2⟩:=AN env r acc λy hy=>h y (abN _ hy)
   refine⟨cl,?_,λx c' hx=>?_,λx hx=>h2 x ?_⟩
   ·rw[ael];have eb:pZ env (n,k) acc=pure (aek acc):=by
     unfold pZ;rw[if_neg (by simpa using hk)]
    rw[eb];exact e
   ·rcases h1 x c' hx with z | z
    ·exact .inl z
    ·exact .inr ⟨z.1,abN _ z.2⟩
   ·rcases hx with hx | hx
    ·exact .inl hx
    ·rcases abR.mp hx with z | z
     ·cases z;exact absurd rfl hk
     ·exact .inr z
variable{env:Env}
theorem RZ{scope:aes}(h:∀y∈scope.names,y.2=.free->∃c,env.cells.lookup y.1=O c):∃cl,closureFor scope env=pure cl/\(∀x c,cl.lookup x=O c->env.cells.lookup x=O c/\(x,acy)∈scope.names)/\(∀x,(x,acy)∈scope.names->∃c,cl.lookup x=O c):=by
 obtain⟨cl,e,h1,h2⟩:=AN env scope.names [] h;refine⟨cl,?_,λx c hx=>?_,λx hx=>h2 x (.inr hx)⟩
 ·unfold closureFor;show(forIn scope.names [] (pZ env) >>= λs=>pure s)=pure cl;rw[e];rfl
 ·rcases h1 x c hx with z | z
  ·cases z
  ·exact z
noncomputable def bZ(X:Cx)(N:aN)(scope:aes)(cl:List (Str×abV))(C:abV)(aI:abT)(ba:Hp)(ex:List abV):Cx:=
 { X with N:=N,aI:=aI,ba:=ba,env:=compEnvC scope cl C X.env,outer:=X.stack,stack:=X.stack,ex:=ex,fn:=λ_=>false,pn:=[],xe:=λ_ _=>False,kp:=λ_=>True }
abbrev _root_.eY:=List (Option Nat)
noncomputable def lB(cap:eY)(σ:L2.St):L2.St:=cap.map λo=>o.bind λi=>(σ[i]?).join
noncomputable def xY(wi:TI)(cap:eY)(g:TG)(tc:TT)(te:TE):TE:=λσ H Q=>wi σ H λJ H1=>∀D,H1 D=Z->∃W:Nat->Nat->L2.St->Hp->Prop,(∃m,W 0 m (lB cap σ) (upd H1 D (.lst []))) /\
 ∀i m bE H2,W i m bE H2->(J.stop i H2/\Q (.ref D) H2)\/(J.go i H2/\∀x H3,J.rB i H2 x H3->g x bE H3 λiD H4=>tc iD H4 λb H5=>
  if b=true then te iD H5 λv H6=>∃xs,H6 D=O (.lst xs)/\↑xs<acd/\∃m',m'<m/\W (i+1) m' iD (upd H6 D (.lst (xs++[v]))) else ∃m',m'<m/\W (i+1) m' iD H5)
noncomputable def PF(X:Cx)(ifs:bS)(t:TT):Prop:=
 ∀(pins:List (abV×Obj)) (s:abT) (σ:L2.St) (H:Hp) (Q:Bool->Hp->Prop),Inv X pins σ H s->t σ H Q →
  acf (acr X.prog X.w) X.A (forIn ifs true λc r=>if r=true then do let ok <- isTrue c X.env (aeX c X.env);pure (aek ok) else pure (aek r)) (TP X pins σ Q) X.xe s
theorem Vo:PF X [] (λ_ H Q=>Q true H):=λpins s σ H Q I h=>wpAny_tests_nil ⟨H,I,h⟩
theorem Vp{c:adA}{t:TT}(h:PT X c t):PF X [c] t:=λpins s σ H Q I q=>wpAny_tests_one (h pins s σ H Q I q)
theorem zZ{env:Env}{x:Str}:∀{names:List (Str×afk)},names.lookup x=O .free →
  (names.map λ(n,k)=>if(k==acy&&env.scope.kind==.function&&env.kindOf n==O .cell) then(n,aeb) else(n,k)).lookup x=O .cell \/
  (names.map λ(n,k)=>if(k==acy&&env.scope.kind==.function&&env.kindOf n==O .cell) then(n,aeb) else(n,k)).lookup x=O .free
 | [],h=>by cases h
 | (n,k)::r,h=>by
  rw[ace];cases q:x==n with
  | true=>
   rw[acq,q] at h;cases h;by_cases hc:(acy==acy&&env.scope.kind==.function&&env.kindOf n==O .cell)=true
   ·left
    show adN x ((if(acy==acy&&env.scope.kind==.function&&env.kindOf n==O .cell)=true then(n,aeb) else(n,acy))::_)=_;rw[if_pos hc,acq,q]
   ·right
    show adN x ((if(acy==acy&&env.scope.kind==.function&&env.kindOf n==O .cell)=true then(n,aeb) else(n,acy))::_)=_;rw[if_neg hc,acq,q]
  | false=>
   rw[acq,q] at h;have ih:=zZ (env:=env) h;show adN x ((if(k==acy&&env.scope.kind==.function&&env.kindOf n==O .cell)=true then(n,aeb) else(n,k))::_)=_\/adN x ((if(k==acy&&env.scope.kind==.function&&env.kindOf n==O .cell)=true then(n,aeb) else(n,k))::_)=_;by_cases hc:(k==acy&&env.scope.kind==.function&&env.kindOf n==O .cell)=true
   ·rw[if_pos hc,acq,q];exact ih
   ·rw[if_neg hc,acq,q];exact ih
theorem Al{env:Env}{x:Str}{k':afk}(Dk:k'=.cell\/k'=.free):∀{names:List (Str×afk)},(∀y∈names,y.2≠.cell) →
  (names.map λ(n,k)=>if(k==acy&&env.scope.kind==.function&&env.kindOf n==O .cell) then(n,aeb) else(n,k)).lookup x=O k'->names.lookup x=O .free
 | [],_,h=>by cases h
 | (n,k)::r,hc,h=>by
  have h':adN x ((if(k==acy&&env.scope.kind==.function&&env.kindOf n==O .cell)=true then(n,aeb) else(n,k))::r.map _)=O k':=h;rw[acq];cases q:x==n with
  | true=>
   by_cases hb:(k==acy&&env.scope.kind==.function&&env.kindOf n==O .cell)=true
   ·simp only[abK] at hb;have:k=.free:=by simpa using hb.1.1
    rw[this]
   ·rw[if_neg hb,acq,q] at h';cases h'
    rcases Dk with z | z
    ·exact absurd z (hc (n,k') adF)
    ·rw[z]
  | false=>
   refine Al (env:=env) Dk (names:=r) (λy hy=>hc y (abN _ hy)) ?_;by_cases hb:(k==acy&&env.scope.kind==.function&&env.kindOf n==O .cell)=true
   ·rw[if_pos hb,acq,q] at h';exact h'
   ·rw[if_neg hb,acq,q] at h';exact h'
theorem mem_lookup{x:Str}{k:afk}:∀{names:List (Str×afk)},names.lookup x=O k->(x,k)∈names
 | [],h=>by cases h
 | (n,j)::r,h=>by
  rw[acq] at h;cases q:x==n with
  | true=>rw[q] at h;cases h;rw[eq_of_beq q];exact adF
  | false=>rw[q] at h;exact abN _ (mem_lookup h)
structure l6(X:Cx)(N:aN)(cap:eY)(scope:aes):Prop where
 len:↑cap=↑N
 at_:∀(i j:Nat) (x:Str),N[i]? =O x->cap[i]? =O (O j)->X.N[j]? =O x/\scope.names.lookup x=O .free/\(X.env.kindOf x=O .cell\/X.env.kindOf x=O .free)
 free:∀y∈scope.names,y.2=.free->X.env.kindOf y.1=O .cell\/X.env.kindOf y.1=O .free
 cell:∀y∈scope.names,y.2≠.cell
 kind:scope.kind=.function
 loc:∀y∈scope.names,y.2=.local->scope.names.lookup y.1=O .local
section
variable{X:Cx}{pins:List (abV×Obj)}{σ:L2.St}{H:Hp}{s:abT}{N:aN}{cap:eY}{scope:aes}{cl:List (Str×abV)}{fp:List abV}
theorem R0 (I : Inv X pins σ H s) (c : l6 X N cap scope) (iy : ∀ x c, cl.lookup x = some c -> X.env.cells.lookup x = some c /\ (x, acy) ∈ scope.names) (yB : ∀ x, (x, acy) ∈ scope.names -> ∃ c, cl.lookup x = some c) (hf : ∀ b ∈ fp, b < s.heap.objs.size /\ b ≠ X.env.locals /\ b ∉ X.fs /\ (b ∈ X.ex \/ X.aI.heap.objs.size <= b) /\ (∀ x c, X.env.cells.lookup x = some c -> c ≠ b)) {bO : adt} {m : dr} {tk : Nat} (cG : bO.Ns s.heap.objs.size m) (hk : ∀ b o, s.heap.get? b = some o -> bO.get? b = some o) : Inv (bZ X N scope cl s.heap.objs.size s H fp) [] (lB cap σ) H { s with heap := bO, toks := tk } := by
  have Zz : ∀ {x : Str}, ((bZ X N scope cl s.heap.objs.size s H fp).env.kindOf x = some .cell \/ (bZ X N scope cl s.heap.objs.size s H fp).env.kindOf x = some .free) -> scope.names.lookup x = some .free := fun {x} hx => by
    rcases hx with hx | hx
    · exact Al (env := X.env) (.inl rfl) c.cell hx
    · exact Al (env := X.env) (.inr rfl) c.cell hx
  have ok : (bZ X N scope cl s.heap.objs.size s H fp).Ok :=
    { mod := I.ok.mod
      kind := c.kind
      glob := I.ok.glob
      blt := I.ok.blt
      above := abO _
      inj := fun x y d h1 h2 => I.ok.inj x y d (iy x d h1).1 (iy y d h2).1
      has := fun x hx => yB x (mem_lookup (Zz hx))
      nB := fun x d hz => nomatch hz
      hd := I.ok.hd
      frames := I.ok.frames
      pz := .inl rfl
      uZ := fun b hb => ⟨acQ (hf b hb).1, fun x d hd => (hf b hb).2.2.2.2 x d (iy x d hd).1⟩
      bs := I.bs
      jX := abX I.ok.jX I.sz
      mU := fun b o e hb => by
        rcases (hf b hb).2.2.2.1 with z | z
        · exact I.ok.mU b o e z
        · exact absurd (aci (abW (I.ok.bs b o e).1) z) (aer _)
      mV := fun b hb hz => by
        rcases abR.mp (I.Bu b hz) with e | e
        · exact (hf b hb).2.1 e
        · exact (hf b hb).2.2.1 e
      gz := I.stack
      kK := I.tD }
  refine ⟨ok, rfl, I.bare, Un.kept hk, ⟨m, cG, fun i x v e1 e2 _ => ?_⟩, fun x d e => ?_, I.aA.fresh (abO _), fun x d e => ⟨(fun z => nomatch z), (I.ik x d (iy x d e).1).2⟩, (fun p hp => nomatch hp), I.aA.kept hk, ⟨?_, trivial⟩⟩
  · unfold lB at e2
    rw [abQ] at e2;cases q : cap[i]? with
    | none => rw [q] at e2; cases e2
    | some o =>
      rw [q] at e2;cases o with
      | none => cases e2
      | some j =>
        have e3 : (σ[j]?).join = some v := acM e2;have e4 : σ[j]? = some (some v) := by
          cases z : σ[j]? with
          | none => rw [z] at e3; cases e3
          | some w => rw [z] at e3; exact congrArg some e3
        obtain ⟨h1, h2, h3⟩ := c.at_ i j x e1 q;obtain ⟨m0, _, hl⟩ := I.loc;obtain ⟨u, ru, lk⟩ := hl j x v h1 e4 (.inr h3);refine ⟨u, ru, ?_⟩
        rcases lk with ⟨z, _⟩ | ⟨_, d, hd, xS⟩
        · rcases h3 with z' | z' <;> (rw [z] at z'; cases z')
        · obtain ⟨d', kL⟩ := yB x (mem_lookup h2)
          have e5 := (iy x d' kL).1;rw [hd] at e5;cases e5;obtain ⟨ob, ho, CA⟩ := xS;exact .inr ⟨zZ (env := X.env) h2, d, kL, ob, hk _ _ ho, CA⟩
  · obtain ⟨v, ob, ho, CA⟩ := I.cell x d (iy x d e).1
    exact ⟨v, ob, hk _ _ ho, CA⟩
  · show (lB cap σ).length = N.length
    unfold lB;rw [abI];exact c.len
theorem Un.but{fs ex:List abV}{H H':Hp}{h h1 h2:adt}{C:abV}(u:Un fs ex H H' h h1)(sb:∀b,b≠C->h2.get? b=h1.get? b)(hC:h.get? C=Z):Un fs ex H H' h h2:=by
 have ne:∀b o,h.get? b=O o->b≠C:=λb o e z=>by rw[z,hC] at e;cases e
 exact⟨λb o e n h1 h2=>(sb b (ne b o e)).trans (u.keep b o e n h1 h2),λb o e n h1 h2=>by
  obtain⟨sl,q⟩:=u.slot b o e n h1 h2;exact⟨sl,(sb b (ne b o e)).trans q⟩,u.free,λb o e h1=>by
  obtain⟨o',q⟩:=u.there b o e h1;exact⟨o',(sb b (ne b o e)).trans q⟩,u.g7,u.fU,u.gL⟩
theorem Hi{ao:L2.St}{H':Hp}{s':abT}{h':adt}(I:Inv X pins σ H s)(J:Inv (bZ X N scope cl s.heap.objs.size s H fp) [] ao H' s')(sb:aeZ s.heap.objs.size s'.heap h')(hf:∀b∈fp,jk X pins H b):Inv X pins σ H' { s' with heap:=h' }:=by
 have hC:H' s.heap.objs.size=none:=J.free;refine I.JP (ch:=fp) J.os (Un.but J.base sb.2 (ahR (abO _))) (λa o e=>?_) J.bare λb hb=>⟨(hf b hb).2.2.2.1,(hf b hb).2.1,(hf b hb).2.2.2.2.1,(hf b hb).2.2.2.2.2⟩
 refine(J.aA a o e).jj (λb u hb q=>(sb.2 b ?_).trans q) (λ_ q=>q) λ_ _ q=>q
 rintro rfl
 rcases hb with z | z
 ·rw[<- z,hC] at e;cases e
 ·rw[hC] at z;cases z
end
section
variable{prog:acL}{w:adl}{A:adq}{R:Result->abT->Prop}{s:abT}
theorem O2{elt target iter:adA}{ifs:bS}{scope:aes}{pos:Pos}{it acc:acb}{env:Env}(J:Nat->abT->Prop)
  (turn:∀k s,J k s->acf (acr prog w) A (ahu it) (λr s1=>match r with
   | none=>R (.ok .next) s1
   | some v=>acf (acr prog w) A (afb target it v) (λ_ s2=>acf (acr prog w) A (ahS target env v) (λ_ s3=>
     acf (acr prog w) A (forIn ifs true λc r=>if r=true then do let ok <- isTrue c env (aeX c env);pure (aek ok) else pure (aek r)) (λok s4=>
      if ok=true then acf (acr prog w) A (aeX elt env) (λx s5=>acf (acr prog w) A (call (.builtin "list.append") [acc,x]) (λ_ s6=>∃j,j<k/\J j s6) (λ_ _=>False) s5) (λ_ _=>False) s4
      else ∃j,j<k/\J j s4) (λ_ _=>False) s3) (λ_ _=>False) s2) (λ_ _=>False) s1) (λ_ _=>False) s)
  (k:Nat) (h:J k s):ahG (acr prog w) A (.compLoop (.ListComp elt [⟨target,iter,ifs,0⟩] scope pos) 0 it acc env) R s:=by
 have no:∀{E:aY} (e:acb) (s:abT),False->E e s:=λ_ _ z=>z.elim
 refine codeAny_loop (c:=.compLoop (.ListComp elt [⟨target,iter,ifs,0⟩] scope pos) 0 it acc env) rfl J (λk s hJ=>?_) k h;show acf (acr prog w) A ((compTurn (.ListComp elt [⟨target,iter,ifs,0⟩] scope pos) 0 it acc env).onRaise λx=>do afe x env;theTreesLotGoes x) _ _ s;refine wpAny_noted ?_;rw[compTurn_list];refine abF (aet (abF (acW (turn k s hJ) (λr s1 h1=>?_) no)));cases r with
 | none=>exact abM h1
 | some v=>
  refine abF (acW h1 (λ_ s2 h2=>abF (acW h2 (λ_ s3 h3=>abF (acW h3 (λok s4 h4=>?_) no)) no)) no);cases ok with
  | false=>exact abM ⟨rfl,h4⟩
  | true=>exact abF (abF (acW h4 (λx s5 h5=>abF (acW h5 (λ_ s6 h6=>abM (abM ⟨rfl,h6⟩)) no)) no))
end
section
variable{X:Cx}{tg iter elt:adA}{ifs:bS}{scope:aes}{pos:Pos}{N:aN}{cap:eY}{wi:TI}{g:TG}{tc:TT}{te:TE}
theorem FI{use:Option (acb->Sem Unit)}{Q':aY}{pins:List (abV×Obj)}{s:abT}{σ:L2.St}{H:Hp}{Q:VK}{p0:Pos}(hc:X.calm=true)(c:l6 X N cap scope)(hi:PI X tg iter wi)(hg:∀cl C aI ba ex,PG (bZ X N scope cl C aI ba ex) tg g)(ht:∀cl C aI ba ex,PF (bZ X N scope cl C aI ba ex) ifs tc)(he:∀cl C aI ba ex,PE (bZ X N scope cl C aI ba ex) elt te)(hs:∀x,acX iter X.env x=pure x)(I:Inv X pins σ H s)(h:xY wi cap g tc te σ H Q)(fin:∀(s3 s6:abT) (H3 H6:Hp) (fp:List abV) (eX:L2.St) (cl:List (Str×abV)) (D:abV),Inv X pins σ H3 s3->(∀b∈fp,jk X pins H3 b)->Inv (bZ X N scope cl s3.heap.objs.size s3 H3 fp) [] eX H6 s6->Q (.ref D) H6 → compPost (acr X.prog X.w) X.A X.xe use Q' (.ref D) s3.heap.objs.size (.ok .next) s6):acf (acr X.prog X.w) X.A (comprehension (.ListComp elt [⟨tg,iter,ifs,0⟩] scope pos) scope X.env p0 (newList []) false (aeX iter X.env) use) Q' X.xe s:=by
 obtain⟨cl,X3,iy,yB⟩:=RZ (scope:=scope) (env:=X.env) λy hy hf=>I.ok.has y.1 (c.free y hy hf)
 refine wpAny_comprehension_free (use:=use) rfl hs X3 c.kind c.loc (acW (hi pins s σ H _ I h) (λv s1 h1=>acW h1 (λC4 s2 h2=>?_) λ_ _ z=>z) λ_ _ z=>z);obtain⟨it,fp,tn,J,H2,rfl,I2,T,jx,f2,h2⟩:=h2;refine adx (wpAny_newFunctionEnv c.cell (by intro y hy;simp at hy) (λbO cG Dm=>?_) c.kind);have hD:H2 s2.heap.objs.size=none:=I2.fresh;obtain⟨W,⟨m0,w0⟩,turn⟩:=h2 s2.heap.objs.size hD;have I3:=I2.Cs (its:=[]) (ys:=[]) (t':=s2.toks) .nil (adH _);have j5:∀b∈fp,jk X pins (upd H2 s2.heap.objs.size (.lst [])) b:=λb hb=>by
  obtain⟨a1,a2⟩:=f2 b hb;refine⟨?_,a2⟩;obtain⟨o,ho,_⟩:=T.obj 0 _ jx b hb;rw[bF (acQ (abW ho))];exact a1
 have LR:∀b∈fp,b<s2.heap.objs.size:=λb hb=>by
  obtain⟨o,ho,_⟩:=T.obj 0 _ jx b hb;exact abW ho
 revert cG Dm
 generalize hs3:({ s2 with heap:=s2.heap.push { cls:=.type "list",data:=.seq ([]:aS).toArray },toks:=s2.toks }:abT)=s3 at I3;intro cG Dm;have LS:s3.heap=s2.heap.push { cls:=.type "list",data:=.seq ([]:aS).toArray }:=by rw[<- hs3]
 have e3:s3.heap.objs.size=s2.heap.objs.size+1:=by rw[LS,aeB]
 have LU:∀b o,s2.heap.get? b=O o->s3.heap.get? b=O o:=λb o e=>by rw[LS];exact abJ _ e
 have Do:∀b o,s3.heap.get? b=O o->bO.get? b=O o:=λb o e=>Dm.extBut b o (acQ (abW e)) (abJ _ e)
 have ZA:bO.Ns s3.heap.objs.size (λx=>([]:List (Str×acb)).reverse.lookup x):=cG;have I4:=R0 (fp:=fp) (tk:=s3.toks+([]:List (Str×acb)).length) I3 c iy yB (λb hb=>⟨by rw[e3];exact Nat.lt_succ_of_lt (LR b hb),(j5 b hb).2.1,(j5 b hb).2.2.1,(j5 b hb).2.2.2.1,(j5 b hb).2.2.2.2.1⟩) ZA Do;have loop:∀s4:abT,s4={ s3 with heap:=bO,toks:=s3.toks+([]:List (Str×acb)).length } →
   ahG (acr X.prog X.w) X.A (.compLoop (.ListComp elt [⟨tg,iter,ifs,0⟩] scope pos) 0 (.ref it) (.ref s2.heap.objs.size) (compEnvC scope cl s3.heap.objs.size X.env))
    (compPost (acr X.prog X.w) X.A X.xe use Q' (.ref s2.heap.objs.size) s3.heap.objs.size) s4:=by
  rintro s4 rfl;refine O2 (λm s=>∃i bE Dp,Inv (bZ X N scope cl s3.heap.objs.size s3 (upd H2 s2.heap.objs.size (.lst [])) fp) [] bE Dp s/\tn i s.heap/\(∀b∈fp,Dp b=Z)/\W i m bE Dp) ?_ m0
   ⟨0,lB cap σ,_,I4,T.keep _ _ _ jx λb hb o e=>Do b o (LU b o e),λb hb=>(j5 b hb).1,w0⟩
  rintro k s5 ⟨i,iZ,H5,I5,rC,yY,w5⟩;have Dq:∀{H':Hp} {ps:List (abV×Obj)},(∀b∈fp,H' b=Z)->(∀p∈ps,∀b∈fp,p.1≠b)->∀b∈fp,jk (bZ X N scope cl s3.heap.objs.size s3 (upd H2 s2.heap.objs.size (.lst [])) fp) ps H' b:=λ{H' ps} hn hp b hb=>
   ⟨hn b hb,(λz=>by have q:=LR b hb;have z':b=s3.heap.objs.size:=z;rw[z',e3] at q;exact absurd q (Nat.not_lt.mpr (ahl _))),I5.ok.mV b hb,.inl hb,λx d hd=>(j5 b hb).2.2.2.2.1 x d (iy x d hd).1,λp Dr=>hp p (by simpa[bZ] using Dr) b hb⟩
  rcases turn i k iZ H5 w5 with⟨stop,qn⟩ | ⟨go,step⟩
  ·refine acW (T.done (bZ X N scope cl s3.heap.objs.size s3 (upd H2 s2.heap.objs.size (.lst [])) fp) rfl rfl rfl hc i [] s5 iZ H5 _ I5 (Dq yY (λ_ z=>nomatch z)) rC stop) (λr s6 hr=>?_) λ_ _ z=>z
   obtain⟨rfl,I6⟩:=hr;exact fin s3 s6 _ H5 fp iZ cl _ I3 j5 I6 qn
  ·refine acW (T.item (bZ X N scope cl s3.heap.objs.size s3 (upd H2 s2.heap.objs.size (.lst [])) fp) rfl rfl rfl hc i [] s5 iZ H5 _ I5 (Dq yY (λ_ z=>nomatch z)) rC go) (λr s6 hr=>?_) λ_ _ z=>z
   obtain⟨u,rfl,h6⟩:=hr;refine acW h6 (λ_ s7 ⟨x,H7,I7,rx,y7,Ds,fr7⟩=>?_) λ_ _ z=>z
   have I7':=I7.pinned (Dq fr7 (λ_ z=>nomatch z)) (T.obj _ _ Ds);have back:∀{kR:L2.St} {H8:Hp} {s8:abT},Inv (bZ X N scope cl s3.heap.objs.size s3 (upd H2 s2.heap.objs.size (.lst [])) fp) ([]++tK fp s7.heap) kR H8 s8 →
     Inv (bZ X N scope cl s3.heap.objs.size s3 (upd H2 s2.heap.objs.size (.lst [])) fp) [] kR H8 s8/\tn (i+1) s8.heap/\∀b∈fp,H8 b=none:=λ{kR H8 s8} I8=>by
    refine⟨I8.xa,T.keep _ _ _ Ds λb hb o e=>(I8.pin (b,o) (acZ _ (acZ _ (wL hb e)))).1,λb hb=>?_⟩;obtain⟨o,e,d⟩:=T.obj _ _ Ds b hb;exact(I8.pin (b,o) (acZ _ (acZ _ (wL hb e)))).2.1
   refine aW (hg cl _ _ _ fp _ s7 iZ H7 x u _ I7' rx (step x H7 y7)) λ_ s8 ⟨kR,H8,I8,q8⟩=>?_
   refine aW (ht cl _ _ _ fp _ s8 kR H8 _ I8 q8) λok s9 ⟨H9,I9,q9⟩=>?_
   cases ok with
   | false=>
    obtain⟨m',hm,w9⟩:=q9;obtain⟨a1,a2,a3⟩:=back I9;exact⟨m',hm,i+1,kR,H9,a1,a2,a3,w9⟩
   | true=>
    refine aW (he cl _ _ _ fp _ s9 kR H9 _ I9 q9) λy s10 ⟨v10,H10,I10,r10,xs,hx,hz,m',hm,w10⟩=>?_
    refine aW (FE (X:=bZ X N scope cl s3.heap.objs.size s3 (upd H2 s2.heap.objs.size (.lst [])) fp) _ s10 kR H10 (.ref s2.heap.objs.size) [v10] (.ref s2.heap.objs.size) [y] (λ_ H'=>W (i+1) m' kR H') I10 rfl (.cons r10 .nil) ⟨_,xs,_,rfl,rfl,hx,hz,w10⟩) λ_ s11 ⟨_,H11,I11,_,w11⟩=>?_
    obtain⟨a1,a2,a3⟩:=back I11;exact⟨m',hm,i+1,kR,H11,a1,a2,a3,w11⟩
 exact codeAny_compStart_list (loop _ rfl) (T.self _ 0 _ _ _ (T.keep _ _ _ jx λb hb o e=>Do b o (LU b o e)) (loop _ rfl))
theorem R1(hc:X.calm=true)(c:l6 X N cap scope)(hi:PI X tg iter wi)(hg:∀cl C aI ba ex,PG (bZ X N scope cl C aI ba ex) tg g)(ht:∀cl C aI ba ex,PF (bZ X N scope cl C aI ba ex) ifs tc)(he:∀cl C aI ba ex,PE (bZ X N scope cl C aI ba ex) elt te)(hs:∀x,acX iter X.env x=pure x:=by intro _;rfl):PE X (.ListComp elt [⟨tg,iter,ifs,0⟩] scope pos) (xY wi cap g tc te):=by
 intro pins s σ H Q I h;rw[eval_ListComp];refine FI hc c hi hg ht he hs I h λs3 s6 H3 H6 fp eX cl D I3 j5 I6 q=>?_
 obtain⟨m6,Dt,_⟩:=I6.loc;exact⟨m6,Dt,λh' sb=>⟨.ref D,H6,Hi I3 I6 sb j5,rfl,q⟩⟩
theorem R3{i:Nat}{x:Str}{pos' lC:Pos}(hN:X.N.Nodup)(jA:X.N[i]? =O x)(fI:iN X x)(hx:X.env.scope.names.lookup x=O .local)(vn:aeQ (.ListComp elt [⟨tg,iter,ifs,0⟩] scope pos) (O (.Name x pos')) lC.line X.env=pure true)(hc:X.calm=true)(c:l6 X N cap scope)(hi:PI X tg iter wi)(hg:∀cl C aI ba ex,PG (bZ X N scope cl C aI ba ex) tg g)(ht:∀cl C aI ba ex,PF (bZ X N scope cl C aI ba ex) ifs tc)(he:∀cl C aI ba ex,PE (bZ X N scope cl C aI ba ex) elt te)(hs:∀x,acX iter X.env x=pure x:=by intro _;rfl) :
  PS X (.Assign [.Name x pos'] (.ListComp elt [⟨tg,iter,ifs,0⟩] scope pos) lC) (yo (xY wi cap g tc te) (BQ i)):=by
 intro pins s σ H D I h;rw[exec_Assign_Name_used x pos' _ lC vn];refine abF (aet (abF ?_));show acf (acr X.prog X.w) X.A (comprehension (.ListComp elt [⟨tg,iter,ifs,0⟩] scope pos) scope X.env _ (newList []) false (aeX iter X.env) (O (ahS (.Name x pos') X.env)) >>= λ_=>pure ()) _ _ s;refine abF (FI hc c hi hg ht he hs I h λs3 s6 H3 H6 fp eX cl Dl I3 j5 I6 q=>?_);obtain⟨m6,Dt,_⟩:=I6.loc;have ZC:s6.heap.Ns s3.heap.objs.size m6:=Dt;have I7:Inv X pins σ H6 s6:=Hi (h':=s6.heap) I3 I6 ⟨rfl,λ_ _=>rfl⟩ j5;refine wpAny_assign_Name (Fx I7 hN jA (.inl hx) (v:=.ref Dl) rfl (λs8 I8 h8=>?_) ⟨.inr hx,fI⟩);obtain⟨a,sb8,ha⟩:=h8;have fresh:H6 s3.heap.objs.size=none:=I6.free;have lQ:s3.heap.objs.size≠X.env.locals:=aed I3.lt;have pA:∀y d,X.env.cells.lookup y=O d->d≠s3.heap.objs.size:=λy d e=>by
  obtain⟨v,o,ho,_⟩:=I3.cell y d e;exact acQ (abW ho)
 have neP:∀p∈X.pn++pins,p.1≠s3.heap.objs.size:=λp hp=>acQ (abW (I3.pin p hp).1)
 have neA:s3.heap.objs.size≠a:=by
  rcases ha with z | z
  ·rw[z];exact lQ
  ·exact adD (pA x a z)
 refine⟨m6,ZC.sameBut sb8 neA,λh' sb=>abM (abM ⟨_,H6,?_,q⟩)⟩;exact I8.turned (t':=s8.toks) (λb o hb e=>(sb.2 b hb).trans e) fresh lQ (.inr I3.sz) pA neP
end
noncomputable def jp(cap:eY)(σ:aG):aG:=cap.map λo=>o.bind λi=>(σ[i]?).join
noncomputable def iP(m:Mo α):Mo α:=λph=>match m ph with
 | .ok a ph'=>.ok a ph'
 | _=>.no
theorem AO{m:Mo α}{N:α->PH->Prop}{E':XC->PH->Prop}(h:(iP m ph).Run N E):(m ph).Run N E':=by
 unfold iP at h;cases e:m ph with
 | ok a ph'=>rw[e] at h;exact h
 | ex x ph'=>rw[e] at h;exact h.elim
 | no=>rw[e] at h;exact h
noncomputable def ft(chk:PH->Bool)(g:GM)(c:TM)(e:EM)(L:Nat):aw->aG->Mo Unit
 | [],_=>λph=>if chk ph=true then .ok () ph else .no
 | x::xs,σ=>λph=>if chk ph=true then ax (iP (g x σ)) (λσ1=>ax (iP (c σ1)) λt=>if t=true then ax (iP (e σ1)) λw=>ax (lift (eE (.ref L) [w])) λ_=>ft chk g c e L xs σ1 else ft chk g c e L xs σ1) ph else .no
noncomputable def b6(im:IM)(cap:eY)(g:GM)(c:TM)(e:EM):EM:=λσ=>ax (im σ) λr ph=>ax (ft r.2 g c e ↑ph r.1 (jp cap σ)) (λ_=>aD (.ref ↑ph)) (ph++[.lst []])
section
variable{K:abG}{φ:Nat->abV}{n:Nat}{H:Hp}
theorem aZ.cap{ws:aG}{σ:L2.St}(h:aZ K φ n H ws σ):∀(cap:eY),aZ K φ n H (jp cap ws) (lB cap σ)
 | []=>.nil
 | o::r=>by
  have ih:=aZ.cap h r;unfold jp lB at ih ⊢;rw[ace,ace];cases o with
  | none=>exact .nn ih
  | some i=>
   cases q:ws[i]? with
   | none=>simp only[adj,q,Option.join_none];exact .nn ih
   | some o=>
    cases o with
    | none=>simp only[adj,q,Option.join_some];exact .nn ih
    | some w=>
     obtain⟨v,ev,rv⟩:=h.get q;simp only[adj,q,ev,Option.join_some];exact .sm rv ih
theorem NV{L:Nat}{w u:W}{ph ph':PH}(h:eE (.ref L) [w] ph=O (u,ph')):∃ws,ph[L]? =O (.lst ws)/\↑ws<acd/\ph'=ph.set L (.lst (ws++[w])):=by
 unfold eE at h;simp only at h;split at h
 ·rename_i ws hw;split at h
  ·rename_i hz;cases h;exact⟨ws,hw,hz,rfl⟩
  ·cases h
 ·cases h
end
noncomputable def Du(K:abG)(m:EM):TE:=λσ H Q=>∃φ ph ws,aH K φ ph H/\aZ K φ ↑ph H ws σ/\(m ws ph).Run (λw ph'=>
 ∀ak H' v,aH K ak ph' H'->Step K φ ↑ph H ak ↑ph' H'->aQ K ak ↑ph' H' w v->Q v H') (λ_ _=>False)
noncomputable def nK(K:abG)(m:TM):TT:=λσ H Q=>∃φ ph ws,aH K φ ph H/\aZ K φ ↑ph H ws σ/\(m ws ph).Run (λb ph'=>
 ∀ak H',aH K ak ph' H'->Step K φ ↑ph H ak ↑ph' H'->Q b H') (λ_ _=>False)
noncomputable def Dv(K:abG)(g:GM):TG:=λv σ H Q=>∃φ ph ws w,aH K φ ph H/\aZ K φ ↑ph H ws σ/\aQ K φ ↑ph H w v/\(g w ws ph).Run (λcO ph'=>
 ∀ak H' ao,aH K ak ph' H'->Step K φ ↑ph H ak ↑ph' H'->aZ K ak ↑ph' H' cO ao->Q ao H') (λ_ _=>False)
section
variable{X:Cx}{e:adA}
theorem e0{m:EM}(h:IE X e m):PE X e (Du X.K m):=PE.imp h λ_ _ _ ⟨φ,ph,ws,a,b,c⟩=>⟨φ,ph,ws,a,b,c.mono (λ_ _ z=>z) λ_ _ z=>z.elim⟩
theorem t0{m:TM}(h:IT X e m):PT X e (nK X.K m):=PT.imp h λ_ _ _ ⟨φ,ph,ws,a,b,c⟩=>⟨φ,ph,ws,a,b,c.mono (λ_ _ z=>z) λ_ _ z=>z.elim⟩
theorem g0{g:GM}(h:IG X e g):PG X e (Dv X.K g):=PG.imp h λ_ _ _ _ ⟨φ,ph,ws,w,a,b,r,c⟩=>⟨φ,ph,ws,w,a,b,r,c.mono (λ_ _ z=>z) λ_ _ z=>z.elim⟩
end
section
variable{X:Cx}{tg iter elt:adA}{ifs:bS}{scope:aes}{pos:Pos}{N:aN}{cap:eY}{im:IM}{g:GM}{c:TM}{e:EM}
theorem O3{σ:L2.St}{Q:VK}{av:Nat->abV}{ph1:PH}{H1:Hp}{ws:aG}{J:It}{items:aw}{chk:PH->Bool}{D:abV}(aB:aH X.K av ph1 H1)(hS:aZ X.K av ↑ph1 H1 ws σ)(hJ:Di X.K J items chk av ↑ph1 H1)(hD:H1 D=Z)(h:(ft chk g c e ↑ph1 items (jp cap ws) (ph1++[.lst []])).Run (λ_ ph'=>∀ak H' v,aH X.K ak ph' H'->Step X.K av ↑ph1 H1 ak ↑ph' H'->aQ X.K ak ↑ph' H' (.ref ↑ph1) v->Q v H') (λ_ _=>True)):∃W:Nat->Nat->L2.St->Hp->Prop,(∃m,W 0 m (lB cap σ) (upd H1 D (.lst [])))/\∀i m bE H2,W i m bE H2->(J.stop i H2/\Q (.ref D) H2)\/(J.go i H2/\∀x H3,J.rB i H2 x H3->Dv X.K g x bE H3 λiD H4=>nK X.K c iD H4 λb H5=>if b=true then Du X.K e iD H5 λv H6=>∃xs,H6 D=O (.lst xs)/\↑xs<acd/\∃m',m'<m/\W (i+1) m' iD (upd H6 D (.lst (xs++[v]))) else ∃m',m'<m/\W (i+1) m' iD H5):=by
 have nl:=kW (ws:=[]) (vs:=[]) aB .nil hD;have hl:(ph1++[PO.lst []]).length=↑ph1+1:=by simp
 rw[hl] at nl;obtain⟨bu,s2,_⟩:=nl;refine⟨λi m bE H2=>∃bf ph2 gS,m=(items.drop i).length/\aH X.K bf ph2 H2/\aZ X.K bf ↑ph2 H2 gS bE/\Step X.K (ext av ↑ph1 D) (↑ph1+1) (upd H1 D (.lst [])) bf ↑ph2 H2 /\
   (ft chk g c e ↑ph1 (items.drop i) gS ph2).Run (λ_ ph'=>∀ak H' v,aH X.K ak ph' H'->Step X.K bf ↑ph2 H2 ak ↑ph' H'->aQ X.K ak ↑ph' H' (.ref ↑ph1) v->Q v H') (λ_ _=>True),
  ⟨_,ext av ↑ph1 D,ph1++[PO.lst []],jp cap ws,rfl,bu,?_,by rw[hl];exact Step.refl,?_⟩,?_⟩
 ·rw[hl];exact(aZ.cap (hS.mono s2) cap)
 ·exact Out.Run.mono h (λ_ ph' k ak H' v r' ej rv=>k ak H' v r' (s2.trans (by rw[hl] at ej;exact ej)) rv) λ_ _ _=>trivial
 rintro i m bE H2 ⟨bf,ph2,gS,rfl,pG,rK,jx,h4⟩;have ZD:bf ↑ph1=D:=by rw[jx.eq _ (aeo _),mI]
 cases hd:items.drop i with
 | nil=>
  rw[hd] at h4;unfold ft at h4;split at h4
  ·rename_i hc;have hn:items[i]? =none:=by
    have:↑items<=i:=by simpa using hd
    simpa using this
   refine .inl ⟨(hJ bf _ H2 pG (s2.trans jx) hc i).2 hn,h4 bf H2 _ pG Step.refl ?_⟩;rw[<- ZD];exact .ref (aci (aeo _) jx.le)
  ·exact h4.elim
 | cons x xs=>
  rw[hd] at h4;unfold ft at h4;split at h4
  ·rename_i hc;have hx:items[i]? =O x:=by
    have:=congrArg (λl=>l[0]?) hd
    simpa using this
   have kN:items.drop (i+1)=xs:=by
    have:=congrArg (λl=>l.drop 1) hd
    simpa[List.drop_drop,aiM] using this
   obtain⟨Dj,hy⟩:=(hJ bf _ H2 pG (s2.trans jx) hc i).1 x hx;refine .inr ⟨Dj,λv H3 y=>?_⟩;obtain⟨eS,s3,rv⟩:=hy v H3 y;rw[dW] at h4;refine⟨bf,ph2,gS,x,eS,rK.mono s3,rv,(AO h4).mono (λff zd h5 nU H5 iZ nI s5 kO=>?_) λ_ _ z=>z⟩;rw[dW] at h5;refine⟨nU,zd,ff,nI,kO,(AO h5).mono (λt Dw h6 M2 H6 LV s6=>?_) λ_ _ z=>z⟩;have Dx:=(s3.trans s5).trans s6;have uC:=jx.trans Dx;cases t with
   | false=>
    refine mZ ⟨↑xs,by simp,M2,Dw,ff,by rw[kN],LV,kO.mono s6,uC,?_⟩;rw[kN];exact Out.Run.mono h6 (λ_ ph' k ak H' v r' ej q=>k ak H' v r' (Dx.trans ej) q) λ_ _ z=>z
   | true=>
    have LW:(ax (iP (e ff)) (λw=>ax (lift (eE (.ref ↑ph1) [w])) λ_=>ft chk g c e ↑ph1 xs ff) Dw).Run _ _:=h6;rw[dW] at LW;refine m7 ⟨M2,Dw,ff,LV,kO.mono s6,(AO LW).mono (λw7 ph7 h7 M3 H7 v7 LX s7 r7=>?_) λ_ _ z=>z⟩;rw[dW] at h7;obtain⟨u8,ph8,e8,h8⟩:=run_lift h7;obtain⟨wsL,hL,hz,rfl⟩:=NV e8;have s27:=Dx.trans s7;have Kc:=uC.trans s7;have X4:M3 ↑ph1=D:=by rw[Kc.eq _ (aeo _),mI]
    obtain⟨vs,hv,LY⟩:=LX.hp _ _ hL;have Dy:↑ph1<↑ph7:=(abL.mp hL).1;obtain⟨q1,q2⟩:=AL LX hL (LY.append (.cons r7 .nil));rw[X4] at hv q1 q2;refine⟨vs,hv,by rw[<- LY.length];exact hz,↑xs,by simp,M3,_,ff,by rw[kN],q1,((kO.mono s6).mono s7).mono q2,Kc.trans q2,?_⟩;rw[kN];exact Out.Run.mono h8 (λ_ ph' k ak H' v r' ej q=>k ak H' v r' ((s27.trans q2).trans ej) q) λ_ _ z=>z
  ·exact h4.elim
theorem Gu{σ:L2.St}{H:Hp}{Q:VK}(h:tM X (b6 im cap g c e) σ H Q):xY (tI X im) cap (Dv X.K g) (nK X.K c) (Du X.K e) σ H Q:=by
 obtain⟨φ,ph,ws,hH,hS,h⟩:=h;unfold b6 at h;rw[dW] at h;refine⟨φ,ph,ws,hH,hS,h.mono (λr ph1 h av H1 J aB s1 hJ D hD=>?_) λ_ _ z=>z⟩;rw[dW] at h;exact O3 aB (hS.mono s1) hJ hD (Out.Run.mono h (λ_ ph' k ak H' v r' ej rv=>k ak H' v r' (s1.trans ej) rv) λ_ _ _=>trivial)
theorem PF.imp{t t':TT}(h:PF X ifs t)(k:∀σ H Q,t' σ H Q->t σ H Q):PF X ifs t':=λpins s σ H Q I q=>h pins s σ H Q I (k σ H Q q)
noncomputable def cu:TM:=λ_=>aD true
theorem Vq:PF X [] (nK X.K cu):=PF.imp Vo λσ H Q h=>by
 obtain⟨φ,ph,ws,hH,hS,h⟩:=h;exact h φ H hH Step.refl
theorem Vr{cd:adA}(h:IT X cd c):PF X [cd] (nK X.K c):=Vp (t0 h)
theorem R4(hc:X.calm=true)(cp:l6 X N cap scope)(hi:II X tg iter im)(hg:∀cl C aI ba ex,IG (bZ X N scope cl C aI ba ex) tg g)(ht:∀cl C aI ba ex,PF (bZ X N scope cl C aI ba ex) ifs (nK X.K c))(he:∀cl C aI ba ex,IE (bZ X N scope cl C aI ba ex) elt e)(hs:∀x,acX iter X.env x=pure x:=by intro _;rfl):IE X (.ListComp elt [⟨tg,iter,ifs,0⟩] scope pos) (b6 im cap g c e):=
 PE.imp (R1 hc cp hi (λcl C aI ba ex=>g0 (hg cl C aI ba ex)) ht (λcl C aI ba ex=>e0 (he cl C aI ba ex)) hs) λ_ _ _ h=>Gu h
theorem R5{i:Nat}{x:Str}{pos' lC:Pos}(hN:X.N.Nodup)(jA:X.N[i]? =O x)(fI:iN X x)(hx:X.env.scope.names.lookup x=O .local)(hc:X.calm=true)(cp:l6 X N cap scope)(hi:II X tg iter im)(hg:∀cl C aI ba ex,IG (bZ X N scope cl C aI ba ex) tg g)(ht:∀cl C aI ba ex,PF (bZ X N scope cl C aI ba ex) ifs (nK X.K c))(he:∀cl C aI ba ex,IE (bZ X N scope cl C aI ba ex) elt e)(vn:aeQ (.ListComp elt [⟨tg,iter,ifs,0⟩] scope pos) (O (.Name x pos')) lC.line X.env=pure true:=by rfl)(hs:∀x,acX iter X.env x=pure x:=by intro _;rfl) :
  IS X (.Assign [.Name x pos'] (.ListComp elt [⟨tg,iter,ifs,0⟩] scope pos) lC) (aM (b6 im cap g c e) (gN i)):=
 PS.imp (R3 hN jA fI hx vn hc cp hi (λcl C aI ba ex=>g0 (hg cl C aI ba ex)) ht (λcl C aI ba ex=>e0 (he cl C aI ba ex)) hs) λD σ H h=>by
  obtain⟨φ,ph,ws,hH,hS,h⟩:=h;unfold aM at h;rw[dW] at h;exact Gu ⟨φ,ph,ws,hH,hS,h.mono (λw ph1 h av H1 v aB s1 r1=>h av H1 aB s1 _ ((hS.mono s1).set r1 i)) λ_ _ z=>z⟩
end
noncomputable def yC:List GM->List W->aG->Mo aG
 | [],[],σ=>aD σ
 | g::gs,w::ws,σ=>ax (g w σ) λao=>yC gs ws ao
 | _,_,_=>fF
noncomputable def gT(gs:List GM):GM:=λw σ=>match w with
 | .tup ws=>yC gs ws σ
 | _=>fF
noncomputable def vq(X:Cx)(gs:List GM):lR:=λvs σ H Q=>∃φ ph ws xs,aH X.K φ ph H/\aZ X.K φ ↑ph H ws σ/\a9 X.K φ ↑ph H xs vs/\(yC gs xs ws ph).Run (λcO ph'=>
 ∀ak H' ao,aH X.K ak ph' H'->Step X.K φ ↑ph H ak ↑ph' H'->aZ X.K ak ↑ph' H' cO ao->Q ao H') (XE X φ ↑ph H)
noncomputable def g8(n:Nat)(gs:List GM):GM:=λw σ=>match w with
 | .tup ws=>if ↑ws=n then yC gs ws σ else fF
 | _=>fF
section
variable{X:Cx}{tg:adA}{es:bS}{g:GM}{gs:List GM}{pos:Pos}
theorem ix.imp{t t':lR}(h:ix X es t)(k:∀v σ H Q,t' v σ H Q->t v σ H Q):ix X es t':=λpins s σ H v u Q I r q=>h pins s σ H v u Q I r (k v σ H Q q)
theorem R6:ix X [] (vq X []):=ix.imp Rp λvs σ H Q h=>by
 obtain⟨φ,ph,ws,xs,hH,hS,r,h⟩:=h;cases r with
 | nil=>exact⟨rfl,h φ H σ hH Step.refl hS⟩
 | cons _ _=>exact h.elim
theorem Qg{e:adA}(h1:IG X e g)(h2:ix X es (vq X gs))(hs:(adL (e::es) X.env).map (·.2)=ahS e X.env::(adL es X.env).map (·.2):=by rfl):ix X (e::es) (vq X (g::gs)):=
 ix.imp (P4 h1 h2 hs) λvs σ H Q h=>by
  obtain⟨φ,ph,ws,xs,hH,hS,r,h⟩:=h;cases r with
  | nil=>exact h.elim
  | cons hO rr=>
   refine⟨_,_,rfl,tG.bind hH hS hO h λgQ ph1 av H1 σ1 aB s1 lX h1=>?_⟩;exact⟨av,ph1,gQ,_,aB,lX,rr.mono s1,h1.mono (λcO ph' k ak H' ao r' s' q=>k ak H' ao r' (s1.trans s') q) λ_ _ z=>z⟩
theorem Vs{k n:Nat}(hc:X.calm=true)(h:ix X es (vq X gs))(hn:(adL es X.env).length=n:=by rfl)(c7:(adL es X.env).findIdx? (·.1)=none:=by rfl):IG X (.Tuple es k pos) (g8 n gs):=
 PG.imp (Us hc h hn c7) λv σ H Q h=>by
  obtain⟨φ,ph,ws,w,hH,hS,r,h⟩:=h;unfold g8 at h;cases r with
  | tup hq r=>
   simp only at h;split at h
   ·rename_i hl;exact⟨_,_,rfl,bX.of hq,by rw[<- ↑r];exact hl,φ,ph,ws,_,hH,hS,r,h⟩
   ·exact h.elim
  | _=>exact h.elim
noncomputable def K3(o i v:W):Po Unit:=λph=>match o,i with
 | .ref r,.int k=>match ph[r]? with
  | some (.lst ws)=>match hG ↑ws k with
   | some j=>O ((),ph.set r (.lst (ws.set j v)))
   | none=>Z
  | _=>Z
 | _,_=>Z
end
noncomputable def iQ(ws:aw)(lo hi:Option Int):aw:=(ws.drop (HT.bD ↑ws 0 lo)).take (HT.bD ↑ws ↑ws hi-HT.bD ↑ws 0 lo)
theorem A8(r:a9 K φ n H ws vs)(lo hi:Option Int):a9 K φ n H (iQ ws lo hi) (mX vs lo hi):=by
 unfold iQ mX;rw[↑r];exact(r.drop _).take _
noncomputable def j6(w:W)(lo hi:Option Int):Po W:=λph=>match w with
 | .tup ws=>if HT.bD ↑ws 0 lo=0/\HT.bD ↑ws ↑ws hi=↑ws then Z else O (.tup (iQ ws lo hi),ph)
 | .fl ws=>O (.ref ↑ph,ph++[.lst (iQ ws lo hi)])
 | .ref i=>match ph[i]? with
  | some (.lst ws)=>O (.ref ↑ph,ph++[.lst (iQ ws lo hi)])
  | _=>Z
 | _=>Z
abbrev OM:=aG->Mo (Option Int)
noncomputable def bJ:OM:=λ_=>aD Z
noncomputable def bA(m:EM):OM:=λσ=>ax (m σ) λw=>lift (match w with
 | .int i=>ret (O i)
 | _=>eG)
noncomputable def cm(m:EM)(lo hi:OM):EM:=λσ=>ax (m σ) λw=>ax (lo σ) λl=>ax (hi σ) λh=>lift (j6 w l h)
noncomputable def tO(X:Cx)(m:OM):TO:=λσ H Q=>∃φ ph ws,aH X.K φ ph H/\aZ X.K φ ↑ph H ws σ/\(m ws ph).Run (λo ph'=>
 ∀ak H',aH X.K ak ph' H'->Step X.K φ ↑ph H ak ↑ph' H'->Q o H') (XE X φ ↑ph H)
abbrev pH(X:Cx)(e:Option adA)(m:OM):Prop:=L2.PO X e (tO X m)
section
variable{X:Cx}{e:adA}{lo hi:Option adA}{m:EM}{ml mh:OM}{pos p2:Pos}
theorem R7:pH X Z bJ:=λpins s σ H Q I ⟨φ,ph,ws,hH,hS,h⟩=>RC pins s σ H Q I (h φ H hH Step.refl)
theorem R8(he:IE X e m):pH X (O e) (bA m):=λpins s σ H Q I ⟨φ,ph,ws,hH,hS,h⟩=>RD he pins s σ H Q I (tM.bind hH hS h λw ph1 av H1 v aB s1 r1 h=>by
 obtain⟨o,ph',e,k⟩:=run_lift h;split at e
 ·cases e;cases r1;exact⟨_,rfl,k av H1 aB s1⟩
 ·cases e)
theorem tO.bind{β:Type}{m:OM}{σ:L2.St}{H:Hp}{Q:Option Int->Hp->Prop}{φ:Nat->abV}{ph:PH}{ws:aG}{f:Option Int->Mo β}{N:β->PH->Prop}(hH:aH X.K φ ph H)(hS:aZ X.K φ ↑ph H ws σ)(h:(ax (m ws) f ph).Run N (XE X φ ↑ph H))(k:∀b ph1 av H1,aH X.K av ph1 H1->Step X.K φ ↑ph H av ↑ph1 H1->(f b ph1).Run N (XE X av ↑ph1 H1)->Q b H1):tO X m σ H Q:=by
 rw[dW] at h;exact⟨φ,ph,ws,hH,hS,h.mono (λb ph1 h1 av H1 aB s1=>k b ph1 av H1 aB s1 (h1.mono (λ_ _ z=>z) λ_ _ z=>z.step s1)) λ_ _ z=>z⟩
theorem X5(he:IE X e m)(hl:pH X lo ml)(hh:pH X hi mh):IE X (.Subscript e (.Slice lo hi Z p2) pos) (cm m ml mh):=
 PE.imp (Gk (lS.or tN RG) he hl hh) λσ H Q h=>by
  obtain⟨φ,ph,ws,hH,hS,h⟩:=h;refine tM.bind hH hS h λw ph1 av H1 v aB s1 r1 h=>tO.bind aB (hS.mono s1) h λl ph2 bf H2 bu s2 h=>tO.bind bu ((hS.mono s1).mono s2) h λu iz gc H3 eS s3 h=>?_
  obtain⟨w',ph',e,k⟩:=run_lift h;have r3:=(r1.mono s2).mono s3;have vt:=(s1.trans s2).trans s3;unfold j6 at e;cases r3 with
  | tup hq r=>
   simp only at e;split at e
   ·cases e
   ·rename_i hw;cases e;refine .inl ⟨_,_,rfl,bX.of hq,by rw[<- ↑r];exact hw,λp hp=>?_⟩;exact k gc _ _ (eS.tup hp) (vt.trans (gI hp)) (.tup bU ((A8 r l u).mono (gI hp)))
  | fl hq r=>
   cases e;refine .inr ⟨_,_,rfl,hq.sq,λp hp=>?_⟩;obtain⟨q1,q2,q3⟩:=kW eS (A8 r l u) hp;exact k _ _ _ q1 (vt.trans q2) q3
  | ref jA=>
   simp only at e;split at e
   ·rename_i cO hw;cases e;obtain⟨vs,hv,r⟩:=eS.hp _ _ hw;refine .inr ⟨_,_,rfl,bK.of hv,λp hp=>?_⟩;obtain⟨q1,q2,q3⟩:=kW eS (A8 r l u) hp;exact k _ _ _ q1 (vt.trans q2) q3
   ·cases e
  | _=>cases e
end
noncomputable def qC:aw->Po W:=λxs ph=>match xs with
 | [w]=>match cM w ph with
  | some ws=>O (.ref ↑ph,ph++[.lst ws])
  | none=>Z
 | _=>Z
theorem R9:gp K (λxs H Q=>∃p ys,xs=[.ref p]/\(bK K H p ys\/bX K H p ys)/\∀l,H l=Z->Q (.ref l) (upd H l (.lst ys))) qC:=by
 intro φ ph H xs vs w ph' Q hH r e k;unfold qC at e;split at e
 ·split at e
  ·rename_i w0 ws hw;cases e;cases r with
   | cons r r'=>
    cases r';obtain⟨a,ys,rfl,hs,rs⟩:=AK hH r hw;refine⟨a,ys,rfl,hs,λl hl=>?_⟩;obtain⟨q1,q2,q3⟩:=kW hH rs hl;exact k _ _ _ q1 q2 q3
  ·cases e
 ·cases e
noncomputable def qo:aw->Po W:=λxs ph=>match xs with
 | [w]=>match cM w ph with
  | some ws=>O (.tup ws,ph)
  | none=>Z
 | _=>Z
theorem Qh:gp K (λxs H Q=>∃p ys,xs=[.ref p]/\((bK K H p ys/\∀l,H l=Z->Q (.ref l) (upd H l (.tup ys)))\/(bX K H p ys/\Q (.ref p) H))) qo:=by
 intro φ ph H xs vs w ph' Q hH r e k;unfold qo at e;split at e
 ·split at e
  ·rename_i w0 ws hw;cases e;cases r with
   | cons r r'=>
    cases r';obtain⟨a,ys,rfl,hs,rs⟩:=OY hH r hw;refine⟨a,ys,rfl,?_⟩
    rcases hs with hs | hs
    ·exact .inl ⟨hs,λl hl=>k φ _ _ (hH.tup hl) (gI hl) (.tup bU (rs.mono (gI hl)))⟩
    ·exact .inr ⟨bX.of hs,k φ H _ hH Step.refl (.tup hs rs)⟩
  ·cases e
 ·cases e
noncomputable def X6:aw->Po W:=λxs=>match xs with
 | [.int i,.int j]=>ret (.int (if j>i then j else i))
 | _=>eG
noncomputable def X7:aw->Po W:=λxs=>match xs with
 | [.int i,.int j]=>ret (.int (if j<i then j else i))
 | _=>eG
noncomputable def gY(f f':W->W->Po W)(a b c:EM):EM:=λσ=>ax (a σ) λx=>ax (b σ) λy=>ax (lift (f x y)) λz=>match z with
 | .bl k=>if k=true then ax (c σ) λu=>lift (f' y u) else aD (.bl false)
 | _=>fF
section
variable{X:Cx}{a b c:adA}{ma mb mc:EM}{pos:Pos}{op el:aiS}{r r':R2}{f f':W->W->Po W}
theorem FJ(hi:cK X.K r f)(jA:cK X.K r' f'){σ:L2.St}{H:Hp}{Q:VK}(h:tM X (gY f f' ma mb mc) σ H Q):Bw r r' (tM X ma) (tM X mb) (tM X mc) σ H Q:=by
 obtain⟨φ,ph,ws,hH,hS,h⟩:=h;refine tM.bind hH hS h λx ph1 av H1 vx aB s1 rx h=>tM.bind aB (hS.mono s1) h λy ph2 bf H2 vy bu s2 ry h=>?_
 rw[dW] at h;obtain⟨z,iz,e,h⟩:=run_lift h;refine hi bu (rx.mono s2) ry e λgc H3 vz eS s3 rz=>?_
 have hS3:=((hS.mono s1).mono s2).mono s3;cases rz with
 | bl k=>
  refine⟨k,rfl,?_⟩;cases k with
  | false=>exact mZ (h gc H3 _ eS ((s1.trans s2).trans s3) (.bl false))
  | true=>
   have h':(ax (mc ws) (λu=>lift (f' y u)) iz).Run (λw ph'=>∀ak H' v,aH X.K ak ph' H'->Step X.K φ ↑ph H ak ↑ph' H'->aQ X.K ak ↑ph' H' w v->Q v H') (XE X gc ↑iz H3):=Out.Run.mono h (λ_ _ z=>z) λ_ _ z=>z.step s3
   refine m7 (tM.bind eS hS3 h' λu j2 mj H4 vu pD s4 ru h=>?_);obtain⟨w,ph',e',k'⟩:=run_lift h;exact jA pD ((ry.mono s3).mono s4) ru e' λnU H5 v nI s5 r5=>k' nU H5 v nI ((((s1.trans s2).trans s3).trans s4).trans s5) r5
 | _=>exact h.elim
theorem Qi(ho:bH X (acU op) r)(hi:cK X.K r f)(eM:bH X (acU el) r')(jA:cK X.K r' f')(ha:IE X a ma)(hb:IE X b mb)(hc:IE X c mc)(hm:ahF [op,el] [b,c]=false:=by with_unfolding_all rfl) :
  IE X (.Compare a [op,el] [b,c] pos) (gY f f' ma mb mc):=PE.imp (P5 ho eM ha hb hc hm) λ_ _ _ h=>FJ hi jA h
theorem Qj(ho:bH X (acU op) r)(hi:cK X.K r f)(eM:bH X (acU el) r')(jA:cK X.K r' f')(ha:IE X a ma)(hb:IE X b mb)(hc:IE X c mc)(hm:ahF [op,el] [b,c]=false:=by with_unfolding_all rfl) :
  IT X (.Compare a [op,el] [b,c] pos) (eT (gY f f' ma mb mc)):=PT.imp (P6 ho eM ha hb hc hm) λσ H Q h=>by
 obtain⟨φ,ph,ws,hH,hS,h⟩:=h;refine FJ hi jA (tM.bind hH hS h λx ph1 av H1 vx aB s1 rx h=>?_);obtain⟨w,ph',e,k⟩:=run_lift h;split at e
 ·cases e;cases rx;exact⟨_,rfl,k av H1 aB s1⟩
 ·cases e
end
noncomputable def jd(M:ahY)(A:adq)(env:Env)(E:aY):Prop:=PassesOwn M A env E/\∀hd,PassesOwnAt M (A.mark hd) A env E
theorem jd.never{M:ahY}{A:adq}{env:Env}:jd M A env (λ_ _=>False):=⟨PassesOwn.never,λ_=>PassesOwnAt.never⟩
theorem jd.leaving{M:ahY}{A:adq}{env:Env}{aay:aY}{Ec:aY}:jd M A env (λe s'=>acf M A (leaving env e) (λ_ fe=>aay e fe) Ec s'):=⟨PassesOwn.leaving,λ_=>PassesOwnAt.leaving⟩
theorem jd.looking{M:ahY}{A:adq}{env:Env}{K:aY}{Ec:aY}:jd M A env (λe s'=>acf M A (afe e env) (λ_ fe=>K e fe) Ec s'):=⟨PassesOwn.looking,λ_=>PassesOwnAt.looking⟩
structure gG(X:Cx)(N:aN)(sc:aes):Prop where
 hN:X.N=N
 iW:∀x,ju sc x->ju X.env.scope x
 loc:∀x,Loc sc x->Loc X.env.scope x
 gl:∀x,sc.names.lookup x=O .globalImplicit->Gl X x
 fn:∀x,Loc sc x->(X.fn x=true\/X.env.scope.names.lookup x=O .local)/\iN X x
 nd:N.Nodup
structure BdT(X:Cx)(N:aN)(sc:aes)(k:Nat):Prop extends gG X N sc where
 calm:X.calm=true
 room:dw k X.A
structure Bd(X:Cx)(N:aN)(sc:aes)(k:Nat):Prop extends BdT X N sc k where
 CB:jd (acr X.prog X.w) X.A X.env X.xe
section
variable{X:Cx}{N:aN}{sc:aes}{k:Nat}{pos:Pos}
variable{x:Str}
theorem gG.var(B:gG X N sc)(i:Nat)(hN:N[i]? =O x)(hv:ju sc x)(hd:(x==("__debug__":Str))=false)(hcd:(x==("__classdict__":Str))=false):IE X (.Name x pos) (af i):=
 US i (hN:=by rw[B.hN];exact hN) (hv:=B.iW x hv) (hd:=hd) (hcd:=hcd)
theorem gG.name(B:gG X N sc)(i:Nat)(hN:N[i]? =O x)(hl:Loc sc x):IG X (.Name x pos) (gN i):=
 RO (by rw[B.hN];exact B.nd) (by rw[B.hN];exact hN) (B.loc x hl) (B.fn x hl)
theorem gG.set(B:gG X N sc)(i:Nat){e:adA}{m:EM}{pos':Pos}(hN:N[i]? =O x)(hl:Loc sc x)(he:IE X e m)(hs:aeQ e (O (.Name x pos')) pos.line X.env=pure false:=by rfl):IS X (.Assign [.Name x pos'] e pos) (aM m (gN i)):=
 U5 (by rw[B.hN];exact B.nd) (by rw[B.hN];exact hN) (B.loc x hl) he hs (B.fn x hl)
theorem Bd.ZE(B:Bd X N sc k){iter tg:adA}{im:IM}{g:GM}{b:SM}{body:d8}(hi:II X tg iter im)(hg:IG X tg g)(hb:hU X body b)(hs:∀x,acX iter X.env x=pure x:=by intro _;rfl):IS X (.For tg iter body [] pos) (ei im g b):=
 U7 B.CB.1 B.calm hi hg hb hs
theorem Er{env:Env}{x:Str}:∀{names:List (Str×afk)},names.lookup x=O .globalImplicit →
  (names.map λ(n,k)=>if(k==acy&&env.scope.kind==.function&&env.kindOf n==O .cell) then(n,aeb) else(n,k)).lookup x=O .globalImplicit
 | [],h=>by cases h
 | (n,k)::r,h=>by
  show adN x ((if(k==acy&&env.scope.kind==.function&&env.kindOf n==O .cell)=true then(n,aeb) else(n,k))::_)=_;rw[acq] at h;cases q:x==n with
  | true=>
   rw[q] at h;cases h;have C9:¬((ahm==acy&&env.scope.kind==.function&&env.kindOf n==O .cell)=true):=by
    rw[show(ahm==acy)=false from rfl,aeS,aeS];exact acj
   rw[if_neg C9,acq,q]
  | false=>
   rw[q] at h;have ih:=Er (env:=env) h;split
   ·rw[acq,q];exact ih
   ·rw[acq,q];exact ih
theorem Bd.bZ(B:Bd X N sc k){N':aN}{scope:aes}{cl:List (Str×abV)}{C:abV}{aI:abT}{ba:Hp}{ex:List abV}(hc:∀y∈scope.names,y.2≠.cell)(nd:N'.Nodup):Bd (bZ X N' scope cl C aI ba ex) N' scope k where
 hN:=rfl
 iW:=λx h=>by
  rcases h with h | h | h
  ·exact .inl (agk (env:=X.env) h)
  ·exact absurd rfl (hc _ (mem_lookup h))
  ·exact .inr (zZ (env:=X.env) h)
 loc:=λx h=>by
  rcases h with h | h
  ·exact .inl (agk (env:=X.env) h)
  ·exact absurd rfl (hc _ (mem_lookup h))
 gl:=λx h=>Er (env:=X.env) h
 calm:=B.calm
 room:=B.room
 fn:=λx h=>by
  rcases h with h | h
  ·exact⟨.inr (agk (env:=X.env) h),λ_ _ _ _ _=>trivial⟩
  ·exact absurd rfl (hc _ (mem_lookup h))
 CB:=jd.never
 nd:=nd
noncomputable def xZ(sc scope:aes)(N N':aN)(cap:eY):Bool:=
 ↑cap==↑N'&&(adm ↑N').all (λi=>match cap[i]? with
  | some (O j)=>(match N'[i]? with
   | some x=>N[j]? ==O x&&scope.names.lookup x==O .free&&(sc.names.lookup x==O .cell||sc.names.lookup x==O .free)
   | none=>false)
  | _=>true)&&scope.names.all (λy=>y.2 != .cell&&(y.2 != .free||sc.names.lookup y.1==O .cell||sc.names.lookup y.1==O .free)&&(y.2 != .local||scope.names.lookup y.1==O .local))&&scope.kind==.function
theorem Bd.cap(hN:X.N=N)(cU:X.env.scope=sc){N':aN}{scope:aes}{cap:eY}(h:xZ sc scope N N' cap=true):l6 X N' cap scope:=by
 unfold xZ at h;simp only[abK,acA,beq_iff_eq,bne_iff_ne,afQ,ne_eq] at h;obtain⟨⟨⟨h1,h2⟩,h3⟩,h4⟩:=h;have hk:∀x,X.env.kindOf x=sc.names.lookup x:=λx=>by unfold Env.kindOf;rw[cU]
 refine⟨h1,λi j x e1 e2=>?_,λy hy hf=>?_,λy hy=>(h3 y hy).1.1,h4,λy hy hl=>?_⟩
 ·have hi:i<↑N':=(abL.mp e1).1;have:=h2 i (adQ.mpr hi);rw[e2,e1] at this;simp only[abK,beq_iff_eq,afQ] at this;obtain⟨⟨a1,a2⟩,a3⟩:=this;rw[hN,hk];exact⟨a1,a2,a3⟩
 ·rw[hk]
  rcases(h3 y hy).1.2 with(z | z) | z
  ·exact absurd hf z
  ·exact .inl z
  ·exact .inr z
 ·rcases(h3 y hy).2 with z | z
  ·exact absurd hl z
  ·exact z
end
noncomputable def isStar:adA->Bool
 | .Starred .. =>true
 | _=>false
theorem dF{e:adA}{es:bS}(h:isStar e=false):acv (e::es) env=(false,aeX e env)::acv es env:=by
 cases e <;> first | rfl | cases h
noncomputable def dX(es:bS):Bool:=es.all λe=> !isStar e
theorem any_none{env:Env}{pos:Pos}:∀{es:bS},dX es=true->(afv pos (acv es env)).any (·.1)=false
 | [],_=>rfl
 | e::es,h=>by
  unfold dX at h;rw[ady,abK] at h;have h1:isStar e=false:=by simpa using h.1
  rw[dF h1];show(false||(afv pos (acv es env)).any (·.1))=false;rw[any_none (es:=es) h.2];rfl
theorem all_none{env:Env}{pos:Pos}:∀{es:bS},dX es=true->(afv pos (acv es env)).all (λx=> !x.1)=true
 | [],_=>rfl
 | e::es,h=>by
  unfold dX at h;rw[ady,abK] at h;have h1:isStar e=false:=by simpa using h.1
  rw[dF h1];show(!false&&(afv pos (acv es env)).all (λx=> !x.1))=true;rw[all_none (es:=es) h.2];rfl
section
variable{X:Cx}{e:adA}{es:bS}{m:EM}{a:AM}{pos:Pos}
theorem ZF(h:isStar e=false)(he:IE X e m)(hr:IA X es a):IA X (e::es) (ag m a):=Hd he hr (dF h)
end
section
variable{X:Cx}{k:Nat}{f:abV}{fd:adR}{ps:aN}{fm:aw->Mo W}{x:Str}{p pos:Pos}{e:adA}{es:bS}{a:AM}
theorem Vt(hn:dX (e::es)=true)(bR:(x==("__debug__":Str))=false)(F:fV X.prog X.w X.K X.mg X.base (dQ X.prog X.w) k f fd ps (j3 X.K X.mg ↑ps fm))(hl:∀{xs:aw} {ph:PH},↑xs≠↑ps->fm xs ph=.no)(hr:dw k X.A)(hg:Gl X x)(hm:X.mg x=O (.ref f))(hk:adw X.K (.ref f)=true)(hb:Binds X.K fd ps [])(ha:IA X (e::es) a):IE X (.Call (.Name x p) (e::es) [] pos) (aP fm a):=by
 unfold dX at hn;rw[ady,abK] at hn;exact RT F hl hr hg hm hk hb ha bR (dF (by simpa using hn.1)) (any_none hn.2)
variable{t:AM}{id T:String}{r:aJ->Hp->VK->Prop}{fp:aw->Po W}
theorem Vu(cG:dX (e::es)=true)(hn:x≠"__name__")(bR:(x==("__debug__":Str))=false)(hc:cD X (.builtin id) r)(hi:gp X.K r fp)(hg:Gl X x)(hm:X.mg x=Z)(hv:adp x=O (.builtin id))(ha:IA X (e::es) t):IE X (.Call (.Name x p) (e::es) [] pos) (aR fp t):=by
 unfold dX at cG;rw[ady,abK] at cG;exact Qc hc hi hg hm hv ha hn bR (dF (by simpa using cG.1)) (any_none cG.2)
theorem Vv(cG:dX (e::es)=true)(hn:x≠"__name__")(bR:(x==("__debug__":Str))=false)(hc:cD X (.type T) r)(hi:gp X.K r fp)(hg:Gl X x)(hm:X.mg x=Z)(hv:adp x=O (.type T))(ha:IA X (e::es) t):IE X (.Call (.Name x p) (e::es) [] pos) (aR fp t):=by
 unfold dX at cG;rw[ady,abK] at cG;exact OZ hc hi hg hm hv ha hn bR (dF (by simpa using cG.1)) (any_none cG.2)
end
section
variable{X:Cx}{o e:adA}{es:bS}{mo:EM}{t:AM}{name:Str}{apos cV:Pos}{T id:String}{r:V->List V->Hp->VK->Prop}{ty:W->PH->Bool}{f:W->List W->Po W}
theorem Vw(cG:dX (e::es)=true)(bj:decide ((e::es).length<30)=true)(pa:aiz T)(slot:Slot T name id)(lU:typeOf (.builtin id)=pure (.type "method_descriptor"))(hm:nF X id r)(ht:pF X.K T ty)(hi:lZ X.K T r f)(ho:IE X o mo)(ha:IA X (e::es) t)(iI:aeM o name X.env (aeX o X.env)=aeX o X.env:=by rfl)(lh:(apos.endLine==cV.line)=true:=by rfl):IE X (.Call (.Attribute o name apos) (e::es) [] cV) (bL ty f mo t):=by
 have oV:=all_none (env:=X.env) (pos:=cV) cG;unfold dX at cG;rw[ady,abK] at cG;refine XW pa slot lU hm ht hi ho ha iI ?_ lh (dF (by simpa using cG.1)) (any_none cG.2);rw[oV,show(backToKw cV (ahj [] X.env)).all (λx=>x.1.isSome)=true from rfl]
 simpa using bj
end
structure JE(X:Cx)(e:adA)(m:EM):Prop where
 h:IE X e m
structure JT(X:Cx)(e:adA)(m:TM):Prop where
 h:IT X e m
structure JW(X:Cx)(e:adA)(m:TM):Prop where
 h:PW X e (tT X m)
structure JA(X:Cx)(es:bS)(m:AM):Prop where
 h:IA X es m
structure JS(X:Cx)(st:ahZ)(m:SM):Prop where
 h:IS X st m
structure JB(X:Cx)(st:d8)(m:SM):Prop where
 h:hU X st m
structure JG(X:Cx)(e:adA)(g:GM):Prop where
 h:IG X e g
structure zi(X:Cx)(es:bS)(gs:List GM):Prop where
 h:ix X es (vq X gs)
structure JI(X:Cx)(tg iter:adA)(im:IM):Prop where
 h:II X tg iter im
structure JO(X:Cx)(e:Option adA)(m:OM):Prop where
 h:pH X e m
structure JF(X:Cx)(ifs:bS)(c:TM):Prop where
 h:PF X ifs (nK X.K c)
section
variable{X:Cx}{N:aN}{sc:aes}{k:Nat}{a b c e o:adA}{es rest:bS}{ma mb mc m mo:EM}{ta tb t:TM}{am:AM}{sa sb:SM}{st:ahZ}{as bs body:d8}{p p2 pos pos':Pos}{g:GM}{gs:List GM}{im:IM}{tg iter:adA}
variable{x:Str}
theorem gG.ZG(B:gG X N sc)(i:Nat)(hN:N[i]? =O x)(hv:ju sc x)(hd:(x==("__debug__":Str))=false)(hcd:(x==("__classdict__":Str))=false):JE X (.Name x pos) (af i):=⟨B.var i hN hv hd hcd⟩
variable{j:Nat}
theorem kZ{i:Int}:JE X (.Constant (.int i) j pos) (eC (.int i)):=⟨UT⟩
theorem cB:JE X (.Constant (.str x) j pos) (eC (.str x)):=⟨IC⟩
theorem X8{x:Bool}:JE X (.Constant (.bool x) j pos) (eC (.bl x)):=⟨XJ⟩
theorem qp:JE X (.Constant .none j pos) (eC .ay):=⟨UU⟩
theorem Hj{i:Int}{tk:Tok}(hg:Gl X x)(hm:X.mg x=O (.int i tk))(hd:(x==("__debug__":Str))=false):JE X (.Name x pos) (eC (.int i)):=⟨oW (oh (v:=.int i) hg hm ⟨_,rfl⟩ hd) λ_ _ _=>.int i⟩
theorem aaR{y:Str}{tk:Tok}(hg:Gl X x)(hm:X.mg x=O (.str y tk))(hd:(x==("__debug__":Str))=false):JE X (.Name x pos) (eC (.str y)):=⟨oW (oh (v:=.str y) hg hm ⟨_,rfl⟩ hd) λ_ _ _=>.str y⟩
theorem aaZ(ha:JE X a ma):JE X (.UnaryOp .USub a pos) (fY fA ma):=⟨XM UB Vc ha.h⟩
theorem aa0(ha:JE X a ma):JE X (.UnaryOp .Not a pos) (yw ma):=⟨U2 ha.h⟩
theorem xC(ha:JE X a ma)(hb:JE X b mb):JE X (.BinOp a .Add b pos) (ah addW ma mb):=⟨qB RU Vh ha.h hb.h⟩
theorem aa1(ha:JE X a ma)(hb:JE X b mb):JE X (.BinOp a .Sub b pos) (ah lz ma mb):=⟨qB Uz Vd ha.h hb.h⟩
theorem Vx(ha:JE X a ma)(hb:JE X b mb):JE X (.BinOp a .Mod b pos) (ah aV ma mb):=⟨qB Rr Ve ha.h hb.h⟩
theorem aa2(ha:JE X a ma)(hb:JE X b mb):JE X (.BinOp a .FloorDiv b pos) (ah bv ma mb):=⟨qB Qe Vf ha.h hb.h⟩
structure Cp(X:Cx)(op:aiS)(b:adA)(f:W->W->Po W):Prop where
 ex:∃r,bH X (acU op) r/\cK X.K r f
 bm:adB op b=false
theorem abg:Cp X .Lt b gE:=⟨⟨_,Xz,By⟩,oy _⟩
theorem abh:Cp X .LtE b d7:=⟨⟨_,XA,By⟩,oy _⟩
theorem Ke:Cp X .Gt b gF:=⟨⟨_,XD,By⟩,oy _⟩
theorem BdT.eq(B:BdT X N sc k):Cp X .Eq b bo:=⟨⟨_,Vk B.room.units,XY⟩,oy _⟩
theorem BdT.ne(B:BdT X N sc k):Cp X .NotEq b ck:=⟨⟨_,Vl B.room.units,XZ⟩,oy _⟩
theorem X9:Cp X .Is b lA:=⟨⟨_,UD,Vi⟩,oy _⟩
variable{f:W->W->Po W}
theorem Vy{op:aiS}(hc:Cp X op b f)(ha:JE X a ma)(hb:JE X b mb):JE X (.Compare a [op] [b] pos) (ah f ma mb):=let ⟨_,h1,h2⟩:=hc.ex;⟨UV h1 h2 ha.h hb.h hc.bm⟩
theorem i8{op:aiS}(hc:Cp X op b f)(ha:JE X a ma)(hb:JE X b mb):JT X (.Compare a [op] [b] pos) (eT (ah f ma mb)):=let ⟨_,h1,h2⟩:=hc.ex;⟨UW h1 h2 ha.h hb.h hc.bm⟩
theorem aaN{op el:aiS}{f':W->W->Po W}(h1:Cp X op b f)(h2:Cp X el c f')(hm:ahF [op,el] [b,c]=false)(ha:JE X a ma)(hb:JE X b mb)(hc:JE X c mc):JE X (.Compare a [op,el] [b,c] pos) (gY f f' ma mb mc):=
 let ⟨_,q1,q2⟩:=h1.ex;let ⟨_,q3,q4⟩:=h2.ex;⟨Qi q1 q2 q3 q4 ha.h hb.h hc.h hm⟩
theorem aaO{op el:aiS}{f':W->W->Po W}(h1:Cp X op b f)(h2:Cp X el c f')(hm:ahF [op,el] [b,c]=false)(ha:JE X a ma)(hb:JE X b mb)(hc:JE X c mc):JT X (.Compare a [op,el] [b,c] pos) (eT (gY f f' ma mb mc)):=
 let ⟨_,q1,q2⟩:=h1.ex;let ⟨_,q3,q4⟩:=h2.ex;⟨Qj q1 q2 q3 q4 ha.h hb.h hc.h hm⟩
theorem IP{op:BoolOp}(ha:JE X a ma):JE X (.BoolOp op [a] pos) ma:=⟨U1 ha.h⟩
theorem IQ(ha:JE X a ma)(hb:JE X (.BoolOp .And (b::rest) pos) mb):JE X (.BoolOp .And (a::b::rest) pos) (iO ma mb):=⟨U0 ha.h hb.h⟩
theorem abi(ha:JE X a ma)(hb:JE X (.BoolOp .Or (b::rest) pos) mb):JE X (.BoolOp .Or (a::b::rest) pos) (rJ ma mb):=⟨XQ ha.h hb.h⟩
theorem oB{op:BoolOp}(ha:JT X a ta):JW X (.BoolOp op [a] pos) ta:=⟨UY ha.h⟩
theorem IR(ha:JT X a ta)(hb:JW X (.BoolOp .And (b::rest) pos) tb):JW X (.BoolOp .And (a::b::rest) pos) (d9 ta tb):=⟨UZ ha.h hb.h⟩
theorem oI(ha:JT X a ta)(hb:JW X (.BoolOp .Or (b::rest) pos) tb):JW X (.BoolOp .Or (a::b::rest) pos) (cF ta tb):=⟨XO ha.h hb.h⟩
theorem oY(h:JW X a ta):JT X a ta:=⟨h.h.pt⟩
theorem xD(ha:JT X a ta):JT X (.UnaryOp .Not a pos) (de ta):=⟨UX ha.h⟩
noncomputable def plainT:adA->Bool
 | .Name .. =>true | .Call .. =>true | .Subscript .. =>true | .Constant .. =>true | .BinOp .. =>true
 | _=>false
theorem k6(hp:plainT a=true)(ha:JE X a ma):JT X a (bW ma):=⟨by
 cases a <;> first | cases hp;done | exact U3 ha.h⟩
theorem abj(hc:JT X c ta)(ha:JE X a ma)(hb:JE X b mb):JE X (.IfExp c a b pos) (vj ta ma mb):=⟨XR hc.h ha.h hb.h⟩
theorem cQ:JA X [] ai:=⟨IH⟩
theorem ZH(h:isStar e=false)(he:JE X e m)(hr:JA X es am):JA X (e::es) (ag m am):=⟨ZF h he.h hr.h⟩
theorem IU{x1:Nat}(h:JA X es am):JE X (.Tuple es x1 pos) (cw am):=⟨U9 h.h⟩
theorem xE(h:JA X es am):JE X (.List es pos) (bP am):=⟨Va h.h⟩
theorem Ya(hp:qf b)(ha:JE X a ma)(hb:JE X b mb):JE X (.Subscript a b pos) (ah cP ma mb):=⟨XT ha.h hb.h hp⟩
theorem A9:JO X Z bJ:=⟨R7⟩
theorem Ba(he:JE X e m):JO X (O e) (bA m):=⟨R8 he.h⟩
theorem BY{lo hi:Option adA}{ml mh:OM}(he:JE X e m)(hl:JO X lo ml)(hh:JO X hi mh):JE X (.Subscript e (.Slice lo hi Z p2) pos) (cm m ml mh):=⟨X5 he.h hl.h hh.h⟩
theorem jN:JB X [] bt:=⟨RK⟩
theorem dY{rs:d8}(h1:JS X st sa)(h2:JB X rs sb):JB X (st::rs) (aC sa sb):=⟨Qb h1.h h2.h⟩
theorem dZ(h1:JS X st sa):JB X [st] sa:=⟨RM h1.h⟩
theorem jc(he:JE X e m):JS X (.Return (O e) pos) (aO m):=⟨U4 he.h⟩
noncomputable def xF:adA->Bool
 | .ListComp .. =>false | .SetComp .. =>false | .DictComp .. =>false
 | _=>true
theorem Gv{x:Option adA}{n:Nat}{env:Env}(h:xF e=true):aeQ e x n env=pure false:=by
 cases e <;> first | rfl | cases h
theorem xp(hn:xF e=true)(he:JE X e m):JS X (.Expr e pos) (d3 m):=⟨RN he.h (Gv hn)⟩
theorem jP(hc:JT X c t)(ha:JB X as sa)(hb:JB X bs sb):JS X (.If c as bs pos) (bi t sa sb):=⟨XS hc.h ha.h hb.h⟩
theorem gG.lD(B:gG X N sc)(i:Nat)(hN:N[i]? =O x)(hl:Loc sc x)(hn:xF e=true)(he:JE X e m):JS X (.Assign [.Name x pos'] e pos) (aM m (gN i)):=⟨B.set i hN hl he.h (Gv hn)⟩
theorem aa3(he:JE X e m)(hg:JG X tg g)(hs:swapsWithSole [tg] e pos.line X.env=pure false:=by rfl)(hw:swappedStores [tg] e X.env=pure none:=by rfl)
  (h1:(adL [tg] X.env).map (·.2)=[ahS tg X.env]:=by rfl):JS X (.Assign [tg] e pos) (aM m g):=⟨U6 he.h hg.h hs hw h1⟩
theorem gG.qD(B:gG X N sc)(i:Nat)(hN:N[i]? =O x)(hl:Loc sc x):JG X (.Name x pos) (gN i):=⟨B.name i hN hl⟩
theorem Hk:zi X [] []:=⟨R6⟩
theorem xb(h1:JG X e g)(h2:zi X es gs)(hs:(adL (e::es) X.env).map (·.2)=ahS e X.env::(adL es X.env).map (·.2):=by rfl):zi X (e::es) (g::gs):=⟨Qg h1.h h2.h hs⟩
theorem IV{n:Nat}(hc:X.calm=true)(h:zi X es gs)(hn:(adL es X.env).length=n:=by rfl)(c7:(adL es X.env).findIdx? (·.1)=none:=by rfl):JG X (.Tuple es j pos) (g8 n gs):=⟨Vs hc h.h hn c7⟩
theorem Bd.K4(B:Bd X N sc k)(hi:JI X tg iter im)(hg:JG X tg g)(hb:JB X body sb)(hs:∀x,acX iter X.env x=pure x:=by intro _;rfl):JS X (.For tg iter body [] pos) (ei im g sb):=⟨B.ZE hi.h hg.h hb.h hs⟩
theorem aaF(hg:Gl X "range")(hm:X.mg "range"=Z)(hn:isStar a=false)(ha:JA X [a] am):JI X tg (.Call (.Name "range" p) [a] [] pos) (iU am):=⟨OW hg hm ha.h (dF hn)⟩
theorem aaG(hg:Gl X "range")(hm:X.mg "range"=Z)(hn:isStar a=false)(pI:isStar b=false)(ha:JA X [a,b] am):JI X tg (.Call (.Name "range" p) [a,b] [] pos) (vk am):=⟨OX hg hm ha.h (by rw[dF hn,dF pI];rfl) (dF pI)⟩
theorem Vz{k:Nat}{f:abV}{fd:adR}{ps:aN}{fm:aw->Mo W}(hn:dX (e::es)=true)(bR:(x==("__debug__":Str))=false)(F:fV X.prog X.w X.K X.mg X.base (dQ X.prog X.w) k f fd ps (j3 X.K X.mg ↑ps fm))(hl:∀{xs:aw} {ph:PH},↑xs≠↑ps->fm xs ph=.no)(hr:dw k X.A)(hg:Gl X x)(hm:X.mg x=O (.ref f))(hk:adw X.K (.ref f)=true)(hb:Binds X.K fd ps [])(ha:JA X (e::es) am):JE X (.Call (.Name x p) (e::es) [] pos) (aP fm am):=⟨Vt hn bR F hl hr hg hm hk hb ha.h⟩
theorem VA{id:String}{r:aJ->Hp->VK->Prop}{fp:aw->Po W}(cG:dX (e::es)=true)(hn:x≠"__name__")(bR:(x==("__debug__":Str))=false)(hc:cD X (.builtin id) r)(hi:gp X.K r fp)(hg:Gl X x)(hm:X.mg x=Z)(hv:adp x=O (.builtin id))(ha:JA X (e::es) am):JE X (.Call (.Name x p) (e::es) [] pos) (aR fp am):=⟨Vu cG hn bR hc hi hg hm hv ha.h⟩
theorem IW{T:String}{r:aJ->Hp->VK->Prop}{fp:aw->Po W}(cG:dX (e::es)=true)(hn:x≠"__name__")(bR:(x==("__debug__":Str))=false)(hc:cD X (.type T) r)(hi:gp X.K r fp)(hg:Gl X x)(hm:X.mg x=Z)(hv:adp x=O (.type T))(ha:JA X (e::es) am):JE X (.Call (.Name x p) (e::es) [] pos) (aR fp am):=⟨Vv cG hn bR hc hi hg hm hv ha.h⟩
theorem BA{name:Str}{T id:String}{r:V->List V->Hp->VK->Prop}{ty:W->PH->Bool}{f:W->List W->Po W}(cG:dX (e::es)=true)(bj:decide ((e::es).length<30)=true)(pa:aiz T)(slot:Slot T name id)(lU:typeOf (.builtin id)=pure (.type "method_descriptor"))(hm:nF X id r)(ht:pF X.K T ty)(hi:lZ X.K T r f)(ho:JE X o mo)(ha:JA X (e::es) am)(iI:aeM o name X.env (aeX o X.env)=aeX o X.env:=by rfl)(lh:(p.endLine==pos.line)=true:=by rfl):JE X (.Call (.Attribute o name p) (e::es) [] pos) (bL ty f mo am):=⟨Vw cG bj pa slot lU hm ht hi ho.h ha.h iI lh⟩
theorem Kf{c:Str}{cn:String}{p2:Pos}(hk:nj X.K cn)(hv:adp c=O (.type cn))(hn:c≠"__name__")(hd:(c==("__debug__":Str))=false)(c7:isStar e=false)(hg:Gl X "isinstance")(hm:X.mg "isinstance"=Z)(fG:Gl X c)(fH:X.mg c=Z)(he:JE X e m):JE X (.Call (.Name "isinstance" p) [e,.Name c p2] [] pos) (cN cn m):=⟨XX hk hv hg hm fG fH he.h hn hd (by rw[dF c7,dF rfl];rfl) (dF rfl) (any_none rfl)⟩
theorem aa4:JF X [] cu:=⟨Vq⟩
theorem VB(h:JT X c t):JF X [c] t:=⟨Vr h.h⟩
theorem Sa{scope:aes}{ifs:bS}{N':aN}{cap:eY}(hc:X.calm=true)(cp:l6 X N' cap scope)(hi:JI X tg iter im)(hg:∀cl C aI ba ex,JG (bZ X N' scope cl C aI ba ex) tg g)(ht:∀cl C aI ba ex,JF (bZ X N' scope cl C aI ba ex) ifs t)(he:∀cl C aI ba ex,JE (bZ X N' scope cl C aI ba ex) e m)(hs:∀x,acX iter X.env x=pure x:=by intro _;rfl):JE X (.ListComp e [⟨tg,iter,ifs,0⟩] scope pos) (b6 im cap g t m):=
 ⟨R4 hc cp hi.h (λcl C aI ba ex=>(hg cl C aI ba ex).h) (λcl C aI ba ex=>(ht cl C aI ba ex).h) (λcl C aI ba ex=>(he cl C aI ba ex).h) hs⟩
theorem Hl{scope:aes}{ifs:bS}{N':aN}{cap:eY}{i:Nat}(hN:X.N.Nodup)(jA:X.N[i]? =O x)(fI:iN X x)(hx:X.env.scope.names.lookup x=O .local)(hc:X.calm=true)(cp:l6 X N' cap scope)(hi:JI X tg iter im)(hg:∀cl C aI ba ex,JG (bZ X N' scope cl C aI ba ex) tg g)(ht:∀cl C aI ba ex,JF (bZ X N' scope cl C aI ba ex) ifs t)(he:∀cl C aI ba ex,JE (bZ X N' scope cl C aI ba ex) e m)(vn:aeQ (.ListComp e [⟨tg,iter,ifs,0⟩] scope p) (O (.Name x pos')) pos.line X.env=pure true)(hs:∀x,acX iter X.env x=pure x:=by intro _;rfl) :
  JS X (.Assign [.Name x pos'] (.ListComp e [⟨tg,iter,ifs,0⟩] scope p) pos) (aM (b6 im cap g t m) (gN i)):=
 ⟨R5 hN jA fI hx hc cp hi.h (λcl C aI ba ex=>(hg cl C aI ba ex).h) (λcl C aI ba ex=>(ht cl C aI ba ex).h) (λcl C aI ba ex=>(he cl C aI ba ex).h) vn hs⟩
end
open PySem PySem.Spec PyProof.Rows L2 PySem.W Builtin.ObjectAttr Builtin.Getset_descriptor
noncomputable def kF(h:adt)(x D:abV):Prop:=∃o,h.get? x=O o/\o.cls=.ref D
section
variable{prog:acL}{w:adl}{A:adq}{E:aY}{s:abT}{K:abG}{x C D:abV}
variable{M:ahY}
theorem kF.mQ{h:adt}(I:kF h x D):aid M h (typeOf (.ref x)) (.ref D):=let ⟨_,e,c⟩:=I;c▸(Looks.ld e).andThen .now
theorem FK{Kg:acb}{Q:Unit->abT->Prop}(X:K.In s.heap)(I:kF s.heap x D)(hB:mroIn K D (.type "BaseException")=O true)(hq:Q () s):acf M A (checkBuiltinCall "BaseException.__getattribute__" ⟨[.ref x,Kg],[]⟩) Q E s:=by
 have hk:builtinKind "BaseException.__getattribute__"=O .slot:=by decide +kernel
 have VC:splitId "BaseException.__getattribute__"=O ("BaseException","__getattribute__"):=by decide +kernel
 obtain⟨hh,g,d,t,os⟩:=s;have LI:aid M hh (ahQ (.ref x) (.type "BaseException")) true:=(I.mQ (M:=M)).andThen (looks_mroIn (M:=M) X hB);have ha:=F.args_bexc_ga (.ref x) Kg;simp only[checkBuiltinCall,hk,VC];refine abF (LI.at ?_)
 repeat (first | with_reducible assumption | wp_step)
theorem Og{h:adt}{name:Str}{a g:acb}(X:K.In h)(h1:air K (.ref D) name=O (O a))(h2:specialIn K a "__get__"=O (O g))(h3:takesIn K a=O true):aid M h (find (.ref x) (.ref D) name) (.bind g a):=
 (agd X h1).andThen ((show aid M h (getOf (O a)) (O g) from looks_specialIn X h2).andThen
  ((show aid M h (dataDescriptor? (O a) (O g)) (O (g,a)) from(looks_takesIn X h3).andThen .now).andThen (Looks.tag .now)))
theorem O4{g a:acb}{name:Str}{tk:Tok}{Q:Fin->abT->Prop}(I:kF s.heap x D)(L1:aid (acr prog w) s.heap (find (.ref x) (.ref D) name) (.bind g a))(h:acf (acr prog w) A (call g [a,.ref x,.ref D]) (λv s'=>Q (.done (.ret v)) s') E s):acf (acr prog w) A (afD.«object.__getattribute__» ⟨[.ref x,.str name tk],[]⟩) Q E s:=by
 obtain⟨hh,gg,d,t,os⟩:=s;have L0:=I.mQ (M:=acr prog w);unfold afD.«object.__getattribute__»;refine abF (abM ?_)
 dsimp only
 refine abF (abM ?_);refine abF (L0.at (abF (L1.at ?_)))
 dsimp only
 show acf _ _ (ags [a] (call g [a,.ref x,.ref D]) >>= PySem.ret) _ _ _;exact abF (acJ (acW h (λv s' z=>abM z) λ_ _ z=>z))
theorem NY{R:Result->abT->Prop}{tp:acb}(X:K.In s.heap)(I:kF s.heap x D)(hm:mroIn K D (.type "object")=O true)(h:R (.ok (.ret (.ref D))) s):ahG (acr prog w) A (.call (.builtin "getset_descriptor.__get__") ⟨[.builtin "object.__class__",.ref x,tp],[]⟩) R s:=by
 obtain⟨hh,gg,d,t,os⟩:=s;have T0:=I.mQ (M:=acr prog w);have T1:=looks_mroIn (M:=acr prog w) X hm;refine aeF KF.slot_gs.plain KF.entry_gs (KF.slot_gs.check _ _ _ _ _ _ _ _ KF.type_class (KF.args_gs _ _ _) ?_);unfold afD.«getset_descriptor.__get__» descrGet;rw[dga_obj];refine abF (abM ?_);unfold descrGetter descrCheckInstance descrNameAndClass ahQ;simp only[KF.owner_class]
 repeat lk
 refine⟨agJ _ (by decide +kernel),codeAny_builtin KF.entry_class ?_⟩;unfold afD.«object.__class__» shownTypeOf
 repeat lk
 exact h
noncomputable def uF(K:abG)(D:abV):Bool:=
 air K (.ref D) "__getattribute__"==O (O (.builtin "BaseException.__getattribute__"))&&air K (.ref D) "__getattr__"==O Z &&
 air K (.ref D) "__class__"==O (O (.builtin "object.__class__"))&&specialIn K (.builtin "object.__class__") "__get__"==O (O (.builtin "getset_descriptor.__get__"))&&takesIn K (.builtin "object.__class__")==O true &&
 mroIn K D (.type "object")==O true&&mroIn K D (.type "BaseException")==O true&&(clsIn K D).isSome
structure gA(K:abG)(D:abV):Prop where
 ga:air K (.ref D) "__getattribute__"=O (O (.builtin "BaseException.__getattribute__"))
 gh:air K (.ref D) "__getattr__"=O Z
 cl:air K (.ref D) "__class__"=O (O (.builtin "object.__class__"))
 cg:specialIn K (.builtin "object.__class__") "__get__"=O (O (.builtin "getset_descriptor.__get__"))
 ct:takesIn K (.builtin "object.__class__")=O true
 mo:mroIn K D (.type "object")=O true
 mb:mroIn K D (.type "BaseException")=O true
 cd:(clsIn K D).isSome=true
theorem gA.of(h:uF K D=true):gA K D:=by
 unfold uF at h;simp only[abK,beq_iff_eq] at h;obtain⟨⟨⟨⟨⟨⟨⟨h1,h2⟩,h3⟩,h4⟩,h5⟩,h6⟩,h7⟩,h8⟩:=h;exact⟨h1,h2,h3,h4,h5,h6,h7,h8⟩
theorem Hm(v:acb):bindSpecial (.builtin "BaseException.__getattribute__") v=pure (.builtin "BaseException.__getattribute__",[v]):=agZ.ga.bind v
theorem O5{Q:fQ->abT->Prop}(X:K.In s.heap)(I:kF s.heap x D)(hK:gA K D)(h:Q (O (.ref D)) { s with toks:=s.toks+1 }) :
  acf (acr prog w) A (getAttr? (.ref x) "__class__") Q E s:=by
 obtain⟨hh,gg,d,t,os⟩:=s;have L0:=I.mQ (M:=acr prog w);have L1:=agd (M:=acr prog w) X hK.ga;have L2:=agd (M:=acr prog w) X hK.gh;unfold getAttr? getAttrBy? getAttrBy;refine abF (wpAny_mkText (abF (afo (acJ (abF (L0.at (abF (L1.at ?_))))))));show acf _ _ (agv _ _ _ _ _ _) _ _ _;unfold agv;refine abF (show acf _ _ (agY (.ref D) "__getattr__") _ _ _ from L2.at ?_);refine abF (afo (acJ ?_));show acf _ _ (ahW _ _ _) _ _ _;unfold ahW;rw[Hm];refine abF (abM ?_)
 dsimp only
 refine agr (aeF agZ.ga.plain F.entry_bexc_ga (FK (s:=⟨hh,gg,d,t+1,os⟩) X I hK.mb (O4 (s:=⟨hh,gg,d,t+1,os⟩) I (Og X hK.cl hK.cg hK.ct) (agr (NY (s:=⟨hh,gg,d,t+1,os⟩) X I hK.mo ?_)))))
 dsimp only
 exact abM (abM h)
theorem gA.isType{h:adt}(hK:gA K D)(X:K.In h):∃c d cd sl,h.get? D=O ⟨c,d,.cls cd,sl⟩/\∀M,aid M h (PySem.isType (.ref D)) true:=by
 have h8:=hK.cd;unfold clsIn at h8;split at h8
 ·rename_i c' d' cd' C3 ho;refine⟨c',d',cd',C3,X _ _ ho,?_⟩;intro M A' Q' E' s' k q;unfold PySem.isType loadHead;exact abF (wpAny_loadPart (k _ _ (X _ _ ho)) (abM q))
 ·cases h8
theorem Qk(hK:gA K D):KitX K (.ref x) (.ref D) (λh=>kF h x D) where
 ty:=λM h X I=>I.mQ (M:=M)
 it:=λM h X _=>let ⟨_,_,_,_,_,z⟩:=hK.isType X;z M
 ne:=λh tp dd its n sl X e=>by
  obtain⟨c,d,cd,nE,z,_⟩:=hK.isType X;rw[adz];intro q;cases beq_iff_eq.mp q;rw[e] at z;cases z
 ca:=λ{_ _ _ _ _ _} X I q=>O5 X I hK q
end
noncomputable def zj(tb:List (Str×Bool))(w:W):Po W:=λph=>match w with
 | .exc c _ _=>(tb.lookup c).map λb=>(.bl b,ph)
 | _=>Z
noncomputable def jU(tb:List (Str×Bool))(m:EM):EM:=λσ=>ax (m σ) λw=>lift (zj tb w)
noncomputable def df(K:abG)(cv:acb)(tb:List (Str×Bool)):Prop:=
 ∀c b,tb.lookup c=O b->∃C,acx K acm c=O (O (.ref C))/\gA K C/\aco K (.ref C) cv=O b
variable{cv:acb}
theorem df.nil:df K cv []:=λc b e=>by cases e
theorem df.cons{tb:List (Str×Bool)}{c:Str}(h1:acx K acm c=O (O (.ref C)))(h2:gA K C)(h3:aco K (.ref C) cv=O b)(h:df K cv tb):df K cv ((c,b)::tb):=λc' b' e=>by
 rw[acq] at e;split at e
 ·rename_i q;cases e;rw[beq_iff_eq] at q;subst q;exact⟨C,h1,h2,h3⟩
 ·exact h c' b' e
noncomputable def ZI(K:abG)(v2:V)(cv:acb):aJ->Hp->VK->Prop:=λxs H Q=>∃a o u C b,xs=[.ref a,v2]/\H a=O (.bC o u)/\o.cls=.ref C/\gA K C/\aco K (.ref C) cv=O b/\Q (.bl b) H
theorem Ql{v2:V}(hv:∀u,RelV v2 u->u=cv):cD X (.builtin "isinstance") (ZI X.K v2 cv):=by
 intro pins s σ H xs us Q I r h;obtain⟨a,o,u,C,b,rfl,hH,hc,hk,e,q⟩:=h;obtain⟨u1,u2,rfl,r1,r2⟩:=Vals.two r;obtain rfl:u1=acu a:=r1;obtain rfl:=hv u2 r2;have ho:s.heap.get? a=O o:=(I.aA a _ hH).1;exact adW (Qk hk) I.cS ⟨o,ho,hc⟩ e (λz=>nomatch z) λtk=>⟨.bl b,H,I.tok tk,rfl,q⟩
section
variable{X:Cx}{e:adA}{m:EM}{p p2 pos:Pos}{c:Str}{tb:List (Str×Bool)}
theorem IY{v2:V}{cv:acb}(hv:∀u,RelV v2 u->u=cv)(hT:df X.K cv tb)(c7:isStar e=false)(hg:Gl X "isinstance")(hm:X.mg "isinstance"=Z)(hc:PE X (.Name c p2) (tC v2))(he:IE X e m):IE X (.Call (.Name "isinstance" p) [e,.Name c p2] [] pos) (jU tb m):=by
 refine PE.imp (AG (Ql hv) hg hm agm (mB he (mB hc tL rfl) (dF c7)) (he:=dF c7) (hpl:=rfl)) λσ H Q h=>?_
 obtain⟨φ,ph,ws,hH,hS,h⟩:=h;refine tM.bind hH hS h λx ph1 av H1 vx aB s1 rx h=>?_
 obtain⟨w,ph',e,k⟩:=run_lift h;unfold zj at e;cases rx with
 | exc h1 hc1 hn hk hf r=>
  obtain⟨b,eb,e2⟩:=abU.mp e;cases e2;obtain⟨C,t1,t2,t3⟩:=hT _ _ eb;rw[t1] at hn;cases hn;exact⟨_,_,_,_,b,rfl,h1,hc1,t2,t3,k av H1 _ aB s1 (.bl b)⟩
 | _=>cases e
theorem qq{C:abV}(hT:df X.K (.ref C) tb)(c7:isStar e=false)(hg:Gl X "isinstance")(hm:X.mg "isinstance"=Z)(fG:Gl X c)(fH:X.mg c=O (.ref C))(hd:(c==("__debug__":Str))=false)(he:JE X e m):JE X (.Call (.Name "isinstance" p) [e,.Name c p2] [] pos) (jU tb m):=⟨IY (v2:=.ref C) (λ_ r=>r) hT c7 hg hm (oh fG fH rfl hd) he.h⟩
theorem VD{cn:String}(hT:df X.K (.type cn) tb)(c7:isStar e=false)(hg:Gl X "isinstance")(hm:X.mg "isinstance"=Z)(fG:Gl X c)(fH:X.mg c=Z)(hv:adp c=O (.type cn))(hn:c≠"__name__")(hd:(c==("__debug__":Str))=false)(he:JE X e m):JE X (.Call (.Name "isinstance" p) [e,.Name c p2] [] pos) (jU tb m):=⟨IY (v2:=.ty cn) (λ_ r=>r) hT c7 hg hm (G6 fG fH hv rfl hn hd) he.h⟩
end
noncomputable def vv(x:XC):Mo α:=λph=>.ex x ph
noncomputable def tR(c:Str)(a:AM):SM:=λσ=>ax (a σ) λxs=>if ↑xs<=1000 then vv ⟨c,[]⟩ else fF
theorem Hn{f6:aS}{newId:String}(cR:K.In h)(q:aeO K C f6 newId=true):∃bm N nm qn bs hd sn sub ab col dd k0 k1 k2 k3 k5 mN,h.get? C=O (afE nm qn C N bs bm hd sn sub ab col dd k0 k1 k2 k3 k5 newId)/\h.Ns N mN/\mN "__init__"=Z/\OwnTail h f6 bm:=by
 unfold aeO at q;split at q
 case h_2=>cases q
 case h_1 dd cd sl ho=>
  split at q
  case h_2=>cases q
  case h_1 C' bm k0 k1 k2 k3 n k5 hm hs=>
   rw[abK,abK,abK,abK,abK] at q;obtain⟨⟨⟨⟨⟨q1,q2⟩,q3⟩,q4⟩,q5⟩,q6⟩:=q;cases beq_iff_eq.mp q1;cases beq_iff_eq.mp q2;have q3:cd.hasDel=false:=by simpa using q3
   cases cd with
   | mk nm bs mro ns qn hd sn sub ab col del=>
    cases(show mro=_ from hm);cases(show del=_ from q3);cases sl with
    | mk l=>
     cases(show l=_ from hs);exact⟨bm,ns,nm,qn,bs,hd,sn,sub,ab,col,dd,k0,k1,k2,k3,k5,_,cR _ _ ho,.of_isNs (PySem.W.isNs_of_in cR q5),PySem.W.nsMap_none_of_in cR q5 (beq_iff_eq.mp q6),ais cR q4⟩
abbrev fu:aS:=[.type "ValueError",.type "Exception",.type "BaseException",.type "object"]
section
variable{X:Cx}{e:adA}{es:bS}{a:AM}{np cV pos:Pos}{x:Str}{C:abV}
theorem Qm(hq:aeO X.K C fu "ValueError.__new__"=true)(hg:Gl X x)(hm:X.mg x=O (.ref C))(hc:X.calm=true)(hn:dX (e::es)=true)(bR:(x==("__debug__":Str))=false)(ha:IA X (e::es) a):IS X (.Raise (O (.Call (.Name x np) (e::es) [] cV)) Z pos) (tR x a):=by
 intro pins s σ H D I h;obtain⟨φ,ph,ws,hH,hS,h⟩:=h;obtain⟨bm,N,nm,qn,bs,hd,sn,sub,ab,col,dd,k0,k1,k2,k3,k5,mN,o1,o2,o3,o4⟩:=Hn I.ok.mod.cR hq;have iS:=hn;unfold dX at iS;rw[ady,abK] at iS;have h0:isStar e=false:=by simpa using iS.1
 refine wpAny_Raise_call_subU (C:=C) (N:=N) (nm:=nm) (q:=qn) (bs:=bs) (bm:=bm) (hdct:=hd) (sn:=sn) (sub:=sub) (ab:=ab) (col:=col) (dd:=dd) (k0:=k0) (k1:=k1) (k2:=k2) (k3:=k3) (k5:=k5) adf (by rfl) adf (o4.hasType (by rfl)) (I.ok.hd hc) (any_none hn) o3 (mz I hg hm ⟨rfl,?_⟩ bR);have hA:tA X a σ H (λvs H1=>↑vs<=1000/\∀e' s',(∃C,X.mg x=O (.ref C)/\Made X C Z H1 e' s')->X.xe e' s'):=by
  refine tA.bind hH hS h λxs ph1 av H1 vs aB s1 r1 h=>?_
  by_cases hl:↑xs<=1000
  ·rw[if_pos hl] at h;exact⟨by rw[<- ↑r1];exact hl,λe' s' ⟨C,hm,t⟩=>h av H1 e' s' aB Step.refl ⟨C,Z,hm,.inl rfl,.inl t⟩⟩
  ·rw[if_neg hl] at h;exact h.elim
 have key:=ha cV pins s σ H _ I hA;rw[dF h0] at key ⊢;refine agj (aW key λus s1 ⟨vs,H1,I1,r,q1,q2⟩=>⟨rfl,?_,I1.bk _ _ o1,o2.keeps I1.bk,o4.keeps I1.bk,λh' e' j4=>?_⟩)
 ·show ↑us<=_;rw[<- ↑r,afB];exact abX q1 (by decide)
 ·exact q2 _ _ ⟨C,hm,pins,σ,s1,h',e',rfl,rfl,I1,.of j4⟩
theorem Gw(hq:aeO X.K C fu "ValueError.__new__"=true)(hg:Gl X x)(hm:X.mg x=O (.ref C))(hc:X.calm=true)(hn:dX (e::es)=true)(bR:(x==("__debug__":Str))=false)(ha:JA X (e::es) a):JS X (.Raise (O (.Call (.Name x np) (e::es) [] cV)) Z pos) (tR x a):=⟨Qm hq hg hm hc hn bR ha.h⟩
end
open PySem PySem.Spec PyProof.Rows L2 PySem.W
structure iR(X:Cx):Prop where
 st:X.stack=X.env::X.outer
 fr:X.env.frame=O X.env.locals
 ex:X.ex=[]
theorem Oh{M:ahY}{A:adq}{E:aY}{s:abT}{base:adt}{outer:List Env}{L e:abV}{dd:ce}{Q:Unit->abT->Prop}(eO:A.frames=O (env::outer))(hf:env.frame=O L)(gD:base.StaysIn h)(hl:h.FunFrames base (env::outer))(hx:mP h s.heap e C dd)(hQ:∀h' t,adt.xW base (env::outer) e (.ref C,dd) (.ref t) L h'->s.heap.UpToSlots h'->Q () { s with heap:=h' }):acf M A (afe (.ref e) env) Q E s:=by
 obtain⟨o,vs,t,he,hk,hd,h0,h1⟩:=hx.there;rw[<- hk] at hQ;have new:base.get? e=none:=by
  cases hq:base.get? e with
  | none=>rfl
  | some o'=>have:=gD e o' hq;rw[hx.new] at this;cases this
 unfold afe;simp only[hf];refine abF (acD (x:=.none) he hd h1 ?_);rw[if_neg (show ¬((acB != acB)=true) by decide)];refine EX (a0:=.ref t) eO (hl.of_keeps λb o hb _=>⟨o,hx.keeps b o hb,rfl⟩) hf he (λb o hb=>hx.keeps b o (gD b o hb)) new hd (acV.mp h1).1 h0 λh' hN=>?_
 obtain⟨k1,k2,k3,k4⟩:=hN;exact hQ h' t ⟨k1,new,k2,k3⟩ k4
structure uG(X:Cx)(C a:abV)(dd:ce)(H':Hp)(B:adt)(s':abT):Prop where
 ex:∃pins σ H s,Inv X pins σ H s/\s'.os=s.os/\LO (dz X.stack) H H' s.heap B s'.heap
 bare:ahf s'.gens
 aA:cI X.prog X.w H' B
 note:∀{A:adq} {E:aY} {Q:Unit->abT->Prop},A.frames=O X.stack->(∀h' a0,adt.xW B X.stack a (.ref C,dd) a0 X.env.locals h'->s'.heap.UpToSlots h'->Q () { s' with heap:=h' }) →
  acf (acr X.prog X.w) A (afe (.ref a) X.env) Q E s'
variable{P:acL}
theorem Qn{w:adl}(x:cZ P w H h a o):∃ob,h.get? a=O ob:=by
 cases o with
 | lst xs=>exact⟨_,x.2.choose_spec.choose_spec.2⟩
 | tup xs=>obtain⟨_,its,_,ob,e,_⟩:=x;exact⟨ob,e⟩
 | dK kvs=>obtain⟨_,_,_,_,ob,_,_,e,_⟩:=x;exact⟨ob,e⟩
 | dT kvs=>obtain⟨_,_,_,_,ob,_,_,e,_⟩:=x;exact⟨ob,e⟩
 | dU kvs=>obtain⟨_,_,ob,_,_,e,_⟩:=x;exact⟨ob,e⟩
 | set S n=>obtain⟨ob,_,_,_,e,_⟩:=x;exact⟨ob,e⟩
 | ins C dx fs=>exact⟨_,x.2.2.2.1⟩
 | own y=>exact x
 | xd fs=>obtain⟨_,⟨ob,_,_,e,_⟩,_⟩:=x;exact⟨ob,e⟩
 | yT lo hi=>obtain⟨_,_,_,e⟩:=x;exact⟨_,e⟩
 | bC ob u=>exact⟨ob,x.1⟩
 | ir ps=>exact⟨_,x⟩
 | met f y=>exact⟨_,x⟩
 | ext φ=>exact x.2.1
section
variable{X:Cx}{C a:abV}{dd:ce}{H':Hp}{B:adt}{s':abT}{e:acb}
theorem O6(T:iR X)(h:Made X C dd H' e s'):∃a B,e=.ref a/\uG X C a dd H' B s':=by
 obtain⟨pins,σ,s,h',a,rfl,rfl,I,hx⟩:=h;have sf:=I.tD;have hl:=I.stack;have rL:∀env∈X.stack,∀b,env.frame=O b->b∈dz X.stack:=λenv he b hb=>afL.mpr ⟨env,he,hb⟩
 refine⟨a,aeY s.heap (dz X.stack),rfl,⟨pins,σ,H',s,I,rfl,⟨λb o e n hb=>aeg _ e hb,λb o e n hb=>⟨o.slots,hx.keeps b o e⟩,λb o e n=>n,λb o e hb=>⟨o,aeg _ e hb⟩,λb xs e=>e,λb o u e=>e,λb ps e=>⟨#[],by simpa using e⟩⟩⟩,
  I.bare,He I.aA sf,λ{A E Q} hA hQ=>?_⟩
 have eo:=ahA hl rL;rw[T.st] at hA;have c8:s.heap.FunFrames (aeY s.heap (dz X.stack)) (X.env::X.outer):=by rw[<- T.st];exact eo
 refine Oh (base:=aeY s.heap (dz X.stack)) (h:=s.heap) hA T.fr (λb o q=>agG _ q) c8 hx λvm t f1 f2=>hQ vm (.ref t) ?_ f2
 rw[T.st];rw[T.st] at f1;exact f1
theorem O7(T:iR X){pins:List (abV×Obj)}{σ:L2.St}{H:Hp}{s:abT}(I:Inv X pins σ H s)(h:Flew X.prog X.w X.stack H s C dd H' e s'):∃a B,e=.ref a/\uG X C a dd H' B s':=by
 obtain⟨a,a0,B,rfl,ho,uf,fE,aA,u⟩:=h;refine⟨a,B,rfl,⟨pins,σ,H,s,I,ho,u⟩,uf,aA,λ{A E Q} hA hQ=>?_⟩;rw[T.st] at hA fE;exact Nt hA T.fr fE λh' f1 f2=>hQ h' a0 (by rw[T.st];exact f1) f2
theorem took(T:iR X){x:XC}{φ:Nat->abV}{n:Nat}(h:kM X φ n x H' e s'):∃C dd,X.mg x.cls=O (.ref C)/\vh X.K φ n H' dd x.fs/\∃a B,e=.ref a/\uG X C a dd H' B s':=by
 obtain⟨C,dd,hm,hf,h⟩:=h;refine⟨C,dd,hm,hf,?_⟩
 rcases h with h | ⟨pins,σ,H,s,I,h⟩
 ·exact O6 T h
 ·exact O7 T I h
theorem uG.inv(T:iR X)(K:uG X C a dd H' B s'){h:adt}{a0:acb}(fE:adt.jK B X.stack a (.ref C,dd) a0 h)(sm:s'.heap.UpToSlots h):∃pins σ oe,h.get? a=O oe/\oe.cls=.ref C/\ahV oe=true/\H' a=Z/\(∀d,dd=O d->oe.dict=O d/\kx oe=true)/\Inv X pins σ (upd H' a (.bC oe (.own a))) { s' with heap:=h }:=by
 obtain⟨⟨pins,σ,H,s,I,ho,u⟩,uf,aA,_⟩:=K;obtain⟨oe,vs,f1,f2,f3,_⟩:=fE.first;have LZ:B.get? a=none:=fE.2.1;have fh:H' a=none:=by
  cases q:H' a with
  | none=>rfl
  | some o=>
   obtain⟨ob,L7⟩:=Qn (aA a o q);rw[LZ] at L7;cases L7
 have Dz:∀b∈dz X.stack,∀o,s.heap.get? b=O o->∃sl,h.get? b=O { o with slots:=sl }/\∀vs,o.data≠.fields vs:=λb hb o e=>by
  obtain⟨_,o',eM,cj⟩:=I.stack.mem hb;rw[e] at eM;cases eM;obtain⟨sl,e1⟩:=u.slot b o e (I.tD b hb) hb;obtain⟨nE,e2⟩:=sm b _ e1 cj;exact⟨nE,e2,cj⟩
 have ne:∀b o,s.heap.get? b=O o->b≠a:=λb o e z=>by
  by_cases hb:b∈dz X.stack
  ·obtain⟨sl,e1,cj⟩:=Dz b hb o e;rw[z,f1] at e1;cases e1;exact cj vs f3
  ·obtain⟨o',e1⟩:=u.there b o e hb;rw[z,LZ] at e1;cases e1
 have f2a:oe.cls=.ref C:=congrArg (·.1) f2;have f2b:∀d,dd=O d->oe.dict=O d/\kx oe=true:=λd e=>RJ (e▸f2)
 refine⟨pins,σ,oe,f1,f2a,by unfold ahV;rw[f3],fh,f2b,I.JP (ch:=[]) ho ⟨λb o e n hb _=>fE.1 b o (u.keep b o e n hb),λb o e n hb _=>(Dz b hb o e).imp λsl q=>q.1,λb o e n _=>by rw[bF (ne b o e)];exact u.free b o e n,λb o e _=>?_,
  λb xs e=>?_,λb ob uu e=>?_,λb ps e=>?_⟩ (λb ob e=>?_) uf λb hb=>nomatch hb⟩
 ·by_cases hb:b∈dz X.stack
  ·obtain⟨sl,e1,_⟩:=Dz b hb o e;exact⟨_,e1⟩
  ·obtain⟨o',e1⟩:=u.there b o e hb;exact⟨o',fE.1 b o' e1⟩
 ·have q:=u.g7 b xs e;rw[bF (λz=>by rw[z,fh] at q;cases q)];exact q
 ·have q:=u.fU b ob uu e;rw[bF (λz=>by rw[z,fh] at q;cases q)];exact q
 ·obtain⟨m,q⟩:=u.gL b ps e;exact⟨m,by rw[bF (λz=>by rw[z,fh] at q;cases q)];exact q⟩
 ·by_cases hb:b=a
  ·subst hb;rw[bU] at e;cases e;exact⟨f1,oe,f1⟩
  ·rw[bF hb] at e;refine(aA b ob e).jj (λc u2 _ q=>fE.1 c u2 q) (λc q=>?_) λc xs q=>?_
   ·rw[bF (λz=>by rw[z,fh] at q;cases q)];exact q
   ·rw[bF (λz=>by rw[z,fh] at q;cases q)];exact q
theorem Au{M:ahY}{A:adq}{E:aY}{K:abG}{s:abT}{D:abV}{b:Bool}{Q:Bool->abT->Prop}(cR:K.In s.heap)(I:kF s.heap a C)(hD:gA K D)(lU:afx K (.ref D)=O (.type "type"))(hs:aev K (.ref C) (.ref D)=O b)(q:Q b s):acf M A (excMatches (.ref a) (.ref D)) Q E s:=by
 obtain⟨hh,g,d,t,os⟩:=s;have L1:=PySem.W.looks_typeIn (M:=M) cR lU;obtain⟨_,_,_,_,_,L2'⟩:=hD.isType cR;have L2:=L2' M;have L3:PySem.W.Looks M hh (isSubtype (.ref D) (.type "BaseException")) true:=PySem.W.looks_mroIn (M:=M) cR hD.mb;have L4:=I.mQ (M:=M);have L5:=PySem.W.looks_subIn (M:=M) cR hs;have L6:PySem.W.Looks M hh (ahQ (.ref D) (.type "tuple")) false:=L1.andThen (PySem.W.Looks.of_pure tc_notTuple);unfold excMatches;refine abF (L6.at ?_)
 dsimp only
 rw[if_neg acj];refine abF (abM ?_);rw[ael];refine abF (abF (abF ?_));unfold isExcClass;refine abF (L2.at ?_)
 dsimp only
 rw[if_pos rfl];refine L3.at ?_
 try dsimp only
 rw[if_neg (by decide)];refine abM ?_
 dsimp only
 rw[afy];refine abM (abF (L4.at ?_));rw[ael];refine abF (abF (abF (L5.at ?_)));cases b with
 | true=>
  rw[if_pos rfl];exact abM (abM (abM q))
 | false=>
  rw[if_neg acj];refine abM ?_
  dsimp only
  rw[afy];exact abM (abM q)
end
section
variable{X:Cx}{pins iH pn':List (abV×Obj)}{σ:L2.St}{H:Hp}{s:abT}{A':adq}{xe':aY}{calm':Bool}
abbrev dg(X:Cx)(A':adq)(pn':List (abV×Obj))(xe':aY)(calm':Bool):Cx:={ X with A:=A',pn:=pn',xe:=xe',calm:=calm' }
theorem VE(ok:X.Ok)(hA:A'.frames=X.A.frames)(hh:calm'=true->A'.handled=Z):(dg X A' pn' xe' calm').Ok:=
 ⟨ok.mod,ok.kind,ok.glob,ok.blt,ok.above,ok.inj,ok.has,ok.nB,hh,hA.trans ok.frames,ok.pz,ok.uZ,ok.bs,ok.jX,ok.mU,ok.mV,ok.gz,ok.kK⟩
theorem oj(I:Inv X pins σ H s)(hA:A'.frames=X.A.frames)(hh:calm'=true->A'.handled=Z)(hp:∀p∈pn'++iH,p∈X.pn++pins):Inv (dg X A' pn' xe' calm') iH σ H s:=
 ⟨VE I.ok hA hh,I.os,I.bare,I.base,I.loc,I.cell,I.free,I.ik,λp h=>I.pin p (hp p h),I.aA,I.lk⟩
theorem sO(I:Inv (dg X A' pn' xe' calm') iH σ H s)(hA:X.A.frames=A'.frames)(hh:X.calm=true->X.A.handled=Z)(hp:∀p∈X.pn++pins,p∈pn'++iH):Inv X pins σ H s:=
 oj (X:=dg X A' pn' xe' calm') (A':=X.A) (pn':=X.pn) (xe':=X.xe) (calm':=X.calm) I hA hh hp
end
variable{pos:Pos}
theorem name_goes{pins:List (abV×Obj)}{σ:L2.St}{s:abT}{n:Str}{Q:Unit->abT->Prop}{M:ahY}{A:adq}{E:aY}(I:Inv X pins σ H s)(hN:X.N.Nodup)(hi:X.N[i]? =O n)
  (hl:X.env.scope.names.lookup n=O .local) (fI:iN X n) (h:∀s',Inv X pins (σ.set i Z) H s'->Q () s'):acf M A (do bindName X.env n .none;unbindBehindTheSuite X.env n pos) Q E s:=by
 obtain⟨m,hn,hlk⟩:=id I.loc;have lx:(X.env.scope.kind==.class||(X.env.scope.kind==.module&&X.env.locals != X.env.globals))=false:=by rw[I.ok.kind];rfl
 have lQ:∀b o,X.aI.heap.get? b=O o->b≠X.env.locals:=λb o e=>acQ (aci (abW e) I.ok.above)
 refine wpAny_nameGoes_keeps hl hn lx λh' v iS hs=>h _ ⟨I.ok,I.os,I.bare,⟨λb o e n' hb hx=>(hs.2 b (lQ b o e)).trans (I.base.keep b o e n' hb hx),λb o e n' hb hx=>?_,I.base.free,λb o e hx=>?_,I.base.g7,I.base.fU,I.base.gL⟩,
  ⟨_,iS,λj y v' e1 e2 e3=>?_⟩,λy c e=>?_,I.free,I.ik,λp hp=>?_,λb ob e=>?_,⟨by rw[adU];exact I.len,fI i hi σ Z I.lk.2⟩⟩
 ·obtain⟨sl,e1⟩:=I.base.slot b o e n' hb hx;exact⟨sl,(hs.2 b (lQ b o e)).trans e1⟩
 ·obtain⟨o',e1⟩:=I.base.there b o e hx;exact⟨o',(hs.2 b (lQ b o e)).trans e1⟩
 ·have hj:j≠i:=λz=>by
   subst z;rw[List.getElem?_set] at e2;split at e2
   ·split at e2
    ·cases e2
    ·cases e2
   ·rename_i z;exact z rfl
  rw[aea (adD hj)] at e2;obtain⟨u',r',q⟩:=hlk j y v' e1 e2 e3;refine⟨u',r',?_⟩
  rcases q with⟨k,e⟩ | ⟨k,c,e,z⟩
  ·refine .inl ⟨k,?_⟩;have:y≠n:=λe=>hj (AE hN e1 (e▸hi))
   simp[this,e]
  ·exact .inr ⟨k,c,e,z.sameBut hs (I.lO y c e)⟩
 ·obtain⟨w',z⟩:=I.cell y c e;exact⟨w',z.sameBut hs (I.lO y c e)⟩
 ·obtain⟨e,n',ne,nf,d⟩:=I.pin p hp;exact⟨(hs.2 p.1 ne).trans e,n',ne,nf,d⟩
 ·refine(I.aA b ob e).jj (λc w' hc q=>(hs.2 c ?_).trans q) (λ_ q=>q) λ_ _ q=>q
  rintro rfl
  rcases hc with rfl | hc
  ·rw[I.free] at e;cases e
  ·rw[I.free] at hc;cases hc
noncomputable def Fl.wo(i:Nat):Fl->Fl
 | .nx σ=>.nx (σ.set i Z)
 | .bk σ=>.bk (σ.set i Z)
 | .ct σ=>.ct (σ.set i Z)
 | .rt w=>.rt w
noncomputable def rM(m:Mo α):Mo α:=λph=>match m ph with
 | .ok a ph'=>.ok a ph'
 | _=>.no
theorem aZ.len{K:abG}{φ:Nat->abV}{n:Nat}{H:Hp}:∀{ws:aG} {vs:L2.St},aZ K φ n H ws vs->↑ws=↑vs
 | _,_,.nil=>rfl
 | _,_,.sm _ r=>by rw[abP,abP,aZ.len r]
 | _,_,.nn r=>by rw[abP,abP,aZ.len r]
theorem aZ.none{K:abG}{φ:Nat->abV}{n:Nat}{H:Hp}:∀(vs:L2.St),aZ K φ n H (abS ↑vs aic) vs
 | []=>.nil
 | _::vs=>.nn (aZ.none vs)
theorem aZ.unset{K:abG}{φ:Nat->abV}{n:Nat}{H:Hp}:∀{ws:aG} {vs:L2.St} (i:Nat) {o:Option V},aZ K φ n H ws vs->aZ K φ n H (ws.set i aic) (vs.set i o)
 | _,_,_,_,.nil=>.nil
 | _,_,0,_,.sm _ r=>.nn r
 | _,_,0,_,.nn r=>.nn r
 | _,_,i+1,_,.sm h r=>.sm h (aZ.unset i r)
 | _,_,i+1,_,.nn r=>.nn (aZ.unset i r)
structure qE(K:abG)(D:abV):Prop where
 ek:gA K D
 ty:afx K (.ref D)=O (.type "type")
theorem n5(ha:H a=Z):Step K φ n H φ n (upd H a o):=by
 refine⟨abO _,λ_ _=>rfl,λc xs h=>?_,λc ob u h=>by rw[bF (λz=>by rw[z,ha] at h;cases h)];exact h⟩;rw[bF (λz=>by rw[z,ha] at h;cases h)];exact h
noncomputable def fW(K:abG)(D:abV)(tb:List (Str×Bool)):Prop:=
 ∀c b,tb.lookup c=O b->∃C,acx K acm c=O (O (.ref C))/\aev K (.ref C) (.ref D)=O b
theorem fW.nil{D:abV}:fW K D []:=λc b e=>by cases e
theorem fW.cons{D:abV}{tb:List (Str×Bool)}{c:Str}(h1:acx K acm c=O (O (.ref C)))(h3:aev K (.ref C) (.ref D)=O b)(h:fW K D tb):fW K D ((c,b)::tb):=λc' b' e=>by
 rw[acq] at e;split at e
 ·rename_i q;cases e;rw[beq_iff_eq] at q;subst q;exact⟨C,h1,h3⟩
 ·exact h c' b' e
theorem xc(h:aH K φ ph H)(ha:H a=Z):aH K φ ph (upd H a o):=
 ⟨λi p e=>by
  obtain⟨x,hx,_⟩:=h.at (abL.mp e).1;exact(h.hp i p e).mono (n5 ha) (bF λz=>by rw[z,ha] at hx;cases hx),h.inj,λp hm=>(h.tb p hm).new ha⟩
section
variable{X:Cx}
theorem Ho{pn':List (abV×Obj)}{E:aY}{x:XC}{φ:Nat->abV}{k:Nat}{H':Hp}{e:acb}{s':abT}(hh:X.calm=true->X.A.handled=Z)(h:kM (dg X X.A pn' E X.calm) φ k x H' e s'):kM (dg X X.A pn' X.xe X.calm) φ k x H' e s':=by
 obtain⟨C,dd,hm,hf,h⟩:=h;refine⟨C,dd,hm,hf,?_⟩
 rcases h with⟨pins,σ,s,h',a,e1,e2,I,hx⟩ | ⟨pins,σ,H,s,I,h⟩
 ·exact .inl ⟨pins,σ,s,h',a,e1,e2,oj (X:=dg X X.A pn' E X.calm) I rfl hh λ_ z=>z,hx⟩
 ·exact .inr ⟨pins,σ,H,s,oj (X:=dg X X.A pn' E X.calm) I rfl hh λ_ z=>z,h⟩
variable{body iJ:d8}{i0:ahZ}{c n:Str}{i:Nat}{tb:List (Str×Bool)}{D:abV}{np il pos:Pos}{mb mh:SM}
end
theorem Hq{w:adl}{mg:dr}{base:adt}{x qual:Str}{st:ahZ}{f:abV}{fd:adR}{N ps:aN}{k np:Nat}{body:SM}(hn:↑N=n)(hp:↑ps=np)(F:nH K x qual st f fd)(S:mC N ps (cx st))(ub:∀{X:Cx},X.prog=P->X.w=w->X.K=K->X.mg=mg->X.base=base->Bd X N (cx st) k->iR X->X.env.scope=cx st->JB X (fN st) body):fV P w K mg base (dQ P w) (k+1) f fd ps (j3 K mg np (fM body n np)):=by
 subst hn hp;exact Vb F S λbQ A outer s H E hr=>(ub (X:=jl (dQ P w) P w K mg base N qual (cx st) f bQ A outer s H E) rfl rfl rfl rfl rfl ⟨⟨⟨rfl,λ_ z=>z,λ_ z=>z,λ_ z=>z,λ_ _=>⟨.inl rfl,λ_ _ _ _ _=>trivial⟩,S.nd⟩,rfl,hr⟩,jd.leaving⟩ ⟨rfl,rfl,rfl⟩ rfl).h
theorem Nu:adp "ValueError"=O (.type "ValueError"):=by kernel_rfl
noncomputable def oJ(K:abG)(b:abV):Bool:=(kl K).any λp=>p.2.2==b
theorem Gx{b:abV}(h:oJ K b=true):∃p∈kl K,p.2.2=b:=by
 obtain⟨p,h1,h2⟩:=aep.mp h;exact⟨p,h1,eq_of_beq h2⟩
theorem O8{p:Str×abV×abV}(h:p∈kl K):oJ K p.2.2=true:=aep.mpr ⟨p,h,beq_self_eq_true _⟩
noncomputable def H0(K:abG)(a:abV)(o:Obj)(xs:aJ):Hp:=λb=>if oJ K b=true then O (.ir #[]) else if b=a/\K.lookup a=Z then O (.bC o (.lst xs)) else Z
section
variable{Pg:acL}{w:adl}{K:abG}{mg mb:dr}{k:Nat}{fa a:abV}{fd:adR}{x:Str}{bB:abT}{vs:aS}{ns:gM}{fm:aw->Mo W}
theorem Qo(KX:K.In bB.heap)(cG:bB.heap.Ns acm mg)(hb:bB.heap.Ns agp mb)(zf:∀x:Str,x≠"__name__"->mb x=adp x)(ZJ:bB.heap.NoLimit)(hbm:∃bm ob,mg "__builtins__"=O (.ref bm)/\bm≠agp/\bB.heap.get? bm=O ob/\ob.cls=.type "module"/\ob.dict=O agp/\ob.data=.plain)(hg:bB.gens= #[])(hT:∀p∈kl K,agQ bB.heap p.2.1 p.2.2/\bB.heap.get? p.2.2=O (aeU #[]))(hK:ahX K=true)(ha:bB.heap.get? a=O { cls:=.type "list",data:=.seq vs.toArray })(hi:IntsAre vs ns)(hl:↑ns<=63)(hr:dw k callerA)
  (F:∀base:adt,K.In base->base.Ns acm mg->fV Pg w K mg base (dQ Pg w) k fa fd [x] (j3 K mg 1 fm)) (Yb:∀(s:abT) (u:acb),BindsTo s fd ⟨[u],[]⟩ [(x,u)])
  (good:∃ph',fm [.fl (ns.map W.int)] []=.ok (.bl true) ph') :
  ahG (acr Pg w) callerA (.call (.ref fa) ⟨[.ref a],[]⟩) (λr s'=>r=.ok (.ret (.bool true))/\OldK bB.heap s'.heap/\s'.os=bB.os/\ahf s'.gens) bB:=by
 have rv:=FF hi;have ZM:=↑hi;have c8:↑ns<=sizeLine:=abX hl (by decide);have tabOf:∀{b:abV},oJ K b=true->bB.heap.get? b=O (aeU #[]):=λh=>by
  obtain⟨p,h1,rfl⟩:=Gx h;exact(hT p h1).2
 have free:∀{b:abV} {o:Obj},bB.heap.get? b=O o->o≠aeU #[]->(b=a->K.lookup a≠Z)->H0 K a { cls:=.type "list",data:=.seq vs.toArray } (ns.map V.int) b=none:=λ{b o} e n1 n2=>by
  unfold H0;rw[if_neg (λh=>n1 (acM (e.symm.trans (tabOf h)))),if_neg (λh=>n2 h.1 h.2)]
 have BZ:∀{b:abV} {o:Obj},bB.heap.get? b=O o->o.cls≠.none->o.cls≠.type "list"->H0 K a { cls:=.type "list",data:=.seq vs.toArray } (ns.map V.int) b=none:=λ{b o} e n1 n2=>free e (λz=>n1 (by rw[z])) λz=>by
  subst z;rw[ha] at e;cases e;exact absurd rfl n2
 have B0:∀{b:abV} {o:Obj} {es:Array DictEntry} {ep:Nat},bB.heap.get? b=O o->o.data=.dict es ep->H0 K a { cls:=.type "list",data:=.seq vs.toArray } (ns.map V.int) b=none:=λ{b o es ep} e d=>free e (λz=>by rw[z] at d;cases d) λz=>by
  subst z;rw[ha] at e;cases e;have d':Data.seq vs.toArray _=Data.dict es ep:=d;cases d'
 have na:oJ K a=false:=by
  cases q:oJ K a with
  | false=>rfl
  | true=>have:=tabOf q;rw[ha] at this;cases this
 revert free BZ B0
 generalize eH:H0 K a { cls:=.type "list",data:=.seq vs.toArray } (ns.map V.int)=H;intro free BZ B0;have IZ:∀b u,H b=O u->(oJ K b=true/\u=.ir #[])\/(b=a/\u=.bC { cls:=.type "list",data:=.seq vs.toArray } (.lst (ns.map V.int))):=λb u e=>by
  rw[<- eH] at e;unfold H0 at e;split at e
  ·rename_i h;cases e;exact .inl ⟨h,rfl⟩
  ·split at e
   ·rename_i h;cases e;exact .inr ⟨h.1,rfl⟩
   ·cases e
 have aA:cI Pg w H bB.heap:=λb u e=>by
  rcases IZ b u e with⟨h,rfl⟩ | ⟨rfl,rfl⟩
  ·exact tabOf h
  ·exact⟨ha,by rw[abI];exact c8,vs,_,rv,ha⟩
 have tb:∀p∈kl K,m8 H p.1 p.2.2:=λp hp=>⟨#[],by rw[<- eH];exact if_pos (O8 hp),trivial,λpos v e=>nomatch e⟩
 have hS:yt K H a (ns.map V.int):=by
  cases q:K.lookup a with
  | some o=>
   have e:=KX a o q;rw[ha] at e;cases e;exact .inr ⟨_,vs.toArray,_,q,rfl,rfl,rfl,by rw[aca,ZM];exact c8,by simpa using rv⟩
  | none=>exact .inl ⟨_,by rw[<- eH];unfold H0;rw[if_neg (by rw[na];simp),if_pos ⟨rfl,q⟩]⟩
 have l7:∀{b:abV} {o:Obj},bB.heap.get? b=O o->H b=Z->(lr bB.heap H).get? b=O o:=λe n=>P1 e n
 have zk:∀{b:abV} {m:dr},bB.heap.Ns b m->(lr bB.heap H).Ns b m:=λ{b m} ⟨o,es,ep,e,d,r⟩=>⟨o,es,ep,l7 e (B0 e d),d,r⟩
 have L8:K.In (lr bB.heap H):=λb o e=>l7 (KX b o e) (free (KX b o e) (λz=>by
  have h2:=acA.mp hK (b,o) (PySem.W.mem_of_lookupK e);subst z;exact absurd (show false=true from h2) acj) λz q=>by rw[<- z,e] at q;cases q)
 have hM:Mod K mg (lr bB.heap H):=⟨L8,zk cG,⟨mb,zk hb,zf⟩,let ⟨mc,h1,h2⟩:=ZJ;⟨mc,zk h1,h2⟩,
  let ⟨bm,ob,b1,b2,b3,b4,b5⟩:=hbm;⟨bm,ob,b1,b2,l7 b3 (BZ b3 (by rw[b4];exact λz=>nomatch z) (by rw[b4];exact λz=>absurd (Value.type.inj z) (by decide))),b4,b5⟩⟩
 have e0:oU Pg w K mg (lr bB.heap H) callerA [] bB H:=⟨rfl,hM,λb o e=>Rk e,aiO (OG _ _),trivial,λb hb=>absurd (show b∈([]:List abV) from hb) (by simp),aA,.of_eq hg⟩
 obtain⟨ph',eg⟩:=good;refine agI ((F _ L8 (zk cG)).run callerA [] bB H ⟨[.ref a],[]⟩ [.ref a] [.ref a] (λv _=>v=.bl true) (λ_ _ _=>False) hr e0 (Yb bB (.ref a)) (.cons rfl .nil)
  ⟨rfl,λ_=>0,[],[.fl (ns.map W.int)],⟨λi o e=>by simp at e,λi j hi=>absurd hi (by simp),tb⟩,.cons (.fl hS (Hf ns)) .nil,?_⟩) λr s' h=>?_
 ·rw[eg];intro ak H' v _ _ r;cases r;rfl
 ·cases r with
  | error e=>obtain⟨_,_,_,_,z⟩:=h;exact z.elim
  | ok fl=>
   cases fl with
   | next=>exact afl h
   | brk=>exact afl h
   | cont=>exact afl h
   | ret u=>
    obtain⟨v,H',os,bare,un,K5,r',q⟩:=h;have q':v=.bl true:=q;subst q';obtain rfl:u=afG true:=r';refine⟨rfl,⟨λb o e=>?_,λb o e=>un.there b o e (by simp)⟩,os,bare⟩;cases q:H b with
    | none=>exact .inl (un.keep b o e q (λz=>absurd (show b∈([]:List abV) from z) (by simp)) (by simp))
    | some u=>
     rcases IZ b u q with⟨h1,rfl⟩ | ⟨rfl,rfl⟩
     ·obtain⟨more,z⟩:=un.gL b _ q;have e2:s'.heap.get? b=O (aeU (#[]++more)):=K5 b _ z;obtain⟨p,hp,rfl⟩:=Gx h1;have e3:=(hT p hp).2;rw[e] at e3;cases e3;exact .inr (.inl ⟨((hT p hp).1.tab (hT p hp).2).isCodeTable,rfl,#[],more,rfl,e2⟩)
     ·obtain⟨e2,_⟩:=K5 _ _ (un.fU _ _ _ q);rw[ha] at e;cases e;exact .inl e2
end
theorem Sb{l:ahI}{q:acL}{loose:aN}{XP:(Str->Option acb)->adt->Prop}{YP:adl->adt->Prop}{d:DefRec}{K:Params->abG}{x:Str}{fm:aw->Mo W}(k:Nat)(good:∀ns:gM,↑ns<=63->∃ph',fm [.fl (ns.map W.int)] []=.ok (.bl true) ph')(hn:l.most=O 63)(u6:d.params.defaults=[])(hr:dw k callerA)(hY:∀(w:adl) (h:adt),YP w h->(K w.params).In h)(hK:∀w:adl,ahX (K w.params)=true)(hT:∀(w:adl) (h:adt),YP w h->∀p∈kl (K w.params),agQ h p.2.1 p.2.2/\h.get? p.2.2=O (aeU #[]))(F:∀(w:adl) (mg:dr) (fa:abV) (h:adt),(K w.params).In h->h.Ns acm mg->mg d.name=O (.ref fa) → ∃fd:adR,(∀(s:abT) (u:acb),BindsTo s fd ⟨[u],[]⟩ [(x,u)])/\∀base:adt,(K w.params).In base->base.Ns acm mg->fV l.prog w (K w.params) mg base (dQ l.prog w) k fa fd [x] (j3 (K w.params) mg 1 fm)):PySem.W.WalkO q loose XP YP l.row.toRowW d [] (λf vs=>PySem.call f vs):=by
 refine LL.NR hn u6 λw aI bB mg mb fa o pm cd doc a vs ns G Y ho hd hcd hmg Cu BU bj hg=>?_
 have KX:=hY w _ Y;obtain⟨fd,hb,hF⟩:=F w mg fa _ KX G.T.g hmg;exact Qo KX G.T.g G.T.b G.T.builtins G.T.nolimit G.T.bmain hg (hT w _ Y) (hK w) Cu BU bj hr hF hb (good ns bj)
noncomputable def zl:W->Option Bool
 | .bl b=>O b
 | _=>Z
noncomputable def qY(w:W)(ph:PH):Option (List Bool):=if fg w ph=true then(cM w ph).bind (aT zl) else Z
noncomputable def abt:aw->Po W:=λxs ph=>match xs with
 | [w]=>(qY w ph).map λbs=>(.bl (bs.any id),ph)
 | _=>Z
noncomputable def jq:aw->Po W:=λxs ph=>match xs with
 | [w]=>(qY w ph).map λbs=>(.bl (bs.all id),ph)
 | _=>Z
section
variable{X:Cx}
theorem Sd(bs:List Bool):((adm ↑bs).all λi=>(bs[i]?).getD true)=bs.all id:=by
 rw[aei,acA,acA];constructor
 ·intro h b hb;obtain⟨i,hi,q⟩:=adi hb;have:=h i (adQ.mpr hi);simp only[acn hi,ahw,q] at this;exact this
 ·intro h i hi;have hi:=adQ.mp hi;simp only[acn hi,ahw];exact h _ (List.getElem_mem hi)
theorem Qp{h h':adt}{o:Obj}(hk:∀b x,b∉[h.objs.size]->(h.push o).get? b=O x->h'.get? b=O x):∀b x,h.get? b=O x->h'.get? b=O x:=
 λb x e=>hk b x (λhm=>by rw[ack.mp hm] at e;exact aer _ (abW e)) (abJ _ e)
theorem aaB(hc:X.calm=true):cD X (.builtin "all") (λxs H Q=>∃p,∃bs:List Bool,xs=[.ref p]/\bK X.K H p (bs.map V.bl)/\Q (.bl (bs.all id)) H):=by
 intro pins s σ H xs us Q I r h;obtain⟨p,bs,rfl,hq,q⟩:=h;obtain⟨u,rfl,rx⟩:=vals1 r;cases rx;obtain⟨its,r',pl,hz⟩:=I.list hq;have bj:=↑r';rw[abI] at bj;have Dy:p<s.heap.objs.size:=by obtain⟨_,e,_⟩:=pl.isList;exact abW e
 refine call_all_walk (agV pl.isList ?_);refine⟨s.heap.objs.size,[s.heap.objs.size,p],[s.heap.objs.size],its.toArray.size,_,_,λi=>(bs[i]?).getD true,rfl,Walks.list (A:=X.A.in1) (I.ok.hd hc) _ p (acQ Dy) its.toArray,
  ⟨⟨_,acp _ rfl,rfl,rfl⟩,pl.isList.push _⟩,λi v s' Q' E' hP hQ=>?_,λh' tk hk=>?_⟩
 ·have hP:its[i]? =O v:=by simpa using hP
  have hi:i<↑bs:=by rw[bj];exact(abL.mp hP).1
  obtain⟨u,hu,ru⟩:=r'.get (i:=i) (x:=.bl bs[i]) (by simp[hi]);rw[hP] at hu;cases hu;have ru:v=.bool bs[i]:=ru;subst ru;simp only[acn hi,ahw] at hQ;exact adn hQ
 ·rw[aca,<- bj,Sd];exact⟨.bl _,H,I.kept (Qp hk),rfl,q⟩
theorem Bb{K:abG}{φ:Nat->abV}{n:Nat}{H:Hp}:∀{ws:aw} {vs:aJ} {bs:List Bool},a9 K φ n H ws vs->aT zl ws=O bs->vs=bs.map V.bl
 | _,_,_,.nil,e=>by cases e;rfl
 | w::ws,_,bs,.cons h r,e=>by
  unfold aT at e;split at e
  ·rename_i b bs' e1 e2;cases e;have q:=Bb r e2;unfold zl at e1;cases h <;> cases e1
   rw[q];rfl
  ·cases e
theorem Qq{K:abG}{φ:Nat->abV}{ph:PH}{H:Hp}{w:W}{v:V}{bs:List Bool}(hH:aH K φ ph H)(r:aQ K φ ↑ph H w v)(e:qY w ph=O bs):∃p,v=.ref p/\bK K H p (bs.map V.bl):=by
 unfold qY at e;split at e
 ·rename_i hL;cases r with
  | ref hi=>
   unfold fg at hL;simp only at hL;split at hL
   ·rename_i ws hw;obtain⟨vs,hv,rs⟩:=hH.hp _ _ hw;simp only[cM,hw,adj] at e;rw[Bb rs e] at hv;exact⟨_,rfl,bK.of hv⟩
   ·cases hL
  | fl h rs=>
   simp only[cM,adj] at e;have q:=Bb rs e;subst q;exact⟨_,rfl,h.sq⟩
  | _=>cases hL
 ·cases e
theorem aa5{K:abG}:gp K (λxs H Q=>∃p,∃bs:List Bool,xs=[.ref p]/\bK K H p (bs.map V.bl)/\Q (.bl (bs.all id)) H) jq:=by
 intro φ ph H xs vs w ph' Q hH r e k;unfold jq at e;split at e
 ·rename_i x;cases q:qY x ph with
  | none=>rw[q] at e;cases e
  | some bs=>
   rw[q] at e;cases e;cases r with
   | cons r r'=>
    cases r';obtain⟨p,rfl,hs⟩:=Qq hH r q;exact⟨p,bs,rfl,hs,k φ H _ hH Step.refl (.bl _)⟩
 ·cases e
end
noncomputable def ya(w:W):Po (aw×(PH->Bool)):=λph=>match w with
 | .tup ws=>O ((ws,λ_=>true),ph)
 | w=>nh w ph
noncomputable def cf(m:EM):IM:=λσ=>ax (m σ) λw=>lift (ya w)
variable{m:EM}
theorem Yc{σ:L2.St}{R:It->Hp->Prop}(h:tI X (cf m) σ H R):tI X (yx m) σ H R\/tI X (BX m) σ H R:=by
 obtain⟨φ,ph,ws,hH,hS,h⟩:=h;unfold cf at h;rw[dW] at h;cases q:m ws ph with
 | no=>rw[q] at h;exact h.elim
 | ex x ph'=>
  refine .inl ⟨φ,ph,ws,hH,hS,?_⟩;unfold yx;rw[dW,q];rw[q] at h;exact h
 | ok w ph'=>
  rw[q] at h;have h:(lift (ya w) ph').Run _ _:=h;by_cases hw:∃us,w=.tup us
  ·obtain⟨us,rfl⟩:=hw;refine .inr ⟨φ,ph,ws,hH,hS,?_⟩;unfold BX;rw[dW,q];exact h
  ·refine .inl ⟨φ,ph,ws,hH,hS,?_⟩;unfold yx;rw[dW,q];have e:ya w=nh w:=by
    funext p
    cases w <;> first | rfl | exact absurd ⟨_,rfl⟩ hw
   rw[e] at h;exact h
theorem Se{tg e:adA}(hl:JE X e m):JI X tg e (cf m):=⟨by
 intro pins s σ H R I h
 rcases Yc h with h | h
 ·exact RR hl.h pins s σ H R I h
 ·exact U8 hl.h pins s σ H R I h⟩
section
variable{X:Cx}{pins:List (abV×Obj)}{σ:L2.St}{H:Hp}{s:abT}{h':adt}
theorem Hr{t':Nat}{fp:List abV}{T:abV}{o:HO}(I:Inv X pins σ H s)(k:∀b u,b∉fp->s.heap.get? b=O u->h'.get? b=O u)(hf:∀b∈fp,jk X pins H b)(hp:s.heap.objs.size<=T)(new:cZ X.prog X.w (upd H T o) h' T o):Inv X pins σ (upd H T o) { s with heap:=h',toks:=t' }:=by
 have hn:=I.aA.fresh hp;have neT:∀b u,s.heap.get? b=O u->b≠T:=λb u e=>acQ (aci (abW e) hp)
 have nD:∀b u,H b=O u->b∉fp:=λb u e z=>by rw[(hf b z).1] at e;cases e
 refine I.step (g':=s.gens) (d':=s.drawn) (ch:=fp) (λb hb=>?_) (λb u _ _ hc e _=>k b u hc e) (λb u _ _ hc e _=>⟨u.slots,k b u hc e⟩) (λb u _ e n=>by rw[bF (neT b u e)];exact n)
  (λb u hc e=>⟨u,k b u hc e⟩) (λb xs e=>by rw[bF (gH e hn)];exact e) (λb u v e=>by rw[bF (gH e hn)];exact e) (λb ps e=>⟨#[],by rw[bF (gH e hn),e];simp⟩) (λm hm=>?_) (λb u e=>?_) I.bare
 ·obtain⟨_,f1,_,f3,f4,f5⟩:=hf b hb;exact⟨f3,f1,f4,f5⟩
 ·obtain⟨u,es,ep,ho,r⟩:=hm;exact⟨u,es,ep,k _ u (λz=>(hf _ z).2.1 rfl) ho,r⟩
 ·by_cases hb:b=T
  ·subst hb;rw[bU] at e;cases e;exact new
  ·rw[bF hb] at e;refine(I.aA b u e).jj (λc v hc q=>k c v ?_ q) (λc q=>by rw[bF (gH q hn)];exact q) λc xs q=>by rw[bF (gH q hn)];exact q
   rcases hc with z | z
   ·rw[z];exact nD b u e
   ·exact nD c _ z
theorem Hs{t':Nat}{fp:List abV}(I:Inv X pins σ H s)(k:∀b u,b∉fp->s.heap.get? b=O u->h'.get? b=O u)(hf:∀b∈fp,jk X pins H b):Inv X pins σ H { s with heap:=h',toks:=t' }:=by
 have nD:∀b u,H b=O u->b∉fp:=λb u e z=>by rw[(hf b z).1] at e;cases e
 refine I.step (g':=s.gens) (d':=s.drawn) (ch:=fp) (λb hb=>?_) (λb u _ _ hc e _=>k b u hc e) (λb u _ _ hc e _=>⟨u.slots,k b u hc e⟩) (λb u _ e n=>n)
  (λb u hc e=>⟨u,k b u hc e⟩) (λb xs e=>e) (λb u v e=>e) (λb ps e=>⟨#[],by rw[e];simp⟩) (λm hm=>?_) (λb u e=>?_) I.bare
 ·obtain⟨_,f1,_,f3,f4,f5⟩:=hf b hb;exact⟨f3,f1,f4,f5⟩
 ·obtain⟨u,es,ep,ho,r⟩:=hm;exact⟨u,es,ep,k _ u (λz=>(hf _ z).2.1 rfl) ho,r⟩
 ·refine(I.aA b u e).jj (λc v hc q=>k c v ?_ q) (λ_ q=>q) λ_ _ q=>q
  rcases hc with z | z
  ·rw[z];exact nD b u e
  ·exact nD c _ z
end
noncomputable def L9(K:abG)(a:abV):It:=
 ⟨λi H=>∃xs x,bK K H a xs/\xs[i]? =O x,λi H x H'=>∃T y,x=.ref T/\H T=Z/\H'=upd H T (.tup [.int i,y])/\∀xs,bK K H a xs->xs[i]? =O y,λi H=>∃xs,bK K H a xs/\↑xs<=i⟩
variable{j:Nat}
theorem O9{w:adl}{oZ:bS}(a e it:abV)(Ma:e≠it):Turn P w K (.Tuple oZ j pos) (L9 K a) [e,it] e (λi h=>(∃old,IsEnum h e it (i:Int) old)/\h.IsListIter it a i) where
 mem:=by simp
 obj:=λi h st b hb=>by
  obtain⟨⟨old,he⟩,o,e1,c,d⟩:=st
  rcases abR.mp hb with rfl | hb
  ·exact⟨_,he,λv z=>by cases z⟩
  ·have:b=it:=by simpa using hb
   subst this;exact⟨o,e1,λv z=>by rw[d] at z;cases z⟩
 keep:=λi h h' st k=>⟨let ⟨old,he⟩:=st.1;⟨old,k e (by simp) _ he⟩,st.2.at λo q=>k it (by simp) o q⟩
 item:=by
  intro X hP hw hK hc i pins s σ H E I hf st hg;subst hP hw hK;obtain⟨⟨old,he⟩,hit⟩:=st;obtain⟨xs,x,hq,hx⟩:=hg;obtain⟨its,rv,p,hz⟩:=I.list hq;obtain⟨u,hu,ru⟩:=rv.get hx;refine wpAny_pyNext_enum_item he hit p.isList (x:=u) (by simpa using hu) Ma λh1 ho ZO hT hsz hk=>⟨_,rfl,?_⟩
  refine wpAny_letOwnedTupleGo_enum ho λh2 rN dI=>?_
  have kk:∀b o,b∉[e,it]->s.heap.get? b=O o->h2.get? b=O o:=λb o hb q=>by
   have Mb:b≠e:=λz=>hb (by simp[z])
   have hb2:b≠it:=λz=>hb (by simp[z])
   exact(dI.2 b Mb).trans (hk b o Mb hb2 q)
  have gP:s.heap.objs.size≠e:=aed (abW he);have new:cZ X.prog X.w (upd H s.heap.objs.size (.tup [.int i,x])) h2 s.heap.objs.size (.tup [.int i,x]):=
   ⟨by show 2<=acd;decide,[.int i s.toks,u],.cons ⟨_,rfl⟩ (.cons ru .nil),_,(dI.2 _ gP).trans hT,rfl,_,rfl⟩
  refine⟨.ref s.heap.objs.size,_,Hr (s:=s) (h':=h2) (t':=s.toks+1) I kk hf (abO _) new,rfl,⟨_,x,rfl,I.aA.fresh (abO _),rfl,λys hy=>by rw[I.AF hy hq];exact hx⟩,⟨⟨_,by simpa using rN⟩,ZO.at λo q=>(dI.2 it Ma.symm).trans q⟩,λb hb=>?_⟩;rw[bF (λz=>?_)]
  ·exact(hf b hb).1
  ·subst z
   rcases abR.mp hb with z | z
   ·exact gP z
   ·have z:s.heap.objs.size=it:=by simpa using z
    obtain⟨o,e1,_⟩:=hit;exact aed (abW e1) z
 done:=by
  intro X hP hw hK hc i pins s σ H E I hf st hg;subst hP hw hK;obtain⟨⟨old,he⟩,hit⟩:=st;obtain⟨xs,hq,hx⟩:=hg;obtain⟨its,rv,p,hz⟩:=I.list hq;have hl:=↑rv;exact wpAny_pyNext_enum_end (I.ok.hd hc) he hit p.isList (by simp;omega) λh1 eb=>⟨rfl,Hs (t':=s.toks) I (λb o hb q=>eb b o (λz=>hb (by simp[z])) q) hf⟩
 self:=λ_ _ _ _ _ st h=>let ⟨_,he⟩:=st.1;wpAny_pyIter_enum he h
noncomputable def ZP(K:abG)(ta:TA):TI:=λσ H R=>ta σ H λvs H1=>∃a,vs=[.ref a]/\(∃xs,bK K H1 a xs)/\R (L9 K a) H1
theorem Sf{a:adA}{ta:TA}{oZ:bS}{tp p:Pos}(hg:Gl X "enumerate")(hm:X.mg "enumerate"=Z)(ha:PA X [a] ta)(hs:acv [a] X.env=[(false,aeX a X.env)]:=by rfl) :
  PI X (.Tuple oZ j tp) (.Call (.Name "enumerate" p) [a] [] pos) (ZP X.K ta):=by
 intro pins s σ H R I h;refine Call_ (ou I hg hm PyProof.Rows.boot_enumerate (adG (aW (ha pos pins s σ H _ I h) λus s1 ⟨vs,H1,I1,r1,q1⟩=>?_) hs rfl));obtain⟨a,e,⟨xs,hq⟩,q⟩:=q1;subst e;cases r1 with
 | cons r rr=>
  cases rr;cases r;obtain⟨its,rv,pl,hz⟩:=I1.list hq;refine call_enumerate_list pl.isList λh' he hit hsz hk=>?_
  refine wpAny_pyIter_enum he ?_;have I2:Inv X pins σ H1 { s1 with heap:=h' }:=I1.kept (t':=s1.toks) hk;refine⟨s1.heap.objs.size+1,[s1.heap.objs.size+1,s1.heap.objs.size],_,_,H1,rfl,I2,O9 a _ _ (Nat.succ_ne_self _),⟨⟨_,by simpa using he⟩,hit⟩,λb hb=>?_,q⟩;have hb:s1.heap.objs.size<=b:=by
   rcases abR.mp hb with rfl | hb
   ·exact ahl _
   ·have:b=s1.heap.objs.size:=by simpa using hb
    exact aiO this.symm
  exact I1.qO hb (I1.aA.fresh hb)
noncomputable def fS(ws:aw):aw:=(adm ↑ws).map λ(i:Nat)=>.tup [.int ((i:Nat):Int),ws.getD i .ay]
noncomputable def B1(xs:aw):Po (aw×(PH->Bool)):=λph=>match xs with
 | [w]=>(nh w ph).map λr=>((fS r.1.1,r.1.2),r.2)
 | _=>Z
noncomputable def mR(m:AM):IM:=λσ=>ax (m σ) λxs=>lift (B1 xs)
theorem FL{w:W}(h:(fS ws)[i]? =O w):∃x,ws[i]? =O x/\w=.tup [.int i,x]:=by
 unfold fS at h;rw[abQ] at h;cases q:(adm ↑ws)[i]? with
 | none=>rw[q] at h;cases h
 | some k=>
  rw[q] at h;obtain⟨hi,e⟩:=abL.mp q;rw[agK] at e;subst e;rw[afp] at hi;cases h;exact⟨ws[i],by simp[hi],by simp[hi]⟩
theorem Fj(h:(fS ws)[i]? =Z):↑ws<=i:=by
 unfold fS at h
 simpa using h
theorem Sg{a:adA}{am:AM}{oZ:bS}{tp p:Pos}(hg:Gl X "enumerate")(hm:X.mg "enumerate"=Z)(ha:IA X [a] am)(hs:acv [a] X.env=[(false,aeX a X.env)]:=by rfl) :
  II X (.Tuple oZ j tp) (.Call (.Name "enumerate" p) [a] [] pos) (mR am):=by
 refine PI.imp (Sf hg hm ha hs) λσ H R h=>?_
 obtain⟨φ,ph,ws,hH,hS,h⟩:=h;refine tA.bind hH hS h λxs ph1 av H1 vs aB s1 r1 h=>?_
 obtain⟨r,ph',e,k⟩:=run_lift h;unfold B1 at e;split at e
 ·rename_i w;cases r1 with
  | cons r1 rr=>
   cases rr;unfold nh at e;cases r1 with
   | ref hi=>
    rename_i i;simp only at e;cases q:ph1[i]? with
    | none=>rw[q] at e;cases e
    | some o=>
     cases o with
     | bI _=>rw[q] at e;cases e
     | obj _ _=>rw[q] at e;cases e
     | ve _=>rw[q] at e;cases e
     | zc _=>rw[q] at e;cases e
     | vg _=>rw[q] at e;cases e
     | lst items=>
      rw[q] at e;simp only[acC] at e;cases e;obtain⟨vs,hv,r⟩:=aB.hp _ _ q;refine⟨_,rfl,⟨vs,bK.of hv⟩,k av H1 _ aB s1 ?_⟩;intro bf ph2 H2 bu s2 hc j;have jY:ph2[i]? =O (.lst items):=of_decide_eq_true hc;obtain⟨us,hu,ru⟩:=bu.hp _ _ jY;rw[s2.eq i hi] at hu;refine⟨λw eU=>?_,λhn=>?_⟩
      ·obtain⟨x,hx,rfl⟩:=FL eU;obtain⟨u,eu,lY⟩:=ru.get hx;refine⟨⟨us,u,bK.of hu,eu⟩,λy eQ hy=>?_⟩;obtain⟨T,z,rfl,hT,rfl,hy⟩:=hy;have:=hy us (bK.of hu);rw[eu] at this;cases this;exact⟨bu.tup hT,gI hT,.tup bU (.cons (.int _) (.cons (lY.mono (gI hT)) .nil))⟩
      ·refine⟨us,bK.of hu,?_⟩;rw[<- ↑ru];exact Fj hn
   | fl hq r=>
    simp only[acC] at e;cases e;refine⟨_,rfl,⟨_,hq.sq⟩,k av H1 _ aB s1 ?_⟩;intro bf ph2 H2 bu s2 hc j;have h2:=aQ.mono s2 (.fl hq r);cases h2 with
    | fl h2 r2=>
     refine⟨λw eU=>?_,λhn=>?_⟩
     ·obtain⟨x,hx,rfl⟩:=FL eU;obtain⟨u,eu,lY⟩:=r2.get hx;refine⟨⟨_,u,h2.sq,eu⟩,λy eQ hy=>?_⟩;obtain⟨T,z,rfl,hT,rfl,hy⟩:=hy;have:=hy _ h2.sq;rw[eu] at this;cases this;exact⟨bu.tup hT,gI hT,.tup bU (.cons (.int _) (.cons (lY.mono (gI hT)) .nil))⟩
     ·refine⟨_,h2.sq,?_⟩;rw[<- ↑r2];exact Fj hn
   | _=>cases e
 ·cases e
theorem Sh{a:adA}{am:AM}{oZ:bS}{tp p:Pos}(hg:Gl X "enumerate")(hm:X.mg "enumerate"=Z)(hn:isStar a=false)(ha:JA X [a] am):JI X (.Tuple oZ j tp) (.Call (.Name "enumerate" p) [a] [] pos) (mR am):=⟨Sg hg hm ha.h (dF hn)⟩
theorem FN{e:adA}{gens:List Comprehension}{scope:aes}{p pos':Pos}{x:Str}{line:Nat}(hk:env.scope.kind=.function)(hx:env.scope.names.lookup x=O .local)(hl:(pos'.line==p.line)=true)(hn:(scope.names.any λy=>y.1==x&&(y.2==.local||y.2==.cell))=false):aeQ (.ListComp e gens scope p) (O (.Name x pos')) line env=pure true:=by
 have e1:(env.kindOf x==O .local)=true:=by unfold Env.kindOf;rw[hx];rfl
 have e2:(env.blockKind==.function)=true:=by unfold Env.blockKind;rw[hk];rfl
 show pure (env.blockKind==.function&&env.kindOf x==O .local&&pos'.line==p.line&& !(scope.names.any λy=>y.1==x&&(y.2==.local||y.2==.cell)))=_;rw[e1,e2,hl,hn];rfl
noncomputable def newD:Po W:=λph=>O (.ref ↑ph,ph++[.bI []])
noncomputable def CC:EM:=λ_=>lift newD
theorem Gy{p:abV}(hH:aH K φ ph H)(hp:H p=Z):aH K (ext φ ↑ph p) (ph++[.bI []]) (upd H p (.dK []))/\Step K φ ↑ph H (ext φ ↑ph p) (ph++[PO.bI []]).length (upd H p (.dK []))/\aQ K (ext φ ↑ph p) (ph++[PO.bI []]).length (upd H p (.dK [])) (.ref ↑ph) (.ref p):=by
 have hl:(ph++[PO.bI []]).length=↑ph+1:=by simp
 rw[hl];have s:=AI (K:=K) (φ:=φ) (n:=↑ph) (o:=HO.dK []) hp;refine⟨hH.new hp (.inl ⟨[],bU,.nil⟩),s,?_⟩;have q:aQ K (ext φ ↑ph p) (↑ph+1) (upd H p (.dK [])) (.ref ↑ph) (.ref (ext φ ↑ph p ↑ph)):=.ref (aeo _);rw[mI] at q;exact q
theorem aa6:JE X (.Dict [] [] pos) CC:=⟨PE.imp P9 λσ H Q h p hp=>by
 obtain⟨φ,ph,ws,hH,hS,h⟩:=h;obtain⟨w,ph',e,k⟩:=run_lift h;cases e;obtain⟨q1,q2,q3⟩:=Gy hH hp;exact k _ _ _ q1 q2 q3⟩
theorem xg{a b:Key}(h:b9 a=b9 b):a=b:=by
 cases a <;> cases b <;> simp_all [b9]
theorem wV:∀{a b:cC},a.map b9=b.map b9->a=b
 | [],[],_=>rfl
 | [],_::_,e=>by simp at e
 | _::_,[],e=>by simp at e
 | x::xs,y::ys,e=>by
  rw[ace,ace] at e;injection e with e1 e2
  rw[xg e1,wV e2]
noncomputable def kG:W->Option Key
 | .int i=>O (.inl i)
 | .str x=>O (.inr x)
 | _=>Z
noncomputable def CD:W->Option cC
 | .tup ws=>aT kG ws
 | _=>Z
variable{k:Key}
theorem xq{w:W}(h:kG w=O k):w=b9 k:=by
 cases w <;> simp only[kG] at h <;> first | (cases h;done) | (cases h;rfl)
theorem Gz:∀{ws:aw} {ks:cC},aT kG ws=O ks->ws=ks.map b9
 | [],ks,h=>by cases h;rfl
 | w::ws,ks,h=>by
  unfold aT at h;split at h
  ·rename_i b bs e1 e2;cases h;rw[xq e1,Gz e2];rfl
  ·cases h
theorem Ht{w:W}{ks:cC}(h:CD w=O ks):w=.tup (ks.map b9):=by
 cases w <;> simp only[CD] at h <;> first | (cases h;done) | rw[Gz h]
theorem yb(r:aQ K φ n H (b9 k) v):v=kV k:=by
 cases k with
 | inl i=>cases r;rfl
 | inr x=>cases r;rfl
theorem Ja{K:abG}{φ:Nat->abV}{n:Nat}{H:Hp}:∀{ks:cC} {vs:aJ},a9 K φ n H (ks.map b9) vs->vs=ks.map kV
 | [],_,r=>by cases r;rfl
 | k::ks,_,r=>by
  cases r with
  | cons h r=>rw[yb h,Ja r];rfl
theorem Jb{ks:cC}(r:aQ K φ n H (.tup (ks.map b9)) v):∃b,v=.ref b/\H b=O (.tup (ks.map kV)):=by
 cases r with
 | tup h r=>rw[Ja r] at h;exact⟨_,rfl,h⟩
noncomputable def iK(kws:bN)(k:W):dO:=(kws.find? λp=>decide (p.1=k)).map (·.2)
noncomputable def je(kws:bN)(k w:W):bN:=if(kws.any λp=>decide (p.1=k))=true then kws.map (λp=>if p.1=k then(p.1,w) else p) else kws++[(k,w)]
noncomputable def uH(K:abG)(φ:Nat->abV)(n:Nat)(H:Hp):dO->Option V->Prop
 | none,Z=>True
 | some w,O v=>aQ K φ n H w v
 | _,_=>False
section
variable{K:abG}{φ:Nat->abV}{n:Nat}{H:Hp}
theorem VF{a b:Key}:decide (b9 a=b9 b)=decide (a=b):=by
 rw[decide_eq_decide];exact⟨xg,λe=>by rw[e]⟩
theorem Si{a b:cC}:decide (W.tup (a.map b9)=W.tup (b.map b9))=decide (a=b):=by
 rw[decide_eq_decide];exact⟨λe=>wV (W.tup.inj e),λe=>by rw[e]⟩
theorem bV.val(k:Key):∀{kws:bN} {kvs:dc},bV K φ n H kws kvs->uH K φ n H (iK kws (b9 k)) (jo kvs k)
 | _,_,.nil=>trivial
 | _,_,.cons (k:=j) (w:=w) (v:=v) h r=>by
  unfold iK;rw[adV];by_cases e:j=k
  ·rw[aL (congrArg b9 e),sV (p:=(j,v)) e];exact h
  ·rw[aX (λz=>e (xg z)),sW (p:=(j,v)) e];exact bV.val k r
theorem cH.val(k:cC):∀{kws:bN} {kvs:gK},cH K φ n H kws kvs->uH K φ n H (iK kws (.tup (k.map b9))) (jo kvs k)
 | _,_,.nil=>trivial
 | _,_,.cons (k:=j) (w:=w) (v:=v) h r=>by
  unfold iK;rw[adV];by_cases e:j=k
  ·rw[aL (by rw[e]),sV (p:=(j,v)) e];exact h
  ·rw[aX (λz=>e (wV (W.tup.inj z))),sW (p:=(j,v)) e];exact cH.val k r
theorem bV.len:∀{kws:bN} {kvs:dc},bV K φ n H kws kvs->↑kws=↑kvs
 | _,_,.nil=>rfl
 | _,_,.cons _ r=>by rw[abP,abP,bV.len r]
theorem cH.len:∀{kws:bN} {kvs:gK},cH K φ n H kws kvs->↑kws=↑kvs
 | _,_,.nil=>rfl
 | _,_,.cons _ r=>by rw[abP,abP,cH.len r]
theorem bV.any(k:Key):∀{kws:bN} {kvs:dc},bV K φ n H kws kvs->(kws.any λp=>decide (p.1=b9 k))=kvs.any λp=>decide (p.1=k)
 | _,_,.nil=>rfl
 | _,_,.cons (k:=j) _ r=>by
  rw[acO,acO,bV.any k r];show(decide (b9 j=b9 k)||_)=(decide (j=k)||_);rw[VF]
theorem cH.any(k:cC):∀{kws:bN} {kvs:gK},cH K φ n H kws kvs->(kws.any λp=>decide (p.1=.tup (k.map b9)))=kvs.any λp=>decide (p.1=k)
 | _,_,.nil=>rfl
 | _,_,.cons (k:=j) _ r=>by
  rw[acO,acO,cH.any k r];show(decide (W.tup (j.map b9)=W.tup (k.map b9))||_)=(decide (j=k)||_);rw[Si]
theorem bV.jS(k:Key){w:W}{v:V}(q:aQ K φ n H w v):∀{kws:bN} {kvs:dc},bV K φ n H kws kvs->bV K φ n H (kws.map λp=>if p.1=b9 k then(p.1,w) else p) (kvs.map λp=>if p.1=k then(p.1,v) else p)
 | _,_,.nil=>.nil
 | _,_,.cons (k:=j) h r=>by
  rw[ace,ace];by_cases e:j=k
  ·rw[if_pos (show b9 j=b9 k by rw[e]),if_pos (show j=k from e)];exact .cons q (bV.jS k q r)
  ·rw[if_neg (show ¬b9 j=b9 k from λz=>e (xg z)),if_neg (show ¬j=k from e)];exact .cons h (bV.jS k q r)
theorem cH.jS(k:cC){w:W}{v:V}(q:aQ K φ n H w v):∀{kws:bN} {kvs:gK},cH K φ n H kws kvs->cH K φ n H (kws.map λp=>if p.1=.tup (k.map b9) then(p.1,w) else p) (kvs.map λp=>if p.1=k then(p.1,v) else p)
 | _,_,.nil=>.nil
 | _,_,.cons (k:=j) h r=>by
  rw[ace,ace];by_cases e:j=k
  ·rw[if_pos (show W.tup (j.map b9)=W.tup (k.map b9) by rw[e]),if_pos (show j=k from e)];exact .cons q (cH.jS k q r)
  ·rw[if_neg (show ¬W.tup (j.map b9)=W.tup (k.map b9) from λz=>e (wV (W.tup.inj z))),if_neg (show ¬j=k from e)];exact .cons h (cH.jS k q r)
theorem bV.snoc(k:Key){w:W}{v:V}(q:aQ K φ n H w v):∀{kws:bN} {kvs:dc},bV K φ n H kws kvs->bV K φ n H (kws++[(b9 k,w)]) (kvs++[(k,v)])
 | _,_,.nil=>.cons q .nil
 | _,_,.cons h r=>.cons h (bV.snoc k q r)
theorem cH.snoc(k:cC){w:W}{v:V}(q:aQ K φ n H w v):∀{kws:bN} {kvs:gK},cH K φ n H kws kvs->cH K φ n H (kws++[(.tup (k.map b9),w)]) (kvs++[(k,v)])
 | _,_,.nil=>.cons q .nil
 | _,_,.cons h r=>.cons h (cH.snoc k q r)
theorem bV.put(k:Key){w:W}{v:V}(q:aQ K φ n H w v){kws:bN}{kvs:dc}(r:bV K φ n H kws kvs):bV K φ n H (je kws (b9 k) w) (putK kvs k v):=by
 unfold je putK;rw[r.any k];by_cases e:(kvs.any λkv=>decide (kv.1=k))=true
 ·rw[if_pos e,if_pos e];exact r.jS k q
 ·rw[if_neg e,if_neg e];exact r.snoc k q
theorem cH.put(k:cC){w:W}{v:V}(q:aQ K φ n H w v){kws:bN}{kvs:gK}(r:cH K φ n H kws kvs):cH K φ n H (je kws (.tup (k.map b9)) w) (putK kvs k v):=by
 unfold je putK;rw[r.any k];by_cases e:(kvs.any λkv=>decide (kv.1=k))=true
 ·rw[if_pos e,if_pos e];exact r.jS k q
 ·rw[if_neg e,if_neg e];exact r.snoc k q
end
section
variable{X:Cx}{pins:List (abV×Obj)}{σ:L2.St}{H:Hp}{s:abT}{a:abV}
theorem tU(I:Inv X pins σ H s)(e:H a=O (.dK [])):Inv X pins σ (upd H a (.dT [])) s:=by
 obtain⟨z,hd,vs,rel,o,es,ep,h1,h2,h3,h4,h5,h6⟩:=mM I.aA e;cases rel;have he:es.toList=[]:=by
  generalize es.toList=l at h5;cases h5;rfl
 exact I.write (x:=a) (e:=a) (h':=s.heap) (t':=s.toks) (o:=.dT []) (by rw[e];trivial) (.inl rfl) (λ_ _ _ q=>q) ⟨o,h1⟩ ⟨adH _,hd,[],.nil,o,es,ep,h1,h2,h3,by rw[he];rfl,agR⟩
theorem oC(I:Inv X pins σ H s)(e:H a=O (.dT [])):Inv X pins σ (upd H a (.dK [])) s:=by
 obtain⟨z,hd,xs,rel,o,es,ep,h1,h2,h3,h4,h5,h6⟩:=BV I.aA e;cases rel;have he:es= #[]:=by
  have:es.toList=[]:=h4
  simpa using this
 subst he;exact I.write (x:=a) (e:=a) (h':=s.heap) (t':=s.toks) (o:=.dK []) (by rw[e];trivial) (.inl rfl) (λ_ _ _ q=>q) ⟨o,h1⟩ ⟨adH _,hd,[],.nil,o,#[],ep,h1,h2,h3,λx hx=>by simp at hx,.nil,agR⟩
theorem xh{o u:HO}(e:H a=O o):upd (upd H a u) a o=H:=by
 rw[xn]
 funext b
 unfold upd;split
 ·rename_i q;rw[q,e]
 ·rfl
end
noncomputable def uh(H:Hp)(a:abV)(y:V)(o:Option V):Prop:=jT H a y o\/(o=Z/\((H a=O (.dK [])/\∃(k:cC) (b:abV),y=.ref b/\H b=O (.tup (k.map kV)))\/(H a=O (.dT [])/\∃k:Key,y=kV k)))
noncomputable def Kh(H:Hp)(a:abV)(y v:V)(H':Hp):Prop:=yr H a y v H'\/(H a=O (.dK [])/\∃(k:cC) (b:abV),y=.ref b/\H b=O (.tup (k.map kV))/\H'=upd H a (.dT [(k,v)]))\/(H a=O (.dT [])/\∃k:Key,y=kV k/\H'=upd H a (.dK [(k,v)]))
section
variable{X:Cx}
theorem VG(hu:X.A.units+1<aix):bH X (acU .In) (λy x H Q=>∃a o,x=.ref a/\uh H a y o/\Q (.bl o.isSome) H):=by
 intro pins s σ H y x u v Q I ry rx h;obtain⟨a,o,rfl,g,q⟩:=h;cases rx
 rcases g with g | ⟨rfl,⟨e,k,b,ey,eb⟩ | ⟨e,k,ey⟩⟩
 ·exact Cv hu I g ry λs3 I3=>⟨.bl o.isSome,H,I3,rfl,q⟩
 ·subst ey;have g:jT (upd H a (.dT [])) a (.ref b) none:=.inr ⟨[],k,b,.inl bU,rfl,by rw[bF (qz eb e (λz=>nomatch z))];exact eb,rfl⟩;exact Cv hu (tU I e) g ry λs3 I3=>⟨.bl false,H,by have:=oC I3 bU;rwa [xh e] at this,rfl,q⟩
 ·subst ey;have g:jT (upd H a (.dK [])) a (kV k) none:=.inl ⟨[],k,.inl bU,rfl,rfl⟩;exact Cv hu (oC I e) g ry λs3 I3=>⟨.bl false,H,by have:=tU I3 bU;rwa [xh e] at this,rfl,q⟩
theorem Sj(hu:X.A.units+1<aix):bH X (acU .NotIn) (λy x H Q=>∃a o,x=.ref a/\uh H a y o/\Q (.bl (!o.isSome)) H):=by
 intro pins s σ H y x u v Q I ry rx h;obtain⟨a,o,rfl,g,q⟩:=h;cases rx
 rcases g with g | ⟨rfl,⟨e,k,b,ey,eb⟩ | ⟨e,k,ey⟩⟩
 ·exact A5 hu I g ry λs3 I3=>⟨.bl (!o.isSome),H,I3,rfl,q⟩
 ·subst ey;have g:jT (upd H a (.dT [])) a (.ref b) none:=.inr ⟨[],k,b,.inl bU,rfl,by rw[bF (qz eb e (λz=>nomatch z))];exact eb,rfl⟩;exact A5 hu (tU I e) g ry λs3 I3=>⟨.bl true,H,by have:=oC I3 bU;rwa [xh e] at this,rfl,q⟩
 ·subst ey;have g:jT (upd H a (.dK [])) a (kV k) none:=.inl ⟨[],k,.inl bU,rfl,rfl⟩;exact A5 hu (oC I e) g ry λs3 I3=>⟨.bl true,H,by have:=tU I3 bU;rwa [xh e] at this,rfl,q⟩
theorem set_dict(hu:X.A.units+1<aix):mW X (λo i v H Q=>∃a H',o=.ref a/\Kh H a i v H'/\Q H'):=by
 intro pins s σ H o i v ov iv u Q I ro ri rv h;obtain⟨a,H',rfl,g,q⟩:=h;cases ro
 rcases g with g | ⟨e,k,b,ey,eb,eH⟩ | ⟨e,k,ey,eH⟩
 ·exact As hu I g ri rv λs3 I3=>⟨H',I3,q⟩
 ·subst ey eH;have g:yr (upd H a (.dT [])) a (.ref b) v (upd (upd H a (.dT [])) a (.dT (putK [] k v))):=.inr ⟨[],k,b,bU,rfl,by rw[bF (qz eb e (λz=>nomatch z))];exact eb,by decide,rfl⟩;refine As hu (tU I e) g ri rv λs3 I3=>⟨_,?_,q⟩
  rw[xn] at I3;exact I3
 ·subst ey eH;have g:yr (upd H a (.dK [])) a (kV k) v (upd (upd H a (.dK [])) a (.dK (putK [] k v))):=.inl ⟨[],k,bU,rfl,by decide,rfl⟩;refine As hu (oC I e) g ri rv λs3 I3=>⟨_,?_,q⟩
  rw[xn] at I3;exact I3
theorem Sk(hu:X.A.units+1<aix):j0 X (λx y H Q=>∃a v,x=.ref a/\jT H a y (O v)/\Q v H):=by
 intro value slice pins s σ H x y v u Q I rx ry h hs;obtain⟨a,w,rfl,g,q⟩:=h;cases rx;have hT:=NU I g;unfold ahh;refine abF ?_;rw[getitemInPython_of_ne hT.not_modules];refine abF (wpAny_specialOf hT PySem.F.slot_dict_getitem.lookup ?_);have fin:acf (acr X.prog X.w) X.A (aib slice false (.ref a) u) (λr Ed=>acf (acr X.prog X.w) X.A (letTemporaryGo value (.ref a) r >>= λ_=>pure r) (EP X pins σ Q) X.xe Ed) X.xe s:=by
  rw[hs];exact wpAny_operating (OV hu I g ry λw' s3 I3 hO=>abF (wpAny_letTemporaryGo (abM ⟨w,H,I3,hO,q⟩)))
 first
  | exact abM (abF fin)
  | exact abF (abM (abF fin))
  | exact abF fin
end
noncomputable def fj:W->Bool
 | .tup _=>true
 | _=>false
noncomputable def jf(kws:bN)(x:W):Bool:=((kG x).isSome&&kws.all λp=> !fj p.1)||((CD x).isSome&&kws.all λp=>fj p.1)
noncomputable def gq(y:W)(ph:PH):Option (Nat×bN):=match y with
 | .ref i=>match ph[i]? with
  | some (.bI kws)=>O (i,kws)
  | _=>Z
 | _=>Z
section
variable{K:abG}{φ:Nat->abV}{ph:PH}{H:Hp}
variable{kws:bN}
theorem bV.Mc{kvs:dc}{n:Nat}(r:bV K φ n H kws kvs)(h:kws.all (λp=>fj p.1)=true):kws=[]/\kvs=[]:=by
 cases r with
 | nil=>exact⟨rfl,rfl⟩
 | cons h' r=>
  rename_i k w v kws kvs;rw[ady] at h;have:fj (b9 k)=true:=by simp only[abK] at h;exact h.1
  cases k <;> cases this
theorem cH.uI{kvs:gK}{n:Nat}(r:cH K φ n H kws kvs)(h:kws.all (λp=> !fj p.1)=true):kws=[]/\kvs=[]:=by
 cases r with
 | nil=>exact⟨rfl,rfl⟩
 | cons h' r=>
  rw[ady] at h;have h:=(abK _ _▸h).1;cases h
variable{v:V}{i:Nat}
theorem kU{y:W}(hH:aH K φ ph H)(r:aQ K φ ↑ph H y v)(e:gq y ph=O (i,kws)):y=.ref i/\i<↑ph/\ph[i]? =O (.bI kws)/\v=.ref (φ i):=by
 unfold gq at e;cases r with
 | ref hi=>
  simp only at e;split at e
  ·rename_i abu hw;cases e;exact⟨rfl,hi,hw,rfl⟩
  ·cases e
 | _=>cases e
theorem AQ{x:W}(hH:aH K φ ph H)(hd:ph[i]? =O (.bI kws))(r:aQ K φ ↑ph H x v)(hk:jf kws x=true):∃o,uh H (φ i) v o/\uH K φ ↑ph H (iK kws x) o:=by
 unfold jf at hk;rw[afQ,abK,abK] at hk
 rcases hk with⟨h1,h2⟩ | ⟨h1,h2⟩
 ·obtain⟨k,hk⟩:=ads.mp h1;have:=xq hk;subst this;have:=yb r;subst this
  rcases hH.hp _ _ hd with⟨kvs,q,rd⟩ | ⟨kvs,q,rd⟩
  ·exact⟨_,.inl (.inl ⟨kvs,k,.inl q,rfl,rfl⟩),rd.val k⟩
  ·obtain⟨rfl,rfl⟩:=rd.uI h2;exact⟨Z,.inr ⟨rfl,.inr ⟨q,k,rfl⟩⟩,trivial⟩
 ·obtain⟨ks,hk⟩:=ads.mp h1;have:=Ht hk;subst this;obtain⟨b,rfl,hb⟩:=Jb r
  rcases hH.hp _ _ hd with⟨kvs,q,rd⟩ | ⟨kvs,q,rd⟩
  ·obtain⟨rfl,rfl⟩:=rd.Mc h2;exact⟨Z,.inr ⟨rfl,.inl ⟨q,ks,b,rfl,hb⟩⟩,trivial⟩
  ·exact⟨_,.inl (.inr ⟨kvs,ks,b,.inl q,rfl,hb,rfl⟩),rd.val ks⟩
theorem Qr{x w:W}{u:V}(hH:aH K φ ph H)(hi:i<↑ph)(hd:ph[i]? =O (.bI kws))(r:aQ K φ ↑ph H x v)(rw:aQ K φ ↑ph H w u)(hk:jf kws x=true)(hz:↑kws<acd):∃H',Kh H (φ i) v u H'/\aH K φ (ph.set i (.bI (je kws x w))) H'/\Step K φ ↑ph H φ (ph.set i (.bI (je kws x w))).length H':=by
 obtain⟨y,ey,my⟩:=hH.mu hd rfl;rw[adU];unfold jf at hk;rw[afQ,abK,abK] at hk
 rcases hk with⟨h1,h2⟩ | ⟨h1,h2⟩
 ·obtain⟨k,hk⟩:=ads.mp h1;have:=xq hk;subst this;have:=yb r;subst this
  rcases hH.hp _ _ hd with⟨kvs,q,rd⟩ | ⟨kvs,q,rd⟩
  ·have s:=ms (K:=K) (φ:=φ) (n:=↑ph) (y:=HO.dK (putK kvs k u)) ey my;exact⟨_,.inl (.inl ⟨kvs,k,q,rfl,by rw[<- rd.len];exact hz,rfl⟩),hH.put hd rfl (.inl ⟨_,bU,(rd.put k rw).mono s⟩),s⟩
  ·obtain⟨rfl,rfl⟩:=rd.uI h2;have s:=ms (K:=K) (φ:=φ) (n:=↑ph) (y:=HO.dK [(k,u)]) ey my;exact⟨_,.inr (.inr ⟨q,k,rfl,rfl⟩),hH.put hd rfl (.inl ⟨_,bU,((bV.nil).put k rw).mono s⟩),s⟩
 ·obtain⟨ks,hk⟩:=ads.mp h1;have:=Ht hk;subst this;obtain⟨b,rfl,hb⟩:=Jb r
  rcases hH.hp _ _ hd with⟨kvs,q,rd⟩ | ⟨kvs,q,rd⟩
  ·obtain⟨rfl,rfl⟩:=rd.Mc h2;have s:=ms (K:=K) (φ:=φ) (n:=↑ph) (y:=HO.dT [(ks,u)]) ey my;exact⟨_,.inr (.inl ⟨q,ks,b,rfl,hb,rfl⟩),hH.put hd rfl (.inr ⟨_,bU,((cH.nil).put ks rw).mono s⟩),s⟩
  ·have s:=ms (K:=K) (φ:=φ) (n:=↑ph) (y:=HO.dT (putK kvs ks u)) ey my;exact⟨_,.inl (.inr ⟨kvs,ks,b,q,rfl,hb,by rw[<- rd.len];exact hz,rfl⟩),hH.put hd rfl (.inr ⟨_,bU,(rd.put ks rw).mono s⟩),s⟩
end
noncomputable def fD:W->W->Po W:=λx y ph=>match gq y ph with
 | some p=>if jf p.2 x=true then O (.bl (iK p.2 x).isSome,ph) else Z
 | none=>iV x y ph
noncomputable def fc:W->W->Po W:=λx y ph=>match gq y ph with
 | some p=>if jf p.2 x=true then O (.bl (!(iK p.2 x).isSome),ph) else Z
 | none=>qW x y ph
noncomputable def aE:W->W->Po W:=λx y ph=>match gq x ph with
 | some p=>if jf p.2 y=true then(iK p.2 y).map λw=>(w,ph) else Z
 | none=>cP x y ph
noncomputable def qZ(o i v:W):Po Unit:=λph=>match gq o ph with
 | some p=>if jf p.2 i=true/\↑p.2<acd then O ((),ph.set p.1 (.bI (je p.2 i v))) else Z
 | none=>K3 o i v ph
theorem uH.isSome{K:abG}{φ:Nat->abV}{n:Nat}{H:Hp}{a:dO}{b:Option V}(h:uH K φ n H a b):a.isSome=b.isSome:=by
 cases a <;> cases b <;> first | rfl | exact h.elim
theorem Yd:cK K (λx y H Q=>qX K (λb=>b) x y H Q\/∃a o,y=.ref a/\uh H a x o/\Q (.bl o.isSome) H) fD:=by
 intro φ ph H x y vx vy w ph' Q hH rx ry e k;unfold fD at e;split at e
 ·rename_i p hp;obtain⟨i,kws⟩:=p;obtain⟨rfl,hi,hd,rfl⟩:=kU hH ry hp;split at e
  ·rename_i hk;cases e;obtain⟨o,g,ro⟩:=AQ hH hd rx hk;exact .inr ⟨_,o,rfl,g,by rw[<- ro.isSome];exact k φ H _ hH Step.refl (.bl _)⟩
  ·cases e
 ·exact .inl (X1 hH rx ry e k)
theorem VH:cK K (λx y H Q=>qX K (λb=> !b) x y H Q\/∃a o,y=.ref a/\uh H a x o/\Q (.bl (!o.isSome)) H) fc:=by
 intro φ ph H x y vx vy w ph' Q hH rx ry e k;unfold fc at e;split at e
 ·rename_i p hp;obtain⟨i,kws⟩:=p;obtain⟨rfl,hi,hd,rfl⟩:=kU hH ry hp;split at e
  ·rename_i hk;cases e;obtain⟨o,g,ro⟩:=AQ hH hd rx hk;exact .inr ⟨_,o,rfl,g,by rw[<- ro.isSome];exact k φ H _ hH Step.refl (.bl _)⟩
  ·cases e
 ·exact .inl (Vn hH rx ry e k)
theorem Ye:cK K (λx y H Q=>Dc K x y H Q\/∃a v,x=.ref a/\jT H a y (O v)/\Q v H) aE:=by
 intro φ ph H x y vx vy w ph' Q hH rx ry e k;unfold aE at e;split at e
 ·rename_i p hp;obtain⟨i,kws⟩:=p;obtain⟨rfl,hi,hd,rfl⟩:=kU hH rx hp;split at e
  ·rename_i hk;cases q:iK kws y with
   | none=>rw[q] at e;cases e
   | some u=>
    rw[q] at e;cases e;obtain⟨o,g,ro⟩:=AQ hH hd ry hk;rw[q] at ro;cases o with
    | none=>exact ro.elim
    | some v=>
     rcases g with g | ⟨z,_⟩
     ·exact .inr ⟨_,v,rfl,g,k φ H _ hH Step.refl ro⟩
     ·cases z
  ·cases e
 ·exact .inl (J3 hH rx ry e k)
section
variable{X:Cx}{a b o i:adA}{ma mb mo mi:EM}{pos:Pos}{N:aN}{sc:aes}{k:Nat}
theorem BdT.VI(B:BdT X N sc k)(hp:qf b)(ha:JE X a ma)(hb:JE X b mb):JE X (.Subscript a b pos) (ah aE ma mb):=
 ⟨PE.imp (JV (j0.or Iv (Sk (xV B.room))) ha.h hb.h hp) λ_ _ _ h=>tE Ye h⟩
theorem BdT.abv(B:BdT X N sc k)(h:adB .In b=false):Cp X .In b fD:=⟨⟨_,bH.or (Vm B.room.units) (VG (xV B.room)),Yd⟩,h⟩
theorem BdT.B2(B:BdT X N sc k)(h:adB .NotIn b=false):Cp X .NotIn b fc:=⟨⟨_,bH.or (RY B.room.units) (Sj (xV B.room)),VH⟩,h⟩
theorem mW.or{t t':yn}(h:mW X t)(h':mW X t'):mW X (λo i v H Q=>t o i v H Q\/t' o i v H Q):=by
 intro pins s σ H o i v ov iv u Q I ro ri rv q
 rcases q with q | q
 ·exact h pins s σ H o i v ov iv u Q I ro ri rv q
 ·exact h' pins s σ H o i v ov iv u Q I ro ri rv q
noncomputable def B3(o i:EM):GM:=λv σ=>ax (o σ) λow=>ax (i σ) λiw=>ax (lift (qZ ow iw v)) λ_=>aD σ
theorem BdT.aaS(B:BdT X N sc k)(ho:JE X o mo)(hi:JE X i mi)(ha:∀v,ahS (.Subscript o i pos) X.env v=(do
   let ov <- ags [v] (aeX o X.env)
   let iv <- ags [v,ov] (aeX i X.env)
   standAt pos
   ags [v,ov,iv] (setItem ov iv v)
   release [v,ov,iv] []):=by intro _;rfl):JG X (.Subscript o i pos) (B3 mo mi):=
 ⟨PG.imp (Ut ho.h hi.h (mW.or set_list (set_dict (xV B.room))) ha) λv σ H Q h=>by
  obtain⟨φ,ph,ws,w,hH,hS,rv,h⟩:=h;refine tM.bind hH hS h λow ph1 av H1 vo aB s1 ro h=>tM.bind aB (hS.mono s1) h λiw ph2 bf H2 vi bu s2 ri h=>?_
  rw[dW] at h;obtain⟨_,iz,e,k⟩:=run_lift h;have Md:=ro.mono s2;have Me:=(rv.mono s1).mono s2;unfold qZ at e;split at e
  ·rename_i p hp;obtain⟨r,kws⟩:=p;obtain⟨rfl,hr,hd,rfl⟩:=kU bu Md hp;split at e
   ·rename_i hk;cases e;obtain⟨H',g,q1,q2⟩:=Qr bu hr hd ri Me hk.1 hk.2;exact .inr ⟨_,H',rfl,g,k bf _ σ q1 ((s1.trans s2).trans q2) (((hS.mono s1).mono s2).mono q2)⟩
   ·cases e
  ·unfold K3 at e;split at e
   ·rename_i r k';split at e
    ·rename_i cO hw;split at e
     ·rename_i j hj;cases e;cases Md with
      | ref Dy=>
       cases ri;obtain⟨us,hu,ru⟩:=bu.hp _ _ hw;obtain⟨q1,q2⟩:=AL bu hw (ru.set Me j);exact .inl ⟨_,us,_,j,rfl,rfl,hu,by rw[<- ↑ru];exact hj,k bf _ σ q1 ((s1.trans s2).trans q2) (((hS.mono s1).mono s2).mono q2)⟩
     ·cases e
    ·cases e
   ·cases e⟩
end
noncomputable def abw:W->Option Int
 | .int i=>O i
 | _=>Z
noncomputable def uk(f:Nat->Int):Nat->Int
 | 0=>f 0
 | k+1=>if f (k+1)<uk f k then f (k+1) else uk f k
section
variable{X:Cx}
theorem Qs(f:Nat->Int):∀k,f (argBest (λi j=>decide (f i<f j)) k)=uk f k
 | 0=>rfl
 | k+1=>by
  have ih:=Qs f k;unfold argBest uk;rw[ih];by_cases h:f (k+1)<uk f k
  ·simp[h]
  ·simp[h,ih]
end
noncomputable def fB:W->W->Po W:=λx y ph=>match x,y with
 | .ref i,.int k=>match ph[i]? with
  | some (.lst ws)=>if -(2 ^ 63)<=k/\k<2 ^ 63/\↑ws*k.toNat<=acd then O (.ref ↑ph,ph++[.lst (abS k.toNat ws).flatten]) else Z
  | _=>Z
 | x,y=>qU x y ph
theorem a9.rep{K:abG}{φ:Nat->abV}{n:Nat}{H:Hp}{ws:aw}{vs:aJ}(r:a9 K φ n H ws vs):∀k:Nat,a9 K φ n H (abS k ws).flatten (abS k vs).flatten
 | 0=>.nil
 | k+1=>by
  rw[adh,adh,aef,aef];exact r.append (a9.rep r k)
theorem VJ:cK K (λx y H Q=>(rI uz λi j=>.int (i*j)) x y H Q\/KW x y H Q) fB:=by
 intro φ ph H x y vx vy w ph' Q hH rx ry e k;unfold fB at e;split at e
 ·rename_i i j;split at e
  ·rename_i ws hw;split at e
   ·rename_i hz;cases e;cases rx with
    | ref hi=>
     cases ry;obtain⟨us,hu,ru⟩:=hH.hp _ _ hw;refine .inr ⟨_,_,us,rfl,rfl,hu,hz.1,hz.2.1,by rw[<- ↑ru];exact hz.2.2,λp hp=>?_⟩;obtain⟨q1,q2,q3⟩:=kW hH (ru.rep j.toNat) hp;exact k _ _ _ q1 q2 q3
   ·cases e
  ·cases e
 ·exact .inl (Vg hH rx ry e k)
theorem aaT{a b:adA}{ma mb:EM}(ha:JE X a ma)(hb:JE X b mb):JE X (.BinOp a .Mult b pos) (ah fB ma mb):=⟨qB (bH.or UA UQ) VJ ha.h hb.h⟩
abbrev Ki(K:abG)(φ:Nat->abV)(n:Nat)(H:Hp):bN->List (V×V)->Prop:=afu λp q=>aQ K φ n H p.1 q.1/\aQ K φ n H p.2 q.2
noncomputable def qF:HO->Prop
 | .dK _=>True
 | .dT _=>True
 | .dU kvs=>∀p∈kvs,L2.Lr p.1
 | _=>False
section
variable{X:Cx}{pins:List (abV×Obj)}{σ:L2.St}{H:Hp}{s:abT}{d:abV}{u:HO}
theorem Sl{P:acL}{w:adl}{h:adt}(hu:qF u)(ok:cZ P w H h d u):∃o es ep,h.get? d=O o/\o.cls=.type "dict"/\o.data=.dict es ep/\(d==aee)=false:=by
 cases u with
 | dK kvs=>obtain⟨_,z,vs,_,o,es,ep,h1,h2,h3,_⟩:=ok;exact⟨o,es,ep,h1,h2.1,h3,z⟩
 | dT kvs=>obtain⟨_,z,xs,_,o,es,ep,h1,h2,h3,_⟩:=ok;exact⟨o,es,ep,h1,h2.1,h3,z⟩
 | dU kvs=>obtain⟨_,z,o,es,ep,h1,h2,h3,_⟩:=ok;exact⟨o,es,ep,h1,h2.1,h3,z⟩
 | _=>exact hu.elim
end
section
variable{K:abG}{φ:Nat->abV}{n:Nat}{H:Hp}{d:abV}{o:Obj}{u:HO}(e:H d=O (.bC o u))(hu:qF u)(hc:o.cls=.type "dict")
include e hu hc
omit hc in
end
noncomputable def ul:HO->Nat
 | .dK kvs=>↑kvs
 | .dT kvs=>↑kvs
 | .dU kvs=>↑kvs
 | _=>0
noncomputable def Yf(H:Hp)(u:HO)(i:Nat)(y v:V):Prop:=match u with
 | .dK kvs=>∃k,kvs[i]? =O (k,v)/\y=kV k
 | .dT kvs=>∃k b,kvs[i]? =O (k,v)/\y=.ref b/\H b=O (.tup (k.map kV))
 | .dU kvs=>kvs[i]? =O (y,v)
 | _=>False
theorem Yg{w:adl}{x:acb}(h:(dm P w).is k x=true):RelV (kV k) x:=by
 rcases jI h with⟨i,t,rfl,rfl⟩ | ⟨y,t,rfl,rfl⟩
 ·exact⟨t,rfl⟩
 ·exact⟨t,rfl⟩
theorem afu.at{α β:Type}{R:α->β->Prop}:∀{xs:List α} {ys:List β} {i:Nat} {y:β},afu R xs ys->ys[i]? =O y->∃x,xs[i]? =O x/\R x y
 | _,_,_,_,.nil,e=>by simp at e
 | _,_,0,_,.cons h _,e=>by simp at e;subst e;exact⟨_,rfl,h⟩
 | _,_,i+1,y,.cons _ r,e=>by
  obtain⟨x,h1,h2⟩:=afu.at (i:=i) r (by simpa using e);exact⟨x,by simpa using h1,h2⟩
theorem Sm{w:adl}{d:abV}{o:Obj}{u:HO}{es:Array DictEntry}{ep:Nat}(hu:qF u)(ok:cZ P w H h d u)(ho:h.get? d=O o)(hd:o.data=.dict es ep):ul u=es.size/\∀i e,es[i]? =O e->∃y v,Yf H u i y v/\RelV y e.key/\RelV v e.val:=by
 cases u with
 | dK kvs=>
  obtain⟨_,z,vs,rel,o',rq,rA,h1,h2,h3,h4,h5,h6⟩:=ok;rw[ho] at h1;cases h1;rw[hd] at h3;cases h3;have l1:=afi rel;have l2:=↑h5;refine⟨by show ↑kvs=_;rw[l1,<- l2];simp,λi e he=>?_⟩;have nL:es.toList[i]? =O e:=by simpa using he
  have hi:i<↑vs:=by rw[<- l2];exact(abL.mp nL).1
  obtain⟨q1,q2⟩:=h5.get? (i:=i) (e:=e) (k:=vs[i].1) (v:=vs[i].2) nL (by simp[hi]);obtain⟨p,e1,e2,e3⟩:=afu.at (i:=i) (y:=vs[i]) rel (by simp[hi]);refine⟨kV p.1,p.2,⟨p.1,e1,rfl⟩,?_,by rw[q2];exact e3⟩;rw[e2];exact Yg q1
 | dT kvs=>
  obtain⟨_,z,xs,rel,o',rq,rA,h1,h2,h3,h4,h5⟩:=ok;rw[ho] at h1;cases h1;rw[hd] at h3;cases h3;have l1:=afi rel;have l2:=congrArg List.length h4;rw[abI] at l2;refine⟨by show ↑kvs=_;rw[l1,<- l2];simp,λi e he=>?_⟩;have nL:es.toList[i]? =O e:=by simpa using he
  rw[h4,abQ] at nL;cases q:xs[i]? with
  | none=>rw[q] at nL;cases nL
  | some x=>
   rw[q] at nL;cases nL;obtain⟨p,e1,e2,e3,e4⟩:=afu.at (i:=i) (y:=x) rel q;exact⟨.ref x.2.1,p.2,⟨p.1,x.2.1,e1,rfl,e3⟩,rfl,e4⟩
 | dU kvs=>
  obtain⟨_,z,o',rq,rA,h1,h2,h3,rel⟩:=ok;rw[ho] at h1;cases h1;rw[hd] at h3;cases h3;refine⟨by show ↑kvs=_;rw[afi rel];simp,λi e he=>?_⟩;obtain⟨p,e1,e2,e3,_⟩:=afu.at (i:=i) (y:=e) rel (by simpa using he);exact⟨p.1,p.2,e1,e2.of (hu p (abY e1)),e3⟩
 | _=>exact hu.elim
noncomputable def rg(w:W)(ph:PH):Bool:=(gq w ph).isSome
theorem VL:pF K "dict" rg:=by
 intro φ ph H x vx hH rx e;unfold rg at e;obtain⟨⟨i,kws⟩,hp⟩:=ads.mp e;obtain⟨rfl,hi,hd,rfl⟩:=kU hH rx hp
 rcases hH.hp i _ hd with⟨kvs,q,_⟩ | ⟨kvs,q,_⟩
 ·exact .inr (.inr (.inl ⟨rfl,.inl ⟨kvs,q⟩⟩))
 ·exact .inr (.inr (.inl ⟨rfl,.inr ⟨kvs,q⟩⟩))
noncomputable def yD(x:Str):Bool:= !(x==("__debug__":Str))&& !(x==("__classdict__":Str))
section
variable{X:Cx}{N:aN}{sc:aes}{k:Nat}{b:adA}
theorem gG.jv{pos:Pos}(B:gG X N sc)(i:Nat){x:Str}(hN:N[i]? =O x)(hv:ju sc x)(hk:yD x=true):JE X (.Name x pos) (af i):=by
 unfold yD at hk;rw[abK] at hk;exact B.ZG i hN hv (by simpa using hk.1) (by simpa using hk.2)
theorem BdT.aE{pos:Pos}{a:adA}{ma mb:EM}(B:BdT X N sc k)(ha:JE X a ma)(hb:JE X b mb)(hp:qf b:=by intro _ _;rfl):JE X (.Subscript a b pos) (ah aE ma mb):=B.VI hp ha hb
end
noncomputable def hQ(P:acL)(w:adl):Option (Key ⊕ (cC ⊕ List cC))->Int
 | none=>0xFCA86420
 | some (.inl k)=>Ci w k
 | some (.inr (.inl ks))=>ahD (dm P w) ks
 | some (.inr (.inr pw))=>Gg (dm P w) pw
theorem GA:∀{xs:aJ} {us:aS},↑xs=↑us->(∀(j:Nat) x u,xs[j]? =O x->us[j]? =O u->L2.RelV x u)->Vals xs us
 | [],[],_,_=>.nil
 | [],_::_,h,_=>by simp at h
 | _::_,[],h,_=>by simp at h
 | x::xs,u::us,h,k=>.cons (k 0 x u rfl rfl) (GA (by simpa using h) λj y v h1 h2=>k (j+1) y v (by simpa using h1) (by simpa using h2))
theorem Pa{w:adl}{u:acb}(h:(dm P w).is k u=true):L2.RelV (kV k) u:=by
 rcases jI h with⟨i,t,rfl,rfl⟩ | ⟨x,t,rfl,rfl⟩
 ·exact⟨t,rfl⟩
 ·exact⟨t,rfl⟩
section
variable{X:Cx}{pins:List (abV×Obj)}{σ:L2.St}{H:Hp}{s:abT}
theorem Sn(I:Inv X pins σ H s){d:abV}{kvs:dc}(hd:H d=O (.dK kvs)\/(H d=O (.dT [])/\kvs=[])):∃vs,KV kvs vs/\s.heap.DictOf (dm X.prog X.w) d vs/\(d==aee)=false/\↑kvs<=sizeLine:=by
 rcases hd with e | ⟨e,rfl⟩
 ·obtain⟨z,y,vs,rel,dd⟩:=mM I.aA e;exact⟨vs,rel,dd,y,z⟩
 ·obtain⟨z,y,vs,rel,dd⟩:=mM (kvs:=[]) (oC I e).aA bU;exact⟨vs,rel,dd,y,z⟩
theorem Pb{kvs:dc}{vs:List (Key×acb)}{acc:dC}(rel:KV kvs vs)(nq:ItemsOf (λi v=>∃k x,vs[i]? =O (k,x)/\(dm X.prog X.w).is k v=true) acc ↑vs):Vals (kvs.map λkv=>kV kv.1) acc.toList:=by
 have hk:=rel.keys;refine GA (by have e1:=↑rel;have e2:=nq.1;have e3:acc.toList.length=acc.size:=afA;rw[abI];omega) λj x u h1 h2=>?_
 obtain⟨k,y,e,hi⟩:=nq.2 j u (by simpa using h2);rw[abQ] at h1;obtain⟨kv,e1,rfl⟩:=abU.mp h1;have e2:(kvs.map (·.1))[j]? =O kv.1:=by rw[abQ,e1];rfl
 rw[hk,abQ,e] at e2;have e3:k=kv.1:=by simpa using e2
 rw[<- e3];exact Pa hi
end
noncomputable def BB:aJ->Hp->VK->Prop:=λxs H Q=>∃d kvs,xs=[.ref d]/\(H d=O (.dK kvs)\/(H d=O (.dT [])/\kvs=[]))/\∀p,H p=Z->Q (.ref p) (upd H p (.lst (kvs.map λkv=>kV kv.1)))
section
variable{X:Cx}
theorem Oi(hc:X.calm=true):cD X (.type "list") BB:=by
 intro pins s σ H xs us Q I r h;obtain⟨d,kvs,rfl,hd,h⟩:=h;obtain⟨u,rfl,rx⟩:=vals1 r;obtain rfl:u=acu d:=rx;obtain⟨vs,rel,dd,y,z⟩:=Sn I hd;obtain⟨ep,pJ⟩:=dd.dictAt;refine PySem.W.kdl_call (PySem.W.kdl_dict (knd:=dm X.prog X.w) (kvs:=vs) (ep:=ep) y) (I.ok.hd hc) pJ (by rw[<- ↑rel];exact z) λh' tk acc c hk hD nq=>⟨.ref s.heap.objs.size,_,I.laid (t':=tk) (a:=s.heap.objs.size) (o:=.lst (kvs.map λkv=>kV kv.1)) (λb u q=>hk b u q) (abO _) ⟨by simpa using z,acc.toList,c,Pb rel nq,by simpa using hD⟩,rfl,h _ (I.aA.fresh (abO _))⟩
end
noncomputable def B4(kws:bN):Option aw:=if kws.all (λp=> !fj p.1)=true then O (kws.map (·.1)) else Z
noncomputable def oK:aw->Po W:=λxs ph=>match xs with
 | [w]=>match gq w ph with
  | some p=>(B4 p.2).map λks=>(.ref ↑ph,ph++[.lst ks])
  | none=>qC [w] ph
 | _=>Z
section
variable{K:abG}{φ:Nat->abV}{n:Nat}{H:Hp}
theorem GB:∀{kws:bN} {kvs:dc},bV K φ n H kws kvs->a9 K φ n H (kws.map (·.1)) (kvs.map λkv=>kV kv.1)
 | _,_,.nil=>.nil
 | _,_,.cons (k:=k) h r=>.cons (by cases k with | inl i=>exact .int i | inr x=>exact .str x) (GB r)
theorem Pc{ph:PH}{y:W}{v:V}{p:Nat×bN}{ks:aw}(hH:aH K φ ph H)(r:aQ K φ ↑ph H y v)(e:gq y ph=O p)(hk:B4 p.2=O ks):∃d kvs,v=.ref d/\(H d=O (.dK kvs)\/(H d=O (.dT [])/\kvs=[]))/\a9 K φ ↑ph H ks (kvs.map λkv=>kV kv.1):=by
 unfold B4 at hk;split at hk
 ·rename_i ha;cases hk;obtain⟨rfl,hi,hd,rfl⟩:=kU (i:=p.1) (kws:=p.2) hH r e
  rcases hH.hp _ _ hd with⟨kvs,q,rd⟩ | ⟨kvs,q,rt⟩
  ·exact⟨_,kvs,rfl,.inl q,GB rd⟩
  ·obtain⟨e1,e2⟩:=rt.uI ha;subst e2;rw[e1];exact⟨_,[],rfl,.inr ⟨q,rfl⟩,.nil⟩
 ·cases hk
end
theorem aaU:gp K (λxs H Q=>(∃p ys,xs=[.ref p]/\(bK K H p ys\/bX K H p ys)/\∀l,H l=Z->Q (.ref l) (upd H l (.lst ys)))\/BB xs H Q) oK:=by
 intro φ ph H xs vs w ph' Q hH r e k;unfold oK at e;split at e
 ·rename_i x;cases hd:gq x ph with
  | none=>rw[hd] at e;exact .inl (R9 hH r e k)
  | some p=>
   rw[hd] at e;obtain⟨ks,hk,e⟩:=abU.mp e;cases e;cases r with
   | cons r rn=>
    cases rn;obtain⟨d,kvs,rfl,hdk,rr⟩:=Pc hH r hd hk;refine .inr ⟨d,kvs,rfl,hdk,λp hp=>?_⟩;obtain⟨q1,q2,q3⟩:=kW hH rr hp;exact k _ _ _ q1 q2 q3
 ·cases e
theorem aaC(hc:X.calm=true):cD X (.type "list") (λxs H Q=>(∃p ys,xs=[.ref p]/\(bK X.K H p ys\/bX X.K H p ys)/\∀l,H l=Z->Q (.ref l) (upd H l (.lst ys)))\/BB xs H Q):=cD.or NJ (Oi hc)
open PySem L2
section
variable{α β γ:Type}
theorem xr(a:α)(f:α->Mo β):ax (aD a) f=f a:=rfl
theorem So(f:α->Mo β):ax (fF:Mo α) f=fF:=rfl
theorem Sq(x:XC)(f:α->Mo β):ax (vv x:Mo α) f=vv x:=rfl
theorem jJ(m:Mo α)(f:α->Mo β)(g:β->Mo γ):ax (ax m f) g=ax m λa=>ax (f a) g:=by
 funext ph;unfold ax;cases m ph <;> rfl
theorem Sr{c:Prop}[Decidable c](a b:Mo α)(f:α->Mo β):ax (if c then a else b) f=if c then ax a f else ax b f:=by split <;> rfl
theorem cc{m:Mo α}{f:α->Mo β}{ph ph':PH}{a:α}(h:m ph=.ok a ph'):ax m f ph=f a ph':=by unfold ax;rw[h]
theorem VM(a:α)(ph:PH):aD a ph=.ok a ph:=rfl
theorem VN(x:XC)(ph:PH):(vv x:Mo α) ph=.ex x ph:=rfl
theorem Qt(a:α):lift (ret a)=aD a:=rfl
theorem VO{c:Prop}[Decidable c](a b:Mo α)(ph:PH):(if c then a else b) ph=if c then a ph else b ph:=by split <;> rfl
end
theorem VP(w:W)(σ:aG):af 0 (O w::σ)=aD w:=rfl
theorem VQ(i:Nat)(x:dO)(σ:aG):af (i+1) (x::σ)=af i σ:=rfl
theorem Yh(w:W)(σ:aG):eC w σ=aD w:=rfl
theorem Yi(i:Nat)(w:W)(σ:aG):gN i w σ=aD (σ.set i (O w)):=rfl
theorem xG(f:W->W->Po W)(a b:EM)(σ:aG):ah f a b σ=ax (a σ) λx=>ax (b σ) λy=>lift (f x y):=rfl
theorem VR(f:W->Po W)(a:EM)(σ:aG):fY f a σ=ax (a σ) λx=>lift (f x):=rfl
theorem yc(m:EM)(σ:aG):eT m σ=ax (m σ) λw=>lift (match w with
 | .bl b=>ret b
 | _=>eG):=rfl
theorem Ss(m:EM)(σ:aG):bW m σ=ax (m σ) λw=>lift (qT w):=rfl
theorem GC(a b:TM)(σ:aG):d9 a b σ=ax (a σ) λc=>if c=true then b σ else aD false:=rfl
theorem Su(a b:TM)(σ:aG):cF a b σ=ax (a σ) λc=>if c=true then aD true else b σ:=rfl
theorem Qu(a:TM)(σ:aG):de a σ=ax (a σ) λc=>aD (!c):=rfl
theorem VS(t:TM)(a b:EM)(σ:aG):vj t a b σ=ax (t σ) λc=>if c=true then a σ else b σ:=rfl
theorem om(a b:SM)(σ:aG):aC a b σ=ax (a σ) λf=>match f with
 | .nx ao=>b ao
 | f=>aD f:=rfl
theorem BC(t:TM)(a b:SM)(σ:aG):bi t a b σ=ax (t σ) λc=>if c=true then a σ else b σ:=rfl
theorem Bc(e:EM)(σ:aG):aO e σ=ax (e σ) λw=>aD (.rt w):=rfl
theorem Qv(σ:aG):bt σ=aD (.nx σ):=rfl
theorem GD(e:EM)(σ:aG):d3 e σ=ax (e σ) λ_=>aD (.nx σ):=rfl
theorem Be(e:EM)(g:GM)(σ:aG):aM e g σ=ax (e σ) λw=>ax (g w σ) λao=>aD (.nx ao):=rfl
theorem Qw(f:aw->Mo W)(a:AM)(σ:aG):aP f a σ=ax (a σ) f:=rfl
theorem Pd(f:aw->Po W)(a:AM)(σ:aG):aR f a σ=ax (a σ) λxs=>lift (f xs):=rfl
theorem Hu(σ:aG):ai σ=aD []:=rfl
theorem GF(e:EM)(r:AM)(σ:aG):ag e r σ=ax (e σ) λw=>ax (r σ) λws=>aD (w::ws):=rfl
theorem Sv(a:AM)(σ:aG):cw a σ=ax (a σ) λws=>lift (kE ws):=rfl
theorem Hv(a:AM)(σ:aG):bP a σ=ax (a σ) λws=>lift (uD ws):=rfl
theorem VT(c:String)(m:EM)(σ:aG):cN c m σ=ax (m σ) λw=>lift (hV c w):=rfl
theorem Sw(a b:EM)(σ:aG):iO a b σ=ax (a σ) λw=>match w with
 | .bl c=>if c=true then b σ else aD (.bl false)
 | _=>fF:=rfl
theorem VU(a b:EM)(σ:aG):rJ a b σ=ax (a σ) λw=>match w with
 | .bl c=>if c=true then aD (.bl true) else b σ
 | _=>fF:=rfl
theorem Sx(a:EM)(σ:aG):yw a σ=ax (a σ) λw=>match w with
 | .bl c=>aD (.bl (!c))
 | _=>fF:=rfl
theorem Pe(f f':W->W->Po W)(a b c:EM)(σ:aG):gY f f' a b c σ=ax (a σ) λx=>ax (b σ) λy=>ax (lift (f x y)) λz=>match z with
 | .bl k=>if k=true then ax (c σ) λu=>lift (f' y u) else aD (.bl false)
 | _=>fF:=rfl
theorem qc(ty:W->PH->Bool)(f:W->List W->Po W)(o:EM)(a:AM)(σ:aG):bL ty f o a σ=ax (o σ) λx=>ax (lift (oX (ty x))) λ_=>ax (a σ) λxs=>lift (f x xs):=rfl
theorem Sy(w:W):fw (.rt w)=aD w:=rfl
theorem Sz(σ:aG):fw (.nx σ)=aD .ay:=rfl
theorem dh(b:SM)(n:Nat)(x:W):fM b n 1 [x]=ax (b (O x::abS (n-1) Z)) fw:=rfl
theorem lE(b:SM)(n:Nat)(x y:W):fM b n 2 [x,y]=ax (b (O x::O y::abS (n-2) Z)) fw:=rfl
theorem yE(b:SM)(n:Nat)(x y z:W):fM b n 3 [x,y,z]=ax (b (O x::O y::O z::abS (n-3) Z)) fw:=rfl
theorem yF(b:SM)(n:Nat)(x y z u:W):fM b n 4 [x,y,z,u]=ax (b (O x::O y::O z::O u::abS (n-4) Z)) fw:=rfl
theorem Yj(i j:Int):lift (addW (.int i) (.int j))=aD (.int (i+j)):=rfl
theorem Yk(i j:Int):lift (lz (.int i) (.int j))=aD (.int (i-j)):=rfl
theorem Yl(i:Int):lift (fA (.int i))=aD (.int (-i)):=rfl
theorem Ym{i j:Int}(h:mulC i j=true):lift (qU (.int i) (.int j))=aD (.int (i*j)):=by
 unfold qU;simp only[h,if_true];rfl
theorem Yn{i j:Int}(h:j≠0):lift (aV (.int i) (.int j))=aD (.int (i.fmod j)):=by
 unfold aV qR;simp only[ne_eq,h,not_false_eq_true,decide_true,if_true];rfl
theorem Yo{i j:Int}(h:j≠0)(h':j.natAbs<2 ^ 64):lift (bv (.int i) (.int j))=aD (.int (i.fdiv j)):=by
 unfold bv qR;simp only[ne_eq,h,h',not_false_eq_true,decide_true,aiq,if_true];rfl
theorem uJ(i j:Int):lift (gE (.int i) (.int j))=aD (.bl (decide (i<j))):=rfl
theorem yG(i j:Int):lift (d7 (.int i) (.int j))=aD (.bl (decide (i<=j))):=rfl
theorem K6(i j:Int):lift (gF (.int i) (.int j))=aD (.bl (decide (j<i))):=rfl
theorem ZQ(i j:Int):lift (geW (.int i) (.int j))=aD (.bl (decide (j<=i))):=rfl
theorem Yp(i:Int):lift (uE [.int i])=aD (.int i):=rfl
theorem VW(b:Bool):lift (uE [.bl b])=aD (.int (if b then 1 else 0)):=rfl
theorem Yq(i:Int):lift (qV [.int i])=aD (.int (if i<0 then -i else i)):=rfl
theorem Yr(i j:Int):lift (X6 [.int i,.int j])=aD (.int (if j>i then j else i)):=rfl
theorem Ys(i j:Int):lift (X7 [.int i,.int j])=aD (.int (if j<i then j else i)):=rfl
theorem ZR(b:Bool):lift (match W.bl b with
 | .bl b=>ret b
 | _=>eG)=aD b:=rfl
theorem VX(b:Bool):lift (qT (.bl b))=aD b:=rfl
theorem VY(i:Int):lift (qT (.int i))=aD (i != 0):=rfl
theorem VZ(ws:aw):lift (qT (.tup ws))=aD (!ws.isEmpty):=rfl
theorem Kj(i j:Int):lift (bo (.int i) (.int j))=aD (.bl (decide (i=j))):=by
 funext ph;unfold bo fZ lift;simp only[dat];rfl
theorem Kk(i j:Int):lift (ck (.int i) (.int j))=aD (.bl (!decide (i=j))):=by
 funext ph;unfold ck fZ lift;simp only[dat];rfl
theorem so(s:String):adX (abH s)=true:=by
 unfold adX;rw[afW];simp only[agg,acA,ach,decide_eq_true_eq];rintro n ⟨c,_,rfl⟩;have h:=c.valid;simp only[UInt32.isValidChar,Nat.isValidChar] at h;show c.val.toNat<_;omega
theorem BD{a b:String}:abH a=abH b↔a=b:=by
 constructor
 ·intro h;rw[afW,afW] at h;have h:=congrArg aiJ (Str.mk.inj h);simp only[List.toList_toArray] at h;have mi:∀l l':List Char,l.map aiD=l'.map aiD->l=l':=by
   intro l
   induction l with
   | nil=>intro l' h;cases l' with
    | nil=>rfl
    | cons _ _=>cases h
   | cons x l ih=>intro l' h;cases l' with
    | nil=>cases h
    | cons y l'=>
     have:=ahk h;rw[ih l' this.2,Char.ext (UInt32.toNat_inj.mp this.1)]
  have q:a.toList=b.toList:=mi _ _ h;exact String.toList_inj.mp q
 ·intro h;rw[h]
theorem Kl{a b:Str}(ha:adX a=true)(hb:adX b=true):lift (bo (.str a) (.str b))=aD (.bl (decide (a=b))):=by
 funext ph;unfold bo fZ lift;simp only[dat,ha,hb,if_true];rfl
theorem Km{a b:Str}(ha:adX a=true)(hb:adX b=true):lift (ck (.str a) (.str b))=aD (.bl (!decide (a=b))):=by
 funext ph;unfold ck fZ lift;simp only[dat,ha,hb,if_true];rfl
theorem B5(a b:String):lift (bo (.str (abH a)) (.str (abH b)))=aD (.bl (decide (a=b))):=by
 rw[Kl (so a) (so b)];simp only[BD]
theorem Yt(a b:String):lift (ck (.str (abH a)) (.str (abH b)))=aD (.bl (!decide (a=b))):=by
 rw[Km (so a) (so b)];simp only[BD]
theorem Yu(a b:Bool):lift (ck (.bl a) (.bl b))=aD (.bl (!(a==b))):=by
 funext ph;unfold ck fZ lift;simp only[dat];rfl
theorem uK(c:String)(w:W)(t:String)(h:∀ph,ug w ph=O t):lift (hV c w)=aD (.bl (fb t c)):=by
 funext ph;unfold lift hV;rw[h];rfl
theorem ZU(c:String)(i:Int):lift (hV c (.int i))=aD (.bl (fb "int" c)):=uK _ _ _ λ_=>rfl
theorem ZV(c:String)(b:Bool):lift (hV c (.bl b))=aD (.bl (fb "bool" c)):=uK _ _ _ λ_=>rfl
theorem ZW(c:String):lift (hV c .ay)=aD (.bl (fb "NoneType" c)):=uK _ _ _ λ_=>rfl
theorem ZX(c:String)(x:Str):lift (hV c (.str x))=aD (.bl (fb "str" c)):=uK _ _ _ λ_=>rfl
theorem ZY(c:String)(ws:aw):lift (hV c (.tup ws))=aD (.bl (fb "tuple" c)):=uK _ _ _ λ_=>rfl
theorem tV{c:String}(h:ph[i]? =O (.lst ws)):lift (hV c (.ref i)) ph=.ok (.bl (fb "list" c)) ph:=by
 unfold lift hV ug;simp only[h]
theorem ZZ:fb "int" "int"=true:=by decide +kernel
theorem Z0:fb "int" "bool"=false:=by decide +kernel
theorem Z1:fb "bool" "int"=true:=by decide +kernel
theorem Z2:fb "bool" "bool"=true:=by decide +kernel
theorem Z3:fb "NoneType" "int"=false:=by decide +kernel
theorem Z4:fb "str" "int"=false:=by decide +kernel
theorem Z6:fb "list" "int"=false:=by decide +kernel
theorem Z7:fb "list" "list"=true:=by decide +kernel
theorem Z8:fb "tuple" "tuple"=true:=by decide +kernel
theorem V0:lift (kE [])=aD (.tup []):=rfl
theorem V1(a:W):lift (kE [a])=aD (.tup [a]):=rfl
theorem V2(a b:W):lift (kE [a,b])=aD (.tup [a,b]):=rfl
theorem V3(a b c:W):lift (kE [a,b,c])=aD (.tup [a,b,c]):=rfl
theorem V4(a b c d:W):lift (kE [a,b,c,d])=aD (.tup [a,b,c,d]):=rfl
theorem V5(a b c d e:W):lift (kE [a,b,c,d,e])=aD (.tup [a,b,c,d,e]):=rfl
theorem yd(a:W)(l:aw):lift (cP (.tup (a::l)) (.int 0))=aD a:=by
 funext ph;unfold lift cP cJ hG;simp[cM,aD]
theorem Yv(a b:W)(l:aw):lift (cP (.tup (a::b::l)) (.int 1))=aD b:=by
 funext ph;unfold lift cP cJ hG;simp[cM,aD];rw[if_pos ∅];simp
theorem Yw(a b c:W)(l:aw):lift (cP (.tup (a::b::c::l)) (.int 2))=aD c:=by
 funext ph;unfold lift cP cJ hG;simp[cM,aD];rw[if_pos ∅];simp
theorem Yx(a b c d:W)(l:aw):lift (cP (.tup (a::b::c::d::l)) (.int 3))=aD d:=by
 funext ph;unfold lift cP cJ hG;simp[cM,aD];rw[if_pos ∅];simp
theorem Yy(a b c d e:W)(l:aw):lift (cP (.tup (a::b::c::d::e::l)) (.int 4))=aD e:=by
 funext ph;unfold lift cP cJ hG;simp[cM,aD];rw[if_pos ∅];simp
noncomputable def qG:W->Bool
 | .ay=>true
 | _=>false
theorem V6(w:W):lift (Kb w .ay)=aD (.bl (!qG w)):=by
 unfold Kb;cases w <;> rfl
theorem Yz(w:W):lift (lA w .ay)=aD (.bl (qG w)):=by
 unfold lA;cases w <;> rfl
theorem SA(i:Int):qG (.int i)=false:=rfl
theorem SD:qG .ay=true:=rfl
theorem SE(ws:aw):qG (.tup ws)=false:=rfl
theorem SG(i:Nat):qG (.ref i)=false:=rfl
noncomputable def Ex(ph ph':PH):Prop:=∃m,ph'=ph++m
theorem Ex.refl(ph:PH):Ex ph ph:=⟨[],by simp⟩
theorem Ex.trans{a b c:PH}(h:Ex a b)(h':Ex b c):Ex a c:=by
 obtain⟨m,rfl⟩:=h;obtain⟨m',rfl⟩:=h';exact⟨m++m',by simp⟩
theorem Ex.one(ph:PH)(o:PO):Ex ph (ph++[o]):=⟨[o],rfl⟩
theorem Ex.get{a b:PH}(h:Ex a b){o:PO}(e:a[i]? =O o):b[i]? =O o:=by
 obtain⟨m,rfl⟩:=h;rw[ado (abL.mp e).1];exact e
theorem Ex.len{a b:PH}(h:Ex a b):↑a<=↑b:=by obtain⟨m,rfl⟩:=h;simp
theorem bp(ph:PH)(o:PO):(ph++[o])[↑ph]? =O o:=by simp
theorem small(h:n<=1000000):n<=sizeLine:=abX h (by decide)
section
variable{β:Type}{ph:PH}{i:Nat}{ws:aw}
theorem k7(ws:aw)(ph:PH)(h:↑ws<=acd):lift (uD ws) ph=.ok (.ref ↑ph) (ph++[.lst ws]):=by
 unfold lift uD;rw[if_pos h]
theorem Jc(h:ph[i]? =O (.lst ws)){k:Int}{w:W}(hk:cJ ws k=O w):lift (cP (.ref i) (.int k)) ph=.ok w ph:=by
 unfold lift cP;simp only[cM,h,adj,hk,acC]
theorem jL(h:ph[i]? =O (.lst ws)):lift (bz [.ref i]) ph=.ok (.int ↑ws) ph:=by
 unfold lift bz;simp only[cM,h,acC]
theorem Hw(h:ph[i]? =O (.lst ws)):fg (.ref i) ph=true:=by unfold fg;simp only[h]
theorem SH(h:ph[i]? =O (.lst ws)):lift (oX (fg (.ref i))) ph=.ok () ph:=by
 unfold lift oX;rw[if_pos (Hw h)]
theorem Fm(h:ph[i]? =O (.lst ws))(hz:↑ws<acd)(w:W):lift (eE (.ref i) [w]) ph=.ok .ay (ph.set i (.lst (ws++[w]))):=by
 unfold lift eE;simp only[h,hz,if_true]
theorem Qx(h:ph[i]? =O (.lst ws)):lift (qC [.ref i]) ph=.ok (.ref ↑ph) (ph++[.lst ws]):=by
 unfold lift qC;simp only[cM,h]
theorem oo{j:Nat}{us:aw}(h:ph[i]? =O (.lst ws))(h':ph[j]? =O (.lst us))(hz:↑ws+↑us<=acd):lift (addW (.ref i) (.ref j)) ph=.ok (.ref ↑ph) (ph++[.lst (ws++us)]):=by
 unfold lift addW;simp only[h,h',hz,if_true]
end
theorem sH(a b:Int)(h:0<b):0<=a.fmod b/\a.fmod b<b:=by
 rw[Int.fmod_eq_emod_of_nonneg _ ∅];exact⟨Int.emod_nonneg _ ∅,Int.emod_lt_of_pos _ h⟩
theorem fq(ws:List α)(k:Nat)(h:k<↑ws):cJ ws (k:Int)=ws[k]? :=by
 unfold cJ hG;rw[if_pos ∅,if_pos ∅];rfl
theorem Z9(ws:aw):lift (bz [.fl ws])=aD (.int ↑ws):=by funext ph;rfl
theorem ixF{i:Int}{w:W}(h:cJ ws i=O w):lift (cP (.fl ws) (.int i))=aD w:=by
 funext ph;unfold lift cP;simp only[cM,adj,h,acC];rfl
theorem sX{chk:PH->Bool}{g:GM}{b:SM}(R:W->PH->Prop)(I:Nat->aG->PH->Prop):∀(items:aw) (k:Nat) (σ:aG) (ph:PH),
  (∀j σ ph,I j σ ph->chk ph=true) →
  (∀j x σ ph,items[j]? =O x->I (k+j) σ ph->∃σ1 ph1,g x σ ph=.ok σ1 ph1/\∃f ph2,b σ1 ph1=.ok f ph2/\((∃bE,(f=.nx bE\/f=.ct bE)/\I (k+j+1) bE ph2)\/∃w,f=.rt w/\R w ph2)) →
  I k σ ph->(∃ao ph',dG chk g b items σ ph=.ok (.nx ao) ph'/\I (k+↑items) ao ph')\/∃w ph',dG chk g b items σ ph=.ok (.rt w) ph'/\R w ph'
 | [],k,σ,ph,hc,hs,h0=>by
  refine .inl ⟨σ,ph,?_,h0⟩;unfold dG;rw[if_pos (hc _ _ _ h0)]
 | x::xs,k,σ,ph,hc,hs,h0=>by
  obtain⟨σ1,ph1,e1,f,ph2,e2,h⟩:=hs 0 x σ ph rfl h0;have e:dG chk g b (x::xs) σ ph=(match f with
   | .nx ao=>dG chk g b xs ao
   | .ct ao=>dG chk g b xs ao
   | .bk ao=>aD (.nx ao)
   | .rt w=>aD (.rt w)) ph2:=by
   conv=>lhs;unfold dG
   rw[if_pos (hc _ _ _ h0),cc e1,cc e2]
   all_goals (cases f <;> rfl)
  rcases h with⟨bE,hf,hI⟩ | ⟨w,rfl,hR⟩
  ·have e:dG chk g b (x::xs) σ ph=dG chk g b xs bE ph2:=by
    rcases hf with rfl | rfl <;> exact e
   rw[e];have ih:=sX R I xs (k+1) bE ph2 hc (λj y σ ph hj hI=>by
    have:=hs (j+1) y σ ph (by simpa using hj) (by rw[show k+(j+1)=k+1+j by omega];exact hI);rw[show k+(j+1)+1=k+1+j+1 by omega] at this;exact this) hI
   rw[show k+1+↑xs=k+(x::xs).length by simp;omega] at ih;exact ih
  ·exact .inr ⟨w,ph2,e,hR⟩
theorem kj{chk:PH->Bool}{g:GM}{b:SM}(I:Nat->aG->PH->Prop)(items:aw)(σ:aG)(ph:PH)(hc:∀j σ ph,I j σ ph->chk ph=true)(hs:∀j x σ ph,items[j]? =O x->I j σ ph->∃σ1 ph1,g x σ ph=.ok σ1 ph1/\∃f ph2,b σ1 ph1=.ok f ph2/\∃bE,(f=.nx bE\/f=.ct bE)/\I (j+1) bE ph2)(h0:I 0 σ ph):∃ao ph',dG chk g b items σ ph=.ok (.nx ao) ph'/\I ↑items ao ph':=by
 have:=sX (λ_ _=>False) I items 0 σ ph hc (λj x σ ph hj hI=>by
  rw[adE] at hI ⊢;obtain⟨σ1,ph1,e1,f,ph2,e2,h⟩:=hs j x σ ph hj hI;exact⟨σ1,ph1,e1,f,ph2,e2,.inl h⟩) h0
 rw[adE] at this
 rcases this with h | ⟨_,_,_,h⟩
 ·exact h
 ·exact h.elim
theorem Av{chk:PH->Bool}{g:GM}{c:TM}{e:EM}(L:Nat)(I:Nat->List W->aG->PH->Prop):∀(items:aw) (k:Nat) (acc:aw) (σ:aG) (ph:PH),
  (∀j acc σ ph,I j acc σ ph->chk ph=true) →
  (∀j x acc σ ph,items[j]? =O x->I (k+j) acc σ ph->∃σ1 ph1,g x σ ph=.ok σ1 ph1/\∃t ph2,c σ1 ph1=.ok t ph2/\((t=false/\I (k+j+1) acc σ1 ph2)\/(t=true/\∃w iz,e σ1 ph2=.ok w iz/\iz[L]? =O (.lst acc)/\↑acc<acd/\I (k+j+1) (acc++[w]) σ1 (iz.set L (.lst (acc++[w])))))) →
  I k acc σ ph->∃uL ao ph',ft chk g c e L items σ ph=.ok () ph'/\I (k+↑items) uL ao ph'
 | [],k,acc,σ,ph,hc,hs,h0=>by
  refine⟨acc,σ,ph,?_,h0⟩;unfold ft;rw[if_pos (hc _ _ _ _ h0)]
 | x::xs,k,acc,σ,ph,hc,hs,h0=>by
  obtain⟨σ1,ph1,e1,t,ph2,e2,h⟩:=hs 0 x acc σ ph rfl h0;have next:∀CF j2,I (k+1) CF σ1 j2->∃uL ao ph',ft chk g c e L xs σ1 j2=.ok () ph'/\I (k+(x::xs).length) uL ao ph':=λCF j2 hI=>by
   have ih:=Av L I xs (k+1) CF σ1 j2 hc (λj y acc σ ph hj hI=>by
    have:=hs (j+1) y acc σ ph (by simpa using hj) (by rw[show k+(j+1)=k+1+j by omega];exact hI);rw[show k+(j+1)+1=k+1+j+1 by omega] at this;exact this) hI
   rw[show k+1+↑xs=k+(x::xs).length by simp;omega] at ih;exact ih
  have n1:iP (g x σ) ph=.ok σ1 ph1:=by unfold iP;rw[e1]
  have n2:iP (c σ1) ph1=.ok t ph2:=by unfold iP;rw[e2]
  rcases h with⟨rfl,hI⟩ | ⟨rfl,w,iz,e3,hL,hz,hI⟩
  ·have e:ft chk g c e L (x::xs) σ ph=ft chk g c e L xs σ1 ph2:=by
    conv=>lhs;unfold ft
    rw[if_pos (hc _ _ _ _ h0),cc n1,cc n2];rfl
   rw[e];exact next _ _ hI
  ·have n3:iP (e σ1) ph2=.ok w iz:=by unfold iP;rw[e3]
   have e:ft chk g c e L (x::xs) σ ph=ft chk g c e L xs σ1 (iz.set L (.lst (acc++[w]))):=by
    conv=>lhs;unfold ft
    rw[if_pos (hc _ _ _ _ h0),cc n1,cc n2];show ax (iP (e σ1)) _ ph2=_;rw[cc n3];exact cc (Fm hL hz w)
   rw[e];exact next _ _ hI
theorem GG(im:IM)(cap:eY)(g:GM)(c:TM)(e:EM)(σ:aG):b6 im cap g c e σ=ax (im σ) λr ph=>ax (ft r.2 g c e ↑ph r.1 (jp cap σ)) (λ_=>aD (.ref ↑ph)) (ph++[.lst []]):=rfl
theorem SJ(ph m:PH)(o o':PO):(ph++[o]++m).set ↑ph o'=ph++[o']++m:=by
 rw[adM,ahJ _ _ (abO _)];simp
variable{σ:aG}
theorem ie(as:List α)(h:α->W){im:IM}{cap:eY}{g:GM}{c:TM}{e:EM}{ph0:PH}{chk:PH->Bool}(iA:im σ ph0=.ok (as.map h,chk) ph)(DA:∀ph',Ex ph ph'->chk ph'=true)(hz:↑as<=acd)(F:α->Option W)(S:aG->Prop)(h0:S (jp cap σ))(step:∀x∈as,∀σ H,S σ->Ex ph H->∃σ1,g (h x) σ H=.ok σ1 H/\S σ1/\∃t H1,c σ1 H=.ok t H1/\Ex H H1/\((t=false/\F x=Z)\/(t=true/\∃w H2,e σ1 H1=.ok w H2/\Ex H1 H2/\F x=O w))):∃ph',b6 im cap g c e σ ph0=.ok (.ref ↑ph) ph'/\Ex (ph++[.lst (as.filterMap F)]) ph':=by
 rw[GG,cc iA];have key:=Av (chk:=chk) (g:=g) (c:=c) (e:=e) ↑ph (λk acc σ H=>S σ/\acc=(as.take k).filterMap F/\Ex (ph++[.lst acc]) H) (as.map h) 0 [] (jp cap σ) (ph++[.lst []])
  (λj acc σ H hI=>DA _ ((Ex.one _ _).trans hI.2.2))
  (λj y acc σ H hj hI=>by
   rw[adE] at hI ⊢;obtain⟨hS,ha,hE⟩:=hI;rw[abQ] at hj;cases hx:as[j]? with
   | none=>rw[hx] at hj;cases hj
   | some x=>
    rw[hx] at hj;cases hj;have tk:(as.take (j+1)).filterMap F=acc++(F x).toList:=by
     rw[adO,hx,ahK,ha];cases hF:F x <;> simp[hF]
    obtain⟨σ1,e1,lX,t,H1,e2,x2,h⟩:=step x (abY hx) σ H hS ((Ex.one _ _).trans hE);refine⟨σ1,H,e1,t,H1,e2,?_⟩
    rcases h with⟨rfl,hF⟩ | ⟨rfl,w,H2,e3,x3,hF⟩
    ·exact .inl ⟨rfl,lX,by rw[tk,hF];simp,hE.trans x2⟩
    ·have x4:=(hE.trans x2).trans x3;refine .inr ⟨rfl,w,H2,e3,x4.get (bp _ _),?_,lX,by rw[tk,hF];rfl,?_⟩
     ·have hl:↑acc<=j:=by
       rw[ha];exact abX (afI _ _) (by simp;omega)
      have:=(abL.mp hx).1;omega
     ·obtain⟨m,rfl⟩:=x4;rw[SJ];exact⟨m,rfl⟩)
  ⟨h0,by simp,Ex.refl _⟩
 obtain⟨acc,ao,ph',e1,_,ha,hE⟩:=key;refine⟨ph',?_,?_⟩
 ·show ax (ft chk g c e ↑ph (as.map h) (jp cap σ)) _ _=_;rw[cc e1];rfl
 ·rw[adE,abI,aeq] at ha;rw[<- ha];exact hE
theorem SK{α β:Type}(f:α->β):∀l:List α,l.filterMap (λa=>O (f a))=l.map f
 | []=>rfl
 | a::l=>by
  rw[List.filterMap_cons_some (f:=λa=>O (f a)) (b:=f a) rfl,SK f l];rfl
theorem Hx{w:W}(h:(fS ws)[i]? =O w):∃x,ws[i]? =O x/\w=.tup [.int i,x]:=by
 unfold fS at h;rw[abQ] at h;cases q:(adm ↑ws)[i]? with
 | none=>rw[q] at h;cases h
 | some k=>
  rw[q] at h;obtain⟨hi,e⟩:=abL.mp q;rw[agK] at e;subst e;rw[afp] at hi;cases h;exact⟨ws[i],by simp[hi],by simp[hi]⟩
theorem Hy(ws:aw):(fS ws).length=↑ws:=by unfold fS;simp
theorem i5(h:m σ ph=.ok (.ref i) ph')(hi:ph'[i]? =O (.lst ws)):cf m σ ph=.ok (ws,λp=>decide (p[i]? =O (.lst ws))) ph':=by
 unfold cf;rw[cc h];unfold lift ya nh;simp only[hi]
theorem wW(h:m σ ph=.ok (.tup ws) ph'):cf m σ ph=.ok (ws,λ_=>true) ph':=by
 unfold cf;rw[cc h];rfl
theorem xI{m:AM}{j:Int}(h:m σ ph=.ok [.int j] ph')(h1: -(2 ^ 62)<=j)(h2:j<2 ^ 62):iU m σ ph=.ok (fv 0 j.toNat,λ_=>true) ph':=by
 unfold iU;rw[cc h];unfold lift Cy;simp only[h1,h2,and_self,if_true]
theorem V7{m:AM}{i j:Int}(h:m σ ph=.ok [.int i,.int j] ph')(h1: -(2 ^ 62)<=i)(h2:i<2 ^ 62)(h3: -(2 ^ 62)<=j)(h4:j<2 ^ 62):vk m σ ph=.ok (fv i (j-i).toNat,λ_=>true) ph':=by
 unfold vk;rw[cc h];unfold lift Cz;simp only[h1,h2,h3,h4,and_self,if_true]
theorem Aw{m:AM}(h:m σ ph=.ok [.ref i] ph')(hi:ph'[i]? =O (.lst ws)):mR m σ ph=.ok (fS ws,λp=>decide (p[i]? =O (.lst ws))) ph':=by
 unfold mR;rw[cc h];unfold lift B1 nh;simp only[hi,acC]
theorem xi{lo:Int}{k:Nat}{w:W}(h:(fv lo n)[k]? =O w):k<n/\w=.int (lo+(k:Int)):=by
 unfold fv at h;rw[abQ] at h;cases q:(adm n)[k]? with
 | none=>rw[q] at h;cases h
 | some j=>
  rw[q] at h;obtain⟨hi,e⟩:=abL.mp q;rw[agK] at e;subst e;rw[afp] at hi;cases h;exact⟨hi,rfl⟩
theorem GH(lo:Int)(n:Nat):(fv lo n).length=n:=by unfold fv;simp
variable{ds:List afr}
theorem V8{d:afr}(h:ph[i]? =O (.lst ws))(h1:aT (dat ph 40) ws=O ds)(h2:dat ph 40 x=O d):lift (iV x (.ref i)) ph=.ok (.bl (ds.any λe=>acI e d)) ph:=by
 unfold lift iV inD;simp only[cM,h,h1,h2,acC]
theorem V9{d:afr}(h1:aT (dat ph 40) ws=O ds)(h2:dat ph 40 x=O d):lift (iV x (.tup ws)) ph=.ok (.bl (ds.any λe=>acI e d)) ph:=by
 unfold lift iV inD;simp only[cM,h1,h2,acC]
theorem qH(a b:Str):acI (.str a) (.str b)=decide (a=b):=by
 unfold acI;rfl
theorem YA(a b:Int):acI (.int a) (.int b)=decide (a=b):=by
 unfold acI;rfl
theorem YB(a b:Bool):acI (.bool a) (.bool b)=decide (a=b):=by
 unfold acI;cases a <;> cases b <;> rfl
theorem n6{α β γ:Type}(f:β->Option γ)(g:α->β)(h:α->γ)(hf:∀a,f (g a)=O (h a)):∀l:List α,aT f (l.map g)=O (l.map h)
 | []=>rfl
 | a::l=>by
  show aT f (g a::l.map g)=_;unfold aT;rw[hf a,n6 f g h hf l];rfl
theorem Hz(x:String)(ss:List String):lift (iV (.str (abH x)) (.tup (ss.map λs=>.str (abH s))))=aD (.bl (ss.any λs=>decide (s=x))):=by
 funext ph
 rw[V9 (n6 _ _ (λs=>aha (abH s)) (λs=>by simp only[dat,so,if_true]) ss) (d:=.str (abH x)) (by simp only[dat,so,if_true])];rw[aiP];simp only[Function.comp_def,qH,BD];rfl
theorem YC(x a b:String):lift (iV (.str (abH x)) (.tup [.str (abH a),.str (abH b)]))=aD (.bl (decide (a=x)||decide (b=x))):=by
 have:=Hz x [a,b];simp only[ace,afH,acO,aiQ,ahi] at this;exact this
theorem YD(x a b c:String):lift (iV (.str (abH x)) (.tup [.str (abH a),.str (abH b),.str (abH c)]))=aD (.bl (decide (a=x)||(decide (b=x)||decide (c=x)))):=by
 have:=Hz x [a,b,c];simp only[ace,afH,acO,aiQ,ahi] at this;exact this
theorem Bf{bs:List Bool}(h:ph[i]? =O (.lst (bs.map W.bl))):lift (jq [.ref i]) ph=.ok (.bl (bs.all id)) ph:=by
 unfold lift jq qY;simp only[Hw h,if_true,cM,h,adj,n6 zl W.bl id (λ_=>rfl),acC,List.map_id_fun,id]
theorem qI(ws:aw)(y:W):aE (.tup ws) y=cP (.tup ws) y:=rfl
theorem YE(ws:aw)(y:W):aE (.fl ws) y=cP (.fl ws) y:=rfl
theorem ye(x:Str)(y:W):aE (.str x) y=cP (.str x) y:=rfl
theorem YF(x:W)(ws:aw):fD x (.tup ws)=iV x (.tup ws):=rfl
theorem YG(x:W)(ws:aw):fD x (.fl ws)=iV x (.fl ws):=rfl
theorem Wa(x:W)(ws:aw):fc x (.tup ws)=qW x (.tup ws):=rfl
theorem Jd(i:Int)(y:W):fB (.int i) y=qU (.int i) y:=by
 funext ph;unfold fB;cases y <;> rfl
theorem GJ(o i:EM)(v:W)(σ:aG):B3 o i v σ=ax (o σ) λow=>ax (i σ) λiw=>ax (lift (qZ ow iw v)) λ_=>aD σ:=rfl
section
variable{ph:PH}{i:Nat}{ws:aw}{kws:bN}
theorem yf(h:ph[i]? =O (.lst ws)):gq (.ref i) ph=none:=by unfold gq;simp only[h]
theorem oM(h:ph[i]? =O (.bI kws)):gq (.ref i) ph=O (i,kws):=by unfold gq;simp only[h]
theorem iG(h:ph[i]? =O (.lst ws)){k:Int}{w:W}(hk:cJ ws k=O w):lift (aE (.ref i) (.int k)) ph=.ok w ph:=by
 have:=Jc h hk;unfold lift at this ⊢;unfold aE;rw[yf h];exact this
theorem SN(h:ph[i]? =O (.bI kws)){k w:W}(hk:jf kws k=true)(hw:iK kws k=O w):lift (aE (.ref i) k) ph=.ok w ph:=by
 unfold lift aE;simp only[oM h,hk,if_true,hw,acC]
theorem Qy(h:ph[i]? =O (.bI kws)){k:W}(hk:jf kws k=true):lift (fc k (.ref i)) ph=.ok (.bl (!(iK kws k).isSome)) ph:=by
 unfold lift fc;simp only[oM h,hk,if_true]
theorem SO{ds:List afr}{x:W}{d:afr}(h:ph[i]? =O (.lst ws))(h1:aT (dat ph 40) ws=O ds)(h2:dat ph 40 x=O d):lift (fD x (.ref i)) ph=.ok (.bl (ds.any λe=>acI e d)) ph:=by
 have:=V8 h h1 h2;unfold lift at this ⊢;unfold fD;rw[yf h];exact this
theorem Qz{ds:List afr}{x:W}{d:afr}(h:ph[i]? =O (.lst ws))(h1:aT (dat ph 40) ws=O ds)(h2:dat ph 40 x=O d):lift (fc x (.ref i)) ph=.ok (.bl (!(ds.any λe=>acI e d))) ph:=by
 unfold lift fc;rw[yf h];unfold qW inD;simp only[cM,h,h1,h2,acC]
end
theorem SQ(σ:aG):CC σ=lift newD:=rfl
theorem CG(b:SM)(n:Nat)(x y z u v:W):fM b n 5 [x,y,z,u,v]=ax (b (O x::O y::O z::O u::O v::abS (n-5) Z)) fw:=rfl
theorem aaa(b:SM)(n:Nat)(x y z u v w:W):fM b n 6 [x,y,z,u,v,w]=ax (b (O x::O y::O z::O u::O v::O w::abS (n-6) Z)) fw:=rfl
theorem um(ph:PH)(n:Nat)(i:Int):dat ph n (.int i)=O (.int i):=by cases n <;> rfl
theorem Am:∀ds:List afr,(∀d∈ds,acI d d=true)->aec ds ds=true
 | [],_=>by unfold aec;rfl
 | d::ds,h=>by
  simp only[aec,h d (by simp),Am ds (λe he=>h e (by simp[he])),aiq]
theorem sY{α β:Type}{f:α->Option β}:∀{l:List α} {m:List β},aT f l=O m->∀b∈m,∃a∈l,f a=O b
 | [],m,h,b,hb=>by cases h;cases hb
 | a::l,m,h,b,hb=>by
  unfold aT at h;split at h
  ·rename_i b' m' e1 e2;cases h
   rcases abR.mp hb with rfl | hb
   ·exact⟨a,by simp,e1⟩
   ·obtain⟨c,hc,e⟩:=sY e2 b hb;exact⟨c,by simp[hc],e⟩
  ·cases h
theorem Kn(h:fZ ph x y=O b):lift (bo x y) ph=.ok (.bl b) ph:=by
 unfold lift bo;simp only[h,acC]
theorem qJ(h:fZ ph x y=O b):lift (ck x y) ph=.ok (.bl (!b)) ph:=by
 unfold lift ck;simp only[h,acC]
theorem eq_nil(hi:ph[i]? =O (.lst ws))(hj:ph[j]? =O (.lst []))(hd:aT (dat ph 39) ws=O ds):fZ ph (.ref i) (.ref j)=O ws.isEmpty:=by
 unfold fZ;have e1:dat ph 40 (.ref i)=O (.list ds):=by simp only[dat,hi,hd,acC]
 have e2:dat ph 40 (.ref j)=O (.list []):=by simp only[dat,hj,aT,acC]
 rw[e1,e2];cases ws with
 | nil=>cases hd;simp[acI,aec]
 | cons w ws=>
  unfold aT at hd;split at hd
  ·cases hd;simp[acI,aec]
  ·cases hd
theorem xJ(m:EM)(lo hi:OM)(σ:aG):cm m lo hi σ=ax (m σ) λw=>ax (lo σ) λl=>ax (hi σ) λh=>lift (j6 w l h):=rfl
theorem Wb(h:ph[i]? =O (.lst ws))(k:Nat):lift (j6 (.ref i) Z (O (k:Int))) ph=.ok (.ref ↑ph) (ph++[.lst (ws.take k)]):=by
 have:iQ ws Z (O (k:Int))=ws.take k:=by
  unfold iQ HT.bD;simp;rw[if_neg ∅];omega
 unfold lift j6;simp only[h,this]
section
variable{ph:PH}{i:Nat}{kws:bN}
theorem SR{ws:aw}(h:ph[i]? =O (.lst ws))(k:Nat):lift (j6 (.ref i) (O (k:Int)) Z) ph=.ok (.ref ↑ph) (ph++[.lst (ws.drop k)]):=by
 have:iQ ws (O (k:Int)) Z=ws.drop k:=by
  unfold iQ HT.bD;simp;rw[if_neg ∅];by_cases hk:k<=↑ws
  ·rw[agw hk,aem (by simp)]
  ·rw[Nat.min_eq_right ∅,ahB (abO _),ahB ∅,List.take_nil]
 unfold lift j6;simp only[h,this]
end
section
variable{X:Cx}{pins:List (abV×Obj)}{σ:L2.St}{H:Hp}{s:abT}
noncomputable def vw(sc:aes)(n:Str):Scope:={ sc with names:=sc.names.map λp=>if p.1==n then(p.1,.free) else p }
theorem Fo{n x:Str}:∀{l:List (Str×afk)},(l.map λp=>if p.1==n then(p.1,acy) else p).lookup x=if x==n then(l.lookup x).map λ_=>.free else l.lookup x
 | []=>by simp
 | p::l=>by
  rw[ace];obtain⟨y,k⟩:=p;have ih:=Fo (n:=n) (x:=x) (l:=l);by_cases hy:y=n
  ·subst hy;simp only[beq_self_eq_true,if_true];rw[acq,acq,ih];by_cases hx:x=y
   ·subst hx;simp
   ·have:(x==y)=false:=by simpa using hx
    simp[this]
  ·have Mf:(y==n)=false:=by simpa using hy
   simp only[Mf,aew,if_false];rw[acq,acq,ih];by_cases hx:x=y
   ·subst hx;simp[Mf]
   ·have:(x==y)=false:=by simpa using hx
    simp[this]
end
noncomputable def uo(j:Nat)(w:W)(σ:aG):aG:=(abS σ.length Z).set j (O w)
section
variable{X:Cx}
abbrev lF(X:Cx)(pn':List (abV×Obj))(E:aY)(j:Nat)(v:V):Cx:={ X with pn:=pn',xe:=E,kp:=λσ=>X.kp σ/\σ[j]? =O (O v) }
variable{σ:L2.St}{H:Hp}{E:aY}
theorem SS{pins iH pn':List (abV×Obj)}{s:abT}{j:Nat}{v:V}(I:Inv X pins σ H s)(hv:σ[j]? =O (O v))(hp:∀p∈pn'++iH,p∈X.pn++pins):Inv (lF X pn' E j v) iH σ H s:=
 ⟨⟨I.ok.mod,I.ok.kind,I.ok.glob,I.ok.blt,I.ok.above,I.ok.inj,I.ok.has,I.ok.nB,I.ok.hd,I.ok.frames,I.ok.pz,I.ok.uZ,I.ok.bs,I.ok.jX,I.ok.mU,I.ok.mV,I.ok.gz,I.ok.kK⟩,I.os,I.bare,I.base,I.loc,I.cell,I.free,I.ik,λp h=>I.pin p (hp p h),I.aA,⟨I.lk.1,I.lk.2,hv⟩⟩
theorem FO{pins iH pn':List (abV×Obj)}{s:abT}{j:Nat}{v:V}{A':adq}{xe':aY}{calm':Bool}{pn2:List (abV×Obj)}(I:Inv (lF X pn' E j v) iH σ H s)(hA:A'.frames=X.A.frames)(hh:calm'=true->A'.handled=Z)(hp:∀p∈pn2++pins,p∈pn'++iH):Inv (dg X A' pn2 xe' calm') pins σ H s:=
 ⟨⟨I.ok.mod,I.ok.kind,I.ok.glob,I.ok.blt,I.ok.above,I.ok.inj,I.ok.has,I.ok.nB,hh,hA.trans I.ok.frames,I.ok.pz,I.ok.uZ,I.ok.bs,I.ok.jX,I.ok.mU,I.ok.mV,I.ok.gz,I.ok.kK⟩,I.os,I.bare,I.base,I.loc,I.cell,I.free,I.ik,λp h=>I.pin p (hp p h),I.aA,⟨I.lk.1,I.lk.2.1⟩⟩
theorem Je{Y:Cx}{pins:List (abV×Obj)}{s:abT}(I:Inv Y pins σ H s):Inv { Y with xe:=E } pins σ H s:=
 ⟨⟨I.ok.mod,I.ok.kind,I.ok.glob,I.ok.blt,I.ok.above,I.ok.inj,I.ok.has,I.ok.nB,I.ok.hd,I.ok.frames,I.ok.pz,I.ok.uZ,I.ok.bs,I.ok.jX,I.ok.mU,I.ok.mV,I.ok.gz,I.ok.kK⟩,I.os,I.bare,I.base,I.loc,I.cell,I.free,I.ik,I.pin,I.aA,I.lk⟩
theorem Wc{Y:Cx}{x:XC}{φ:Nat->abV}{k:Nat}{H':Hp}{e:acb}{s':abT}(h:kM Y φ k x H' e s'):kM { Y with xe:=E } φ k x H' e s':=by
 obtain⟨C,dd,hm,hf,h⟩:=h;refine⟨C,dd,hm,hf,?_⟩
 rcases h with⟨pins,σ,s,h',a,e1,e2,I,hx⟩ | ⟨pins,σ,H,s,I,h⟩
 ·exact .inl ⟨pins,σ,s,h',a,e1,e2,Je I,hx⟩
 ·exact .inr ⟨pins,σ,H,s,Je I,h⟩
theorem We{j:Nat}{o:Option V}(h:σ[j]? =O o):σ.set j o=σ:=by
 obtain⟨hl,e⟩:=abL.mp h;rw[<- e];exact List.set_getElem_self hl
variable{body iJ:d8}{i0:ahZ}{c n:Str}{j:Nat}{tb:List (Str×Bool)}{D:abV}{np il pos:Pos}{mb mh:SM}
end
section
variable{X:Cx}{e o value:adA}{es:bS}{m mo mv:EM}{a:AM}{c f:Str}{C:abV}{pos pos' abx p:Pos}
theorem qr{sc:aes}{n x:Str}{kd:afk}(h:(vw sc n).names.lookup x=O kd):(x=n/\kd=.free)\/(x≠n/\sc.names.lookup x=O kd):=by
 unfold vw at h;simp only[Fo] at h;by_cases hx:x=n
 ·subst hx;simp only[beq_self_eq_true,if_true] at h;obtain⟨_,_,h⟩:=abU.mp h;exact .inl ⟨rfl,h.symm⟩
 ·have:(x==n)=false:=by simpa using hx
  rw[this] at h;exact .inr ⟨hx,h⟩
theorem Bd.aab{N:aN}{sc:aes}{k j:Nat}{n:Str}{v:V}{pn:List (abV×Obj)}{E:aY}(B:Bd X N sc k)(hj:N[j]? =O n)(hv:ju sc n)(hp:jd (acr X.prog X.w) X.A X.env E):Bd (lF X pn E j v) N (vw sc n) k:=by
 have ql:∀x,Loc (vw sc n) x->x≠n/\Loc sc x:=λx h=>by
  rcases h with h | h
  ·rcases qr h with⟨_,z⟩ | ⟨z,h⟩
   ·cases z
   ·exact⟨z,.inl h⟩
  ·rcases qr h with⟨_,z⟩ | ⟨z,h⟩
   ·cases z
   ·exact⟨z,.inr h⟩
 exact⟨⟨⟨B.hN,λx h=>by
   rcases h with h | h | h
   ·rcases qr h with⟨_,z⟩ | ⟨_,h⟩
    ·cases z
    ·exact B.iW x (.inl h)
   ·rcases qr h with⟨_,z⟩ | ⟨_,h⟩
    ·cases z
    ·exact B.iW x (.inr (.inl h))
   ·rcases qr h with⟨z,_⟩ | ⟨_,h⟩
    ·rw[z];exact B.iW n hv
    ·exact B.iW x (.inr (.inr h)),λx h=>B.loc x (ql x h).2,λx h=>by
   rcases qr h with⟨_,z⟩ | ⟨_,h⟩
   ·cases z
   ·exact B.gl x h,λx h=>⟨(B.fn x (ql x h).2).1,λi hi σ o hk=>⟨(B.fn x (ql x h).2).2 i hi σ o hk.1,by
   have hi:X.N[i]? =O x:=hi;rw[B.hN] at hi;rw[aea (λz=>(ql x h).1 (by rw[z,hj] at hi;exact(acM hi).symm))];exact hk.2⟩⟩,B.nd⟩,B.calm,B.room⟩,hp⟩
variable{body iJ:d8}{i0:ahZ}{n:Str}{tb:List (Str×Bool)}{D:abV}{np il:Pos}{mb mh:SM}
end
theorem SU(e:kl K=[]):∀p∈kl K,agQ h p.2.1 p.2.2/\h.get? p.2.2=O (aeU #[]):=λp hp=>by
 rw[e] at hp;exact nomatch hp
noncomputable def Mg(z:Str):It:=⟨λi _=>i<z.cps.size,λi H x H'=>H'=H/\∃c,z.cps[i]? =O c/\x=.str ⟨#[c]⟩,λi _=>z.cps.size<=i⟩
theorem QA{w:adl}{tg:adA}(z:Str)(t:Tok)(it:abV):Turn P w K tg (Mg z) [it] it (λi h=>h.IsStrIter it "str_ascii_iterator" z t i) where
 mem:=by simp
 obj:=λi h st b hb=>by
  have e:b=it:=by simpa using hb
  subst e;obtain⟨o,e,c,d⟩:=st;exact⟨o,e,λv z=>by rw[d] at z;cases z⟩
 keep:=λi h h' st k=>let ⟨o,ho,r⟩:=st;⟨o,k it (by simp) o ho,r⟩
 item:=by
  intro X hP hw hK hc i pins s σ H E I hf st hg;subst hP hw hK;obtain⟨f0,f1,f2,f3,f4,f5⟩:=hf it (by simp);obtain⟨c0,hx⟩:∃c,z.cps[i]? =O c:=⟨_,Array.getElem?_eq_getElem (show i<z.cps.size from hg)⟩
  refine wpAny_pyNext_ascii_item st hx λh' ej sb=>?_
  have I1:Inv X pins σ H { s with heap:=h',toks:=s.toks+1 }:=I.turned (t':=s.toks+1) (λb o hb e=>(sb.2 b hb).trans e) f0 f1 f3 f4 f5;obtain⟨o,e,c,d⟩:=id ej;exact⟨_,rfl,xT (s:={ s with heap:=h',toks:=s.toks+1 }) e c d (by decide) ⟨.str ⟨#[c0]⟩,H,I1,⟨_,rfl⟩,⟨rfl,_,hx,rfl⟩,ej,λb hb=>(hf b hb).1⟩⟩
 done:=by
  intro X hP hw hK hc i pins s σ H E I hf st hg;subst hP hw hK;obtain⟨f0,f1,f2,f3,f4,f5⟩:=hf it (by simp);exact wpAny_pyNext_ascii_end (I.ok.hd hc) st (by simpa using(show z.cps.size<=i from hg)) λh' eb=>⟨rfl,I.turned (t':=s.toks) (λb o hb e=>eb b o hb e) f0 f1 f3 f4 f5⟩
 self:=λ_ _ _ _ _ st h=>wpAny_pyIter_striter_ascii st h
section
variable{X:Cx}{tg:adA}
noncomputable def YH(tl:TE):TI:=λσ H R=>tl σ H λv H1=>∃z,v=.str z/\z.cps.all (· <128)=true/\R (Mg z) H1
variable{l:adA}
theorem Wf{tl:TE}(hl:PE X l tl):PI X tg l (YH tl):=by
 intro pins s σ H R I h;refine aW (hl pins s σ H _ I h) λv s1 ⟨x,H1,I1,r1,q1⟩=>?_
 obtain⟨z,e,ha,q⟩:=q1;subst e;obtain⟨t,rfl⟩:=r1;refine wpAny_pyIter_ascii ha ?_;refine⟨s1.heap.objs.size,[s1.heap.objs.size],_,_,H1,rfl,I1.kept (t':=s1.toks) λb o e=>abJ _ e,QA z t _,⟨_,acp _ rfl,rfl,rfl⟩,λb hb=>?_,q⟩;have e:b=s1.heap.objs.size:=by simpa using hb
 subst e;exact I1.qO (abO _) (I1.aA.fresh (abO _))
noncomputable def rh(z:Str):aw:=z.cps.toList.map λc=>.str ⟨#[c]⟩
noncomputable def CH(w:W):Po (aw×(PH->Bool)):=λph=>match w with
 | .str z=>if z.cps.all (· <128)=true then O ((rh z,λ_=>true),ph) else Z
 | _=>Z
noncomputable def ip(m:EM):IM:=λσ=>ax (m σ) λw=>lift (CH w)
theorem Wg{m:EM}(hl:IE X l m):II X tg l (ip m):=by
 refine PI.imp (Wf hl) λσ H R h=>?_
 obtain⟨φ,ph,ws,hH,hS,h⟩:=h;refine tM.bind hH hS h λw ph1 av H1 v aB s1 r1 h=>?_
 obtain⟨r,ph',e,k⟩:=run_lift h;unfold CH at e;cases r1 with
 | str z=>
  simp only at e;split at e
  ·rename_i ha;cases e;refine⟨z,rfl,ha,k av H1 _ aB s1 ?_⟩;intro bf ph2 H2 bu s2 hc j;refine⟨λw eU=>?_,λhn=>?_⟩
   ·unfold rh at eU;rw[abQ] at eU;obtain⟨c,y6,rfl⟩:=abU.mp eU;have Mh:z.cps[j]? =O c:=by rw[<- y6];simp
    refine⟨(acV.mp Mh).1,λx eQ hy=>?_⟩;obtain⟨rfl,d,hd,rfl⟩:=hy;rw[Mh] at hd;cases hd;exact⟨bu,Step.refl,.str _⟩
   ·unfold rh at hn;show z.cps.size<=j
    simpa using hn
  ·cases e
 | _=>cases e
theorem aa7{m:EM}(hl:JE X l m):JI X tg l (ip m):=⟨Wg hl.h⟩
end
noncomputable def cy(w:W)(_:PH):Bool:=match w with
 | .str _=>true
 | _=>false
theorem Wh:pF K "str" cy:=by
 intro φ ph H x vx hH rx e;unfold cy at e;cases rx with
 | str z=>rfl
 | _=>cases e
noncomputable def strOf:W->Option Str
 | .str z=>O z
 | _=>Z
theorem EY:∀{zs:aN} {us:aS},Vals (zs.map V.str) us->CarriedAll us (zs.map aha)
 | [],us,r=>by cases r;exact .nil
 | z::zs,us,r=>by
  cases r with
  | cons h r=>
   obtain⟨t,rfl⟩:=h;exact .cons (.str z t) (EY r)
theorem AR{K:abG}{φ:Nat->abV}{n:Nat}{H:Hp}:∀{ws:aw} {zs:aN} {vs:aJ},aT strOf ws=O zs->a9 K φ n H ws vs->vs=zs.map V.str
 | [],zs,vs,e,r=>by cases r;cases e;rfl
 | w::ws,zs,vs,e,r=>by
  cases r with
  | cons h r=>
   unfold aT at e;cases h with
   | str z=>
    simp only[strOf] at e;cases q:aT strOf ws with
    | none=>rw[q] at e;cases e
    | some us=>rw[q] at e;cases e;rw[AR q r];rfl
   | _=>cases e
end IL
namespace PySem
open Sem (wp)
namespace ZT
section
variable{prog:acL}{w:adl}{A:adq}{E:aY}{s:abT}
theorem Oj{h:adt}{a:abV}{xs:dC}(x:h.IsTuple a xs)(ob:Obj):(h.push ob).IsTuple a xs:=let ⟨o,ho,r⟩:=x;⟨o,abJ _ ho,r⟩
theorem M7{it l:abV}{i:Nat}{items}{x:acb}{Q:aY}(hit:s.heap.IsTupleIter it l i)(hl:s.heap.IsTuple l items)(hx:items[i]? =O x)(hQ:∀h',h'.IsTupleIter it l (i+1)->aeZ it s.heap h'->Q x { s with heap:=h' }) :
  acf (acr prog w) A (acs (.ref it)) Q E s:=by
 obtain⟨o,ho,hc,hd⟩:=id hit;obtain⟨ol,DB,_,nl,DC⟩:=hl;unfold acs;refine abF (ada (name:=abH "__next__") hit.typeIs aen
  (adv aen hit.typeIs agx ?_ (agn _)))
 show acf _ _ (aiU (.ref it) 0 >>= _) _ _ s;refine abF (acD ho hd (x:=.ref l) rfl ?_);show acf _ _ (if(acu l==acB)=true then _ else _) _ _ s;rw[if_neg (show ¬((acu l==acB)=true) from acj)];show acf _ _ (aiU (.ref it) 1 >>= _) _ _ s;refine abF (acD ho hd (x:=.int i 0) rfl ?_);show acf _ _ (seqItems? (.ref l) >>= _) _ _ s;refine abF (adT DB DC ?_);simp only[ahb,hx];refine abF (adS ho hd (by simp) (abM ⟨x,rfl,abM (hQ _ ?_ (aie ..))⟩));exact⟨_,acN _ ho (aeu (adI hd _)),(Obj.cls_mapFields ..).trans hc,by
  rw[adI hd];simp[adZ]⟩
theorem Nl{it l:abV}{i:Nat}{items}{Q:aY}(hh:A.handled=Z)(hit:s.heap.IsTupleIter it l i)(hl:s.heap.IsTuple l items)(hx:items[i]? =Z)(hE:∀h' e,aif it s.heap h'->(∃o,h'.get? e=O o/\o.cls=.type "StopIteration")->E (.ref e) { s with heap:=h' }) :
  acf (acr prog w) A (acs (.ref it)) Q E s:=by
 obtain⟨o,ho,hc,hd⟩:=id hit;obtain⟨ol,DB,_,nl,DC⟩:=hl;unfold acs;refine abF (ada (name:=abH "__next__") hit.typeIs aen
  (adv aen hit.typeIs agx ?_ (agn _)))
 show acf _ _ (aiU (.ref it) 0 >>= _) _ _ s;refine abF (acD ho hd (x:=.ref l) rfl ?_);show acf _ _ (if(acu l==acB)=true then _ else _) _ _ s;rw[if_neg (show ¬((acu l==acB)=true) from acj)];show acf _ _ (aiU (.ref it) 1 >>= _) _ _ s;refine abF (acD ho hd (x:=.int i 0) rfl ?_);show acf _ _ (seqItems? (.ref l) >>= _) _ _ s;refine abF (adT DB DC ?_);simp only[ahb,hx];refine abF (aiE (abF (adS ho hd (by simp) ?_)));show acf _ _ (newExc (.type "StopIteration") [] >>= _) _ _ _;refine abF ?_;simp only[newExc,newTuple];refine abF (adx ?_ (by size_fits));refine abF (m:=firstArgMember _ _) (wpAny_of_eq (a:=acB) (by first | rfl | (simp only[firstArgMember];rfl)) ?_);refine adx ?_ (by size_fits);simp only[raiseNew];refine abF (wpAny_handled ?_)
 first | rw[show A.in1.handled=Z from hh] | rw[hh]
 refine abF (abM (wpAny_throw ?_));exact hE _ _ (((aie ..).extBut.push _).push _) ⟨_,acp _ rfl,rfl⟩
end
end ZT
end PySem
namespace IL
open PySem PySem.Spec PyProof.Rows L2
theorem Pf:adp "zip"=O (.type "zip"):=by kernel_rfl
theorem Wi{n a b:Nat}(ha:a<n)(hb:b<n):ago (n+4) (n+2) (n+3) n (n+1) a b:=by
 constructor <;> (intro h;change @Eq Nat _ _ at h;omega)
noncomputable def yg:W->Option aw
 | .tup ws=>O ws
 | .kt ws=>O ws
 | _=>Z
noncomputable def jr(us vs:aw):aw:=(us.zip vs).map λp=>.tup [p.1,p.2]
theorem QB{us vs:aw}{j:Nat}{w:W}(h:(jr us vs)[j]? =O w):∃x y,us[j]? =O x/\vs[j]? =O y/\w=.tup [x,y]:=by
 unfold jr at h;rw[abQ] at h;obtain⟨p,hp,rfl⟩:=abU.mp h;have:=List.getElem?_zip_eq_some.mp hp;exact⟨p.1,p.2,this.1,this.2,rfl⟩
theorem Ph{us vs:aw}{j:Nat}(h:(jr us vs)[j]? =Z):↑us<=j\/↑vs<=j:=by
 unfold jr at h;have:=List.getElem?_eq_none_iff.mp h;rw[abI,aff] at this;omega
theorem FP{K:abG}{φ:Nat->abV}{n:Nat}{H:Hp}{w:W}{v:V}{ws:aw}(r:aQ K φ n H w v)(e:yg w=O ws):∃a vs,v=.ref a/\∀ak n' H',Step K φ n H ak n' H'->bX K H' a vs/\a9 K ak n' H' ws vs:=by
 cases r with
 | tup h r=>cases e;exact⟨_,_,rfl,λak n' H' s=>⟨bX.of (s.tup _ _ h),r.mono s⟩⟩
 | kt h r=>cases e;exact⟨_,_,rfl,λak n' H' s=>⟨.inr h,r.mono s⟩⟩
 | _=>cases e
end IL
namespace PySem
open Sem (wp)
namespace ZL
end ZL
end PySem
namespace IL
open PySem PySem.Spec PyProof.Rows L2
theorem SW{H:Hp}{a b:abV}{o u o':HO}(h:b≠a):upd (upd (upd H a o) b u) a o'=upd (upd H b u) a o':=by
 funext c
 by_cases h1:c=a
 ·rw[h1,bU,bU]
 ·rw[bF h1,bF h1];by_cases h2:c=b
  ·rw[h2,bU,bU]
  ·rw[bF h2,bF h2,bF h1]
end IL
namespace PyProof.Rows
open PySem PySem.Spec PySem.Calls PyProof.V
namespace KTD
section
variable{prog:acL}{w:adl}{A:adq}{E:aY}{s:abT}{δ:Type}{R:δ->acb->Prop}{a:abV}{D:List (Str×δ)}{k:Str}{tk:Tok}
theorem pK(T:TabOf R s.heap a D):s.TypeIs (.ref a) "dict":=let ⟨_,o,_,_,ho,hc,_⟩:=T;⟨o,ho,hc.1⟩
theorem EJ{Q:fQ->abT->Prop}(T:TabOf R s.heap a D)(h1:∀d v,datumAt k D=O d->R d v->Q (O v) { s with toks:=s.toks+1 })(h2:datumAt k D=Z->Q Z { s with toks:=s.toks+1 }) :
  acf (acr prog w) A (dictGet a (.str k tk)) Q E s:=by
 obtain⟨_,o,es,ep,ho,hc,hd,hr⟩:=T;unfold dictGet
 try with_reducible refine acJ ?_
 refine abF (wpAny_pyHash_str (abF (kt_dictFind_strs (s:={ s with toks:=s.toks+1 }) ho hd (by obtain⟨l⟩:=es;simpa using hr.exact) ?_)));have hq:Q (findBy (λk v=>v.isStr k) es k) { s with toks:=s.toks+1 }:=by
  have hf:findBy (λk v=>v.isStr k) es k=(es.toList.find? λe=>e.key.isStr k).map (·.val):=by
   obtain⟨l⟩:=es;simp[findBy]
  rw[hf];cases pJ:datumAt k D with
  | some d=>obtain⟨v,hv,fE⟩:=hr.find_some pJ;rw[hv];exact h1 d v pJ fE
  | none=>rw[hr.find_none pJ];exact h2 pJ
 rw[findBy_of_findIdx?] at hq;cases hi:es.findIdx? λe=>e.key.isStr k with
 | none=>rw[hi] at hq;exact abM hq
 | some i=>rw[hi] at hq;exact abF (wpAny_dictEntries (s:={ s with toks:=s.toks+1 }) ho hd (abM hq))
theorem NZ{value slice:adA}{Q:aY}(T:TabOf R s.heap a D)(aac:inKeys k D=true)(h:∀d v,datumAt k D=O d->R d v->Q v { s with toks:=s.toks+1 })
  (hs:aib slice false (.ref a) (.str k tk)=operate [.ref a,.str k tk] (aia (.ref a) (.str k tk)):=by with_unfolding_all rfl) (hg:∀r,letTemporaryGo value (.ref a) r=pure ():=by intro _;with_unfolding_all rfl) :
  acf (acr prog w) A (ahh value slice (.ref a) (.str k tk)) Q E s:=by
 refine subscriptTail_builtin (pK T) ahc.lookup ?_ hs hg;unfold aia
 try with_reducible refine acJ ?_
 refine abF (wpAny_sequenceKey (pK T) (by decide) ?_);refine abF (ada (name:=abH "__getitem__") (pK T) ahc
  (adv ahc (pK T) entry_dict_getitem ?_ (args_dict_getitem _ _)))
 show acf _ _ (dictGet a (.str k tk) >>= _) _ _ s;exact abF (EJ T (λd v ha hv=>abM ⟨v,rfl,abM (h d v ha hv)⟩) λhn=>absurd hn (at_of_mem aac))
theorem NL{Q:aY}(T:TabOf R s.heap a D)(h:Q (.bool (!inKeys k D)) { s with toks:=s.toks+1 }):acf (acr prog w) A (acU .NotIn (.str k tk) (.ref a)) Q E s:=by
 show acf _ _ (do return .bool (!(<- contains (.ref a) (.str k tk)))) Q E s;refine abF ?_;unfold contains
 try with_reducible refine acJ ?_
 refine abF (wpAny_specialOf (pK T) agL.lookup ?_);show acf _ _ (if(O (Value.builtin "dict.__contains__")==O acB)=true then _ else _) _ E s;rw[if_neg (by rw[beq_builtin_none];exact acj)];refine abF (wpAny_callSpecialUnlessNone?_slot (name:=abH "__contains__") (pK T) agL
  (adv agL (pK T) entry_dict_contains ?_ (args_dict_contains _ _)))
 show acf _ _ (dictGet a (.str k tk) >>= _) _ _ s;refine abF (EJ T (λd v ha _=>?_) λhn=>?_)
 ·have hb:inKeys k D=true:=by rw[<- isSome_datumAt,ha];rfl
  rw[hb] at h;show acf _ _ (ret (.bool true)) _ _ _;exact abM ⟨_,rfl,adn (abM h)⟩
 ·have hb:inKeys k D=false:=by rw[<- isSome_datumAt,hn];rfl
  rw[hb] at h;show acf _ _ (Builtin.Dict.pendingKey? a (.str k tk) >>= _) _ _ _;exact abF (wpAny_pendingKey_other T.1 (abM ⟨_,rfl,adn (abM h)⟩))
end
end KTD
end PyProof.Rows
namespace PySem.Txt
theorem join_eq(z:Str)(l:aN):ait z l=aiW z l:=StrLaws.glued_eq_join z l
end PySem.Txt
namespace IL
open PySem PySem.Spec PyProof.Rows L2
noncomputable def iL(k:Str):List (Str×aN)->Option aN
 | []=>Z
 | (x,d)::D=>if decide (k=x)=true then O d else iL k D
noncomputable def yh(D:List (Str×aN))(w:W):Po W:=λph=>match w with
 | .str k=>(iL k D).map λl=>(.kt (l.map W.str),ph)
 | _=>Z
noncomputable def uq(D:List (Str×aN))(m:EM):EM:=λσ=>ax (m σ) λw=>lift (yh D w)
noncomputable def yH(f:Bool->Bool)(D:List (Str×aN))(w:W):Po W:=λph=>match w with
 | .str k=>O (.bl (f (iL k D).isSome),ph)
 | _=>Z
noncomputable def B6(D:List (Str×aN))(m:EM):EM:=λσ=>ax (m σ) λw=>lift (yH (λb=> !b) D w)
noncomputable def rj(x y:W):Po W:=λph=>match x,y with
 | .str k,.kt ws=>(aT strOf ws).map λzs=>(.bl (decide (k∈zs)),ph)
 | _,_=>Z
noncomputable def lG(x y:W):Po W:=λph=>match x,y with
 | .str k,.str z=>O (.bl (!(adg z k 0 ↑z 1).isEmpty),ph)
 | _,_=>Z
noncomputable def aa8(d k1 v1 k2 v2:W):Po W:=λph=>match d with
 | .ref i=>match ph[i]? with
  | some (.bI [])=>if(kG k1).isSome=true/\(kG k2).isSome=true then O (.ref i,ph.set i (.bI (je (je [] k1 v1) k2 v2))) else Z
  | _=>Z
 | _=>Z
theorem Aq(k:Str):∀D:List (Str×aN),KTD.datumAt k D=iL k D
 | []=>rfl
 | (x,d)::D=>by unfold KTD.datumAt iL;rw[Aq k D]
theorem FQ(k:Str)(D:List (Str×aN)):KTD.inKeys k D=(iL k D).isSome:=by rw[<- KTD.isSome_datumAt,Aq]
noncomputable def oO:aN->List acb->Bool
 | [],[]=>true
 | x::xs,.str y _::vs=>(y==x)&&oO xs vs
 | _,_=>false
theorem Fp:∀{l:aN} {vs:aS},oO l vs=true->Vals (l.map V.str) vs
 | [],[],_=>.nil
 | [],_::_,h=>by simp[oO] at h
 | _::_,[],h=>by simp[oO] at h
 | x::xs,v::vs,h=>by
  cases v with
  | str y t=>
   unfold oO at h;rw[abK] at h;obtain⟨h1,h2⟩:=h;obtain rfl:=beq_iff_eq.mp h1;exact .cons ⟨t,rfl⟩ (Fp h2)
  | _=>simp[oO] at h
noncomputable def rO(K:abG)(l:aN)(v:acb):Bool:=match v with
 | .ref a=>match K.lookup a with
  | some o=>(o.cls==.type "tuple")&&(match o.data with
   | .seq its _=>Nat.ble its.size acd&&oO l its.toList
   | _=>false)
  | none=>false
 | _=>false
variable{K:abG}
theorem HC{l:aN}{a:abV}(h:rO K l (.ref a)=true):m9 K a (l.map V.str):=by
 unfold rO at h;simp only at h;split at h
 ·rename_i o ho;rw[abK] at h;obtain⟨h1,h2⟩:=h;split at h2
  ·rename_i its n hd;rw[abK] at h2;exact⟨o,its,n,ho,beq_iff_eq.mp h1,hd,acR h2.1,Fp h2.2⟩
  ·cases h2
 ·cases h
theorem SX{l:aN}{v:acb}(h:rO K l v=true):∃a,v=.ref a/\m9 K a (l.map V.str):=by
 cases v with
 | ref a=>exact⟨a,rfl,HC h⟩
 | _=>cases h
noncomputable def KTab(K:abG)(a:abV)(D:List (Str×aN)):Prop:=
 ∀h:adt,(∀b o,K.lookup b=O o->h.get? b=O o)->KTD.TabOf (λ(l:aN) v=>∃b,v=.ref b/\m9 K b (l.map V.str)) h a D
theorem SY{a:abV}{D:List (Str×aN)}(h:KTD.tabLook (rO K) (λb=>K.lookup b) a D=true):KTab K a D:=λ_ hg=>KTD.tab_of_look (λ_ _ q=>SX q) hg h
theorem Ax{K:abG}{φ:Nat->abV}{n:Nat}{H:Hp}:∀{l:aN},a9 K φ n H (l.map W.str) (l.map V.str)
 | []=>.nil
 | x::_=>.cons (.str x) Ax
section
variable{X:Cx}{x:Str}{ka:abV}{D:List (Str×aN)}{l:aN}{b:adA}{m:EM}{p pos:Pos}
theorem aa9(hg:Gl X x)(hm:X.mg x=O (.ref ka))(hk:m9 X.K ka (l.map V.str))(hd:(x==("__debug__":Str))=false):JE X (.Name x pos) (eC (.kt (l.map W.str))):=⟨oW (oh (v:=.ref ka) hg hm rfl hd) λ_ _ _=>.kt hk Ax⟩
theorem aaV(hg:Gl X x)(hm:X.mg x=O (.ref ka))(T:KTab X.K ka D)(hd:(x==("__debug__":Str))=false)(hs:qf b)(hb:JE X b m):JE X (.Subscript (.Name x p) b pos) (uq D m):=by
 refine⟨?_⟩;intro pins s σ H Q I h;refine Subscript_ (yp (R:=λx y H2=>x=.ref ka/\∃k l,y=.str k/\iL k D=O l/\∀b,m9 X.K b (l.map V.str)->Q (.ref b) H2) (oh (v:=.ref ka) hg hm rfl hd) hb.h I ?_ λv u s2 x y H2 I2 rx ry q=>?_)
 ·obtain⟨φ,ph,ws,hH,hS,h⟩:=h;show tM X m σ H _;refine tM.bind hH hS h λw ph1 av H1 v aB s1 r1 h=>⟨rfl,?_⟩
  obtain⟨w2,ph2,e,k⟩:=run_lift h;unfold yh at e;cases r1 with
  | str z=>
   simp only at e;cases q:iL z D with
   | none=>rw[q] at e;cases e
   | some l=>rw[q] at e;cases e;exact⟨z,l,rfl,q,λb hb=>k av H1 _ aB s1 (.kt hb Ax)⟩
  | _=>cases e
 ·obtain⟨rfl,k,l,rfl,hl,q⟩:=q;cases rx;obtain⟨t,rfl⟩:=ry;refine KTD.NZ (T s2.heap λb o e=>I2.cS b o e) (by rw[FQ,hl];rfl) (λd v kL hv=>?_) (hs _ _);rw[Aq,hl] at kL;cases kL;obtain⟨b,rfl,hk⟩:=hv;exact⟨.ref b,H2,I2.tok _,rfl,q b hk⟩
abbrev CI(ka:abV)(D:List (Str×aN))(f:Bool->Bool):R2:=λx y H Q=>∃k,x=.str k/\y=.ref ka/\Q (.bl (f (iL k D).isSome)) H
theorem S0(T:KTab X.K ka D):bH X (acU .NotIn) (CI ka D λb=> !b):=by
 intro pins s σ H x y v u Q I rx ry h;obtain⟨k,rfl,rfl,q⟩:=h;cases ry;obtain⟨t,rfl⟩:=rx;exact KTD.NL (T s.heap λb o e=>I.cS b o e) ⟨.bl _,H,I.tok _,rfl,by rw[FQ];exact q⟩
theorem S1{f:Bool->Bool}{σ:L2.St}{H:Hp}{Q:VK}(h:tM X (λσ=>ax (m σ) λw=>lift (yH f D w)) σ H Q):pB (CI ka D f) (tM X m) (tC (.ref ka)) σ H Q:=by
 obtain⟨φ,ph,ws,hH,hS,h⟩:=h;refine tM.bind hH hS h λw ph1 av H1 v aB s1 r1 h=>?_
 obtain⟨w2,ph2,e,k⟩:=run_lift h;unfold yH at e;cases r1 with
 | str z=>cases e;exact⟨z,rfl,rfl,k av H1 _ aB s1 (.bl _)⟩
 | _=>cases e
theorem QC{f:Bool->Bool}{σ:L2.St}{H:Hp}{Q:Bool->Hp->Prop}(h:tT X (eT (λσ=>ax (m σ) λw=>lift (yH f D w))) σ H Q):BR (pB (CI ka D f) (tM X m) (tC (.ref ka))) σ H Q:=by
 obtain⟨φ,ph,ws,hH,hS,h⟩:=h;refine S1 (tM.bind hH hS h λx ph1 av H1 vx aB s1 rx h=>?_);obtain⟨w,ph',e,k⟩:=run_lift h;split at e
 ·cases e;cases rx;exact⟨_,rfl,k av H1 aB s1⟩
 ·cases e
theorem aaW(hg:Gl X x)(hm:X.mg x=O (.ref ka))(T:KTab X.K ka D)(hd:(x==("__debug__":Str))=false)(hk:adB .NotIn (.Name x p)=false)(hb:JE X b m):JT X (.Compare b [.NotIn] [.Name x p] pos) (eT (B6 D m)):=
 ⟨PT.imp (G9 (S0 T) hb.h (oh (v:=.ref ka) hg hm rfl hd) hk) λ_ _ _ h=>QC h⟩
end
theorem HD(k:Str):∀zs:aN,L2.fD (.str k) (zs.map V.str)=decide (k∈zs)
 | []=>rfl
 | z::zs=>by
  have ih:=HD k zs;unfold L2.fD at ih ⊢;rw[ace,acO,ih];show((z==k)||_)=_;by_cases h:z=k
  ·subst h;simp
  ·have h':¬k=z:=λe=>h e.symm
   simp[h,h']
theorem Pj(zs:aN):(zs.map V.str).all lg=true:=by
 rw[acA];intro x hx;obtain⟨z,_,rfl⟩:=ach.mp hx;rfl
theorem Wj:cK K (LH K false) rj:=by
 intro φ ph H x y vx vy w ph' Q hH rx ry e k;unfold rj at e;cases rx with
 | str z=>
  cases ry with
  | kt h r=>
   simp only at e;rename_i ws a vs;cases q:aT strOf ws with
   | none=>rw[q] at e;cases e
   | some zs=>
    rw[q] at e;cases e;have:=AR q r;subst this;refine⟨a,_,rfl,.inr (.inr h),rfl,Pj zs,?_⟩;have e2:=HD z zs;simp only[aew,if_false];rw[e2];exact k φ H _ hH Step.refl (.bl _)
  | _=>cases e
 | _=>cases e
theorem Wk:cK K (λx y H Q=>∃i j,x=.str i/\y=.str j/\Q (.bl (!(adg j i 0 ↑j 1).isEmpty)) H) lG:=by
 intro φ ph H x y vx vy w ph' Q hH rx ry e k;unfold lG at e;cases rx with
 | str z=>
  cases ry with
  | str y=>cases e;exact⟨z,y,rfl,rfl,k φ H _ hH Step.refl (.bl _)⟩
  | _=>cases e
 | _=>cases e
variable{X:Cx}
theorem aba{b:adA}(h:adB .In b=false):Cp X .In b rj:=⟨⟨_,OS,Wj⟩,h⟩
theorem abb{b:adA}(h:adB .In b=false):Cp X .In b lG:=⟨⟨_,OL,Wk⟩,h⟩
noncomputable def Wl(lV:List (TE×TE)):TE:=λσ H Q=>∀p,H p=Z->xy lV σ (upd H p (.dK [])) λps H2=>(H2 p=O (.dK [])\/H2 p=O (.dT []))/\∃kvs:dc,ps=kvs.map (λkv=>(kV kv.1,kv.2))/\↑kvs<=15/\Q (.ref p) (upd H2 p (.dK (i6 [] kvs)))
theorem QD{pos:Pos}{keys:List (Option adA)}{values:bS}{lV:List (TE×TE)}(h:u7 X pos keys values lV)(oV:keys.all (·.isSome)=true)(hl:↑keys=↑values)(h0:keys≠[])(rP:↑keys<=15):PE X (.Dict keys values pos) (Wl lV):=by
 intro pins s σ H Q I q;have hn:=I.aA.fresh (abO s.heap.objs.size);have I1:=I.laid (a:=s.heap.objs.size) (o:=.dK []) (h':=s.heap.push { cls:=.type "dict",data:=.dict #[] }) (t':=s.toks) (λ_ _ q=>abJ _ q) (abO _) (Gp s.heap I.big);refine wpAny_Dict_walk (knd:=dm X.prog X.w) oV hl h0 rP (aW (h pins _ σ _ _ I1 (q _ hn)) λws s2 ⟨ps,H2,I2,rel,e,kvs,ep,lk,q2⟩=>?_);subst ep;obtain⟨H3,I3,e3,u3⟩:∃H3,Inv X pins σ H3 s2/\H3 s.heap.objs.size=O (.dK [])/\∀o,upd H3 s.heap.objs.size o=upd H2 s.heap.objs.size o:=by
  rcases e with e | e
  ·exact⟨H2,I2,e,λ_=>rfl⟩
  ·exact⟨_,oC I2 e,bU,λ_=>xn⟩
 obtain⟨rs,c,rk⟩:=Fi (P:=X.prog) (w:=X.w) rel;obtain⟨z,hd,vs0,r0,dd⟩:=mM I3.aA e3;cases r0;refine⟨rs,c,dd,λh' iT hs=>⟨.ref s.heap.objs.size,_,?_,rfl,q2⟩⟩;have hz:(i6 [] kvs).length<=sizeLine:=by
  have h1:=Ad kvs [];rw[acS] at h1;rw[afB];omega
 have he:∃q,h'.get? s.heap.objs.size=O q:=let ⟨q,_,_,hq,_⟩:=iT;⟨q,hq⟩
 rw[<- u3];exact xo I3 (by rw[e3];exact aeT) hs he (Bx hz hd (rk.merge .nil) iT)
end IL
namespace PySem
open Sem (wp)
namespace W
section
variable{prog:acL}{w:adl}{A:adq}{R:Result->abT->Prop}{h:adt}{g:Array GenState}{d:Drawn}{t:Nat}{os:OsState}
variable{nm q:Str}{C N f:abV}{bs bm f6:aS}{hdct:Bool}{sn:aN}{sub:aS}{ab:Bool}{col:Option Bool}{dd:ce}{k0 k1 k2 k3 k5:fQ}{B Bn newId zm xK zo:String}{zp:aS}
theorem NB(Fn:age Bn newId zo zp)(rQ:f6.contains (.type Bn)=true)(F:age B zm xK f6)(T:OwnTail h f6 bm){rest:aS}{Q:Fin->abT->Prop}{E:aY}(hC:h.get? C=O (afE nm q C N bs bm hdct sn sub ab col dd k0 k1 k2 k3 k5 newId))(hi:aid (acr prog w) h (agY (.ref C) "__init__") (O (.ref f)))(hb:∀self,aid (acr prog w) h (bindSpecial (.ref f) self) (.ref f,[self]))(hq:acf (acr prog w) A (call (.ref f) (.ref (h.objs.size+1)::rest)) (λv s'=>v=.none/\Q (.done (.ret (.ref (h.objs.size+1)))) s') E ⟨(h.push { cls:=.type "tuple",data:=.seq rest.toArray }).push { cls:=.ref C,data:=.fields #[.ref h.objs.size,.none,.none,.none,.bool false,.none] },g,d,t,os⟩)(hrest:↑rest<=sizeLine:=by size_fits) :
  acf (acr prog w) A (afD.«type.__call__» ⟨.ref C::rest,[]⟩) Q E ⟨h,g,d,t,os⟩:=by
 repeat (first | with_reducible refine adP hC ?_ | with_reducible refine wpAny_madeBy_exc hC ?_ | wp_step)
 refine codeAny_call_builtin_code (agJ _ Fn.quiet) (wpAny_check_new_subU Fn rQ T hC ?_);refine codeAny_exc_new_subU Fn rQ F T hC ?_ hrest;show acf _ _ _ _ _ _;have k:∀b o,h.get? b=O o->((h.push { cls:=.type "tuple",data:=.seq rest.toArray }).push { cls:=.ref C,data:=.fields #[.ref h.objs.size,.none,.none,.none,.bool false,.none] }).get? b=O o:=λb o e=>abJ _ (abJ _ e)
 have aar:=k _ _ hC;have CJ:((h.push { cls:=.type "tuple",data:=.seq rest.toArray }).push
   { cls:=.ref C,data:=.fields #[.ref h.objs.size,.none,.none,.none,.bool false,.none] }).get? (h.objs.size+1)=O
   { cls:=.ref C,data:=.fields #[.ref h.objs.size,.none,.none,.none,.bool false,.none] }:=by heap_get
 have hcC:(acu C::bm).contains (.ref C)=true:=by simp
 have i1:=hi.keeps k;have b1:=(hb (.ref (h.objs.size+1))).keeps k;unfold ahQ
 repeat (first | with_reducible refine adP CJ ?_ | (with_reducible refine agy aar ?_;rw[hcC]) | wp_step)
 show acf _ _ (agY (.ref C) _) _ _ _;refine i1.at ?_;refine acJ (abF (b1.at ?_));refine abF (acW hq (λv s' z=>?_) λ_ _ z=>z);obtain⟨rfl,z⟩:=z;exact abM (abM z)
theorem QE(Fn:age Bn newId zo zp)(rQ:f6.contains (.type Bn)=true)(F:age B zm xK f6)(T:OwnTail h f6 bm){rest:aS}{Q:aY}{E:aY}
  (hC:h.get? C=O (afE nm q C N bs bm hdct sn sub ab col dd k0 k1 k2 k3 k5 newId)) (hi:aid (acr prog w) h (agY (.ref C) "__init__") (O (.ref f))) (hb:∀self,aid (acr prog w) h (bindSpecial (.ref f) self) (.ref f,[self]))
  (hq:ahG (acr prog w) (A.under (.builtin "type.__call__" ⟨.ref C::rest,[]⟩)) (.call (.ref f) ⟨.ref (h.objs.size+1)::rest,[]⟩) (λr s'=>match r with
    | .error e=>E e s'
    | .ok (.ret v)=>v=.none/\Q (.ref (h.objs.size+1)) s'
    | .ok _=>False)
   ⟨(h.push { cls:=.type "tuple",data:=.seq rest.toArray }).push { cls:=.ref C,data:=.fields #[.ref h.objs.size,.none,.none,.none,.bool false,.none] },g,d,t,os⟩) (hrest:↑rest<=sizeLine:=by size_fits) :
  acf (acr prog w) A (call (.ref C) rest) Q E ⟨h,g,d,t,os⟩:=by
 have f1:=tc_lookup;have f2:=tc_bind (.ref C);have hT:(⟨h,g,d,t,os⟩:abT).TypeIs (.ref C) "type":=⟨_,hC,rfl⟩
 refine agr (codeAny_of_tree ?_);show acf _ _ (callAny (.ref C) _) _ _ _
 repeat (any_goals (first | assumption | with_reducible refine adP hC ?_ | wp_step))
 refine⟨rfl,?_⟩;refine codeAny_call_builtin_at (agJ _ (by decide +kernel)) entry_typeCall (wpAny_check_type_call_sub hC (NB (hrest:=hrest) Fn rQ F T hC hi hb ?_));refine agr (agI hq λr s' z=>?_)
 rcases r with e | (v | _ | _ | _) <;> exact z
end
end W
end PySem
namespace IL
open PySem PySem.Spec PyProof.Rows L2
noncomputable def kr(K:abG)(C f:abV)(f6:aS)(newId:String):Bool:=match K.lookup C with
 | some ⟨.type "type",_,.cls cd,sl⟩=>(match cd.mro,sl.toList with
  | .ref C'::bm,[_,_,_,_,O (.builtin n),_]=>C'==C&&n==newId&& !cd.hasDel&&PySem.W.tailIn K f6 bm&&cd.hasDict&&acx K cd.ns "__init__"==O (O (.ref f))
  | _,_=>false)
 | _=>false
variable{K:abG}{h:adt}{C f:abV}
theorem AS{f6:aS}{newId:String}(cR:K.In h)(q:kr K C f f6 newId=true):∃bm N nm qn bs sn sub ab col dd k0 k1 k2 k3 k5,h.get? C=O (afE nm qn C N bs bm true sn sub ab col dd k0 k1 k2 k3 k5 newId)/\OwnTail h f6 bm:=by
 unfold kr at q;split at q
 case h_2=>cases q
 case h_1 dd cd sl ho=>
  split at q
  case h_2=>cases q
  case h_1 C' bm k0 k1 k2 k3 n k5 hm hs=>
   rw[abK,abK,abK,abK,abK] at q;obtain⟨⟨⟨⟨⟨q1,q2⟩,q3⟩,q4⟩,q5⟩,q6⟩:=q;cases beq_iff_eq.mp q1;cases beq_iff_eq.mp q2;have q3:cd.hasDel=false:=by simpa using q3
   cases cd with
   | mk nm bs mro ns qn hd sn sub ab col del=>
    cases(show mro=_ from hm);cases(show del=_ from q3);cases(show hd=true from q5);cases sl with
    | mk l=>
     cases(show l=_ from hs);exact⟨bm,ns,nm,qn,bs,sn,sub,ab,col,dd,k0,k1,k2,k3,k5,cR _ _ ho,ais cR q4⟩
noncomputable def fX(C x:abV)(dd:ce):HO:=.ext λh=>∃t,h.get? x=O (gi C dd t)
variable{H:Hp}{dd:ce}
theorem Bg{P:acL}{w:adl}{x t:abV}(e:h.get? x=O (gi C dd t)):cZ P w H h x (fX C x dd):=
 ⟨⟨t,e⟩,⟨_,e⟩,λ_ _ ⟨t,q⟩ k=>⟨t,k _ q⟩⟩
theorem xt{P:acL}{w:adl}{x:abV}(ok:cI P w H h)(e:H x=O (fX C x dd)):∃t,h.get? x=O (gi C dd t):=(ok x _ e).1
section
variable{X:Cx}{pins:List (abV×Obj)}{σ:L2.St}{H:Hp}{s:abT}{C x f:abV}{A:adq}{E:aY}
theorem Pk{Q:aY}{us:aS}(hC:kr X.K C f fu "ValueError.__new__"=true)(I:Inv X pins σ H s)(e:H x=O (fX C x Z))(hl:↑us<=1000)(h:∀s',Inv X pins σ (upd H x (fX C x Z)) s'->Q .none s'):acf (acr X.prog X.w) A (call (.builtin "ValueError.__init__") (.ref x::us)) Q E s:=by
 obtain⟨bm,N,nm,qn,bs,sn,sub,ab,col,dd,k0,k1,k2,k3,k5,o1,T⟩:=AS I.cS hC;obtain⟨t,ex⟩:=xt I.aA e;have F:=adf;obtain⟨hh,g,d,tk,os⟩:=s;refine agr (aeF F.init.plain F.initEntry (wpAny_check_init_subU F T o1 ex rfl ?_));unfold afD.«BaseException.__init__»
 dsimp only
 rw[if_neg (by simp)];unfold newTuple aiV;have DD:=abJ (h:=hh) { cls:=.type "tuple",data:=.seq us.toArray } ex;refine abF (adx (abF (abF (acD DD rfl (x:=.ref t) rfl (abF (adS DD rfl (by simp) ?_))))) (by show us.toArray.size<=acd;rw[aca,afB];omega));refine ahn (abM (h _ ?_));have Mi:((hh.push { cls:=.type "tuple",data:=.seq us.toArray }).update x (acK (·.setIfInBounds 0 (.ref hh.objs.size)))).get? x=O (gi C Z hh.objs.size):=acN _ DD rfl;have I1:Inv X pins σ H { heap:=hh.push { cls:=.type "tuple",data:=.seq us.toArray },gens:=g,drawn:=d,toks:=tk,os:=os }:=I.kept (t':=tk) λb u q=>abJ _ q
 exact I1.write (x:=x) (e:=x) (t':=tk) (by rw[e];trivial) (.inl rfl) (λb u hb q=>(acl _ _ (adD hb)).trans q) ⟨_,Mi⟩ (Bg Mi)
end
theorem Bh(a b:Str):(a++b).length=↑a+↑b:=strLen_append a b
theorem Wm{a:Int}(h:a.natAbs<2 ^ 64):(abH (toString a)).length<=1000/\a.natAbs.log2<1920:=by
 have h0:a.natAbs.log2<64:=by
  by_cases z:a.natAbs=0
  ·rw[z];decide
  ·exact(Nat.log2_lt z).mpr h
 have:=int_text_length_le (a:=a) (k:=64) (by decide) h0;refine⟨?_,∅⟩;rw[PySem.ofString_length];omega
section
variable{X:Cx}{e:adA}{tv:TE}{z:Str}{j:Nat}{p1 p2 pos:Pos}
noncomputable def S2(tv:TE):TE:=λσ H Q=>tv σ H λv H1=>((∃a:Int,v=.int a/\a.natAbs<2 ^ 64)\/v=.ay)/\∀y,Q (.str y) H1
theorem Pl(hz:↑z<=1000)(hv:PE X e tv):PE X (.JoinedStr [.Constant (.str z) j p1,.FormattedValue e (-1) Z p2] pos) (S2 tv):=by
 intro pins s σ H Q I h;refine JoinedStr_many (joinParts_cons ?_);refine aW (Iu (x:=z) pins s σ H (λv H1=>v=.str z/\H1=H) I ⟨rfl,rfl⟩) λu s1 ⟨v,H1,I1,r,e1,e2⟩=>?_
 subst e1 e2;obtain⟨t,rfl⟩:=r;have l0:(Str.empty++z).length<=1000:=by rw[Bh];show 0+↑z<=1000;omega
 have big:∀{n:Nat},n<=2000->n<=sizeLine:=λh=>abX h (by decide)
 refine⟨big ∅,joinParts_cons (FormattedValue_plain (aW (hv pins s1 σ H1 _ I1 h) λu s2 ⟨v,H2,I2,r,hv,q⟩=>?_))⟩
 rcases hv with⟨a,rfl,ha⟩ | rfl
 ·obtain⟨t',rfl⟩:=r;obtain⟨l1,l2⟩:=Wm ha;have l3:((Str.empty++z)++abH (toString a)).length<=sizeLine:=big (by rw[Bh];omega);exact formatField_int_small l2 ⟨l3,joinParts_nil ⟨.str _,H2,I2.tok _,⟨_,rfl⟩,q _⟩ l3⟩
 ·cases r;have l3:((Str.empty++z)++abH "None").length<=sizeLine:=big (by rw[Bh];show _+4<=2000;omega);exact wpAny_formatField_none ⟨l3,joinParts_nil ⟨.str _,H2,I2.tok _,⟨_,rfl⟩,q _⟩ l3⟩
end
section
variable{X:Cx}{c:Str}{C C0 f:abV}{a b:adA}{ta:TA}{np apos pos:Pos}{pl:Sem Bool}
noncomputable def Wn(C:abV)(ta:TA):TE:=λσ H Q=>ta σ H λvs H1=>∃x u,vs=[.ref x,u]/\H1 x=O (fX C x Z)/\Q .ay (upd H1 x (fX C x Z))
structure B7(K:abG)(C0:abV):Prop where
 ga:aiF K (.ref C0) "__getattribute__"=O (O (.builtin "type.__getattribute__"))
 rd:PySem.W.readsIn K C0 (.type "type")=true
 fi:PySem.W.findCls K (.ref C0) (.type "type") "__init__"=O (.val (.builtin "ValueError.__init__"))
theorem N0:aiT (.builtin "ValueError.__init__")=true:=by decide +kernel
theorem QF(B:B7 X.K C0)(hC:kr X.K C f fu "ValueError.__new__"=true)(hg:Gl X c)(hm:X.mg c=O (.ref C0))(bR:(c==("__debug__":Str))=false)(ha:PA X [a,b] ta)
  (c7:acv [a,b] X.env=(false,aeX a X.env)::acv [b] X.env) (hpl:(afv pos (acv [b] X.env)).any (·.1)=false)
  (ht:aeX (.Call (.Attribute (.Name c np) "__init__" apos) [a,b] [] pos) X.env=(do
   let ov <- aeX (.Name c np) X.env
   standAt apos.atName
   let (f,first) <- ags [ov] (getMethod ov "__init__" pl)
   callWith pos f first (afv pos (acv [a,b] X.env)) (backToKw pos (ahj [] X.env)))) :
  PE X (.Call (.Attribute (.Name c np) "__init__" apos) [a,b] [] pos) (Wn C ta):=by
 intro pins s σ H Q I h;refine PySem.W.methodCall_KW (pl:=pl) (aW (oh (v:=.ref C0) hg hm rfl bR pins s σ H (λv H1=>v=.ref C0/\H1=H) I ⟨rfl,rfl⟩) λu s1 ⟨v,H1,I1,rx,e1,e2⟩=>?_) ht;subst e1 e2;obtain rfl:u=acu C0:=rx;refine PySem.W.method_cls I1.cS B.ga (PySem.W.cls_value I1.cS B.rd B.fi N0 ?_);have I2:=I1.tok (s1.toks+1);refine agb (aW (ha pos pins _ σ H1 _ I2 h) λus s2 ⟨vs,H2,I3,r1,x,u,ev,ex,q⟩=>?_) c7 hpl;subst ev;obtain⟨u1,u2,rfl,r1,r2⟩:=Vals.two r1;cases r1;exact Pk hC I3 ex (by show 1<=1000;decide) λs' I4=>⟨.ay,_,I4,rfl,q⟩
end
open PySem PySem.Spec PyProof.Rows L2 PySem.W
open Builtin Builtin.ObjectAttr
noncomputable def tW:aS->List acb
 | .ref _::r=>tW r
 | l=>l
theorem EQ(self:acb)(CK:Str):∀l:aS,refuseLoop self CK l=refuseLoop self CK (tW l)
 | []=>rfl
 | v::r=>by
  cases v with
  | ref c=>rw[refuseLoop_ref];exact EQ self CK r
  | _=>rfl
theorem Pm(self:acb):refuseLoop self "__setattr__" fu=pure ():=PySem.F.store_ValueError.passes self
theorem Fq:∀{l:aS},tW l=fu->l.contains (.type "object")=true
 | [],h=>by cases h
 | v::r,h=>by
  cases v with
  | ref c=>rw[agM,Fq (l:=r) h,aiR]
  | _=>
   have h:(_:acb)::r=fu:=h;rw[h]
   decide
structure vB(K:abG)(C:abV)(name:Str):Prop where
 sa:air K (.ref C) "__setattr__"=O (O (.builtin "object.__setattr__"))
 cd:∃cd,clsIn K C=O cd/\cd.hasDict=true/\tW cd.mro=fu
 ta:takerIn K C name=O Z
section
variable{prog:acL}{w:adl}{A:adq}{E:aY}{s:abT}{K:abG}{x C t:abV}{name:Str}{v:acb}
theorem S3{ox:Obj}{od:Option Obj}{tk:Tok}{R:Result->abT->Prop}(X:K.In s.heap)(I:InstAt s.heap x ox C od)(S:vB K C name)(h:∀b,acf (acr prog w) A.in1 (storeInOwnDict (.ref x) (.ref C) (.str name tk) name v b) (λfin s'=>match fin with | .done f=>R (.ok f) s' | .again c'=>c'.quiet=true/\ahG (acr prog w) A c' R s') (λe s'=>R (.error e) s') s):ahG (acr prog w) A (.call (.builtin "object.__setattr__") ⟨[.ref x,.str name tk,v],[]⟩) R s:=by
 have SF:=PySem.F.store_object;obtain⟨cd,hc,hd,hn⟩:=S.cd;have ho:=Fq hn;have ne:cd.mro.isEmpty=false:=by cases q:cd.mro with | nil=>rw[q] at ho;cases ho | cons _ _=>rfl
 have sub:aid (acr prog w) s.heap (ahQ (.ref x) (.type "object")) true:=I.type.andThen (looks_mroIn X (by unfold mroIn;rw[hc,adj,if_neg (by rw[ne];decide),ho]));refine aeF SF.slot.plain SF.entry (@check_slot (acr prog w) _ _ s "object.__setattr__" "object" "__setattr__" (.ref x) [.str name tk,v] [] _ SF.kind SF.split sub (SF.args (.ref x) (.str name tk) v) ?_);obtain⟨attr,ha,hr⟩:=Option.bind_eq_some_iff.mp S.ta;have hm:aid (acr prog w) s.heap (mroOf (.ref C)) cd.mro:=(looks_clsIn X hc).andThen .now;have L3:aid (acr prog w) s.heap (storeTaker? attr) none:=by
  cases attr with
  | none=>exact .now
  | some a=>
   obtain⟨b,hb,q⟩:=abU.mp hr;refine(looks_takesIn X hb).andThen ?_;cases b with
   | true=>cases q
   | false=>exact .now
 rw[osa_eq,refuse_eq];refine abF (abF (I.type.here (abF (hm.here ?_))));rw[EQ,hn,Pm];refine abM (abF (I.type.here (abF ((agd X ha).here (abF (L3.here ?_))))));exact h _
theorem S4{Q:Unit->abT->Prop}(X:K.In s.heap)(hx:s.heap.get? x=O (gi C Z t))(S:vB K C name)(h:∀h' tk,h'.get? x=O (gi C (O s.heap.objs.size) t)->h'.Ns1 s.heap.objs.size (λy=>if y=name then O v else Z)->(∀b o,b≠x->s.heap.get? b=O o->h'.get? b=O o)->Q () { s with heap:=h',toks:=tk }) :
  acf (acr prog w) A (setAttr (.ref x) name v) Q E s:=by
 have J:InstAt s.heap x (gi C Z t) C none:=⟨hx,rfl,rfl,trivial⟩
 refine set_plain X J S.sa (S3 (s:={ s with toks:=s.toks+1 }) X J S λb=>?_);obtain⟨cd,hc,hd,hn⟩:=S.cd;refine abF (abM (abF (abF (wpAny_loadPart hx (abF (PySem.W.Looks.here (s:={ s with toks:=s.toks+1 }) (looks_clsIn X hc) ?_))))));rw[hd]
 dsimp only
 simp only[Bool.not_true,aew,if_false];have Mj:(s.heap.push { cls:=.type "dict",data:=.dict #[] }).get? x=O (gi C Z t):=abJ _ hx;have kN:x≠s.heap.objs.size:=acQ (abW hx);refine abF (wpAny_alloc ?_);refine abF (wpAny_update Mj ?_);refine abM ?_;have hgd:((s.heap.push { cls:=.type "dict",data:=.dict #[] }).update x λo=>{ cls:=o.cls,dict:=O s.heap.objs.size,data:=o.data,slots:=o.slots }).get? s.heap.objs.size
   = O { cls:=.type "dict",data:=.dict #[] }:=
  (aig _ _ _ _ kN.symm).trans (Heap.get?_push_at rfl rfl)
 have hnd:((s.heap.push { cls:=.type "dict",data:=.dict #[] }).update x λo=>{ cls:=o.cls,dict:=O s.heap.objs.size,data:=o.data,slots:=o.slots }).Ns s.heap.objs.size (λ_=>Z):=
  ⟨_,#[],_,hgd,rfl,λe he=>absurd he (by simp),λ_=>rfl⟩
 show acf _ _ (storeInDict s.heap.objs.size (.str name s.toks) name v) _ _ _;unfold storeInDict newKeyGuard;refine abF (abM (abF (wpAny_nsSet1 (Heap.Ns1.of_empty hnd) λh' iS hs=>?_)));obtain⟨oD,esD,epD,hoD,hdD,hcD⟩:=iS.count (Within.cons name v Within.nil);refine abF (wpAny_lookBehind hoD (by rw[hdD];exact pastItsLine_dict (abX hcD (by rw[abP,acS,afB];omega))) ?_);refine abM (h h' _ ?_ ?_ λb o hb q=>?_)
 ·exact(hs.2 x kN).trans (acN _ Mj rfl)
 ·obtain⟨o',es,ep,e1,e2,e3,eu,e4⟩:=iS;exact⟨o',es,ep,e1,e2,e3,eu,λy=>by rw[e4 y]⟩
 ·exact(hs.2 b (acQ (abW q))).trans ((aig _ _ _ _ hb).trans (abJ _ q))
end
section
variable{X:Cx}{C:abV}{f:Str}{o value:adA}{ta tv:TE}{pos' pos:Pos}
noncomputable def YI(C:abV)(f:Str)(ta tv:TE):TS:=λD σ H=>tv σ H λy H1=>ta σ H1 λxv H2=>∃x,xv=.ref x/\H2 x=O (fX C x Z)/\∀d od,H2 d=Z->d≠x->D.nx σ (upd (upd H2 d (.bC od (.xd [(f,y)]))) x (fX C x (O d)))
theorem S5 (S : vB X.K C f) (ha : PE X o ta) (hv : PE X value tv) (hs : aeQ value (some (.Attribute o f pos')) pos.line X.env = pure false) : PS X (.Assign [.Attribute o f pos'] value pos) (YI C f ta tv) := by
  intro pins s σ H D I h;refine plainObj_wpAny_Assign_Attribute (aW (hv pins s σ H _ I h) fun u s1 ⟨y, H1, I1, ry, q⟩ => aW (ha pins s1 σ H1 _ I1 q) fun ov s2 ⟨xv, H2, I2, rx, x, ex, ea, q2⟩ => ?_) hs;subst ex;obtain rfl : ov = acu x := rx;obtain ⟨t, hx⟩ := xt I2.aA ea;refine S4 I2.cS hx S fun h' tk e1 e2 e3 => ?_
  have zq : s2.heap.objs.size ≠ x := aed (abW hx);have hn := I2.aA.fresh (abO s2.heap.objs.size);obtain ⟨od, es, ep, f1, f2, f3, f4, f5⟩ := e2;have a1 : (h'.update x fun _ => gi C none t).get? x = some (gi C none t) := acN (fun _ => gi C none t) e1 rfl;have a2 : ∀ b, b ≠ x -> (h'.update x fun _ => gi C none t).get? b = h'.get? b := fun b hb => acl _ _ (adD hb)
  have J1 := I2.laid (a := s2.heap.objs.size) (o := .bC od (.xd [(f, y)])) (h' := h'.update x fun _ => gi C none t) (t' := tk) (fun b u z => by
      by_cases hb : b = x
      · rw [hb] at z ⊢
        rw [hx] at z;rw [a1];exact z
      · rw [a2 b hb]
        exact e3 b u hb z) (abO _)
    ⟨(a2 _ zq).trans f1, fun z => if z = f then some u else none, ⟨od, es, ep, (a2 _ zq).trans f1, f2, f3, f4, f5⟩, fun g => by
      show ji (adN g [(f, y)]) (if g = f then some u else none);by_cases hg : g = f
      · rw [if_pos hg, adN, show (g == f) = true from beq_iff_eq.mpr hg]
        exact ry
      · rw [if_neg hg, adN, show (g == f) = false from beq_eq_false_iff_ne.mpr hg]
        trivial⟩
  have e4 : upd H2 s2.heap.objs.size (.bC od (.xd [(f, y)])) x = some (fX C x none) := (bF (adD zq)).trans ea;have J2 := J1.write (x := x) (e := x) (h' := h') (t' := tk) (o := fX C x (some s2.heap.objs.size)) (by rw [e4]; trivial) (.inl rfl) (fun b u hb z => by rw [<- a2 b hb]; exact z) ⟨_, e1⟩ (Bg e1);exact ⟨σ, _, J2, q2 _ od hn zq⟩
end
abbrev QG(c0 z f:Str)(np apos p1 p2 p3 p4 p5 p6 p7 p8 p9 zr zt:Pos)(j:Nat):d8:=
 [.Expr (.Call (.Attribute (.Name c0 np) "__init__" apos) [.Name "self" p1,.JoinedStr [.Constant (.str z) j p2,.FormattedValue (.Name f p3) (-1) Z p4] p5] [] p6) p7,.Assign [.Attribute (.Name "self" p8) f p9] (.Name f zr) zt]
noncomputable def K7(v:V):Prop:=(∃a:Int,v=.int a/\a.natAbs<2 ^ 64)\/v=.ay
noncomputable def qt(C:abV)(f:Str):Sp:=λvs H Q _=>∃x v,vs=[.ref x,v]/\H x=O (fX C x Z)/\K7 v/\∀d od,H d=Z->d≠x->Q .ay (upd (upd H d (.bC od (.xd [(f,v)]))) x (fX C x (O d)))
variable{a:abV}
theorem Wo{o:HO}(h:H a=O o):upd H a o=H:=by
 funext b
 by_cases hb:b=a
 ·rw[hb,bU,h]
 ·rw[bF hb]
structure uM(K:abG)(x qual:Str)(st:ahZ)(f:abV)(fd:adR):Prop where
 ex:∃(oc:acb) (od:ce) (T:abV) (o:Obj) (n:Nat) (kV doc pm:acb) (an:ce) (bQ ct:acb) (gC:Array fQ),
  fd=adu x qual (ij st) (fN st) (cx st) (.ref T) kV doc pm an bQ ct/\K.lookup f=O ⟨oc,od,.func fd,gC⟩/\aey K bQ qual=true/\K.lookup T=O o/\o.data=.seq #[.none] n
theorem uM.binds{x qual:Str}{st:ahZ}{fd:adR}{ps:aN}(F:uM K x qual st f fd)(h:∀(T:abV) (kV doc pm:acb) (an:ce) (bQ ct:acb) (us:aS),↑us=↑ps->∃k:Option dC->Sem (List (Str×acb)),bindArgs (adu x qual (ij st) (fN st) (cx st) (.ref T) kV doc pm an bQ ct) ⟨us,[]⟩=seqItems? (.ref T) >>= k/\k (O #[.none])=pure (ps.zip us)):Binds K fd ps []:=by
 obtain⟨oc,od,T,o,n,kV,doc,pm,an,bQ,ct,gC,rfl,lk,hcd,lt,dt⟩:=F.ex;intro s us cR hl;rw[afN] at hl ⊢;obtain⟨k,h1,h2⟩:=h T kV doc pm an bQ ct us hl;exact .of_defaults rfl (cR _ _ lt) dt h1 h2
theorem S6{x qual:Str}{st:ahZ}{T:abV}{o:Obj}{n:Nat}{oc:acb}{od an:ce}{gC:Array fQ}{kV doc pm bQ ct:acb}(l:K.lookup f=O ⟨oc,od,.func (adu x qual (ij st) (fN st) (cx st) (.ref T) kV doc pm an bQ ct),gC⟩)(c:aey K bQ qual=true)(lt:K.lookup T=O o)(dt:o.data=.seq #[.none] n):uM K x qual st f (adu x qual (ij st) (fN st) (cx st) (.ref T) kV doc pm an bQ ct):=⟨oc,od,T,o,n,kV,doc,pm,an,bQ,ct,gC,rfl,l,c,lt,dt⟩
section
variable{P:acL}{w:adl}{K:abG}{mg:dr}{base:adt}{qual c0 z fl:Str}{st:ahZ}{f C C0 g:abV}{fd:adR}{np apos p1 p2 p3 p4 p5 p6 p7 p8 p9 zr zt:Pos}{j:Nat}{pl:Env->Sem Bool}
theorem S7(F:uM K "__init__" qual st f fd)(S:mC ["self",fl] ["self",fl] (cx st))(hb:fN st=QG c0 z fl np apos p1 p2 p3 p4 p5 p6 p7 p8 p9 zr zt j)(B:B7 K C0)(hC:kr K C g fu "ValueError.__new__"=true)
  (hg:(cx st).names.lookup c0=O .globalImplicit) (hm:mg c0=O (.ref C0)) (bR:(c0==("__debug__":Str))=false) (zu:(fl==("__debug__":Str))=false) (hf2:(fl==("__classdict__":Str))=false) (T:vB K C fl) (hz:↑z<=1000)
  (ht:∀env:Env,aeX (.Call (.Attribute (.Name c0 np) "__init__" apos) [.Name "self" p1,.JoinedStr [.Constant (.str z) j p2,.FormattedValue (.Name fl p3) (-1) Z p4] p5] [] p6) env=(do
   let ov <- aeX (.Name c0 np) env
   standAt apos.atName
   let (f,first) <- ags [ov] (getMethod ov "__init__" (pl env))
   callWith p6 f first (afv p6 (acv [.Name "self" p1,.JoinedStr [.Constant (.str z) j p2,.FormattedValue (.Name fl p3) (-1) Z p4] p5] env)) (backToKw p6 (ahj [] env))))
  (hs1:∀env:Env,aeQ (.Call (.Attribute (.Name c0 np) "__init__" apos) [.Name "self" p1,.JoinedStr [.Constant (.str z) j p2,.FormattedValue (.Name fl p3) (-1) Z p4] p5] [] p6) Z p7.line env=pure false)
  (dI:∀env:Env,aeQ (.Name fl zr) (O (.Attribute (.Name "self" p8) fl p9)) zt.line env=pure false) :
  fV P w K mg base (dQ P w) 1 f fd ["self",fl] (qt C fl):=by
 obtain⟨oc,od,T0,o0,n0,kV,doc,pm,an,bQ,ct,gC,rfl,lk,hcd,_⟩:=F.ex;refine JR lk hcd S (λvs H Q E h=>by obtain⟨x,v,rfl,_⟩:=h;rfl) λA outer s H vs Q E hr h=>?_
 obtain⟨x,v,rfl,hx,hv,q⟩:=h;rw[hb];have iW:∀y∈(["self",fl]:aN),ju (cx st) y:=λy hy=>by
  rcases S.C6 y hy with q | q
  ·exact .inl q
  ·exact .inr (.inl q)
 have vS:∀{p:Pos},PE (jl (dQ P w) P w K mg base ["self",fl] qual (cx st) f bQ A outer s H E) (.Name "self" p) (Ck 0):=λ{p}=>Bv rfl (iW _ (by simp))
 have vA:∀{p:Pos},PE (jl (dQ P w) P w K mg base ["self",fl] qual (cx st) f bQ A outer s H E) (.Name fl p) (Ck 1):=λ{p}=>Bv rfl (iW _ (by simp)) zu hf2
 refine⟨_,Gh (G8 (QF (X:=jl (dQ P w) P w K mg base ["self",fl] qual (cx st) f bQ A outer s H E) B hC hg hm bR (mB vS (mB (Pl hz vA) tL)) rfl rfl (ht _)) (hs1 _)) (G7 (S5 T vS vA (dI _))),?_⟩;refine⟨.ref x,rfl,v,rfl,hv,λy=>⟨x,.str y,rfl,hx,?_⟩⟩;rw[Wo hx];exact⟨v,rfl,.ref x,rfl,x,rfl,hx,q⟩
end
noncomputable def del(H:Hp)(a:abV):Hp:=λb=>if b=a then Z else H b
theorem GK:del H a a=none:=by unfold del;rw[if_pos rfl]
theorem mJ{b:abV}(h:b≠a):del H a b=H b:=by unfold del;rw[if_neg h]
section
variable{X:Cx}{pins:List (abV×Obj)}{σ:L2.St}{H:Hp}{s:abT}{C a:abV}{dd:ce}
theorem QH(I:Inv X pins σ H s)(e:H a=O (fX C a dd))(ha:X.aI.heap.objs.size<=a):Inv X pins σ (del H a) { s with heap:=s.heap.hide a }:=by
 have l7:∀b,b≠a->(s.heap.hide a).get? b=s.heap.get? b:=λb hb=>Heap.hide_ne s.heap hb
 have neN:∀{b:abV},H b=Z->b≠a:=λn z=>by rw[z,e] at n;cases n
 refine I.step (g':=s.gens) (d':=s.drawn) (t':=s.toks) (ch:=[a]) (λb hb=>?_) (λb o _ _ hc q _=>?_) (λb o _ _ hc q _=>⟨o.slots,?_⟩) (λb o hc q n=>?_) (λb o hc q=>⟨o,?_⟩) (λb xs q=>?_) (λb o u q=>?_) (λb ps q=>⟨#[],?_⟩) (λm hm=>?_) (λb o q=>?_) I.bare
 ·have hb:b=a:=by simpa using hb
  subst hb;refine⟨.inr ha,λz=>?_,λx c hx z=>?_,λp hp z=>?_⟩
  ·have:=I.free;rw[<- z,e] at this;cases this
  ·rcases(I.ik x c hx).2 with n | ⟨o,n⟩
   ·rw[z,e] at n;cases n
   ·rw[z,e] at n;cases n
  ·have:=(I.pin p hp).2.1;rw[z,e] at this;cases this
 ·rw[l7 b (by simpa using hc)];exact q
 ·rw[l7 b (by simpa using hc)];exact q
 ·rw[mJ (by simpa using hc)];exact n
 ·rw[l7 b (by simpa using hc)];exact q
 ·rw[mJ (λz=>by rw[z,e] at q;cases q)];exact q
 ·rw[mJ (λz=>by rw[z,e] at q;cases q)];exact q
 ·rw[mJ (λz=>by rw[z,e] at q;cases q),q];simp
 ·obtain⟨o,es,ep,ho,r⟩:=hm;exact⟨o,es,ep,(l7 _ (neN I.free)).trans ho,r⟩
 ·have hb:b≠a:=λz=>by rw[z,GK] at q;cases q
  rw[mJ hb] at q;refine(I.aA b o q).jj (λc v hc z=>?_) (λc z=>?_) λc xs z=>?_
  ·have:c≠a:=by
    rcases hc with k | k
    ·rw[k];exact hb
    ·exact λy=>by rw[y,e] at k;cases k
   exact(l7 c this).trans z
  ·rw[mJ (λy=>by rw[y,e] at z;cases z)];exact z
  ·rw[mJ (λy=>by rw[y,e] at z;cases z)];exact z
theorem S8(I:Inv X pins σ H s)(e:H a=O (fX C a dd))(ha:X.aI.heap.objs.size<=a):Made X C dd (del H a) (.ref a) s:=by
 obtain⟨t,ex⟩:=xt I.aA e;refine⟨pins,σ,{ s with heap:=s.heap.hide a },s.heap,a,rfl,rfl,QH I e ha,λb o q=>?_,Heap.hide_self s.heap a,mP.LN ex⟩;have hb:b≠a:=λz=>by rw[z] at q;have:=Heap.hide_self s.heap a;rw[this] at q;cases q
 rw[<- Heap.hide_ne s.heap hb];exact q
end
section
variable{M:ahY}{A:adq}{E:aY}{s:abT}{env:Env}{nm q:Str}{C N:abV}{bs bm:aS}{hdct:Bool}{sn:aN}{sub:aS}{ab:Bool}{col:Option Bool}{dd:ce}{k0 k1 k2 k3 k5:fQ}{newId:String}
theorem QI{x:Sem acb}{Q:Flow->abT->Prop}(iI:bm.contains (.type "BaseException")=true)(hh:A.handled=Z)(h:acf M A x (λv bB=>∃e t d2,v=.ref e/\bB.heap.get? C=O (afE nm q C N bs bm hdct sn sub ab col dd k0 k1 k2 k3 k5 newId)/\bB.heap.get? e=O (gi C d2 t)/\E (.ref e) bB) E s):acf M A (raiseStmt env (O x) Z) Q E s:=by
 have DE:(acu C::bm).contains (.type "BaseException")=true:=by rw[agM,iI,aiR]
 unfold raiseStmt;refine abF (acW h (λv bB bO=>?_) λ_ _ x=>x);obtain⟨e,t,d2,rfl,hC,he,hE⟩:=bO;obtain⟨hp,g,d,tk,os⟩:=bB
 repeat (first | with_reducible refine adP he ?_ | with_reducible refine adP hC ?_ | (with_reducible refine agy hC ?_;rw[DE]) | wp_step)
 exact wpAny_raiseNew_none hh hE
end
section
variable{X:Cx}{x fl:Str}{C f:abV}{fd:adR}{k:Nat}{e:adA}{ta:TA}{m:EM}{p np cV pos:Pos}
noncomputable def Jf(C:abV)(fl:Str)(s0:Nat)(ta:TA):TE:=λσ H Q=>ta σ H λvs H1=>∃v,vs=[v]/\K7 v/\∀x d od,s0<=x->H1 x=Z->H1 d=Z->d≠x->Q (.ref x) (upd (upd H1 d (.bC od (.xd [(fl,v)]))) x (fX C x (O d)))
theorem Ol(hC:kr X.K C f fu "ValueError.__new__"=true)(hi:aeC X.K (.ref C) "__init__"=O (O (.ref f)))(hf:agN X.K (.ref f)=true)(kp:adw X.K (.ref C)=true)(F:fV X.prog X.w X.K X.mg X.base (dQ X.prog X.w) k f fd ["self",fl] (qt C fl))(hr:dw (k+1) X.A)(hb:Binds X.K fd ["self",fl] [])(hg:Gl X x)(hm:X.mg x=O (.ref C))(bR:(x==("__debug__":Str))=false)(ha:PA X [e] ta)(he:acv [e] X.env=(false,aeX e X.env)::acv [] X.env):PE X (.Call (.Name x p) [e] [] pos) (Jf C fl X.aI.heap.objs.size ta):=by
 intro pins s σ H Q I h;refine afO (mz I hg hm ?_ bR);refine aip (h₀:=X.base) I.ok.mod.cR kp (aW (ha pos pins s σ H _ I h) λus s1 ⟨vs,H1,I1,r,v,ev,hv,q⟩=>⟨I1.cS,?_⟩) he rfl;subst ev;obtain⟨u,rfl,ru⟩:=Vals.one r;obtain⟨bm,N,nm,qn,bs,sn,sub,ab,col,dd,k0,k1,k2,k3,k5,o1,T⟩:=AS I1.cS hC;obtain⟨hh,g,d,tk,os⟩:=s1;have hsz:X.aI.heap.objs.size<=hh.objs.size:=I1.sz;have hn:H1 (hh.objs.size+1)=none:=I1.aA.fresh (ahl _);refine PySem.W.QE adf (by rfl) adf T o1 (PySem.W.looks_findIn I1.cS hi) (λself=>PySem.W.bind_fn I1.cS self (beq_iff_eq.mp hf)) ?_ (by show 1<=acd;decide);have CJ:((hh.push { cls:=.type "tuple",data:=.seq [u].toArray }).push { cls:=.ref C,data:=.fields #[.ref hh.objs.size,.none,.none,.none,.bool false,.none] }).get? (hh.objs.size+1)=O (gi C Z hh.objs.size):=Heap.get?_push_at (by simp only[aeB]) rfl;have I2:Inv X pins σ (upd H1 (hh.objs.size+1) (fX C (hh.objs.size+1) Z)) ⟨(hh.push { cls:=.type "tuple",data:=.seq [u].toArray }).push { cls:=.ref C,data:=.fields #[.ref hh.objs.size,.none,.none,.none,.bool false,.none] },g,d,tk,os⟩:=
  I1.laid (a:=hh.objs.size+1) (t':=tk) (λb w z=>abJ _ (abJ _ z)) (ahl _) (Bg CJ)
 have r2:Vals [V.ref (hh.objs.size+1),v] [acu (hh.objs.size+1),u]:=.cons rfl (.cons ru .nil);have hq:qt C fl [V.ref (hh.objs.size+1),v] (upd H1 (hh.objs.size+1) (fX C (hh.objs.size+1) Z)) (λw H2=>w=.ay/\Q (.ref (hh.objs.size+1)) H2) (λ_ _ _=>False):=by
  refine⟨_,v,rfl,bU,hv,λd od hd cT=>⟨rfl,?_⟩⟩;rw[bF cT] at hd;rw[SW cT];exact q _ d od (Nat.le_succ_of_le hsz) hn hd cT
 refine agI (F.run _ X.stack _ _ ⟨[acu (hh.objs.size+1),u],[]⟩ [acu (hh.objs.size+1),u] _ _ (λ_ _ _=>False) (hr.make C [u] []) (I2.KO.make C [u] []) (hb _ [acu (hh.objs.size+1),u] I2.cS rfl) r2 hq) λr s' vC=>?_
 cases r with
 | error e=>obtain⟨_,_,_,_,z⟩:=vC;exact z.elim
 | ok fl=>
  cases fl with
  | ret u=>
   obtain⟨w,H',I3,rv,ev,q3⟩:=I2.after vC;subst ev;exact⟨rv,⟨V.ref (hh.objs.size+1),H',I3,rfl,q3⟩⟩
  | next=>exact afl vC
  | brk=>exact afl vC
  | cont=>exact afl vC
noncomputable def zv:W->Bool
 | .int a=>decide (a.natAbs<2 ^ 64)
 | .ay=>true
 | _=>false
noncomputable def kY(c fl:Str)(m:EM):SM:=λσ=>ax (m σ) λw=>if zv w=true then vv ⟨c,[(fl,w)]⟩ else fF
theorem S9{H:Hp}{a:abV}{o:HO}(h:H a=Z):del (upd H a o) a=H:=by
 funext b
 by_cases hb:b=a
 ·rw[hb,GK,h]
 ·rw[mJ hb,bF hb]
theorem Pn(hC:kr X.K C f fu "ValueError.__new__"=true)(hi:aeC X.K (.ref C) "__init__"=O (O (.ref f)))(hf:agN X.K (.ref f)=true)(kp:adw X.K (.ref C)=true)(F:fV X.prog X.w X.K X.mg X.base (dQ X.prog X.w) k f fd ["self",fl] (qt C fl))(hr:dw (k+1) X.A)(hb:Binds X.K fd ["self",fl] [])(hg:Gl X x)(hm:X.mg x=O (.ref C))(hc:X.calm=true)(c7:isStar e=false)(bR:(x==("__debug__":Str))=false)(he:IE X e m):IS X (.Raise (O (.Call (.Name x np) [e] [] cV)) Z pos) (kY x fl m):=by
 intro pins s σ H D I h;obtain⟨φ,ph,ws,hH,hS,h⟩:=h;obtain⟨bm,N,nm,qn,bs,sn,sub,ab,col,dd,k0,k1,k2,k3,k5,o1,T⟩:=AS I.ok.mod.cR hC;have hq:Jf C fl X.aI.heap.objs.size (JQ (tM X m) KN) σ H (λvx H'=>∃y d od v H1 w av ph1,vx=.ref y/\H'=upd (upd H1 d (.bC od (.xd [(fl,v)]))) y (fX C y (O d))/\X.aI.heap.objs.size<=y/\H1 y=Z/\H1 d=Z/\d≠y/\aH X.K av ph1 H1/\aQ X.K av ↑ph1 H1 w v /\
   ∀ak H' e' s',aH X.K ak ph1 H'->Step X.K av ↑ph1 H1 ak ↑ph1 H'->kM X ak ↑ph1 ⟨x,[(fl,w)]⟩ H' e' s'->X.xe e' s'):=by
  refine tM.bind hH hS h λw ph1 av H1 v aB s1 r1 h=>?_
  by_cases hw:zv w=true
  ·rw[if_pos hw] at h;refine⟨v,rfl,?_,λy d od h0 hy hd cT=>⟨y,d,od,v,H1,w,av,ph1,rfl,rfl,h0,hy,hd,cT,aB,r1,h⟩⟩;cases r1 with
   | int a=>exact .inl ⟨a,rfl,of_decide_eq_true hw⟩
   | ay=>exact .inr rfl
   | _=>cases hw
  ·rw[if_neg hw] at h;exact h.elim
 have hE:=Ol (p:=np) (pos:=cV) hC hi hf kp F hr hb hg hm bR (mB he tL (dF c7)) (dF c7) pins s σ H _ I hq;rw[arm_exec_Raise];refine abF (aet (QI (C:=C) (nm:=nm) (q:=qn) (N:=N) (bs:=bs) (bm:=bm) (hdct:=true) (sn:=sn) (sub:=sub) (ab:=ab) (col:=col) (dd:=dd) (k0:=k0) (k1:=k1) (k2:=k2) (k3:=k3) (k5:=k5) (newId:="ValueError.__new__") (T.hasType (by rfl)) (I.ok.hd hc) (abF (aW hE λu s1 ⟨vx,H',I1,rv,y,d,od,v,H1,w,av,ph1,ey,eH,h0,hy,hd,cT,aB,r1,k⟩=>abF (aet (abM ?_))))));subst ey eH;obtain rfl:u=acu y:=rv;obtain⟨t,ex⟩:=xt I1.aA bU;have md:=S8 I1 bU h0;rw[S9 ((bF (adD cT)).trans hy)] at md;exact⟨y,t,O d,rfl,I1.bk _ _ o1,ex,k av _ _ _ (xc aB hd) (n5 hd) ⟨C,O d,hm,.inr ⟨d,od,fl,w,v,rfl,rfl,bU,r1.mono (n5 hd)⟩,.inl md⟩⟩
theorem Ay(hC:kr X.K C f fu "ValueError.__new__"=true)(hi:aeC X.K (.ref C) "__init__"=O (O (.ref f)))(hf:agN X.K (.ref f)=true)(kp:adw X.K (.ref C)=true)(F:fV X.prog X.w X.K X.mg X.base (dQ X.prog X.w) k f fd ["self",fl] (qt C fl))(hr:dw (k+1) X.A)(hb:Binds X.K fd ["self",fl] [])(hg:Gl X x)(hm:X.mg x=O (.ref C))(hc:X.calm=true)(c7:isStar e=false)(bR:(x==("__debug__":Str))=false)(he:JE X e m):JS X (.Raise (O (.Call (.Name x np) [e] [] cV)) Z pos) (kY x fl m):=⟨Pn hC hi hf kp F hr hb hg hm hc c7 bR he.h⟩
end
open PySem PySem.Spec PyProof.Rows L2 PySem.W Builtin.ObjectAttr
section
variable{prog:acL}{w:adl}{A:adq}{E:aY}{s:abT}{K:abG}{x D:abV}
theorem Pp{v:acb}{name:Str}{tk:Tok}{Q:Fin->abT->Prop}(I:kF s.heap x D)(L1:aid (acr prog w) s.heap (find (.ref x) (.ref D) name) (.value v))(h:Q (.done (.ret v)) s):acf (acr prog w) A (afD.«object.__getattribute__» ⟨[.ref x,.str name tk],[]⟩) Q E s:=by
 obtain⟨hh,gg,d,t,os⟩:=s;have L0:=I.mQ (M:=acr prog w);unfold afD.«object.__getattribute__»;refine abF (abM ?_)
 dsimp only
 refine abF (abM ?_);refine abF (L0.at (abF (L1.at ?_)));exact abM h
theorem Ta{expr:Bool}{name:Str}{v:acb}{Q:aY}(X:K.In s.heap)(I:kF s.heap x D)(hK:gA K D)(L1:∀M,aid M s.heap (find (.ref x) (.ref D) name) (.value v))(hv:handedIn v=true)(h:Q v { s with toks:=s.toks+1 }) :
  acf (acr prog w) A (getAttr (.ref x) name expr) Q E s:=by
 obtain⟨hh,gg,d,t,os⟩:=s;have L0:=I.mQ (M:=acr prog w);have L2:=agd (M:=acr prog w) X hK.ga;have L3:=agd (M:=acr prog w) X hK.gh;unfold getAttr getAttrBy;refine abF (wpAny_mkText (acJ (abF (L0.at (abF (L2.at ?_))))));show acf _ _ (agv _ _ _ _ _ _) _ _ _;unfold agv;refine abF (show acf _ _ (agY (.ref D) "__getattr__") _ _ _ from L3.at ?_);refine abF (afo (acJ ?_));unfold callGetattribute;rw[show(expr&&onTheHeap (Value.builtin "BaseException.__getattribute__"))=false from ahU _,if_neg (by decide)];unfold ahW;rw[Hm];refine abF (abM ?_)
 dsimp only
 refine agr (aeF agZ.ga.plain F.entry_bexc_ga (FK (s:=⟨hh,gg,d,t+1,os⟩) X I hK.mb (Pp (s:=⟨hh,gg,d,t+1,os⟩) I (L1 _) ?_)))
 dsimp only
 show acf _ _ (handedOut v) _ _ _;rw[handedOut_of hv];exact abM h
end
noncomputable def vD(c0 f:Str)(w:W):Po W:=λph=>match w with
 | .exc c [g] [v]=>if c=c0/\g=f then O (v,ph) else Z
 | _=>Z
noncomputable def B8(c0 f:Str)(m:EM):EM:=λσ=>ax (m σ) λw=>lift (vD c0 f w)
section
variable{X:Cx}{c0 f:Str}{C:abV}{e:adA}{m:EM}{pos:Pos}
theorem Tb(cG:nsIn X.K acm c0=O (O (.ref C)))(hK:gA X.K C)(hh:hasDictIn X.K C=true)(hn:air X.K (.ref C) f=O Z)(he:IE X e m)(hb:aeM e f X.env (aeX e X.env)=aeX e X.env):IE X (.Attribute e f pos) (B8 c0 f m):=by
 intro pins s σ H Q I h;refine Rz hb (aW (he pins s σ H (λvx H1=>∃a d o u od v,vx=.ref a/\H1 a=O (.bC o u)/\o.cls=.ref C/\notCls o=true/\o.dict=O d/\H1 d=O (.bC od (.xd [(f,v)]))/\Q v H1) I ?_) λu s1 ⟨vx,H1,I1,rx,a,d,o,u0,od,v,ex,ea,ec,en,ed,hd,q⟩=>?_)
 ·obtain⟨φ,ph,ws,hH,hS,h⟩:=h;refine tM.bind hH hS h λw ph1 av H1 vx aB s1 rx h=>?_
  obtain⟨w2,ph2,e2,k⟩:=run_lift h;unfold vD at e2;split at e2
  ·rename_i c g v;split at e2
   ·rename_i hc;obtain⟨rfl,rfl⟩:=hc;cases e2;cases rx with
    | @exc _ _ _ a C' vs o u hfz iy iS hk hf r=>
     rw[cG] at iS;cases iS;cases r with
     | cons r1 r2=>
      cases r2
      rcases hf with⟨z,_⟩ | ⟨d,od,e3,_,e4⟩
      ·cases z
      ·exact⟨a,d,o,u,od,_,rfl,hfz,iy,hk,e3,e4,k av H1 _ aB s1 r1⟩
   ·cases e2
  ·cases e2
 ·subst ex;obtain rfl:u=acu a:=rx;have ga:s1.heap.get? a=O o:=(I1.aA a _ ea).1;obtain⟨gd,mA,aad,hr⟩:=I1.aA d _ hd;obtain⟨od',ho,hl⟩:=OO aad;have J:InstAt s1.heap a o C (O od'):=⟨ga,ec,en,by rw[ed];exact ho⟩
  have Mk:=hr f;rw[show adN f [(f,v)]=O v by rw[adN,show(f==f)=true from beq_self_eq_true f]] at Mk;obtain⟨u1,hu1,Ml⟩:=ji.some_of Mk;exact Ta I1.cS ⟨o,ga,ec⟩ hK (λM=>looks_find I1.cS J (findObj_own hh hn rfl (by rw[hl,hu1]))) (OP Ml) ⟨v,H1,I1.tok _,Ml,q⟩
theorem Tc(cG:nsIn X.K acm c0=O (O (.ref C)))(hK:gA X.K C)(hh:hasDictIn X.K C=true)(hn:air X.K (.ref C) f=O Z)(he:JE X e m)(hb:aeM e f X.env (aeX e X.env)=aeX e X.env:=by rfl):JE X (.Attribute e f pos) (B8 c0 f m):=⟨Tb cG hK hh hn he.h hb⟩
end
noncomputable def mD(tb:List (Str×Bool))(i:Nat)(b h:SM):SM:=λσ ph=>match b σ ph with
 | .ex x ph'=>if tb.lookup x.cls=O true then rM (ax (h ((abS σ.length Z).set i (O (.exc x.cls (x.fs.map (·.1)) (x.fs.map (·.2)))))) λf=>aD (f.wo i)) ph' else .no
 | .ok f ph'=>.ok f ph'
 | .no=>.no
theorem HE{φ:Nat->abV}{n:Nat}{H':Hp}{oe:Obj}{u:HO}{fs:List (Str×W)}(fh:H' a=Z)(gd:∀d,dd=O d->oe.dict=O d/\kx oe=true)(h:vh K φ n H' dd fs):∃vs,uB (upd H' a (.bC oe u)) oe (fs.map (·.1)) vs/\a9 K φ n (upd H' a (.bC oe u)) (fs.map (·.2)) vs:=by
 rcases h with rfl | ⟨d,od,f,w,v,ed,rfl,hd,r⟩
 ·exact⟨[],.inl ⟨rfl,rfl⟩,.nil⟩
 ·exact⟨[v],.inr ⟨d,od,(gd d ed).1,rfl,(bF (λz=>by rw[z,fh] at hd;cases hd)).trans hd⟩,.cons (r.mono (n5 fh)) .nil⟩
section
variable{X:Cx}{body iJ:d8}{i0:ahZ}{c n:Str}{i:Nat}{tb:List (Str×Bool)}{D:abV}{np il pos:Pos}{mb mh:SM}
theorem Om(T:iR X)(abk:X.calm=true)(fG:Gl X c)(fH:X.mg c=O (.ref D))(bR:(c==("__debug__":Str))=false)(hk:qE X.K D)(hT:fW X.K D tb)(hN:X.N.Nodup)(hi:X.N[i]? =O n)(hl:X.env.scope.names.lookup n=O .local)(fI:iN X n)(hb:∀pn E,hU (dg X X.A pn E X.calm) body mb)(hh:∀a E,hU (dg X (X.A.mark (O (.ref a))) X.pn E false) (i0::iJ) mh):IS X (.Try body [.ExceptHandler (O (.Name c np)) (O n) (i0::iJ) il] [] [] pos) (mD tb i mb mh):=by
 intro pins s σ H Dn I h;obtain⟨φ,ph,ws,hH,hS,h⟩:=h;have jB:=I.ok.hd
 let X0:Cx:=dg X X.A (X.pn++pins) X.xe X.calm
 let E1:acb->abT->Prop:=λe s'=>∃x ph' ak H',mb ws ph=.ex x ph'/\aH X.K ak ph' H'/\Step X.K φ ↑ph H ak ↑ph' H'/\kM X0 ak ↑ph' x H' e s'
 have I1:Inv (dg X X.A (X.pn++pins) E1 X.calm) [] σ H s:=oj I rfl jB λp hp=>by simpa using hp
 have back:∀{ao:L2.St} {H':Hp} {s':abT},Inv (dg X X.A (X.pn++pins) E1 X.calm) [] ao H' s'->Inv X pins ao H' s':=λ{ao H' s'} J=>sO J rfl jB λp hp=>by simpa using hp
 have ur:tS (dg X X.A (X.pn++pins) E1 X.calm) mb Dn σ H:=by
  refine⟨φ,ph,ws,hH,hS,?_⟩;unfold mD at h;cases q:mb ws ph with
  | ok f ph'=>rw[q] at h;exact h
  | no=>rw[q] at h;exact h
  | ex x ph'=>exact λak H' e s' r st th=>⟨x,ph',ak,H',q,r,st,Ho jB th⟩
 refine ahx (acW (hb (X.pn++pins) E1 [] s σ H Dn I1 ur) (λf s1 z=>?_) λe s1 z=>?_)
 ·cases f with
  | next=>
   obtain⟨ao,H',J,q⟩:=z;exact afa ⟨ao,H',back J,q⟩
  | brk=>obtain⟨ao,H',J,q⟩:=z;exact⟨ao,H',back J,q⟩
  | cont=>obtain⟨ao,H',J,q⟩:=z;exact⟨ao,H',back J,q⟩
  | ret u=>obtain⟨v,ao,H',J,r,q⟩:=z;exact⟨v,ao,H',back J,r,q⟩
 ·obtain⟨x,ph',ak,H',q,rH,st,th⟩:=z;unfold mD at h;rw[q] at h
  dsimp only at h
  by_cases hx:tb.lookup x.cls=O true
  case neg=>rw[if_neg hx] at h;exact h.elim
  rw[if_pos hx] at h;obtain⟨C,dd,nM,pE,a,B,rfl,K⟩:=took (X:=X0) ⟨T.st,T.fr,T.ex⟩ th;obtain⟨C',tn,uN⟩:=hT _ _ hx;have nt:=acP I.ok.mod.cR I.ok.mod.glob tn;have uO:X.mg x.cls=O (.ref C):=nM;rw[uO] at nt;cases nt;refine K.note (A:=X.A) I.ok.frames λh4 a0 ut nN=>?_
  refine Aj ut λh5 nO nP=>?_
  obtain⟨Ko,iZ,vE,vF,vG,_,fh,_,J5⟩:=K.inv (X:=X0) ⟨T.st,T.fr,T.ex⟩ nO (nN.trans nP)
  let X2:Cx:=dg X (X.A.mark (O (.ref a))) X.pn (λ_ _=>False) false
  have to2:∀{p5:List (abV×Obj)} {ao:L2.St} {H2:Hp} {s':abT},Inv X0 p5 ao H2 s'->Inv X2 pins ao H2 s':=λ{p5 ao H2 s'} J=>oj (X:=X0) J rfl (λz=>nomatch z) λp hp=>aeE _ hp
  have nQ:=to2 J5;refine agz (agf (mz (X:=X2) nQ fG fH ?_ bR)) (by intro z;cases z);refine Au nQ.cS ⟨vE,vF,vG⟩ hk.ek hk.ty uN (agS ?_);refine Ak nO λh6 vH vI=>?_
  obtain⟨Kp,eX,j7,Mm,zw,zx,_,vJ,J6⟩:=K.inv (X:=X0) ⟨T.st,T.fr,T.ex⟩ vH ((nN.trans nP).trans vI);have rR:=to2 J6;refine w8 (X:=X2) rR hN hi (.inl hl) (v:=.ref a) rfl (λs7 J7=>?_) ⟨.inr hl,fI⟩;have bj:↑ws=↑eX:=by rw[hS.len,I.len];exact J6.len.symm
  let D':Ends:={ nx:=λao H'=>Dn.nx (ao.set i Z) H',bk:=λao H'=>Dn.bk (ao.set i Z) H',ct:=λao H'=>Dn.ct (ao.set i Z) H',rt:=Dn.rt }
  obtain⟨vf,xf,rf⟩:=HE (u:=HO.own a) fh vJ pE;have BE:tS X2 mh D' (eX.set i (O (.ref a))) (upd H' a (.bC j7 (.own a))):=by
   refine⟨ak,ph',(abS ↑ws Z).set i (O (.exc x.cls (x.fs.map (·.1)) (x.fs.map (·.2)))),xc rH fh,aZ.set (ws:=abS ↑ws Z) (.exc bU zw tn zx xf rf) i (by rw[bj];exact aZ.none eX),?_⟩;unfold rM ax at h;cases q2:mh ((abS ↑ws Z).set i (O (.exc x.cls (x.fs.map (·.1)) (x.fs.map (·.2))))) ph' with
   | no=>rw[q2] at h;exact h.elim
   | ex y p2=>rw[q2] at h;exact h.elim
   | ok f p2=>
    rw[q2] at h;intro bf H2 r2 s2;have h2:=h bf H2 r2 ((st.trans (n5 fh)).trans s2);cases f with
    | nx cO=>exact λao r=>h2 (ao.set i Z) (aZ.unset i r)
    | bk cO=>exact λao r=>h2 (ao.set i Z) (aZ.unset i r)
    | ct cO=>exact λao r=>h2 (ao.set i Z) (aZ.unset i r)
    | rt w=>exact h2
  have li:∀{ao:L2.St} {H2:Hp} {s':abT},Inv X2 pins ao H2 s'->Inv X pins ao H2 s':=λ{ao H2 s'} J=>sO J rfl jB λp hp=>hp
  refine acW (hh a (λ_ _=>False) pins s7 _ _ D' J7 BE) (λf s8 z=>?_) λ_ _ z=>z.elim
  cases f with
  | next=>
   obtain⟨ao,H2,J8,q8⟩:=z;exact name_goes (li J8) hN hi hl fI λs9 J9=>⟨_,H2,J9,q8⟩
  | brk=>
   obtain⟨ao,H2,J8,q8⟩:=z;exact name_goes (li J8) hN hi hl fI λs9 J9=>⟨_,H2,J9,q8⟩
  | cont=>
   obtain⟨ao,H2,J8,q8⟩:=z;exact name_goes (li J8) hN hi hl fI λs9 J9=>⟨_,H2,J9,q8⟩
  | ret u=>
   obtain⟨v,ao,H2,J8,r8,q8⟩:=z;exact name_goes (li J8) hN hi hl fI λs9 J9=>⟨v,_,H2,J9,r8,q8⟩
theorem Oo{N:aN}{sc:aes}{k:Nat}(B:BdT X N sc k)(T:iR X)(cU:X.env.scope=sc)(fG:Gl X c)(fH:X.mg c=O (.ref D))(bR:(c==("__debug__":Str))=false)(hk:qE X.K D)(hT:fW X.K D tb)(i:Nat)(hi:N[i]? =O n)(hl:sc.names.lookup n=O .local)(hb:∀{X':Cx},X'.K=X.K->X'.mg=X.mg->X'.prog=X.prog->X'.w=X.w->X'.base=X.base->BdT X' N sc k->JB X' body mb)(hh:∀{X':Cx},X'.K=X.K->X'.mg=X.mg->gG X' N sc->JB X' (i0::iJ) mh):JS X (.Try body [.ExceptHandler (O (.Name c np)) (O n) (i0::iJ) il] [] [] pos) (mD tb i mb mh):=
 ⟨Om T B.calm fG fH bR hk hT (by rw[B.hN];exact B.nd) (by rw[B.hN];exact hi) (by rw[cU];exact hl) (B.fn n (.inl hl)).2
  (λpn E=>(hb (X':=dg X X.A pn E X.calm) rfl rfl rfl rfl rfl ⟨⟨B.hN,B.iW,B.loc,B.gl,B.fn,B.nd⟩,B.calm,B.room⟩).h)
  (λa E=>(hh (X':=dg X (X.A.mark (O (.ref a))) X.pn E false) rfl rfl ⟨B.hN,B.iW,B.loc,B.gl,B.fn,B.nd⟩).h)⟩
end
noncomputable def aae(t:Str):Str:=⟨(t.cps.toList.take 1).toArray⟩
noncomputable def aby:W->Option Int->Option Int->Po W:=λw lo hi ph=>match w with
 | .str t=>if lo=Z/\hi=O 1/\1<=↑t/\↑t<=acd then O (.str (aae t),ph) else Z
 | _=>Z
noncomputable def uP(t:Str)(k:Nat):Str:=⟨(abS k t.cps).foldl (· ++ ·) #[]⟩
theorem GL(a:Array Nat):∀(k:Nat) (b:Array Nat),((abS k a).foldl (· ++ ·) b).size=b.size+k*a.size
 | 0,b=>by simp
 | k+1,b=>by
  rw[adh,aej,GL a k,Array.size_append,Nat.succ_mul];omega
noncomputable def Kq:R2:=λx y H Q=>∃t k,x=.str t/\y=.int k/\2<=k/\k<1000/\↑t≠0/\↑t<=1000/\Q (.str (uP t k.toNat)) H
theorem Td{X:Cx}:bH X (afj .Mult) Kq:=by
 intro pins s σ H x y v u Q I rx ry h;obtain⟨t,k,rfl,rfl,h1,h2,h3,h4,q⟩:=h;obtain⟨tk,rfl⟩:=rx;obtain⟨tj,rfl⟩:=ry;have n1:¬k<1:=by omega
 have n2:(k==1||↑t==0)=false:=by
  rw[Bool.or_eq_false_iff];exact⟨beq_eq_false_iff_ne.mpr ∅,beq_eq_false_iff_ne.mpr h3⟩
 have hm:↑t*k.toNat<=1000*1000:=Nat.mul_le_mul h4 ∅;refine P.mul_str (by rw[aX ∅,aX ∅];rfl) (λ_ _=>?_) (λ_ _=>?_) ?_
 ·rw[Int.not_lt,Int.le_ediv_iff_mul_le ∅];have e:(↑t:Int)*k=((↑t*k.toNat:Nat):Int):=by
   rw[Int.natCast_mul,afF ∅]
  rw[e];omega
 ·exact aX (by
   have:(1000*1000:Nat)<=sizeLine:=by decide
   omega)
 ·rw[if_neg n1,if_neg (by rw[n2];exact acj)];refine⟨?_,⟨.str (uP t k.toNat),H,I.tok _,⟨_,rfl⟩,q⟩⟩;refine abX (aiO (GL t.cps k.toNat #[])) ?_;have:(1000*1000:Nat)<=sizeLine:=by decide
  have e:k.toNat*t.cps.size=↑t*k.toNat:=Nat.mul_comm _ _;rw[e];simp;omega
noncomputable def nu:W->W->Po W:=λx y ph=>match x,y with
 | .str t,.int k=>if 2<=k/\k<1000/\↑t≠0/\↑t<=1000 then O (.str (uP t k.toNat),ph) else Z
 | _,_=>Z
theorem Wq:cK K Kq nu:=by
 intro φ ph H x y vx vy w ph' Q hH rx ry e k;unfold nu at e;split at e
 ·split at e
  ·rename_i h;cases e;cases rx;cases ry;exact⟨_,_,rfl,rfl,h.1,h.2.1,h.2.2.1,h.2.2.2,k φ H _ hH Step.refl (.str _)⟩
  ·cases e
 ·cases e
section
variable{X:Cx}{a b e:adA}{m ma mb:EM}{lo hi:Option adA}{ml mh:OM}{p2 pos:Pos}
theorem abc(ha:JE X a ma)(hb:JE X b mb):JE X (.BinOp a .Mult b pos) (ah nu ma mb):=⟨qB Td Wq ha.h hb.h⟩
end
end IL
namespace PySem
open Sem (wp)
open MeetsSeq SeqAt
namespace aaf
end aaf
end PySem
namespace IL
open PySem PySem.Spec PyProof.Rows L2
theorem Ws{P:acL}{w:adl}{H:Hp}{h:adt}{d:abV}{u:HO}(hu:qF u)(ok:cZ P w H h d u):ul u<=sizeLine:=by
 cases u with
 | dK kvs=>exact ok.1
 | dT kvs=>exact ok.1
 | dU kvs=>exact ok.1
 | _=>exact hu.elim
theorem Te{K:abG}{φ:Nat->abV}{ph:PH}{H:Hp}{i:Nat}{kws:bN}(hH:aH K φ ph H)(hd:ph[i]? =O (.bI kws)):∃u,H (φ i)=O u/\qF u/\((∃kvs,u=.dK kvs/\bV K φ ↑ph H kws kvs)\/∃kvs,u=.dT kvs/\cH K φ ↑ph H kws kvs):=by
 rcases hH.hp i _ hd with⟨kvs,q,r⟩ | ⟨kvs,q,r⟩
 ·exact⟨_,q,trivial,.inl ⟨kvs,rfl,r⟩⟩
 ·exact⟨_,q,trivial,.inr ⟨kvs,rfl,r⟩⟩
theorem Tf{prog:acL}{w:adl}{A:adq}{E:aY}{s:abT}{d:abV}{od:Obj}{es:Array DictEntry}{ep:Nat}{Q:aY}(hd:(d==aee)=false)(ho:s.heap.get? d=O od)(hc:od.cls=.type "dict")(CL:od.data=.dict es ep)(Ct:es.size<=acd)(h:Q (.int es.size (s.toks+1)) { s with toks:=s.toks+1+1 }):acf (acr prog w) A (call (.builtin "len") [.ref d]) Q E s:=by
 have hT:s.TypeIs (.ref d) "dict":=⟨_,ho,hc⟩
 rw[afB] at Ct;refine Calls.call_function_entry kind_len plain_len entry_len (args_len1 _) ?_;unfold afD.«len»;refine abF (m:=oneArg "len" _) (abM ?_);refine abF (m:=callSpecial? (.ref d) (abH "__len__")) (ada (name:=abH "__len__") hT F.slot_dict_len (adv F.slot_dict_len hT F.entry_dict_len ?_ (F.args_dict_len_1 _)));show acf _ _ (dictSize d >>= _) _ _ s;unfold dictSize;refine abF (abF (wpAny_dictEntries ho CL (abM ?_)));show acf _ _ (Builtin.Dict.pendingCount d >>= _) _ _ s;refine abF (wpAny_pendingCount_other hd ?_);refine wpAny_ret_mkInt ?_;rw[Nat.add_zero];show acf _ _ _ _ _ { s with toks:=s.toks+1 };refine abF (acJ (abM ?_));refine abF (ahn ?_);show acf _ _ (if((es.size:Nat):Int)<0 then _ else _) _ _ _;rw[if_neg ∅];show acf _ _ (if((es.size:Nat):Int) >= 2 ^ 63 then _ else _) _ _ _;rw[if_neg ∅];exact abF (wpAny_mkInt (abM ⟨_,rfl,h⟩))
noncomputable def B9:aJ->Hp->VK->Prop:=λxs H Q=>∃d u,xs=[.ref d]/\H d=O u/\qF u/\Q (.int (ul u)) H
theorem Pq{X:Cx}:cD X (.builtin "len") B9:=by
 intro pins s σ H xs us Q I r h;obtain⟨d,u,rfl,hd,hu,h⟩:=h;obtain⟨v,rfl,rx⟩:=vals1 r;obtain rfl:v=acu d:=rx;have hk:=I.aA d u hd;obtain⟨ob,es,ep,h1,h2,h3,h4⟩:=Sl hu hk;obtain⟨hl,_⟩:=Sm hu hk h1 h3;exact Tf h4 h1 h2 h3 (by rw[<- hl];exact Ws hu hk) ⟨.int (ul u),H,I.kept λb u q=>q,⟨_,by rw[hl]⟩,h⟩
noncomputable def uQ:aw->Po W:=λxs ph=>match xs with
 | [w]=>match gq w ph with
  | some p=>O (.int ↑p.2,ph)
  | none=>bz [w] ph
 | _=>Z
theorem abd{K:abG}:gp K (λxs H Q=>yy K xs H Q\/B9 xs H Q) uQ:=by
 intro φ ph H xs vs w ph' Q hH r e k;unfold uQ at e;split at e
 ·split at e
  ·rename_i p hp;cases e;cases r with
   | cons r0 rr=>
    cases rr;obtain⟨i,kws⟩:=p;obtain⟨rfl,hi,hd,rfl⟩:=kU hH r0 hp;obtain⟨u,q1,q2,q3⟩:=Te hH hd;have hl:↑kws=ul u:=by
     rcases q3 with⟨kvs,rfl,r⟩ | ⟨kvs,rfl,r⟩
     ·exact r.len
     ·exact r.len
    refine .inr ⟨_,u,rfl,q1,q2,?_⟩;rw[<- hl];exact k φ H _ hH Step.refl (.int _)
  ·exact .inl (IK hH r e k)
 ·cases e
theorem aaH{X:Cx}:cD X (.builtin "len") (λxs H Q=>yy X.K xs H Q\/B9 xs H Q):=cD.or FH Pq
end IL
namespace L2
open PySem PySem.SetTable
open PySem PySem.SetTable PyProof.Rows
end L2
namespace IL
open PySem PySem.Spec PyProof.Rows L2
end IL
namespace PySem
open Sem (wp)
end PySem
namespace IL
open PySem PySem.Spec PyProof.Rows L2
open PySem PySem.Spec PyProof.Rows L2
open PySem PySem.W PyProof.Rows
end IL
namespace PySem
open Sem (wp)
open AutoSeq1 (wpAny_loadPart')
namespace EN
end EN
end PySem
namespace IL
open PySem PySem.Spec PyProof.Rows L2
open PySem.Builtin.Str (subAt occurrences partsBetween)
noncomputable def pb:aw->Po W:=λxs=>match xs with
 | [.int i]=>if i.natAbs.log2<1920 then ret (.str (abH (toString i))) else eG
 | [.str z]=>ret (.str z)
 | _=>eG
noncomputable def K8:aJ->Hp->VK->Prop:=λxs H Q=>(∃i:Int,xs=[.int i]/\i.natAbs.log2<1920/\Q (.str (abH (toString i))) H)\/∃z,xs=[.str z]/\Q (.str z) H
variable{X:Cx}
theorem aaI:cD X (.type "str") K8:=by
 intro pins s σ H xs us Q I r h
 rcases h with⟨i,rfl,hz,q⟩ | ⟨z,rfl,q⟩
 ·obtain⟨u,rfl,t,rfl⟩:=vals1 r;exact PySem.P.str_of_int hz ⟨.str _,H,I.tok _,⟨_,rfl⟩,q⟩
 ·obtain⟨u,rfl,t,rfl⟩:=vals1 r;exact PySem.P.str_of_str ⟨.str z,H,I,⟨_,rfl⟩,q⟩
variable{K:abG}
theorem abe:gp K K8 pb:=by
 intro φ ph H xs vs w ph' Q hH r e k;unfold pb at e;split at e
 ·split at e
  ·rename_i hz;cases e;cases r with
   | cons r r'=>cases r;cases r';exact .inl ⟨_,rfl,hz,k φ H _ hH Step.refl (.str _)⟩
  ·cases e
 ·cases e;cases r with
  | cons r r'=>cases r;cases r';exact .inr ⟨_,rfl,k φ H _ hH Step.refl (.str _)⟩
 ·cases e
noncomputable def oq:W->List W->Po W:=λx xs=>match x,xs with
 | .str x,[.str y]=>ret (.bl (decide (0+↑y<=↑x)&&subAt x y 0))
 | _,_=>eG
noncomputable def HF:V->List V->Hp->VK->Prop:=λx xs H Q=>∃z y,x=.str z/\xs=[.str y]/\Q (.bl (decide (0+↑y<=↑z)&&subAt z y 0)) H
theorem aaJ:nF X "str.startswith" HF:=by
 intro pins s σ H x xs v us Q I rx rv h;obtain⟨z,y,rfl,rfl,q⟩:=h;obtain⟨t,rfl⟩:=rx;obtain⟨u,rfl,t',rfl⟩:=Vals.one rv;exact call_gives PySem.F.slot_str_startswith (afm s z t) PySem.F.entry_str_startswith (PySem.F.args_str_startswith_2 _ _) (gives_str_startswith z y t t') ⟨.bl _,H,I,rfl,q⟩
theorem aaK:lZ K "str" HF oq:=by
 intro φ ph H x xs vx vs w ph' Q hH rx rs e k;unfold oq at e;split at e
 ·cases e;cases rx;cases rs with
  | cons r0 rr=>cases r0;cases rr;exact⟨_,_,rfl,rfl,k φ H _ hH Step.refl (.bl _)⟩
 ·cases e
theorem FR:∀(tk:Nat) (zs:aN),Vals (zs.map V.str) (strsFrom tk zs)
 | _,[]=>.nil
 | tk,z::zs=>.cons ⟨tk,rfl⟩ (FR (tk+1) zs)
theorem GN{K:abG}{φ:Nat->abV}{n:Nat}{H:Hp}:∀zs:aN,a9 K φ n H (zs.map W.str) (zs.map V.str)
 | []=>.nil
 | z::zs=>.cons (.str z) (GN zs)
noncomputable def Jg:V->List V->Hp->VK->Prop:=λx xs H Q=>∃z y,x=.str z/\xs=[.str y]/\(↑y==0)=false/\↑z<=acd/\(aex z y).length<=acd/\∀p,H p=Z->Q (.ref p) (upd H p (.lst ((aex z y).map V.str)))
theorem QJ:nF X "str.split" Jg:=by
 intro pins s σ H x xs v us Q I rx rv h;obtain⟨z,y,rfl,rfl,hy,hx,hn,q⟩:=h;obtain⟨t,rfl⟩:=rx;obtain⟨u,rfl,t',rfl⟩:=Vals.one rv;have fin:∀(its:aS) (k:Nat),Vals ((aex z y).map V.str) its->EP X pins σ Q (.ref s.heap.objs.size) { s with toks:=k,heap:=s.heap.push { cls:=.type "list",data:=.seq its.toArray } }:=λits k r=>
  ⟨.ref s.heap.objs.size,_,I.laid (o:=.lst _) (λb u q=>abJ _ q) (abO _) ⟨by rw[abI];exact hn,its,_,r,acp _ rfl⟩,rfl,q _ (I.aA.fresh (abO _))⟩
 cases h1:(decide (↑z<↑y)||decide (agT z<agT y))
 ·cases hf:(occurrences z y 0 ↑z (↑z+1)).isEmpty
  ·have e:aex z y=partsBetween z (occurrences z y 0 ↑z (↑z+1)) ↑y:=(if_neg (ne_true_of_eq_false h1)).trans (if_neg (ne_true_of_eq_false hf));refine agq aeW (afm s z t) afR (afJ _ _) (meets_str_split_sep z y t t' h1 hy hf hx (e▸hn)) ?_;exact fin _ _ (e▸FR _ _)
  ·have e:aex z y=[z]:=(if_neg (ne_true_of_eq_false h1)).trans (if_pos hf);refine agq aeW (afm s z t) afR (afJ _ _) (meets_str_split_not_found z y t t' h1 hy hf) ?_;exact fin [.str z t] s.toks (by rw[e];exact .cons ⟨t,rfl⟩ .nil)
 ·have e:aex z y=[z]:=if_pos h1;refine agq aeW (afm s z t) afR (afJ _ _) (meets_str_split_cannot_occur z y t t' h1) ?_;exact fin [.str z t] s.toks (by rw[e];exact .cons ⟨t,rfl⟩ .nil)
noncomputable def fP:W->List W->Po W:=λx xs ph=>match x,xs with
 | .str z,[.str y]=>if(↑y==0)=false/\↑z<=acd/\(aex z y).length<=acd then O (.ref ↑ph,ph++[.lst ((aex z y).map W.str)]) else Z
 | _,_=>Z
theorem QK:lZ K "str" Jg fP:=by
 intro φ ph H x xs vx vs w ph' Q hH rx rs e k;unfold fP at e;split at e
 ·split at e
  ·rename_i hc;cases e;cases rx;cases rs with
   | cons r0 rr=>
    cases r0;cases rr;refine⟨_,_,rfl,rfl,hc.1,hc.2.1,hc.2.2,λp hp=>?_⟩;obtain⟨q1,q2,q3⟩:=kW (ws:=(aex _ _).map W.str) hH (GN _) hp;exact k _ _ _ q1 q2 q3
  ·cases e
 ·cases e
noncomputable def Cq:V->Option Int->Option Int->Hp->VK->Prop:=λx lo hi H Q=>∃t,x=.str t/\↑t<=acd/\Q (.str (afS t lo hi)) H
theorem Tg:lS X Cq:=by
 intro pins s σ H x v vl vu lo hi sl Q I rx hs pl pu h;obtain⟨t,rfl,hz,q⟩:=h;obtain⟨tk,rfl⟩:=rx;cases pl with
 | none=>
  cases pu with
  | none=>exact⟨"str",_,afT.lookup,afm _ _ _,aeP (l:=Z) (u:=Z) (st:=Z) hs rfl (agA ⟨abX (ahL t _ _) hz,λt' k=>⟨.str (afS t Z Z),H,I.tok _,⟨t',rfl⟩,q⟩⟩)⟩
  | int j uj=>exact⟨"str",_,afT.lookup,afm _ _ _,aeP (l:=Z) (u:=O (j,uj)) (st:=Z) hs rfl (agA ⟨abX (ahL t _ _) hz,λt' k=>⟨.str (afS t Z (O j)),H,I.tok _,⟨t',rfl⟩,q⟩⟩)⟩
 | int i ui=>
  cases pu with
  | none=>exact⟨"str",_,afT.lookup,afm _ _ _,aeP (l:=O (i,ui)) (u:=Z) (st:=Z) hs rfl (agA ⟨abX (ahL t _ _) hz,λt' k=>⟨.str (afS t (O i) Z),H,I.tok _,⟨t',rfl⟩,q⟩⟩)⟩
  | int j uj=>exact⟨"str",_,afT.lookup,afm _ _ _,aeP (l:=O (i,ui)) (u:=O (j,uj)) (st:=Z) hs rfl (agA ⟨abX (ahL t _ _) hz,λt' k=>⟨.str (afS t (O i) (O j)),H,I.tok _,⟨t',rfl⟩,q⟩⟩)⟩
noncomputable def yI:W->Option Int->Option Int->Po W:=λw lo hi ph=>match w with
 | .str t=>if ↑t<=acd then O (.str (afS t lo hi),ph) else Z
 | _=>Z
noncomputable def dP(m:EM)(lo hi:OM):EM:=λσ=>ax (m σ) λw=>ax (lo σ) λl=>ax (hi σ) λh=>lift (yI w l h)
section
variable{X:Cx}{e:adA}{m:EM}{lo hi:Option adA}{ml mh:OM}{p2 pos:Pos}
theorem Wt(he:IE X e m)(hl:pH X lo ml)(hh:pH X hi mh):IE X (.Subscript e (.Slice lo hi Z p2) pos) (dP m ml mh):=
 PE.imp (Gk Tg he hl hh) λσ H Q h=>by
  obtain⟨φ,ph,ws,hH,hS,h⟩:=h;refine tM.bind hH hS h λw ph1 av H1 v aB s1 r1 h=>tO.bind aB (hS.mono s1) h λl ph2 bf H2 bu s2 h=>tO.bind bu ((hS.mono s1).mono s2) h λu iz gc H3 eS s3 h=>?_
  obtain⟨w',ph',e,k⟩:=run_lift h;have r3:=(r1.mono s2).mono s3;have vt:=(s1.trans s2).trans s3;unfold yI at e;split at e
  ·split at e
   ·rename_i hc;cases e;cases r3;exact⟨_,rfl,hc,k gc _ _ eS vt (.str _)⟩
   ·cases e
  ·cases e
theorem abf(he:JE X e m)(hl:JO X lo ml)(hh:JO X hi mh):JE X (.Subscript e (.Slice lo hi Z p2) pos) (dP m ml mh):=⟨Wt he.h hl.h hh.h⟩
end
noncomputable def CM(x:Str):Po W:=λph=>match PySem.intText? x with
 | some n=>if ↑x<=640 then O (.int n,ph) else Z
 | none=>Z
noncomputable def jQ:aw->Po W:=λxs=>match xs with
 | [.str x]=>CM x
 | _=>uE xs
noncomputable def Kr:aJ->Hp->VK->Prop:=λxs H Q=>((∃i,xs=[.int i]/\Q (.int i) H)\/∃k,xs=[.bl k]/\Q (.int (if k then 1 else 0)) H)\/∃x n,xs=[.str x]/\PySem.intText? x=O n/\↑x<=640/\Q (.int n) H
theorem Pr:cD X (.type "int") Kr:=by
 intro pins s σ H xs us Q I r h
 rcases h with h | ⟨x,n,rfl,hn,hl,q⟩
 ·exact ON pins s σ H xs us Q I r h
 ·obtain⟨u,rfl,t,rfl⟩:=vals1 r;exact PySem.W.KIN.call_text hn hl ⟨.int n,H,I.tok _,⟨_,rfl⟩,q⟩
theorem Th:gp K Kr jQ:=by
 intro φ ph H xs vs w ph' Q hH r e k;unfold jQ at e;split at e
 ·unfold CM at e;split at e
  ·rename_i n hn;split at e
   ·rename_i hl;cases e;cases r with
    | cons r r'=>cases r;cases r';exact .inr ⟨_,n,rfl,hn,hl,k φ H _ hH Step.refl (.int _)⟩
   ·cases e
  ·cases e
 ·exact .inl (Vj hH r e k)
noncomputable def yJ{β:Type}:List (EM×EM)->aG->(bN->Mo β)->Mo β
 | [],_,f=>f []
 | p::r,σ,f=>ax (p.1 σ) λa=>ax (p.2 σ) λb=>yJ r σ λps=>f ((a,b)::ps)
theorem HG{X:Cx}{σ:L2.St}{ws:aG}{β:Type}{N:β->PH->Prop}:∀(l:List (EM×EM)) {φ:Nat->abV} {ph:PH} {H:Hp} {f:bN->Mo β} {Q:List (V×V)->Hp->Prop},aH X.K φ ph H->aZ X.K φ ↑ph H ws σ->(yJ l ws f ph).Run N (XE X φ ↑ph H) →
  (∀kvs ps ph1 av H1,↑kvs=↑l->aH X.K av ph1 H1->Step X.K φ ↑ph H av ↑ph1 H1->Ki X.K av ↑ph1 H1 kvs ps->(f kvs ph1).Run N (XE X av ↑ph1 H1)->Q ps H1)->xy (l.map λp=>(tM X p.1,tM X p.2)) σ H Q
 | [],φ,ph,H,f,Q,hH,hS,h,k=>k [] [] ph φ H rfl hH Step.refl .nil h
 | p::r,φ,ph,H,f,Q,hH,hS,h,k=>by
  refine tM.bind hH hS h λa ph1 av H1 va aB s1 r1 h=>?_
  refine tM.bind aB (hS.mono s1) h λb ph2 bf H2 vb bu s2 r2 h=>?_
  exact HG r bu ((hS.mono s1).mono s2) h λkvs ps iz gc H3 hl eS s3 rr h=>k ((a,b)::kvs) ((va,vb)::ps) iz gc H3 (congrArg (· +1) hl) eS ((s1.trans s2).trans s3) (.cons ⟨(r1.mono s2).mono s3,r2.mono s3⟩ rr) h
noncomputable def jg(d:bN)(kvs:bN):bN:=kvs.foldl (λd p=>je d p.1 p.2) d
theorem GO{K:abG}{φ:Nat->abV}{n:Nat}{H:Hp}:∀{kvs:bN} {ps:List (V×V)},Ki K φ n H kvs ps->kvs.all (λp=>(kG p.1).isSome)=true →
  ∃m:dc,ps=m.map (λkv=>(kV kv.1,kv.2))/\↑m=↑kvs/\∀{d:bN} {dk:dc},bV K φ n H d dk->bV K φ n H (jg d kvs) (i6 dk m)
 | _,_,.nil,_=>⟨[],rfl,rfl,λr=>r⟩
 | _,_,.cons (a:=x) (b:=y) h t,ha=>by
  rw[ady,abK] at ha;obtain⟨m,e1,e2,e3⟩:=GO t ha.2;obtain⟨κ,ek⟩:=ads.mp ha.1;obtain⟨x1,x2⟩:=x;obtain⟨y1,y2⟩:=y;obtain⟨h1,h2⟩:=h;have:=xq ek;subst this;have:=yb h1;subst this;exact⟨(κ,y2)::m,by rw[e1];rfl,by simp[e2],λr=>e3 (r.put κ h2)⟩
noncomputable def mK(i:Nat)(kvs:bN):Po W:=λph=>match ph[i]? with
 | some (.bI [])=>if kvs.all (λp=>(kG p.1).isSome)=true then O (.ref i,ph.set i (.bI (jg [] kvs))) else Z
 | _=>Z
noncomputable def tX(l:List (EM×EM)):EM:=λσ ph=>yJ l σ (λkvs=>lift (mK ↑ph kvs)) (ph++[.bI []])
section
variable{X:Cx}{pos:Pos}{keys ks:List (Option adA)}{values vs:bS}{l:List (EM×EM)}{k v:adA}{mk mv:EM}
structure zy(X:Cx)(pos:Pos)(keys:List (Option adA))(values:bS)(l:List (EM×EM)):Prop where
 h:u7 X pos keys values (l.map λp=>(tM X p.1,tM X p.2))
theorem HH:zy X pos [] [] []:=⟨RI⟩
theorem kX(hk:JE X k mk)(hv:JE X v mv)(hr:zy X pos ks vs l):zy X pos (O k::ks) (v::vs) ((mk,mv)::l):=⟨Qa hk.h hv.h hr.h⟩
theorem GP(h:zy X pos keys values l)(oV:keys.all (·.isSome)=true)(hl:↑keys=↑values)(h0:keys≠[])(rP:↑keys<=15)(hn:↑l<=15):JE X (.Dict keys values pos) (tX l):=by
 refine⟨PE.imp (QD h.h oV hl h0 rP) λσ H Q h p hp=>?_⟩;obtain⟨φ,ph,ws,hH,hS,h⟩:=h;obtain⟨q1,q2,q3⟩:=Gy hH hp;have bj:(ph++[PO.bI []]).length=↑ph+1:=by simp
 have h:(yJ l ws (λkvs=>lift (mK ↑ph kvs)) (ph++[.bI []])).Run _ (XE X (ext φ ↑ph p) (ph++[PO.bI []]).length (upd H p (.dK []))):=Out.Run.mono h (λ_ _ z=>z) λ_ _ z=>z.step q2
 refine HG l q1 (hS.mono q2) h λkvs ps j2 mj H4 hkl pD st rp h=>?_
 obtain⟨w,ph',e,k⟩:=run_lift h;have ep:mj ↑ph=p:=by rw[st.eq _ (by rw[bj];exact aeo _),mI]
 unfold mK at e;split at e
 ·rename_i hd;split at e
  ·rename_i hk;cases e;obtain⟨m,e1,e2,e3⟩:=GO rp hk;obtain⟨y,ey,my⟩:=pD.mu hd rfl;have s:=ms (K:=X.K) (φ:=mj) (n:=↑j2) (y:=HO.dK (i6 [] m)) ey my;refine⟨?_,m,e1,by rw[e2,hkl];exact hn,?_⟩
   ·rcases pD.hp _ _ hd with⟨kvs,q,rd⟩ | ⟨kvs,q,rd⟩
    ·cases rd;rw[ep] at q;exact .inl q
    ·cases rd;rw[ep] at q;exact .inr q
   ·have hq:=pD.put (x:=HO.dK (i6 [] m)) (o:=.bI (jg [] kvs)) hd rfl (.inl ⟨_,bU,(e3 .nil).mono s⟩);have lt:↑ph<↑j2:=aci (by rw[bj];exact aeo _) st.le;have rr:aQ X.K mj (j2.set ↑ph (PO.bI (jg [] kvs))).length (upd H4 (mj ↑ph) (.dK (i6 [] m))) (.ref ↑ph) (.ref (mj ↑ph)):=.ref (by rw[adU];exact lt);rw[ep] at hq rr s;exact k mj _ _ hq ((q2.trans st).trans (by rw[adU];exact s)) rr
  ·cases e
 ·cases e
end
noncomputable def K9:V->List V->Hp->VK->Prop:=λx ys H Q=>∃a b kvs more,x=.ref a/\ys=[.ref b]/\H a=O (.dK kvs)/\H b=O (.dK more)/\a≠b/\↑kvs+↑more<=acd/\Q .ay (upd H a (.dK (i6 kvs more)))
theorem Pu:nF X "dict.update" K9:=by
 intro pins s σ H x xs v us Q I rx rv h;obtain⟨a,b,kvs,more,rfl,rfl,ea,eb,kP,hz,q⟩:=h;obtain rfl:v=acu a:=rx;obtain⟨u,rfl,ru⟩:=Vals.one rv;obtain rfl:u=acu b:=ru;obtain⟨z,hd,vs,rel,dd⟩:=mM I.aA ea;obtain⟨z2,hd2,vs2,La,y0⟩:=mM I.aA eb;refine call_meetsIn ahd dd.typeIs PySem.F.entry_dict_update (PySem.F.args_dict_update_2 _ _) (meets_dict_update (dm X.prog X.w) a b kP hd2) ⟨vs,vs2,dd,y0,by rw[<- ↑rel,<- La.length];exact hz,λh' iT _ hs=>?_⟩;have he:∃q,h'.get? a=O q:=let ⟨q,_,_,hq,_⟩:=iT;⟨q,hq⟩
 exact⟨.ay,_,xo (t':=s.toks) I (by rw[ea];exact aeT) hs he (Bx (abX (Ad more kvs) hz) hd (La.merge rel) iT),rfl,q⟩
theorem bV.fill{K:abG}{φ:Nat->abV}{n:Nat}{H:Hp}:∀{b:bN} {more:dc},bV K φ n H b more->∀{a:bN} {kvs:dc},bV K φ n H a kvs->bV K φ n H (jg a b) (i6 kvs more)
 | _,_,.nil,_,_,r=>r
 | _,_,.cons (k:=k) h t,_,_,r=>bV.fill t (r.put k h)
noncomputable def pd:W->List W->Po W:=λx xs ph=>match xs with
 | [y]=>match gq x ph,gq y ph with
  | some p,O q=>if p.1≠q.1/\p.2≠[]/\q.2≠[]/\p.2.all (λz=> !fj z.1)=true/\q.2.all (λz=> !fj z.1)=true/\↑p.2+↑q.2<=acd then O (.ay,ph.set p.1 (.bI (jg p.2 q.2))) else Z
  | _,_=>Z
 | _=>Z
theorem Wu:lZ K "dict" K9 pd:=by
 intro φ ph H x xs vx vs w ph' Q hH rx rs e k;unfold pd at e;split at e
 ·split at e
  ·rename_i p q hp hq;split at e
   ·rename_i hc;cases e;obtain⟨i,ka⟩:=p;obtain⟨j,kb⟩:=q;obtain⟨h1,h2,h3,h4,h5,h6⟩:=hc;cases rs with
    | cons r0 rr=>
     cases rr;obtain⟨rfl,hi,DF,rfl⟩:=kU hH rx hp;obtain⟨rfl,hj,hdj,rfl⟩:=kU hH r0 hq;obtain⟨y,ey,my⟩:=hH.mu DF rfl
     rcases hH.hp _ _ DF with⟨kvs,qa,ra⟩ | ⟨kvs,qa,ra⟩
     ·rcases hH.hp _ _ hdj with⟨more,qb,rb⟩ | ⟨more,qb,rb⟩
      ·have s:=ms (K:=K) (φ:=φ) (n:=↑ph) (y:=HO.dK (i6 kvs more)) ey my;refine⟨φ i,φ j,kvs,more,rfl,rfl,qa,qb,λz=>h1 (hH.inj i j hi hj z),by rw[<- ra.len,<- rb.len];exact h6,?_⟩;exact k φ _ _ (hH.put DF rfl (.inl ⟨_,bU,(bV.fill rb ra).mono s⟩)) (by rw[adU];exact s) .ay
      ·exact absurd (rb.uI h5).1 h3
     ·exact absurd (ra.uI h4).1 h2
   ·cases e
  ·cases e
 ·cases e
noncomputable def yK:W->W->Po W:=λx y=>match x,y with
 | .int i,.int j=>ret (.bl (decide (i=j)))
 | .ay,.int _=>ret (.bl false)
 | .int _,.ay=>ret (.bl false)
 | .ay,.ay=>ret (.bl true)
 | _,_=>eG
theorem Wv:cK K LC yK:=by
 intro φ ph H x y vx vy w ph' Q hH rx ry e k;have fin:∀{c:Bool} {d:Bool},d=c->(∀ak H' v,aH K ak ph H'->Step K φ ↑ph H ak ↑ph H'->aQ K ak ↑ph H' (.bl c) v->Q v H')->Q (.bl d) H:=λe k=>e▸k φ H _ hH Step.refl (.bl _)
 unfold yK at e;split at e
 ·cases e;cases rx;cases ry;exact⟨rfl,fin (by simp) k⟩
 ·cases e;cases rx;cases ry;exact⟨rfl,fin (by simp) k⟩
 ·cases e;cases rx;cases ry;exact⟨rfl,fin (by simp) k⟩
 ·cases e;cases rx;cases ry;exact⟨rfl,fin (by simp) k⟩
 ·cases e
theorem Ww{b:adA}:Cp X .Eq b yK:=⟨⟨_,Xy,Wv⟩,oy _⟩
section
variable{prog:acL}{w:adl}{A:adq}{E:aY}{s:abT}{env:Env}
variable{nm q:Str}{C N:abV}{bs bm f6:aS}{hdct:Bool}{sn:aN}{sub:aS}{ab:Bool}{col:Option Bool}{dd:ce}{k0 k1 k2 k3 k5:fQ}{B Bn newId zm xK zo:String}{zp:aS}
theorem QL(Fn:age Bn newId zo zp)(rQ:f6.contains (.type Bn)=true)(F:age B zm xK f6){mN:dr}{x:Str}{np cV:Pos}{args:bS}{Q:aY}(tP:(afv cV (acv args env)).any (·.1)=false)(hni:mN "__init__"=Z)(h:acf (acr prog w) A (aeX (.Name x np) env) (λf bB=>f=.ref C/\acf (acr prog w) A (evalArgs (.ref C) true (afv cV (acv args env)) []) (λa iY=>a.kw=[]/\a.pos.length<=acd/\iY.heap.get? C=O (afE nm q C N bs bm hdct sn sub ab col dd k0 k1 k2 k3 k5 newId)/\iY.heap.Ns N mN/\OwnTail iY.heap f6 bm/\∀h' e,Heap.MadeExcOf iY.heap h' e (.ref C) a.pos->Q (.ref e) { iY with heap:=h' }) E bB) E s) :
  acf (acr prog w) A (aeX (.Call (.Name x np) args [] cV) env) Q E s:=by
 refine wpAny_Call_ofName (acW h (λf bB bO=>?_) λ_ _ x=>x);obtain⟨rfl,bO⟩:=bO;unfold callWith;refine abF (acJ (acW bO (λa iY i3=>abF (aet ?_)) λ_ _ x=>x));obtain⟨apos,akw⟩:=a;obtain⟨hkw,bj,hC,hn,T,i3⟩:=i3;obtain rfl:akw=[]:=hkw;obtain⟨hp,g,d,tk,os⟩:=iY;simp only[tP];refine abF (wpAny_keeperOf_exc hC ?_);exact abF (wpAny_call_exc_subU (hrest:=bj) Fn rQ F T hC hn hni λh' e hm=>abF (acJ (wpAny_point (abM (i3 h' e hm)))))
abbrev Ti(C t a:abV):Obj:={ cls:=.ref C,dict:=Z,data:=.fields #[.ref t,.none,.ref a,.none,.bool true,.none] }
theorem NM{e a:abV}{oa:Obj}{vs:dC}{Q:aY}(ha:s.heap.get? a=O oa)(hd:oa.data=.fields vs)(h2:vs[2]? =O .none)(h:Q .none s):acf (acr prog w) A (runValue (.builtin "proto.unchain" ⟨[.ref e,.ref a,.ref a,.bool false],[]⟩)) Q E s:=by
 refine wpAny_runValue (codeAny_builtin (b:=afD.«proto.unchain») (entryFor_of_tree (by kernel_rfl)) ?_);unfold afD.«proto.unchain»;refine abF (acD ha hd h2 ?_);rw[if_pos (by decide)];exact abM h
theorem Oq{x c:Sem acb}{Q:Flow->abT->Prop}{a:abV}(iI:bm.contains (.type "BaseException")=true)(hh:A.handled=O (.ref a))(hc:∀{Q':aY} {s'},Q' .none s'->acf (acr prog w) A c Q' E s')(h:acf (acr prog w) A x (λv bB=>∃e t oa vs,v=.ref e/\e≠a/\bB.heap.get? C=O (afE nm q C N bs bm hdct sn sub ab col dd k0 k1 k2 k3 k5 newId)/\bB.heap.get? e=O (gi C Z t)/\bB.heap.get? a=O oa/\oa.data=.fields vs/\vs[2]? =O .none/\∀h',h'.get? e=O (Ti C t a)->(∀b,b≠e->h'.get? b=bB.heap.get? b)->E (.ref e) { bB with heap:=h' }) E s) :
  acf (acr prog w) A (raiseStmt env (O x) (O c)) Q E s:=by
 have DE:(acu C::bm).contains (.type "BaseException")=true:=by rw[agM,iI,aiR]
 unfold raiseStmt;refine abF (acW h (λv bB bO=>?_) λ_ _ x=>x);obtain⟨e,t,oa,vs,rfl,cT,hC,he,hA,hd,h2,hE⟩:=bO;obtain⟨hp,g,d,tk,os⟩:=bB;refine abF (acJ (hc (abF (abM ?_))))
 dsimp only
 repeat (first | with_reducible refine adP he ?_ | with_reducible refine adP hC ?_ | (with_reducible refine agy hC ?_;rw[DE]) | wp_step)
 have Mn:e≠C:=λz=>by rw[z,hC] at he;cases he
 have Mp:((hp.update e (acK λx=>x.setIfInBounds 3 acB)).update e (acK λx=>x.setIfInBounds 4 (afG true))).get? C=O (afE nm q C N bs bm hdct sn sub ab col dd k0 k1 k2 k3 k5 newId):=by
  rw[acl _ _ Mn,acl _ _ Mn];exact hC
 have Mq:((hp.update e (acK λx=>x.setIfInBounds 3 acB)).update e (acK λx=>x.setIfInBounds 4 (afG true))).get? a=O oa:=by
  rw[acl _ _ cT,acl _ _ cT];exact hA
 have rN:((hp.update e (acK λx=>x.setIfInBounds 3 acB)).update e (acK λx=>x.setIfInBounds 4 (afG true))).get? e=O { cls:=.ref C,dict:=Z,data:=.fields #[.ref t,.none,.none,.none,.bool true,.none] }:=acN _ (acN _ he rfl) rfl;have yL:∀b,b≠e->((hp.update e (acK λx=>x.setIfInBounds 3 acB)).update e (acK λx=>x.setIfInBounds 4 (afG true))).get? b=hp.get? b:=λb hb=>by
  rw[acl _ _ (adD hb),acl _ _ (adD hb)]
 generalize (hp.update e (acK λx=>x.setIfInBounds 3 acB)).update e (acK λx=>x.setIfInBounds 4 (afG true))=h3 at Mp Mq rN yL ⊢;refine adP Mp (abM ?_);rw[if_pos (by rfl)];refine abM ?_;unfold agt;refine abF (abF (acD (x:=.none) rN rfl rfl ?_));rw[if_neg (show ¬((acB != acB)=true) by decide)];refine abM ?_;unfold raiseNew;refine abF (wpAny_handled ?_);rw[hh];show acf _ _ (do
  if(acu a != acu e)=true then
   let _ <- ags [acu e] (runValue (.builtin "proto.unchain" ⟨[.ref e,.ref a,.ref a,.bool false],[]⟩))
   updateField e 2 (.ref a)
  throw (acu e)) _ _ _
 have hn:(acu a != acu e)=true:=by
  rw[bne_iff_ne];intro z;cases z;exact cT rfl
 rw[if_pos hn];refine abF (acJ (NM (e:=e) Mq hd h2 ?_));refine abF (show acf _ _ (setField (.ref e) 2 (.ref a)) _ _ _ from adS rN rfl (show 2<6 by decide) (wpAny_throw ?_));exact hE _ (acN _ rN rfl) λb hb=>(acl _ _ (adD hb)).trans (yL b hb)
end
noncomputable def lj(tb:List (Str×Bool))(y:Str)(b:SM):SM:=λσ ph=>match b σ ph with
 | .ex x ph'=>if tb.lookup x.cls=O true/\x.fs.isEmpty=false then .ex ⟨y,[]⟩ ph' else .no
 | .ok f ph'=>.ok f ph'
 | .no=>.no
section
variable{X:Cx}{body:d8}{c x:Str}{tb:List (Str×Bool)}{D C:abV}{np rp cp ap vp il pos lC:Pos}{mb:SM}{z:Str}{ja jn:Nat}
theorem Tj(T:iR X)(hp:jd (acr X.prog X.w) X.A X.env X.xe)(fG:Gl X c)(fH:X.mg c=O (.ref D))(bR:(c==("__debug__":Str))=false)(hk:qE X.K D)(hT:fW X.K D tb)(hq:aeO X.K C fu "ValueError.__new__"=true)(DG:Gl X x)(nM:X.mg x=O (.ref C))(DH:(x==("__debug__":Str))=false)(hb:∀pn E,hU (dg X X.A pn E X.calm) body mb):IS X (.Try body [.ExceptHandler (O (.Name c np)) Z [.Raise (O (.Call (.Name x rp) [.Constant (.str z) ja ap] [] cp)) (O (.Constant .none jn vp)) lC] il] [] [] pos) (lj tb x mb):=by
 intro pins s σ H Dn I h;obtain⟨φ,ph,ws,hH,hS,h⟩:=h;have jB:=I.ok.hd
 let X0:Cx:=dg X X.A (X.pn++pins) X.xe X.calm
 let E1:acb->abT->Prop:=λe s'=>∃x ph' ak H',mb ws ph=.ex x ph'/\aH X.K ak ph' H'/\Step X.K φ ↑ph H ak ↑ph' H'/\kM X0 ak ↑ph' x H' e s'
 have I1:Inv (dg X X.A (X.pn++pins) E1 X.calm) [] σ H s:=oj I rfl jB λp hp=>by simpa using hp
 have back:∀{ao:L2.St} {H':Hp} {s':abT},Inv (dg X X.A (X.pn++pins) E1 X.calm) [] ao H' s'->Inv X pins ao H' s':=λ{ao H' s'} J=>sO J rfl jB λp hp=>by simpa using hp
 have ur:tS (dg X X.A (X.pn++pins) E1 X.calm) mb Dn σ H:=by
  refine⟨φ,ph,ws,hH,hS,?_⟩;unfold lj at h;cases q:mb ws ph with
  | ok f ph'=>rw[q] at h;exact h
  | no=>rw[q] at h;exact h
  | ex x ph'=>exact λak H' e s' r st th=>⟨x,ph',ak,H',q,r,st,Ho jB th⟩
 refine ahx (acW (hb (X.pn++pins) E1 [] s σ H Dn I1 ur) (λf s1 z=>?_) λe s1 z=>?_)
 ·cases f with
  | next=>
   obtain⟨ao,H',J,q⟩:=z;exact afa ⟨ao,H',back J,q⟩
  | brk=>obtain⟨ao,H',J,q⟩:=z;exact⟨ao,H',back J,q⟩
  | cont=>obtain⟨ao,H',J,q⟩:=z;exact⟨ao,H',back J,q⟩
  | ret u=>obtain⟨v,ao,H',J,r,q⟩:=z;exact⟨v,ao,H',back J,r,q⟩
 ·obtain⟨x0,ph',ak,H',q,rH,st,th⟩:=z;unfold lj at h;rw[q] at h
  dsimp only at h
  by_cases hx:tb.lookup x0.cls=O true/\x0.fs.isEmpty=false
  case neg=>rw[if_neg hx] at h;exact h.elim
  rw[if_pos hx] at h;obtain⟨C0,dd,hm0,pE,a,B,rfl,K⟩:=took (X:=X0) ⟨T.st,T.fr,T.ex⟩ th;obtain⟨d,Mr⟩:∃d,dd=O d:=by
   rcases pE with z | ⟨d,_,_,_,_,e,_⟩
   ·rw[z] at hx;cases hx.2
   ·exact⟨d,e⟩
  obtain⟨C',tn,uN⟩:=hT _ _ hx.1;have nt:=acP I.ok.mod.cR I.ok.mod.glob tn;have uO:X.mg x0.cls=O (.ref C0):=hm0;rw[uO] at nt;cases nt;refine K.note (A:=X.A) I.ok.frames λh4 a0 ut nN=>?_
  refine Aj ut λh5 nO nP=>?_
  obtain⟨Ko,iZ,vE,vF,vG,_,fh,_,J5⟩:=K.inv (X:=X0) ⟨T.st,T.fr,T.ex⟩ nO (nN.trans nP)
  let X2:Cx:=dg X (X.A.mark (O (.ref a))) X.pn X.xe false
  have to2:∀{p5:List (abV×Obj)} {ao:L2.St} {H2:Hp} {s':abT},Inv X0 p5 ao H2 s'->Inv X2 pins ao H2 s':=λ{p5 ao H2 s'} J=>oj (X:=X0) J rfl (λz=>nomatch z) λp hp=>aeE _ hp
  have nQ:=to2 J5;refine agz (agf (mz (X:=X2) nQ fG fH ?_ bR)) (by intro z;cases z);refine Au nQ.cS ⟨vE,vF,vG⟩ hk.ek hk.ty uN (codeAny_handlers_suite ?_);refine Ak nO λh6 vH vI=>?_
  obtain⟨Kp,eX,j7,Mm,zw,zx,_,vJ,J6⟩:=K.inv (X:=X0) ⟨T.st,T.fr,T.ex⟩ vH ((nN.trans nP).trans vI);have rR:=to2 J6;obtain⟨-,zz⟩:=vJ d Mr;obtain⟨vs,CL,h2⟩:∃vs,j7.data=.fields vs/\vs[2]? =O .none:=by
   unfold kx at zz;split at zz
   ·exact⟨_,by assumption,by simpa using zz⟩
   ·cases zz
  refine wpAny_passesOwnAt (hp.2 _) (aht ?_);rw[arm_exec_Raise];obtain⟨bm,N,nm,qn,bs,kL,sn,sub,ab,col,iT,k0,k1,k2,k3,k5,mN,o1,o2,o3,o4⟩:=Hn I.ok.mod.cR hq;have hA:tA X2 (ag (eC (.str z)) ai) eX (upd H' a (.bC j7 (.own a))) (λvs H1=>↑vs=1/\∃av,aH X.K av ph' H1/\Step X.K ak ↑ph' (upd H' a (.bC j7 (.own a))) av ↑ph' H1):=
   ⟨ak,ph',abS ↑eX Z,xc rH fh,aZ.none eX,λav H1 vs r1 s1 rv=>⟨rv.length.symm,av,r1,s1⟩⟩
  have key:=Hd (X:=X2) (IC (x:=z) (j:=ja) (pos:=ap)) IH (dF rfl) cp pins _ eX _ _ rR hA;refine abF (aet (Oq (a:=a) (C:=C) (N:=N) (nm:=nm) (q:=qn) (bs:=bs) (bm:=bm) (hdct:=kL) (sn:=sn) (sub:=sub) (ab:=ab) (col:=col) (dd:=iT) (k0:=k0) (k1:=k1) (k2:=k2) (k3:=k3) (k5:=k5) (newId:="ValueError.__new__") (o4.hasType (by rfl)) rfl (λq=>abF (abM (abF (aet (abM q))))) (abF (acW (QL (N:=N) (nm:=nm) (q:=qn) (bs:=bs) (bm:=bm) (hdct:=kL) (sn:=sn) (sub:=sub) (ab:=ab) (col:=col) (dd:=iT) (k0:=k0) (k1:=k1) (k2:=k2) (k3:=k3) (k5:=k5) adf (by rfl) adf (any_none (by rfl)) o3 (mz (X:=X2) rR DG nM ⟨rfl,?_⟩ DH)) (λv s h=>abF (aet (abM h))) λ_ _ x=>x))));rw[dF rfl] at key ⊢;refine agj (aW key λus s1 ⟨vs1,H1,I1,r,q1,av,q2,q3⟩=>⟨rfl,?_,I1.bk _ _ o1,o2.keeps I1.bk,o4.keeps I1.bk,λh' e' j4=>?_⟩)
  ·show ↑us<=_;rw[<- ↑r,q1,afB]
   decide
  ·obtain⟨t,ht,_,_⟩:=j4.there;have Ms:s1.heap.get? a=O j7:=(I1.aA a _ (q3.bC _ _ _ bU)).1;have cT:e'≠a:=λz=>by have:=j4.new;rw[z,Ms] at this;cases this
   refine⟨e',t,j7,vs,rfl,cT,j4.keeps _ _ (I1.bk _ _ o1),ht,j4.keeps _ _ Ms,CL,h2,λvm he yL=>?_⟩;refine h av H1 _ _ q2 ((st.trans (n5 fh)).trans q3) ⟨C,Z,nM,.inl rfl,.inl ⟨pins,eX,s1,vm,e',rfl,rfl,sO I1 rfl jB λp hp=>hp,λb o e=>?_,j4.new,_,_,t,he,rfl,rfl,rfl,rfl⟩⟩;rw[yL b (λz=>by have:=j4.new;rw[<- z,e] at this;cases this)];exact j4.keeps _ _ e
theorem To{N:aN}{sc:aes}{k:Nat}(B:Bd X N sc k)(T:iR X)(fG:Gl X c)(fH:X.mg c=O (.ref D))(bR:(c==("__debug__":Str))=false)(hk:qE X.K D)(hT:fW X.K D tb)(hq:aeO X.K C fu "ValueError.__new__"=true)(DG:Gl X x)(nM:X.mg x=O (.ref C))(DH:(x==("__debug__":Str))=false)(hb:∀{X':Cx},X'.K=X.K->X'.mg=X.mg->X'.prog=X.prog->X'.w=X.w->X'.base=X.base->BdT X' N sc k->JB X' body mb):JS X (.Try body [.ExceptHandler (O (.Name c np)) Z [.Raise (O (.Call (.Name x rp) [.Constant (.str z) ja ap] [] cp)) (O (.Constant .none jn vp)) lC] il] [] [] pos) (lj tb x mb):=
 ⟨Tj T B.CB fG fH bR hk hT hq DG nM DH (λpn E=>(hb (X':=dg X X.A pn E X.calm) rfl rfl rfl rfl rfl ⟨⟨B.hN,B.iW,B.loc,B.gl,B.fn,B.nd⟩,B.calm,B.room⟩).h)⟩
end
noncomputable def tH(tb:List (Str×Bool))(i j:Nat)(b h:SM):SM:=λσ=>match σ[j]? with
 | some (O w)=>λph=>match b σ ph with
  | .ex x ph'=>if tb.lookup x.cls=O true then rM (ax (h ((uo j w σ).set i (O (.exc x.cls (x.fs.map (·.1)) (x.fs.map (·.2)))))) λf=>aD (f.wo i)) ph' else .no
  | .ok f ph'=>.ok f ph'
  | .no=>.no
 | _=>fF
section
variable{X:Cx}{body iJ:d8}{i0:ahZ}{c n:Str}{i j:Nat}{tb:List (Str×Bool)}{D:abV}{np il pos:Pos}{mb mh:SM}
theorem Ot(T:iR X)(fG:Gl X c)(fH:X.mg c=O (.ref D))(bR:(c==("__debug__":Str))=false)(hk:qE X.K D)(hT:fW X.K D tb)(hN:X.N.Nodup)(hi:X.N[i]? =O n)(hl:X.env.scope.names.lookup n=O .local)(fI:iN X n)(hb:∀(pn:List (abV×Obj)) (K0 E0:aY) (v:V),hU (lF X pn (λe s'=>acf (acr X.prog X.w) X.A (afe e X.env) (λ_ fe=>K0 e fe) E0 s') j v) body mb)(hh:∀a E,hU (dg X (X.A.mark (O (.ref a))) X.pn E false) (i0::iJ) mh):IS X (.Try body [.ExceptHandler (O (.Name c np)) (O n) (i0::iJ) il] [] [] pos) (tH tb i j mb mh):=by
 intro pins s σ H Dn I h;obtain⟨φ,ph,ws,hH,hS,h⟩:=h;have jB:=I.ok.hd;unfold tH at h;cases ew:ws[j]? with
 | none=>simp only[ew] at h;exact h.elim
 | some ow=>
 cases ow with
 | none=>simp only[ew] at h;exact h.elim
 | some wj=>
 simp only[ew] at h;obtain⟨va,ev,ra⟩:=hS.get ew
 let X0:Cx:=lF X (X.pn++pins) X.xe j va
 let K0:acb->abT->Prop:=λe iY=>acf (acr X.prog X.w) X.A (agt e Z) (λ_ Ed=>acf (acr X.prog X.w) X.A (handleBy e X.env [.ExceptHandler (O (.Name c np)) (O n) (i0::iJ) il]) (SP X pins Dn) X.xe Ed) X.xe iY
 let E1:acb->abT->Prop:=λe s'=>acf (acr X.prog X.w) X.A (afe e X.env) (λ_ fe=>K0 e fe) X.xe s'
 have I1:Inv (lF X (X.pn++pins) E1 j va) [] σ H s:=SS I ev λp hp=>by simpa using hp
 have back:∀{ao:L2.St} {H':Hp} {s':abT},Inv (lF X (X.pn++pins) E1 j va) [] ao H' s'->Inv X pins ao H' s':=λ{ao H' s'} J=>FO (A':=X.A) (xe':=X.xe) (calm':=X.calm) (pn2:=X.pn) J rfl jB λp hp=>by simpa using hp
 have ur:tS (lF X (X.pn++pins) E1 j va) mb Dn σ H:=by
  refine⟨φ,ph,ws,hH,hS,?_⟩;cases q:mb ws ph with
  | ok f ph'=>rw[q] at h;exact h
  | no=>rw[q] at h;exact h
  | ex x ph'=>
   rw[q] at h
   dsimp only at h
   intro ak H' e s' rH st th;by_cases hx:tb.lookup x.cls=O true
   case neg=>rw[if_neg hx] at h;exact h.elim
   rw[if_pos hx] at h;have th:kM X0 ak ↑ph' x H' e s':=Wc (E:=X.xe) th;obtain⟨C,dd,nM,pE,a,B,rfl,K⟩:=took (X:=X0) ⟨T.st,T.fr,T.ex⟩ th;obtain⟨C',tn,uN⟩:=hT _ _ hx;have nt:=acP I.ok.mod.cR I.ok.mod.glob tn;have uO:X.mg x.cls=O (.ref C):=nM;rw[uO] at nt;cases nt;refine K.note (A:=X.A) I.ok.frames λh4 a0 ut nN=>?_
   refine Aj ut λh5 nO nP=>?_
   obtain⟨Ko,iZ,vE,vF,vG,_,fh,_,J5⟩:=K.inv (X:=X0) ⟨T.st,T.fr,T.ex⟩ nO (nN.trans nP)
   let X2:Cx:=dg X (X.A.mark (O (.ref a))) X.pn (λ_ _=>False) false
   have to2:∀{p5:List (abV×Obj)} {ao:L2.St} {H2:Hp} {s':abT},Inv X0 p5 ao H2 s'->Inv X2 pins ao H2 s':=λ{p5 ao H2 s'} J=>FO J rfl (λz=>nomatch z) λp hp=>aeE _ hp
   have nQ:=to2 J5;refine agz (agf (mz (X:=X2) nQ fG fH ?_ bR)) (by intro z;cases z);refine Au nQ.cS ⟨vE,vF,vG⟩ hk.ek hk.ty uN (agS ?_);refine Ak nO λh6 vH vI=>?_
   obtain⟨Kp,eX,j7,Mm,zw,zx,_,vJ,J6⟩:=K.inv (X:=X0) ⟨T.st,T.fr,T.ex⟩ vH ((nN.trans nP).trans vI);have rR:=to2 J6;refine w8 (X:=X2) rR hN hi (.inl hl) (v:=.ref a) rfl (λs7 J7=>?_) ⟨.inr hl,fI⟩;have bj:↑ws=↑eX:=by rw[hS.len,I.len];exact J6.len.symm
   have hj6:eX[j]? =O (O va):=J6.lk.2.2
   let D':Ends:={ nx:=λao H'=>Dn.nx (ao.set i Z) H',bk:=λao H'=>Dn.bk (ao.set i Z) H',ct:=λao H'=>Dn.ct (ao.set i Z) H',rt:=Dn.rt }
   obtain⟨vf,xf,rf⟩:=HE (u:=HO.own a) fh vJ pE;have Mt:=st.trans (n5 (K:=X.K) (φ:=ak) (n:=↑ph') (o:=HO.bC j7 (.own a)) fh);have rs:aZ X.K ak ↑ph' (upd H' a (.bC j7 (.own a))) (uo j wj ws) eX:=by
    have:=aZ.set (ws:=abS ↑ws Z) (ra.mono Mt) j (by rw[bj];exact aZ.none eX);rw[We hj6] at this;exact this
   have BE:tS X2 mh D' (eX.set i (O (.ref a))) (upd H' a (.bC j7 (.own a))):=by
    refine⟨ak,ph',(uo j wj ws).set i (O (.exc x.cls (x.fs.map (·.1)) (x.fs.map (·.2)))),xc rH fh,aZ.set (.exc bU zw tn zx xf rf) i rs,?_⟩;unfold rM ax at h;cases q2:mh ((uo j wj ws).set i (O (.exc x.cls (x.fs.map (·.1)) (x.fs.map (·.2))))) ph' with
    | no=>rw[q2] at h;exact h.elim
    | ex y p2=>rw[q2] at h;exact h.elim
    | ok f p2=>
     rw[q2] at h;intro bf H2 r2 s2;have h2:=h bf H2 r2 (Mt.trans s2);cases f with
     | nx cO=>exact λao r=>h2 (ao.set i Z) (aZ.unset i r)
     | bk cO=>exact λao r=>h2 (ao.set i Z) (aZ.unset i r)
     | ct cO=>exact λao r=>h2 (ao.set i Z) (aZ.unset i r)
     | rt w=>exact h2
   have li:∀{ao:L2.St} {H2:Hp} {s':abT},Inv X2 pins ao H2 s'->Inv X pins ao H2 s':=λ{ao H2 s'} J=>sO J rfl jB λp hp=>hp
   refine acW (hh a (λ_ _=>False) pins s7 _ _ D' J7 BE) (λf s8 z=>?_) λ_ _ z=>z.elim
   cases f with
   | next=>
    obtain⟨ao,H2,J8,q8⟩:=z;exact name_goes (li J8) hN hi hl fI λs9 J9=>⟨_,H2,J9,q8⟩
   | brk=>
    obtain⟨ao,H2,J8,q8⟩:=z;exact name_goes (li J8) hN hi hl fI λs9 J9=>⟨_,H2,J9,q8⟩
   | cont=>
    obtain⟨ao,H2,J8,q8⟩:=z;exact name_goes (li J8) hN hi hl fI λs9 J9=>⟨_,H2,J9,q8⟩
   | ret u=>
    obtain⟨v,ao,H2,J8,r8,q8⟩:=z;exact name_goes (li J8) hN hi hl fI λs9 J9=>⟨v,_,H2,J9,r8,q8⟩
 refine ahx (acW (hb (X.pn++pins) K0 X.xe va [] s σ H Dn I1 ur) (λf s1 z=>?_) λe s1 z=>z);cases f with
 | next=>
  obtain⟨ao,H',J,q⟩:=z;exact afa ⟨ao,H',back J,q⟩
 | brk=>obtain⟨ao,H',J,q⟩:=z;exact⟨ao,H',back J,q⟩
 | cont=>obtain⟨ao,H',J,q⟩:=z;exact⟨ao,H',back J,q⟩
 | ret u=>obtain⟨v,ao,H',J,r,q⟩:=z;exact⟨v,ao,H',back J,r,q⟩
theorem Ou{N:aN}{sc:aes}{k:Nat}{m:Str}(B:Bd X N sc k)(T:iR X)(cU:X.env.scope=sc)(fG:Gl X c)(fH:X.mg c=O (.ref D))(bR:(c==("__debug__":Str))=false)(hk:qE X.K D)(hT:fW X.K D tb)(i:Nat)(hi:N[i]? =O n)(hl:sc.names.lookup n=O .local)(j:Nat)(hj:N[j]? =O m)(hv:ju sc m)(hb:∀{X':Cx},X'.K=X.K->X'.mg=X.mg->X'.prog=X.prog->X'.w=X.w->X'.base=X.base->Bd X' N (vw sc m) k->iR X'->X'.env.scope=sc->JB X' body mb)(hh:∀{X':Cx},X'.K=X.K->X'.mg=X.mg->gG X' N sc->JB X' (i0::iJ) mh):JS X (.Try body [.ExceptHandler (O (.Name c np)) (O n) (i0::iJ) il] [] [] pos) (tH tb i j mb mh):=
 ⟨Ot T fG fH bR hk hT (by rw[B.hN];exact B.nd) (by rw[B.hN];exact hi) (by rw[cU];exact hl) (B.fn n (.inl hl)).2
  (λpn K0 E0 v=>(hb (X':=lF X pn _ j v) rfl rfl rfl rfl rfl (B.aab hj hv jd.looking) ⟨T.st,T.fr,T.ex⟩ cU).h)
  (λa E=>(hh (X':=dg X (X.A.mark (O (.ref a))) X.pn E false) rfl rfl ⟨B.hN,B.iW,B.loc,B.gl,B.fn,B.nd⟩).h)⟩
end
end IL
namespace PySem
open Sem (wp)
namespace ZS
abbrev fC(h:adt)(z TI TO:abV)(f0:acb)(b:Bool):Prop:=
 h.get? z=O { cls:=.type "zip",dict:=Z,data:=.fields #[f0,.bool b,.bool false,.ref TI,.ref TO],slots:= #[] }
inductive ZK where
 | tup
 | lst
 | txt (x:Str)
noncomputable def SI(t:ZK)(h:adt)(it l:abV)(k:Nat):Prop:=match t with
 | .tup=>h.IsTupleIter it l k
 | .lst=>h.IsListIter it l k
 | .txt x=>∃tk,h.IsStrIter it "str_ascii_iterator" x tk k
noncomputable def SL(t:ZK)(h:adt)(l:abV)(xs:dC):Prop:=match t with
 | .tup=>h.IsTuple l xs
 | .lst=>h.IsList l xs
 | .txt x=>x.cps.all (· <128)=true
noncomputable def IX(t:ZK)(xs:dC)(k:Nat)(v:acb):Prop:=match t with
 | .txt x=>∃c u,x.cps[k]? =O c/\v=.str ⟨#[c]⟩ u
 | _=>xs[k]? =O v
noncomputable def NX(t:ZK)(xs:dC)(k:Nat):Prop:=match t with
 | .txt x=>x.cps[k]? =Z
 | _=>xs[k]? =Z
theorem Ks(t:ZK)(xs:dC)(k:Nat):NX t xs k\/¬NX t xs k:=Classical.em _
noncomputable def Fr(h:adt)(f0:acb):Prop:=f0=.none\/∃T:abV,f0=adZ T/\h.get? T=Z
section
variable{t:ZK}{h h':adt}{it l b:abV}{k:Nat}{xs:dC}
theorem SI.at(x:SI t h it l k)(e:∀o,h.get? it=O o->h'.get? it=O o):SI t h' it l k:=by
 cases t
 ·exact Heap.IsTupleIter.at x e
 ·exact Heap.IsListIter.at x e
 ·obtain⟨tk,o,ho,r⟩:=x;exact⟨tk,o,e o ho,r⟩
theorem SI.extBut(x:SI t h it l k)(hs:aif b h h')(n:it≠b):SI t h' it l k:=x.at λo e=>hs _ _ n e
theorem SL.extBut(x:SL t h l xs)(hs:aif b h h')(n:l≠b):SL t h' l xs:=by
 cases t
 ·obtain⟨o,e,r⟩:=x;exact⟨o,hs _ _ n e,r⟩
 ·exact Heap.IsList.extBut x hs n
 ·exact x
theorem SI.obj(x:SI t h it l k):∃o,h.get? it=O o/\∀v,o.data≠.cell v:=by
 cases t
 ·obtain⟨o,e,_,d⟩:=x;exact⟨o,e,λv q=>by rw[d] at q;cases q⟩
 ·obtain⟨o,e,_,d⟩:=x;exact⟨o,e,λv q=>by rw[d] at q;cases q⟩
 ·obtain⟨_,o,e,_,d⟩:=x;exact⟨o,e,λv q=>by rw[d] at q;cases q⟩
theorem SI.lt(x:SI t h it l k):it<h.objs.size:=by obtain⟨o,e,_⟩:=x.obj;exact abW e
end
section
variable{prog:acL}{w:adl}{A:adq}{E:aY}{s:abT}
variable{t:ZK}{it l:abV}{i:Nat}{items:dC}{Q:aY}
theorem qg(hit:SI t s.heap it l i)(hl:SL t s.heap l items)(hx:¬NX t items i)(hQ:∀x tk h',IX t items i x->SI t h' it l (i+1)->aeZ it s.heap h'->Q x { s with heap:=h',toks:=tk }) :
  acf (acr prog w) A (acs (.ref it)) Q E s:=by
 cases t
 ·obtain⟨x,hx⟩:=afs.mp hx;exact ZT.M7 hit hl hx λh' a b=>hQ x s.toks h' hx a b
 ·obtain⟨x,hx⟩:=afs.mp hx;exact wpAny_nextOf_list_item hit hl hx λh' a b=>hQ x s.toks h' hx a b
 ·obtain⟨c,hx⟩:=afs.mp hx;obtain⟨tk,hit⟩:=hit;exact wpAny_nextOf_ascii_item hit hx λh' a b=>hQ _ _ h' ⟨c,_,hx,rfl⟩ ⟨tk,a⟩ b
theorem xM(hh:A.handled=Z)(hit:SI t s.heap it l i)(hl:SL t s.heap l items)(hx:NX t items i)(hE:∀h' e,aif it s.heap h'->(∃o,h'.get? e=O o/\o.cls=.type "StopIteration")->E (.ref e) { s with heap:=h' }) :
  acf (acr prog w) A (acs (.ref it)) Q E s:=by
 cases t
 ·exact ZT.Nl hh hit hl hx hE
 ·exact wpAny_nextOf_list_end hh hit hl hx hE
 ·obtain⟨tk,hit⟩:=hit;exact wpAny_nextOf_ascii_end hh hit hx hE
theorem dead{a:abV}{Q:Option Obj->abT->Prop}(ho:s.heap.get? a=Z)(h:Q Z s):acf (acr prog w) A (aih a) Q E s:=by
 intro Γ p _;show wp _ _ (Sem.loadIfAlive a Sem.pure) _ _ _ _;rw[Sem.wp_loadIfAlive,ho];exact h
variable{z:abV}{f0:acb}{bb:Bool}
theorem free{TI TO:abV}{Q:Bool->abT->Prop}(hz:fC s.heap z TI TO f0 bb)(hD:Fr s.heap f0)(hQ:Q true s):acf (acr prog w) A (acE (.ref z)) Q E s:=by
 unfold acE
 rcases hD with rfl | ⟨T,rfl,hT⟩
 ·exact abF (acD hz rfl (x:=.none) rfl (abM hQ))
 ·refine abF (acD hz rfl (x:=adZ T) rfl ?_);show acf _ _ (aih T >>= _) _ _ _;refine abF (dead hT ?_);show acf _ _ (pure true) _ _ _;exact abM hQ
variable{t1 t2:ZK}{i1 i2 l1 l2:abV}{k1 k2:Nat}{xs ys:dC}{a b:acb}
theorem Nw{TI TO:abV}{Q:aY}(D:ago z TI TO i1 i2 l1 l2)(hz:fC s.heap z TI TO f0 bb)(hD:Fr s.heap f0)(c9:aeK s.heap TI (.ref i1) (.ref i2))(f7:aeK s.heap TO a b)(h1:SI t1 s.heap i1 l1 k1)(h2:SI t2 s.heap i2 l2 k2)(dJ:SL t1 s.heap l1 xs)(c8:SL t2 s.heap l2 ys)(hx:¬NX t1 xs k1)(hy:¬NX t2 ys k2)(hQ:∀x y tk h',IX t1 xs k1 x->IX t2 ys k2 y->IsZip h' z TI TO (adZ s.heap.objs.size)->aeK h' TO x y->SI t1 h' i1 l1 (k1+1)->SI t2 h' i2 l2 (k2+1)->aeK h' s.heap.objs.size x y->h'.objs.size=s.heap.objs.size+1 → (∀c o,c≠z->c≠TO->c≠i1->c≠i2->s.heap.get? c=O o->h'.get? c=O o)->Q (.ref s.heap.objs.size) { s with heap:=h',toks:=tk }) :
  acf (acr prog w) A (afD.«zip.__next__» ⟨[.ref z],[]⟩) (λfin s'=>∃v,fin=.done (.ret v)/\Q v s') E s:=by
 show acf _ _ (aiU (.ref z) 2 >>= _) _ _ _;refine abF (acD hz rfl (x:=.bool false) rfl ?_);show acf _ _ (aiU (.ref z) 3 >>= _) _ _ _;refine abF (acD hz rfl (x:=.ref TI) rfl ?_);refine abF (adT c9 rfl ?_);show acf _ _ (acE (.ref z) >>= _) _ _ _;refine abF (free hz hD ?_);simp only[if_true];refine abF (aiE ?_);refine abF (acD hz rfl (x:=.ref TO) rfl ?_);refine abF (adJ hz (by simp) λbO j8 bY=>?_)
 replace j8:fC bO z TI TO .ellipsis bb:=j8
 refine abF ?_;simp only[List.zipIdx_cons,List.zipIdx_nil,ael,afy];refine abF (abF (aho ?_));show acf _ _ (acs (.ref i1) >>= _) _ _ _;refine abF (qg (h1.extBut bY.extBut D.i1z) (dJ.extBut bY.extBut D.l1z) hx λx DI i3 hX vK dB=>abM ?_);have uR:aeK i3 TO a b:=dB.extBut _ _ D.TOi1 (bY.extBut _ _ D.TOz f7);refine abF (adT uR rfl ?_);refine abF (agl uR λjG yM eV=>?_)
 replace yM:aeK jG TO x b:=yM
 refine abF (ahn (abM ?_));refine abF (abF (aho ?_));show acf _ _ (acs (.ref i2) >>= _) _ _ _;refine abF (qg (((h2.extBut bY.extBut D.i2z).extBut dB.extBut D.i12.symm).extBut eV.extBut D.TOi2.symm)
  (((c8.extBut bY.extBut D.l2z).extBut dB.extBut D.l2i1).extBut eV.extBut D.l2TO) hy λy aas Ee hY aat nR=>abM ?_)
 have Lb:aeK Ee TO x b:=nR.extBut _ _ D.TOi2 yM;refine abF (adT Lb rfl ?_);refine abF (agl Lb λfo uS nS=>?_)
 replace uS:aeK fo TO x y:=uS
 refine abF (ahn (abM (abM ?_)));refine abF (adT uS rfl ?_);refine abF (wpAny_newTuple ?_);have hsz:fo.objs.size=s.heap.objs.size:=by rw[nS.1,nR.1,eV.1,dB.1,bY.1]
 have Mu:fC fo z TI TO .ellipsis bb:=nS.extBut _ _ D.TOz.symm (nR.extBut _ _ D.i2z.symm (eV.extBut _ _ D.TOz.symm (dB.extBut _ _ D.i1z.symm j8)));have aau:∀c o,c≠z->c≠TO->c≠i1->c≠i2->s.heap.get? c=O o->fo.get? c=O o:=λc o c1 c2 c3 c4 e=>
  nS.extBut _ _ c2 (nR.extBut _ _ c4 (eV.extBut _ _ c2 (dB.extBut _ _ c3 (bY.extBut _ _ c1 e))))
 have Mv:SI t1 fo i1 l1 (k1+1):=((vK.extBut eV.extBut D.TOi1.symm).extBut nR.extBut D.i12).extBut nS.extBut D.TOi1.symm;have Mw:SI t2 fo i2 l2 (k2+1):=aat.extBut nS.extBut D.TOi2.symm;have Lc:z<fo.objs.size:=abW Mu;have abl:TO<fo.objs.size:=abW uS;have abm:i1<fo.objs.size:=Mv.lt;have abn:i2<fo.objs.size:=Mw.lt;show acf _ _ (afz (.ref z) (.ref fo.objs.size) >>= _) _ _ _;refine abF ?_;unfold afz;have aav:fC (fo.push { cls:=.type "tuple",data:=.seq #[x,y] }) z TI TO .ellipsis bb:=abJ _ Mu;refine abF (adJ aav (by simp) λaaz DJ DK=>?_)
 replace DJ:fC aaz z TI TO (adZ fo.objs.size) bb:=DJ
 refine adJ DJ (by simp) λwk zA DL=>?_
 replace zA:IsZip wk z TI TO (adZ fo.objs.size):=zA
 have up:∀c o,c≠z->fo.get? c=O o->wk.get? c=O o:=λc o c1 e=>DL.extBut _ _ c1 (DK.extBut _ _ c1 (abJ _ e))
 have Mx:aeK wk fo.objs.size x y:=DL.extBut _ _ (aed Lc) (DK.extBut _ _ (aed Lc) (acp _ rfl));have My:wk.objs.size=fo.objs.size+1:=by rw[DL.1,DK.1,aeB]
 rw[hsz] at zA Mx My;refine abM ⟨_,rfl,?_⟩;show Q (.ref fo.objs.size) _;rw[hsz];exact hQ x y _ wk hX hY zA (up _ _ D.TOz uS) (Mv.at λo e=>up _ o D.i1z e) (Mw.at λo e=>up _ o D.i2z e) Mx My λc o c1 c2 c3 c4 e=>up c o c1 (aau c o c1 c2 c3 c4 e)
theorem NC{TI TO:abV}{Q:Fin->abT->Prop}(hh:A.handled=Z)(D:ago z TI TO i1 i2 l1 l2)(hz:fC s.heap z TI TO f0 bb)(hD:Fr s.heap f0)(c9:aeK s.heap TI (.ref i1) (.ref i2))(f7:aeK s.heap TO a b)(h1:SI t1 s.heap i1 l1 k1)(h2:SI t2 s.heap i2 l2 k2)(dJ:SL t1 s.heap l1 xs)(c8:SL t2 s.heap l2 ys)(nv:NX t1 xs k1\/NX t2 ys k2)(hE:∀tk h' e,(∀c o,c≠z->c≠TO->c≠i1->c≠i2->s.heap.get? c=O o->h'.get? c=O o)->(∃o,h'.get? e=O o/\o.cls=.type "StopIteration")->E (.ref e) { s with heap:=h',toks:=tk }) :
  acf (acr prog w) A (afD.«zip.__next__» ⟨[.ref z],[]⟩) Q E s:=by
 show acf _ _ (aiU (.ref z) 2 >>= _) _ _ _;refine abF (acD hz rfl (x:=.bool false) rfl ?_);show acf _ _ (aiU (.ref z) 3 >>= _) _ _ _;refine abF (acD hz rfl (x:=.ref TI) rfl ?_);refine abF (adT c9 rfl ?_);show acf _ _ (acE (.ref z) >>= _) _ _ _;refine abF (free hz hD ?_);simp only[if_true];refine abF (aiE ?_);refine abF (acD hz rfl (x:=.ref TO) rfl ?_);refine abF (adJ hz (by simp) λbO j8 bY=>?_)
 replace j8:fC bO z TI TO .ellipsis bb:=j8
 refine abF ?_;simp only[List.zipIdx_cons,List.zipIdx_nil,ael,afy];refine abF (abF (aho ?_));show acf _ _ (acs (.ref i1) >>= _) _ _ _
 rcases Ks t1 xs k1 with hx | hx
 case inl=>
  refine abF (xM hh (h1.extBut bY.extBut D.i1z) (dJ.extBut bY.extBut D.l1z) hx λi3 e dB he=>?_);obtain⟨oe,pL,vL⟩:=he;have Mz:fC i3 z TI TO .ellipsis bb:=dB _ _ D.i1z.symm j8;have DM:e≠z:=λx=>by subst x;rw[Mz] at pL;cases pL;simp at vL
  refine adJ Mz (by simp) λjG _ eV=>hE _ jG e (λc o c1 _ c3 _ x=>eV.extBut _ _ c1 (dB _ _ c3 (bY.extBut _ _ c1 x))) ⟨oe,eV.extBut _ _ DM pL,vL⟩
 case inr=>
  have hy:NX t2 ys k2:=nv.resolve_left hx;refine abF (qg (h1.extBut bY.extBut D.i1z) (dJ.extBut bY.extBut D.l1z) hx λx DI i3 hX vK dB=>abM ?_);have uR:aeK i3 TO a b:=dB.extBut _ _ D.TOi1 (bY.extBut _ _ D.TOz f7);refine abF (adT uR rfl ?_);refine abF (agl uR λjG yM eV=>?_);refine abF (ahn (abM ?_));refine abF (abF (aho ?_));show acf _ _ (acs (.ref i2) >>= _) _ _ _;refine abF (xM hh (((h2.extBut bY.extBut D.i2z).extBut dB.extBut D.i12.symm).extBut eV.extBut D.TOi2.symm)
   (((c8.extBut bY.extBut D.l2z).extBut dB.extBut D.l2i1).extBut eV.extBut D.l2TO) hy λEe e nR he=>?_)
  obtain⟨oe,pL,vL⟩:=he;have MA:fC Ee z TI TO .ellipsis bb:=nR _ _ D.i2z.symm (eV.extBut _ _ D.TOz.symm (dB.extBut _ _ D.i1z.symm j8));have DM:e≠z:=λx=>by subst x;rw[MA] at pL;cases pL;simp at vL
  refine adJ MA (by simp) λfo _ nS=>hE _ fo e (λc o c1 c2 c3 c4 x=>nS.extBut _ _ c1 (nR _ _ c4 (eV.extBut _ _ c2 (dB.extBut _ _ c3 (bY.extBut _ _ c1 x))))) ⟨oe,nS.extBut _ _ DM pL,vL⟩
theorem Nq{TI TO:abV}{Q:fQ->abT->Prop}(D:ago z TI TO i1 i2 l1 l2)(hz:fC s.heap z TI TO f0 bb)(hD:Fr s.heap f0)(c9:aeK s.heap TI (.ref i1) (.ref i2))(f7:aeK s.heap TO a b)(h1:SI t1 s.heap i1 l1 k1)(h2:SI t2 s.heap i2 l2 k2)(dJ:SL t1 s.heap l1 xs)(c8:SL t2 s.heap l2 ys)(hx:¬NX t1 xs k1)(hy:¬NX t2 ys k2)(hQ:∀x y tk h',IX t1 xs k1 x->IX t2 ys k2 y->IsZip h' z TI TO (adZ s.heap.objs.size)->aeK h' TO x y->SI t1 h' i1 l1 (k1+1)->SI t2 h' i2 l2 (k2+1)->aeK h' s.heap.objs.size x y->h'.objs.size=s.heap.objs.size+1 → (∀c o,c≠z->c≠TO->c≠i1->c≠i2->s.heap.get? c=O o->h'.get? c=O o)->Q (O (.ref s.heap.objs.size)) { s with heap:=h',toks:=tk }) :
  acf (acr prog w) A (ahu (.ref z)) Q E s:=by
 have hT:s.TypeIs (.ref z) "zip":=⟨_,hz,rfl⟩
 unfold ahu;exact abF (afo (ada (name:=abH "__next__") hT adY
  (adv adY hT agh
   (Nw D hz hD c9 f7 h1 h2 dJ c8 hx hy λx y tk h' b1 b2 a1 a2 a3 a4 a5 a6 a7=>abM (hQ x y tk h' b1 b2 a1 a2 a3 a4 a5 a6 a7)) (afZ _))))
theorem Nv{TI TO:abV}{Q:fQ->abT->Prop}(hh:A.handled=Z)(D:ago z TI TO i1 i2 l1 l2)(hz:fC s.heap z TI TO f0 bb)(hD:Fr s.heap f0)(c9:aeK s.heap TI (.ref i1) (.ref i2))(f7:aeK s.heap TO a b)(h1:SI t1 s.heap i1 l1 k1)(h2:SI t2 s.heap i2 l2 k2)(dJ:SL t1 s.heap l1 xs)(c8:SL t2 s.heap l2 ys)(nv:NX t1 xs k1\/NX t2 ys k2)(hQ:∀tk h',(∀c o,c≠z->c≠TO->c≠i1->c≠i2->s.heap.get? c=O o->h'.get? c=O o)->Q Z { s with heap:=h',toks:=tk }):acf (acr prog w) A (ahu (.ref z)) Q E s:=by
 have hT:s.TypeIs (.ref z) "zip":=⟨_,hz,rfl⟩
 unfold ahu;refine abF (afo (ada (name:=abH "__next__") hT adY
  (adv adY hT agh (NC hh D hz hD c9 f7 h1 h2 dJ c8 nv λtk h' e hk he=>?_) (afZ _))))
 obtain⟨o,ho,hc⟩:=he;refine abF (wpAny_isInstance (T:="StopIteration") (b:=true) ⟨o,ho,hc⟩ isSubtype_stop ?_);exact abM (hQ _ _ hk)
variable{o:Obj}
theorem alive{a:abV}{Q:Option Obj->abT->Prop}(ho:s.heap.get? a=O o)(h:Q (O o) s):acf (acr prog w) A (aih a) Q E s:=by
 intro Γ p _;show wp _ _ (Sem.loadIfAlive a Sem.pure) _ _ _ _;rw[Sem.wp_loadIfAlive,ho];exact h
variable{T:abV}
theorem busy{TI TO:abV}{b:Bool}{Q:Bool->abT->Prop}(hz:fC s.heap z TI TO (adZ T) b)(hT:s.heap.get? T=O o)(hQ:∀h',fC h' z TI TO (adZ T) true->aeZ z s.heap h'->Q false { s with heap:=h' }):acf (acr prog w) A (acE (.ref z)) Q E s:=by
 unfold acE;refine abF (acD hz rfl (x:=adZ T) rfl ?_);show acf _ _ (aih T >>= _) _ _ _;refine abF (alive hT ?_);show acf _ _ (aiU (.ref z) 1 >>= _) _ _ _;refine abF (acD hz rfl (x:=.bool b) rfl ?_);cases b with
 | true=>exact abM (hQ s.heap hz ⟨rfl,λ_ _=>rfl⟩)
 | false=>
  show acf _ _ (setField (.ref z) 1 (.bool true) >>= _) _ _ _;exact abF (adJ hz (by simp) λh' DN hs=>abM (hQ h' DN hs))
theorem ND{TI TO:abV}{b:Bool}{Q:aY}(D:ago z TI TO i1 i2 l1 l2)(hz:fC s.heap z TI TO (adZ T) b)(hT:s.heap.get? T=O o)(c9:aeK s.heap TI (.ref i1) (.ref i2))(h1:SI t1 s.heap i1 l1 k1)(h2:SI t2 s.heap i2 l2 k2)(dJ:SL t1 s.heap l1 xs)(c8:SL t2 s.heap l2 ys)(hx:¬NX t1 xs k1)(hy:¬NX t2 ys k2)(hQ:∀x y tk h',IX t1 xs k1 x->IX t2 ys k2 y->fC h' z TI TO (adZ T) true->SI t1 h' i1 l1 (k1+1)->SI t2 h' i2 l2 (k2+1)->aeK h' s.heap.objs.size x y → (∀c o,c≠z->c≠i1->c≠i2->s.heap.get? c=O o->h'.get? c=O o)->Q (.ref s.heap.objs.size) { s with heap:=h',toks:=tk }) :
  acf (acr prog w) A (afD.«zip.__next__» ⟨[.ref z],[]⟩) (λfin s'=>∃v,fin=.done (.ret v)/\Q v s') E s:=by
 show acf _ _ (aiU (.ref z) 2 >>= _) _ _ _;refine abF (acD hz rfl (x:=.bool false) rfl ?_);show acf _ _ (aiU (.ref z) 3 >>= _) _ _ _;refine abF (acD hz rfl (x:=.ref TI) rfl ?_);refine abF (adT c9 rfl ?_);show acf _ _ (acE (.ref z) >>= _) _ _ _;refine abF (busy hz hT λbO j8 bY=>?_);simp only[aew,if_false];refine abF ?_;simp only[<- aiu,ael,afy];refine abF (abF (acJ ?_));show acf _ _ (acs (.ref i1) >>= _) _ _ _;refine abF (qg (h1.extBut bY.extBut D.i1z) (dJ.extBut bY.extBut D.l1z) hx λx DI i3 hX vK dB=>abM ?_);refine abM ?_;refine abF (abF (acJ ?_));show acf _ _ (acs (.ref i2) >>= _) _ _ _;refine abF (qg ((h2.extBut bY.extBut D.i2z).extBut dB.extBut D.i12.symm) ((c8.extBut bY.extBut D.l2z).extBut dB.extBut D.l2i1) hy λy aas jG hY aaw eV=>abM ?_);refine abM (abM ?_);refine abF (wpAny_newTuple (hsz:=(by decide:2<=acd)) ?_);have hsz:jG.objs.size=s.heap.objs.size:=by rw[eV.1,dB.1,bY.1]
 refine abM ⟨_,rfl,?_⟩;show Q (.ref jG.objs.size) _;have aax:fC jG z TI TO (adZ T) true:=eV.extBut _ _ D.i2z.symm (dB.extBut _ _ D.i1z.symm j8);have up:∀c o,jG.get? c=O o->(jG.push { cls:=.type "tuple",data:=.seq #[x,y] }).get? c=O o:=λc o e=>abJ _ e
 rw[hsz];refine hQ x y _ _ hX hY (up _ _ aax) (((vK.extBut eV.extBut D.i12)).at λo e=>up _ o e) (aaw.at λo e=>up _ o e) ?_ λc o c1 c3 c4 e=>up c o (eV.extBut _ _ c4 (dB.extBut _ _ c3 (bY.extBut _ _ c1 e)))
 rw[<- hsz];exact acp _ rfl
theorem NN{TI TO:abV}{b:Bool}{Q:Fin->abT->Prop}(hh:A.handled=Z)(D:ago z TI TO i1 i2 l1 l2)(hz:fC s.heap z TI TO (adZ T) b)(hT:s.heap.get? T=O o)(c9:aeK s.heap TI (.ref i1) (.ref i2))(h1:SI t1 s.heap i1 l1 k1)(h2:SI t2 s.heap i2 l2 k2)(dJ:SL t1 s.heap l1 xs)(c8:SL t2 s.heap l2 ys)(nv:NX t1 xs k1\/NX t2 ys k2)(hE:∀tk h' e,(∀c o,c≠z->c≠i1->c≠i2->s.heap.get? c=O o->h'.get? c=O o)->(∃o,h'.get? e=O o/\o.cls=.type "StopIteration")->E (.ref e) { s with heap:=h',toks:=tk }) :
  acf (acr prog w) A (afD.«zip.__next__» ⟨[.ref z],[]⟩) Q E s:=by
 show acf _ _ (aiU (.ref z) 2 >>= _) _ _ _;refine abF (acD hz rfl (x:=.bool false) rfl ?_);show acf _ _ (aiU (.ref z) 3 >>= _) _ _ _;refine abF (acD hz rfl (x:=.ref TI) rfl ?_);refine abF (adT c9 rfl ?_);show acf _ _ (acE (.ref z) >>= _) _ _ _;refine abF (busy hz hT λbO j8 bY=>?_);simp only[aew,if_false];refine abF ?_;simp only[<- aiu,ael,afy];refine abF (abF (acJ ?_));show acf _ _ (acs (.ref i1) >>= _) _ _ _
 rcases Ks t1 xs k1 with hx | hx
 case inl=>
  refine abF (xM hh (h1.extBut bY.extBut D.i1z) (dJ.extBut bY.extBut D.l1z) hx λi3 e dB he=>?_);exact hE _ i3 e (λc o c1 c3 _ x=>dB _ _ c3 (bY.extBut _ _ c1 x)) he
 case inr=>
  have hy:NX t2 ys k2:=nv.resolve_left hx;refine abF (qg (h1.extBut bY.extBut D.i1z) (dJ.extBut bY.extBut D.l1z) hx λx DI i3 hX vK dB=>abM ?_);refine abM ?_;refine abF (abF (acJ ?_));show acf _ _ (acs (.ref i2) >>= _) _ _ _;refine abF (xM hh ((h2.extBut bY.extBut D.i2z).extBut dB.extBut D.i12.symm) ((c8.extBut bY.extBut D.l2z).extBut dB.extBut D.l2i1) hy λjG e eV he=>?_);exact hE _ jG e (λc o c1 c3 c4 x=>eV _ _ c4 (dB.extBut _ _ c3 (bY.extBut _ _ c1 x))) he
end
noncomputable def DO(t:ZK):String:=match t with
 | .tup=>"tuple_iterator"
 | .lst=>"list_iterator"
 | .txt _=>"str_ascii_iterator"
noncomputable def SV(t:ZK)(l:abV)(v:acb):Prop:=match t with
 | .txt x=>∃tk,v=.str x tk
 | _=>v=.ref l
abbrev zB(t1:ZK)(h:adt)(l1:acb):Heap:=h.push { cls:=.type (DO t1),data:=.fields #[l1,.int 0 0] }
abbrev zC(t1 t2:ZK)(h:adt)(l1 l2:acb):Heap:=(zB t1 h l1).push { cls:=.type (DO t2),data:=.fields #[l2,.int 0 0] }
abbrev zD(t1 t2:ZK)(h:adt)(l1 l2:acb):Heap:=(zC t1 t2 h l1 l2).push { cls:=.type "tuple",data:=.seq #[.ref h.objs.size,.ref (zB t1 h l1).objs.size] }
abbrev zE(t1 t2:ZK)(h:adt)(l1 l2:acb):Heap:=(zD t1 t2 h l1 l2).push { cls:=.type "tuple",data:=.seq #[.none,.none] }
abbrev pM(t1 t2:ZK)(h:adt)(l1 l2:acb):Heap:=(zE t1 t2 h l1 l2).push { cls:=.type "zip",data:=.fields #[.none,.bool false,.bool false,.ref (zC t1 t2 h l1 l2).objs.size,.ref (zD t1 t2 h l1 l2).objs.size] }
noncomputable def DP:ZK->ZK->Bool
 | .tup,.tup=>true
 | .txt _,.lst=>true
 | _,_=>false
theorem Pw(t1 t2:ZK)(l1 l2:abV)(v1 v2:acb)(xs ys:dC)(ok:DP t1 t2=true):Meets (afD.«zip.__new__» ⟨[.type "zip",v1,v2],[]⟩) (λ_ R s=>SV t1 l1 v1/\SV t2 l2 v2/\SL t1 s.heap l1 xs/\SL t2 s.heap l2 ys/\R (.ok (.ret (.ref (zE t1 t2 s.heap v1 v2).objs.size))) { s with heap:=pM t1 t2 s.heap v1 v2 }):=
 .of_wp λprog w A R s h=>by
  obtain⟨hp,g,d,tk,os⟩:=s;obtain⟨e1,e2,dJ,c8,h⟩:=h;have Ld:=sub_zip;cases t1 <;> cases t2
  ·cases e1;have DQ:Heap.IsTuple (aiY ⟨hp,g,d,tk,os⟩) l1 xs:=dJ;cases e2;have DR:Heap.IsTuple (aiY ⟨hp.push { cls:=.type "tuple_iterator",data:=.fields #[.ref l1,.int 0 0] },g,d,tk,os⟩) l2 ys:=ZT.Oj c8 _
   wp_walk using agH DQ,agH DR
   exact⟨_,rfl,h⟩
  ·cases ok
  ·cases ok
  ·cases ok
  ·cases ok
  ·cases ok
  ·cases ok
  ·rename_i x1;obtain⟨u1,rfl⟩:=e1;have DQ:x1.cps.all (· <128)=true:=dJ;cases e2;have DR:Heap.IsList (aiY ⟨hp.push { cls:=.type "str_ascii_iterator",data:=.fields #[.str x1 u1,.int 0 0] },g,d,tk,os⟩) l2 ys:=Heap.IsList.push c8 _
   wp_walk using wpAny_pyIter_ascii DQ,agV DR
   exact⟨_,rfl,h⟩
  ·cases ok
theorem Jh{t:ZK}{h:adt}{l it:abV}{v:acb}(e:SV t l v)(g:h.get? it=O { cls:=.type (DO t),data:=.fields #[v,.int 0 0] }):SI t h it l 0:=by
 cases t
 ·cases e;exact⟨_,g,rfl,rfl⟩
 ·cases e;exact⟨_,g,rfl,rfl⟩
 ·obtain⟨tk,rfl⟩:=e;exact⟨tk,_,g,rfl,rfl⟩
section
variable{prog:acL}{w:adl}{A:adq}{E:aY}{s:abT}
theorem QM{t1 t2:ZK}{l1 l2:abV}{xs ys:dC}{Q:aY}{v1 v2:acb}(ok:DP t1 t2=true)(e1:SV t1 l1 v1)(e2:SV t2 l2 v2)(dJ:SL t1 s.heap l1 xs)(c8:SL t2 s.heap l2 ys)(h:∀h',IsZip h' (s.heap.objs.size+4) (s.heap.objs.size+2) (s.heap.objs.size+3) .none->aeK h' (s.heap.objs.size+2) (.ref s.heap.objs.size) (.ref (s.heap.objs.size+1)) → aeK h' (s.heap.objs.size+3) .none .none->SI t1 h' s.heap.objs.size l1 0->SI t2 h' (s.heap.objs.size+1) l2 0->h'.objs.size=s.heap.objs.size+5 → (∀c o,s.heap.get? c=O o->h'.get? c=O o)->Q (.ref (s.heap.objs.size+4)) { s with heap:=h' }) :
  acf (acr prog w) A (call (.type "zip") [v1,v2]) Q E s:=by
 refine callType_new F.called_zip (by decide) (F.typeCall_zip_2 _ _) (F.newCall_zip_2 _ _) (λobj=>F.args_object_init_3 obj _ _) F.entry_zip_new
  (Pw t1 t2 l1 l2 v1 v2 xs ys ok) ⟨e1,e2,dJ,c8,?_⟩
 have z1:(zB t1 s.heap v1).objs.size=s.heap.objs.size+1:=aeB ..;have z2:(zC t1 t2 s.heap v1 v2).objs.size=s.heap.objs.size+2:=by rw[aeB,z1]
 have z3:(zD t1 t2 s.heap v1 v2).objs.size=s.heap.objs.size+3:=by rw[aeB,z2]
 have z4:(zE t1 t2 s.heap v1 v2).objs.size=s.heap.objs.size+4:=by rw[aeB,z3]
 have z5:(pM t1 t2 s.heap v1 v2).objs.size=s.heap.objs.size+5:=by rw[aeB,z4]
 have g5:(pM t1 t2 s.heap v1 v2).get? (zE t1 t2 s.heap v1 v2).objs.size=O _:=acp _ rfl;have g4:(pM t1 t2 s.heap v1 v2).get? (zD t1 t2 s.heap v1 v2).objs.size=O _:=abJ _ (acp _ rfl);have g3:(pM t1 t2 s.heap v1 v2).get? (zC t1 t2 s.heap v1 v2).objs.size=O _:=abJ _ (abJ _ (acp _ rfl));have g2:(pM t1 t2 s.heap v1 v2).get? (zB t1 s.heap v1).objs.size=O _:=abJ _ (abJ _ (abJ _ (acp _ rfl)));have g1:(pM t1 t2 s.heap v1 v2).get? s.heap.objs.size=O _:=abJ _ (abJ _ (abJ _ (abJ _ (acp _ rfl))));show _/\_;rw[z2,z3,z4] at g5;rw[z1,z2] at g3;rw[z3] at g4;rw[z1] at g2;rw[z4];exact⟨⟨_,g5,rfl⟩,h _ g5 g3 g4 (Jh e1 g1) (Jh e2 g2) z5 λc o x=>
  abJ _ (abJ _ (abJ _ (abJ _ (abJ _ x))))⟩
end
noncomputable def ZN(h:adt)(z TI TO:abV):Prop:=(∃a b,aeK h TO a b)/\∃f0 b,fC h z TI TO f0 b/\(f0=.none\/∃T:abV,f0=adZ T)
theorem ZN.keep{h h':adt}{z TI TO:abV}(st:ZN h z TI TO)(k1:∀o,h.get? z=O o->h'.get? z=O o)(k2:∀o,h.get? TO=O o->h'.get? TO=O o):ZN h' z TI TO:=by
 obtain⟨⟨a,b,p⟩,f0,c,e,f⟩:=st;exact⟨⟨a,b,k2 _ p⟩,f0,c,k1 _ e,f⟩
section
variable{prog:acL}{w:adl}{A:adq}{E:aY}{s:abT}{t1 t2:ZK}{z TI TO i1 i2 l1 l2 T:abV}{k1 k2:Nat}{xs ys:dC}
theorem Tp{Q:fQ->abT->Prop}(D:ago z TI TO i1 i2 l1 l2)(st:ZN s.heap z TI TO)(c9:aeK s.heap TI (.ref i1) (.ref i2))(h1:SI t1 s.heap i1 l1 k1)(h2:SI t2 s.heap i2 l2 k2)(dJ:SL t1 s.heap l1 xs)(c8:SL t2 s.heap l2 ys)(hx:¬NX t1 xs k1)(hy:¬NX t2 ys k2)(hQ:∀x y tk h',IX t1 xs k1 x->IX t2 ys k2 y->ZN h' z TI TO->SI t1 h' i1 l1 (k1+1)->SI t2 h' i2 l2 (k2+1)->aeK h' s.heap.objs.size x y → (∀c o,c≠z->c≠TO->c≠i1->c≠i2->s.heap.get? c=O o->h'.get? c=O o)->Q (O (.ref s.heap.objs.size)) { s with heap:=h',toks:=tk }) :
  acf (acr prog w) A (ahu (.ref z)) Q E s:=by
 obtain⟨⟨a,b,f7⟩,f0,c,hz,f⟩:=st;have go:Fr s.heap f0->acf (acr prog w) A (ahu (.ref z)) Q E s:=λhD=>
  Nq D hz hD c9 f7 h1 h2 dJ c8 hx hy λx y tk h' b1 b2 a1 a2 a3 a4 a5 a6 hk=>hQ x y tk h' b1 b2 ⟨⟨_,_,a2⟩,_,_,a1,.inr ⟨_,rfl⟩⟩ a3 a4 a5 hk
 rcases f with rfl | ⟨T,rfl⟩
 ·exact go (.inl rfl)
 ·cases hT:s.heap.get? T with
  | none=>exact go (.inr ⟨T,rfl,hT⟩)
  | some o=>
   have vM:s.TypeIs (.ref z) "zip":=⟨_,hz,rfl⟩
   unfold ahu;exact abF (afo (ada (name:=abH "__next__") vM adY
    (adv adY vM agh
     (ND D hz hT c9 h1 h2 dJ c8 hx hy λx y tk h' b1 b2 a1 a3 a4 a5 hk=>abM (hQ x y tk h' b1 b2 ⟨⟨a,b,hk _ _ D.TOz D.TOi1 D.TOi2 f7⟩,_,_,a1,.inr ⟨T,rfl⟩⟩ a3 a4 a5 λc o c1 _ c3 c4 e=>hk c o c1 c3 c4 e)) (afZ _))))
theorem Wx{Q:fQ->abT->Prop}(hh:A.handled=Z)(D:ago z TI TO i1 i2 l1 l2)(st:ZN s.heap z TI TO)(c9:aeK s.heap TI (.ref i1) (.ref i2))(h1:SI t1 s.heap i1 l1 k1)(h2:SI t2 s.heap i2 l2 k2)(dJ:SL t1 s.heap l1 xs)(c8:SL t2 s.heap l2 ys)(nv:NX t1 xs k1\/NX t2 ys k2)(hQ:∀tk h',(∀c o,c≠z->c≠TO->c≠i1->c≠i2->s.heap.get? c=O o->h'.get? c=O o)->Q Z { s with heap:=h',toks:=tk }):acf (acr prog w) A (ahu (.ref z)) Q E s:=by
 obtain⟨⟨a,b,f7⟩,f0,c,hz,f⟩:=st;have go:Fr s.heap f0->acf (acr prog w) A (ahu (.ref z)) Q E s:=λhD=>Nv hh D hz hD c9 f7 h1 h2 dJ c8 nv hQ
 rcases f with rfl | ⟨T,rfl⟩
 ·exact go (.inl rfl)
 ·cases hT:s.heap.get? T with
  | none=>exact go (.inr ⟨T,rfl,hT⟩)
  | some o=>
   have vM:s.TypeIs (.ref z) "zip":=⟨_,hz,rfl⟩
   unfold ahu;refine abF (afo (ada (name:=abH "__next__") vM adY
    (adv adY vM agh (NN hh D hz hT c9 h1 h2 dJ c8 nv λtk h' e hk he=>?_) (afZ _))))
   obtain⟨o,ho,hc⟩:=he;refine abF (wpAny_isInstance (T:="StopIteration") (b:=true) ⟨o,ho,hc⟩ isSubtype_stop ?_);exact abM (hQ _ _ λc o c1 _ c3 c4 e=>hk c o c1 c3 c4 e)
theorem YJ{tg:adA}{Q:Unit->abT->Prop}(h:TO≠z)(st:ZN s.heap z TI TO)(hQ:∀h',ZN h' z TI TO->aeZ z s.heap h'->Q () { s with heap:=h' }) :
  acf (acr prog w) A (afb tg (.ref z) (.ref T)) Q E s:=by
 have q0:Q () s:=hQ s.heap st ⟨rfl,λ_ _=>rfl⟩;obtain⟨⟨a,b,f7⟩,f0,c,hz,f⟩:=st;have key:acf (acr prog w) A (do
   let o <- load z
   match o.cls,o.data with
   | .type n,.fields vs=>
    if["enumerate","zip","dict_itemiterator","dict_reverseitemiterator","odict_iterator","itertools.zip_longest","itertools.pairwise"].contains n&&vs[0]? ==O (adZ T) then
     rule "for.unpacks-the-owned-tuple"
     updateField z 0 .none
   | _,_=>pure ()) Q E s:=by
  refine abF (wpAny_load hz ?_);show acf _ _ (if(["enumerate","zip","dict_itemiterator","dict_reverseitemiterator","odict_iterator","itertools.zip_longest","itertools.pairwise"].contains "zip" &&
   (#[f0,.bool c,.bool false,.ref TI,.ref TO]:dC)[0]? ==O (adZ T))=true then _ else _) Q E s
  split
  ·refine abF (aiE ?_);show acf _ _ (setField (.ref z) 0 .none) Q E s;exact adJ hz (by simp) λh' DN zg=>hQ h' ⟨⟨a,b,zg.extBut _ _ h f7⟩,.none,c,DN,.inl rfl⟩ zg
  ·exact abM q0
 unfold afb;cases tg <;> first
  | exact abM q0
  | exact key
theorem HI{Q:aY}(st:ZN s.heap z TI TO)(h:Q (.ref z) s):acf (acr prog w) A (pyIter (.ref z)) Q E s:=by
 obtain⟨_,f0,c,hz,_⟩:=st;have hT:s.TypeIs (.ref z) "zip":=⟨_,hz,rfl⟩
 refine wpAny_pyIter_slot hT F.slot_zip_iter (adv F.slot_zip_iter hT F.entry_zip_iter ?_ (F.args_zip_iter_1 _));show acf _ _ (ret (.ref z)) _ _ s;exact abM ⟨_,rfl,"zip",_,hT,adY.lookup,h⟩
end
end ZS
end PySem
namespace IL
open PySem PySem.Spec PyProof.Rows L2 PySem.ZS
noncomputable def iX(K:abG)(t:ZK)(H:Hp)(a:abV)(xs:aJ):Prop:=match t with
 | .tup=>bX K H a xs
 | .lst=>bK K H a xs
 | .txt x=>x.cps.all (· <128)=true/\xs=x.cps.toList.map λc=>V.str ⟨#[c]⟩
variable{X:Cx}{t:ZK}{a:abV}
theorem qv{pins:List (abV×Obj)}{σ:L2.St}{H:Hp}{s:abT}{xs:aJ}(I:Inv X pins σ H s)(h:iX X.K t H a xs):∃its:dC,SL t s.heap a its/\(∀i x,xs[i]? =O x->¬NX t its i/\∀u,IX t its i u->RelV x u)/\∀i,↑xs<=i->NX t its i:=by
 have key:∀its:aS,Vals xs its->∀{P:Prop},P->P/\(∀i x,xs[i]? =O x->¬its.toArray[i]? =Z/\∀u,its.toArray[i]? =O u->RelV x u)/\∀i,↑xs<=i->its.toArray[i]? =none:=λits r P p=>
  ⟨p,λi x hx=>by
   obtain⟨u,hu,ru⟩:=r.get hx;have MB:its.toArray[i]? =O u:=by simpa using hu
   exact⟨by rw[MB];simp,λv hv=>by rw[MB] at hv;cases hv;exact ru⟩,λi hi=>by
   have:=↑r;simp;omega⟩
 cases t
 ·obtain⟨its,r,p,z⟩:=I.tuple h;exact⟨its.toArray,key its r p⟩
 ·obtain⟨its,r,p,z⟩:=I.list h;exact⟨its.toArray,key its r p.isList⟩
 ·rename_i z;obtain⟨ha,rfl⟩:=h;refine⟨#[],ha,λi x hx=>?_,λi hi=>?_⟩
  ·rw[abQ] at hx;obtain⟨c,hc,rfl⟩:=abU.mp hx;have hc:z.cps[i]? =O c:=by rw[<- hc];simp
   refine⟨λn=>?_,λu hu=>?_⟩
   ·have n:z.cps[i]? =none:=n;rw[hc] at n;cases n
   ·obtain⟨c',u',jY,rfl⟩:=hu;rw[hc] at jY;cases jY;exact⟨u',rfl⟩
  ·show z.cps[i]? =Z
   simpa using hi
theorem HJ{pins:List (abV×Obj)}{σ:L2.St}{H:Hp}{s:abT}{xs ys:aJ}(I:Inv X pins σ H s)(h:iX X.K t H a xs)(h':iX X.K t H a ys):xs=ys:=by
 cases t
 ·exact I.Fy h h'
 ·exact I.AF h h'
 ·exact h.2.trans h'.2.symm
noncomputable def uT(K:abG)(t1 t2:ZK)(a b:abV):It:=
 ⟨λi H=>∃xs ys x y,iX K t1 H a xs/\iX K t2 H b ys/\xs[i]? =O x/\ys[i]? =O y,λi H v H'=>∃T x y,v=.ref T/\H T=Z/\H'=upd H T (.tup [x,y])/\∀xs ys,iX K t1 H a xs->iX K t2 H b ys->xs[i]? =O x/\ys[i]? =O y,λi H=>∃xs ys,iX K t1 H a xs/\iX K t2 H b ys/\(↑xs<=i\/↑ys<=i)⟩
variable{K:abG}
theorem Px{P:acL}{w:adl}{tg:adA}(t1 t2:ZK)(a b z TI TO i1 i2:abV)(D:ago z TI TO i1 i2 a b):Turn P w K tg (uT K t1 t2 a b) [z,TI,TO,i1,i2] z
  (λi h=>ZN h z TI TO/\aeK h TI (.ref i1) (.ref i2)/\SI t1 h i1 a i/\SI t2 h i2 b i) where
 mem:=by simp
 obj:=λi h st c hc=>by
  obtain⟨⟨⟨x,y,f7⟩,_,_,hz,_⟩,c9,h1,h2⟩:=st;have:c=z\/c=TI\/c=TO\/c=i1\/c=i2:=by simpa using hc
  rcases this with rfl | rfl | rfl | rfl | rfl
  ·exact⟨_,hz,λv q=>by cases q⟩
  ·exact⟨_,c9,λv q=>by cases q⟩
  ·exact⟨_,f7,λv q=>by cases q⟩
  ·exact h1.obj
  ·exact h2.obj
 keep:=λi h h' st k=>by
  obtain⟨hz,c9,h1,h2⟩:=st;exact⟨hz.keep (k z (by simp)) (k TO (by simp)),k TI (by simp) _ c9,h1.at λo q=>k i1 (by simp) o q,h2.at λo q=>k i2 (by simp) o q⟩
 item:=by
  intro X hP hw hK hc i pins s σ H E I hf st hg;subst hP hw hK;obtain⟨hz,c9,h1,h2⟩:=st;obtain⟨xs,ys,x,y,qa,qb,hx,hy⟩:=hg;obtain⟨MC,px,gx,_⟩:=qv I qa;obtain⟨MD,py,gy,_⟩:=qv I qb;have lt:∀{c o},s.heap.get? c=O o->s.heap.objs.size≠c:=λe=>aed (abW e)
  have hzo:∃o,s.heap.get? z=O o:=let ⟨_,_,_,e,_⟩:=hz;⟨_,e⟩
  have aag:∃o,s.heap.get? TO=O o:=let ⟨⟨_,_,e⟩,_⟩:=hz;⟨_,e⟩
  obtain⟨_,ez⟩:=hzo;obtain⟨_,eTO⟩:=aag;have ME:s.heap.objs.size≠z:=lt ez;refine Tp D hz c9 h1 h2 px py (gx _ _ hx).1 (gy _ _ hy).1 λu v tk g1 c1 c2 a1 a3 a4 a5 hk=>⟨_,rfl,?_⟩
  have ru:=(gx _ _ hx).2 _ c1;have rv:=(gy _ _ hy).2 _ c2;refine YJ D.TOz a1 λg2 b1 dI=>?_
  have kk:∀c o,c∉[z,TI,TO,i1,i2]->s.heap.get? c=O o->g2.get? c=O o:=λc o hc q=>by
   have n:c≠z/\c≠TI/\c≠TO/\c≠i1/\c≠i2:=by simpa using hc
   exact(dI.2 c n.1).trans (hk c o n.1 n.2.2.1 n.2.2.2.1 n.2.2.2.2 q)
  have new:cZ X.prog X.w (upd H s.heap.objs.size (.tup [x,y])) g2 s.heap.objs.size (.tup [x,y]):=
   ⟨by show 2<=acd;decide,[u,v],.cons ru (.cons rv .nil),_,(dI.2 _ ME).trans a5,rfl,_,rfl⟩
  refine⟨.ref s.heap.objs.size,_,Hr (s:=s) (h':=g2) (t':=tk) I kk hf (abO _) new,rfl,⟨_,x,y,rfl,I.aA.fresh (abO _),rfl,λxs' ys' h3 h4=>by rw[HJ I h3 qa,HJ I h4 qb];exact⟨hx,hy⟩⟩,
   ⟨b1,dI.extBut _ _ D.TIz (hk _ _ D.TIz D.TITO D.TIi1 D.TIi2 c9),a3.extBut dI.extBut D.i1z,a4.extBut dI.extBut D.i2z⟩,λc hc=>?_⟩
  rw[bF (λq=>?_)]
  ·exact(hf c hc).1
  ·have:c=z\/c=TI\/c=TO\/c=i1\/c=i2:=by simpa using hc
   rcases this with e | e | e | e | e
   ·exact ME (by rw[<- q,e])
   ·exact lt c9 (by rw[<- q,e])
   ·exact lt eTO (by rw[<- q,e])
   ·obtain⟨o,e1,_⟩:=h1.obj;exact lt e1 (by rw[<- q,e])
   ·obtain⟨o,e1,_⟩:=h2.obj;exact lt e1 (by rw[<- q,e])
 done:=by
  intro X hP hw hK hc i pins s σ H E I hf st hg;subst hP hw hK;obtain⟨hz,c9,h1,h2⟩:=st;obtain⟨xs,ys,qa,qb,hx⟩:=hg;obtain⟨MC,px,_,gx⟩:=qv I qa;obtain⟨MD,py,_,gy⟩:=qv I qb;refine Wx (I.ok.hd hc) D hz c9 h1 h2 px py (hx.imp (gx _) (gy _)) λtk g1 hk=>⟨rfl,Hs (t':=tk) I (λc o hc q=>?_) hf⟩
  have n:c≠z/\c≠TI/\c≠TO/\c≠i1/\c≠i2:=by simpa using hc
  exact hk c o n.1 n.2.2.1 n.2.2.2.1 n.2.2.2.2 q
 self:=λ_ _ _ _ _ st h=>HI st.1 h
noncomputable def AZ(t:ZK)(a b:abV):Prop:=match t with
 | .txt _=>a=b
 | _=>True
noncomputable def CN(t:ZK)(a:abV)(v:V):Prop:=match t with
 | .txt x=>v=.str x
 | _=>v=.ref a
theorem Le{v:V}{u:acb}(h:CN t a v)(r:RelV v u):SV t a u:=by
 cases t
 ·cases h;exact r
 ·cases h;exact r
 ·cases h;exact r
noncomputable def Wy(K:abG)(ta:TA):TI:=λσ H R=>ta σ H λvs H1=>∃t1 t2 a b va vb,vs=[va,vb]/\DP t1 t2=true/\CN t1 a va/\CN t2 b vb/\AZ t1 a b/\(∃xs,iX K t1 H1 a xs)/\(∃ys,iX K t2 H1 b ys)/\R (uT K t1 t2 a b) H1
theorem Tq{a b tg:adA}{ta:TA}{p pos:Pos}(hg:Gl X "zip")(hm:X.mg "zip"=Z)(ha:PA X [a,b] ta)(hs:acv [a,b] X.env=[(false,aeX a X.env),(false,aeX b X.env)])(dI:acv [b] X.env=[(false,aeX b X.env)]):PI X tg (.Call (.Name "zip" p) [a,b] [] pos) (Wy X.K ta):=by
 intro pins s σ H R I h;refine Call_ (ou I hg hm Pf (adG (aW (ha pos pins s σ H _ I h) λus s1 ⟨vs,H1,I1,r1,q1⟩=>?_) (by rw[hs,dI]) (by rw[dI];rfl)));obtain⟨t1,t2,a,b,va,vb,e,ok,sa,sb,az,⟨xs,qa⟩,⟨ys,qb⟩,q⟩:=q1;subst e;obtain⟨u1,u2,rfl,r1,r2⟩:=Vals.two r1;obtain⟨MC,px,_⟩:=qv I1 qa;obtain⟨MD,py,_⟩:=qv I1 qb;refine QM ok (Le sa r1) (Le sb r2) px py λh' hz c9 f7 h1 h2 hsz hk=>?_
 have hz:ZN h' (s1.heap.objs.size+4) (s1.heap.objs.size+2) (s1.heap.objs.size+3):=⟨⟨_,_,f7⟩,_,_,hz,.inl rfl⟩
 refine HI hz ?_;have I2:Inv X pins σ H1 { s1 with heap:=h' }:=I1.kept (t':=s1.toks) hk;have lb:b<s1.heap.objs.size:=by
  cases t2
  ·obtain⟨o,e,_⟩:=py;exact abW e
  ·obtain⟨o,e,_⟩:=py;exact abW e
  ·cases t1 <;> cases ok
 have la:a<s1.heap.objs.size:=by
  cases t1
  ·obtain⟨o,e,_⟩:=px;exact abW e
  ·obtain⟨o,e,_⟩:=px;exact abW e
  ·cases az;exact lb
 refine⟨s1.heap.objs.size+4,[s1.heap.objs.size+4,s1.heap.objs.size+2,s1.heap.objs.size+3,s1.heap.objs.size,s1.heap.objs.size+1],_,_,H1,rfl,I2,
  Px t1 t2 a b (s1.heap.objs.size+4) (s1.heap.objs.size+2) (s1.heap.objs.size+3) s1.heap.objs.size (s1.heap.objs.size+1) (Wi la lb),⟨hz,c9,h1,h2⟩,λc hc=>?_,q⟩
 have hc:s1.heap.objs.size<=c:=by
  have:c=s1.heap.objs.size+4\/c=s1.heap.objs.size+2\/c=s1.heap.objs.size+3\/c=s1.heap.objs.size\/c=s1.heap.objs.size+1:=by simpa using hc
  rcases this with e | e | e | e | e <;> rw[e] <;> first | exact abO _ | exact Nat.le_add_right _ _
 exact I1.qO hc (I1.aA.fresh hc)
noncomputable def jR(w:W)(ph:PH):Option aw:=match w with
 | .ref i=>match ph[i]? with
  | some (.lst ws)=>O ws
  | _=>Z
 | _=>Z
noncomputable def qK(xs:aw):Po (aw×(PH->Bool)):=λph=>match xs with
 | [.str z,y]=>match jR y ph with
  | some vs=>if z.cps.all (· <128)=true then O ((jr (rh z) vs,λph'=>decide (jR y ph'=O vs)),ph) else Z
  | _=>Z
 | [a,b]=>match yg a,yg b with
  | some us,O vs=>O ((jr us vs,λ_=>true),ph)
  | _,_=>Z
 | _=>Z
noncomputable def mS(m:AM):IM:=λσ=>ax (m σ) λxs=>lift (qK xs)
section
variable{X:Cx}{a b tg:adA}{am:AM}{p pos:Pos}
theorem FT{K:abG}{bf:Nat->abV}{ph2:PH}{H2:Hp}{t1 t2:ZK}{aa bb:abV}{us vs:aw}{va vb:aJ}(bu:aH K bf ph2 H2)(sa:iX K t1 H2 aa va)(sb:iX K t2 H2 bb vb)(MF:a9 K bf ↑ph2 H2 us va)(zF:a9 K bf ↑ph2 H2 vs vb)(j:Nat):(∀w,(jr us vs)[j]? =O w->(uT K t1 t2 aa bb).go j H2/\∀z eQ,(uT K t1 t2 aa bb).rB j H2 z eQ->aH K bf ph2 eQ/\Step K bf ↑ph2 H2 bf ↑ph2 eQ/\aQ K bf ↑ph2 eQ w z)/\((jr us vs)[j]? =Z->(uT K t1 t2 aa bb).stop j H2):=by
 refine⟨λw eU=>?_,λhn=>?_⟩
 ·obtain⟨x,y,hx,hy,rfl⟩:=QB eU;obtain⟨u,eu,ru⟩:=MF.get hx;obtain⟨v,ev,rv⟩:=zF.get hy;refine⟨⟨_,_,u,v,sa,sb,eu,ev⟩,λz eQ hz=>?_⟩;obtain⟨T,x',y',rfl,hT,rfl,hz⟩:=hz;obtain⟨z1,z2⟩:=hz _ _ sa sb;rw[eu] at z1;cases z1;rw[ev] at z2;cases z2;exact⟨bu.tup hT,gI hT,.tup bU (.cons (ru.mono (gI hT)) (.cons (rv.mono (gI hT)) .nil))⟩
 ·refine⟨_,_,sa,sb,?_⟩;rw[<- MF.length,<- ↑zF];exact Ph hn
abbrev _root_.cW:=List Nat
theorem GQ{K:abG}{φ:Nat->abV}{n:Nat}{H:Hp}:∀l:cW,a9 K φ n H (l.map λc=>W.str ⟨#[c]⟩) (l.map λc=>V.str ⟨#[c]⟩)
 | []=>.nil
 | _::l=>.cons (.str _) (GQ l)
theorem Tr(hg:Gl X "zip")(hm:X.mg "zip"=Z)(ha:IA X [a,b] am)(hs:acv [a,b] X.env=[(false,aeX a X.env),(false,aeX b X.env)])(dI:acv [b] X.env=[(false,aeX b X.env)]):II X tg (.Call (.Name "zip" p) [a,b] [] pos) (mS am):=by
 refine PI.imp (Tq hg hm ha hs dI) λσ H R h=>?_
 obtain⟨φ,ph,ws,hH,hS,h⟩:=h;refine tA.bind hH hS h λxs ph1 av H1 vs aB s1 r1 h=>?_
 obtain⟨r,ph',e,k⟩:=run_lift h;unfold qK at e;split at e
 ·rename_i z y;split at e
  ·rename_i DS qb;split at e
   ·rename_i hz;cases e;cases r1 with
    | cons ra rr=>
     cases rr with
     | cons rb rr=>
      cases rr;cases ra;cases rb with
      | ref hi=>
       have at':∀ak ph' H',aH X.K ak ph' H'->Step X.K av ↑ph1 H1 ak ↑ph' H'->jR (.ref _) ph'=O DS->∃vs,bK X.K H' (av _) vs/\a9 X.K ak ↑ph' H' DS vs:=λak ph' H' hH' s e'=>by
        unfold jR at e';simp only at e';split at e'
        ·rename_i cO q;cases e';obtain⟨vs,g,r⟩:=hH'.hp _ _ q;rw[s.eq _ hi] at g;exact⟨vs,bK.of g,r⟩
        ·cases e'
       obtain⟨vb,gb,_⟩:=at' _ _ _ aB Step.refl qb;refine⟨.txt z,.lst,_,_,_,_,rfl,rfl,rfl,rfl,rfl,⟨_,hz,rfl⟩,⟨_,gb⟩,k av H1 _ aB s1 λbf ph2 H2 bu s2 hc j=>?_⟩;obtain⟨vb2,sb,zF⟩:=at' _ _ _ bu s2 (of_decide_eq_true hc);exact FT bu (t1:=.txt z) (t2:=.lst) (aa:=av _) ⟨hz,rfl⟩ sb (GQ _) zF j
      | _=>cases qb
   ·cases e
  ·cases e
 ·rename_i wa wb cT;split at e
  ·rename_i us DS qa qb;cases e;cases r1 with
   | cons ra rr=>
    cases rr with
    | cons rb rr=>
     cases rr;obtain⟨aa,va,rfl,h1⟩:=FP ra qa;obtain⟨bb,vb,rfl,h2⟩:=FP rb qb;exact⟨.tup,.tup,_,_,_,_,rfl,rfl,rfl,rfl,trivial,⟨_,(h1 _ _ _ Step.refl).1⟩,⟨_,(h2 _ _ _ Step.refl).1⟩,k av H1 _ aB s1 λbf ph2 H2 bu s2 hc j=>
      FT (t1:=.tup) (t2:=.tup) bu (h1 _ _ _ s2).1 (h2 _ _ _ s2).1 (h1 _ _ _ s2).2 (h2 _ _ _ s2).2 j⟩
  ·cases e
 ·cases e
theorem Ts(hg:Gl X "zip")(hm:X.mg "zip"=Z)(hn:isStar a=false)(pI:isStar b=false)(ha:JA X [a,b] am):JI X tg (.Call (.Name "zip" p) [a,b] [] pos) (mS am):=⟨Tr hg hm ha.h (by rw[dF hn,dF pI];rfl) (by rw[dF pI];rfl)⟩
end
open PySem PySem.Spec PyProof.Rows L2
noncomputable def lm(x y:W):Po W:=λph=>match x,y with
 | .str k,.str z=>O (.bl (adg z k 0 ↑z 1).isEmpty,ph)
 | _,_=>Z
theorem Tt:cK K (λx y H Q=>∃i j,x=.str i/\y=.str j/\Q (.bl (!(!(adg j i 0 ↑j 1).isEmpty))) H) lm:=by
 intro φ ph H x y vx vy w ph' Q hH rx ry e k;unfold lm at e;cases rx with
 | str z=>
  cases ry with
  | str y=>cases e;rw[<- agO (adg y z 0 ↑y 1).isEmpty] at k;exact⟨z,y,rfl,rfl,k φ H _ hH Step.refl (.bl _)⟩
  | _=>cases e
 | _=>cases e
theorem aaX{b:adA}(h:adB .NotIn b=false):Cp X .NotIn b lm:=⟨⟨_,NE,Tt⟩,h⟩
noncomputable def dn:W->List W->Po W:=λx xs ph=>match x,xs with
 | .str z,[.ref i]=>match ph[i]? with
  | some (.lst ws)=>match aT strOf ws with
   | some zs=>if(zs.map (·.length)).sum+↑zs*↑z<=16777216 then O (.str (ait z zs),ph) else Z
   | none=>Z
  | _=>Z
 | _,_=>Z
noncomputable def Ji(K:abG):V->List V->Hp->VK->Prop:=λx ys H Q=>∃z p zs,x=.str z/\ys=[.ref p]/\bK K H p (zs.map V.str)/\(zs.map (·.length)).sum+↑zs*↑z<=16777216/\Q (.str (ait z zs)) H
theorem aaP:nF X "str.join" (Ji X.K):=by
 intro pins s σ H x xs v us Q I rx rv h;obtain⟨z,p,zs,rfl,rfl,hq,hn,q⟩:=h;obtain⟨t,rfl⟩:=rx;obtain⟨u,rfl,ru⟩:=Vals.one rv;cases ru;obtain⟨its,ri,pl,_⟩:=I.list hq;exact join_list pl.isList (StrsAre.of_carried (EY ri)) hn λt' k=>⟨.str (ait z zs),H,I.tok k,⟨t',rfl⟩,q⟩
theorem aaQ:lZ K "str" (Ji K) dn:=by
 intro φ ph H x xs vx vs w ph' Q hH rx rs e k;unfold dn at e;cases rx with
 | str z=>
  split at e
  ·rename_i z' i hx;cases hx;cases rs with
   | cons r0 rr=>
    cases rr;cases r0 with
    | ref hi=>
     split at e
     ·rename_i ws hw;split at e
      ·rename_i zs hzs;split at e
       ·rename_i hc;cases e;obtain⟨vs,hv,r⟩:=hH.hp _ _ hw;rw[AR hzs r] at hv;exact⟨z,_,zs,rfl,rfl,bK.of hv,hc,k φ H _ hH Step.refl (.str _)⟩
       ·cases e
      ·cases e
     ·cases e
  ·cases e
 | _=>cases e
end IL
local macro_rules | `(tactic| ac_nf) => `(tactic| push_cast [if_true])
local macro_rules | `(tactic| push_cast [$as:simpLemma,*]) => `(tactic| try simp only [IL.xr, IL.Sq, IL.So, IL.jJ, IL.Sr, IL.VP, IL.VQ, IL.Yh, IL.Yi, IL.xG, IL.VR, IL.yc, IL.Ss, IL.GC, IL.Su, IL.Qu, IL.VS, IL.om, IL.BC, IL.Bc, IL.Qv, IL.GD, IL.Be, IL.Qw, IL.Pd, IL.Hu, IL.GF, IL.Sv, IL.Hv, IL.VT, IL.Sw, IL.VU, IL.Sx, IL.Pe, IL.qc, IL.Sy, IL.Sz, IL.dh, IL.lE, IL.yE, IL.yF, IL.Yj, IL.Yk, IL.Yl, IL.uJ, IL.yG, IL.K6, IL.ZQ, IL.Yp, IL.VW, IL.Yq, IL.Yr, IL.Ys, IL.ZR, IL.VX, IL.VY, IL.VZ, IL.Kj, IL.Kk, IL.Qt, IL.VM, IL.VN, IL.VO, decide_true, decide_false, Bool.false_eq_true, Bool.not_true, Bool.not_false, IL.B5, IL.Yt, IL.Yu, IL.ZU, IL.ZV, IL.ZW, IL.ZX, IL.ZY, IL.ZZ, IL.Z0, IL.Z1, IL.Z2, IL.Z3, IL.Z4, IL.Z6, IL.Z7, IL.Z8, IL.V0, IL.V1, IL.V2, IL.V3, IL.V4, IL.V5, IL.yd, IL.Yv, IL.Yw, IL.Yx, IL.Yy, IL.V6, IL.Yz, IL.SA, IL.SD, IL.SE, IL.SG, IL.CG, IL.aaa, IL.qI, IL.YE, IL.ye, IL.YF, IL.YG, IL.Wa, IL.Jd, IL.GJ, IL.SQ, IL.YC, IL.YD, Bool.or_false, Bool.false_or, Bool.or_true, Bool.true_or, Bool.and_true, Bool.true_and, Bool.and_false, Bool.false_and, Nat.reduceSub, List.reduceReplicate, List.set_cons_zero, List.set_cons_succ, if_true, if_false, ↓reduceIte, String.reduceEq, reduceCtorEq, $as,*])
local macro_rules | `(⋯) => `(by decide +kernel)
local macro_rules | `(⇑$x) => `(some (.ref $x))
local macro_rules | `(↥$x) => `(some (.int $x))
local macro_rules | `(~~~$x) => `(Option.some (IL.W.fl (List.map IL.W.int $x)))
local macro_rules | `({$x:num}) => `(IL.eC (IL.W.int $x))
local macro_rules | `({-$x}) => `(IL.eC (IL.W.int (-$x)))
local macro_rules | `({$x:str}) => `(IL.eC (IL.W.str $x))
local macro_rules | `(letI $v:ident := ($x, $i); $b) => `(have $v {p : PySem.Pos} := $(Lean.mkIdent `B.jv) (pos := p) (x := $x) $i rfl (.inl (by decide +kernel)) (by decide +kernel); $b)
namespace IL.K30
open PySem PySem.Spec PyProof.Rows L2
theorem CO(us:aS)(hl:↑us=1):∃a,us=[a]:=List.length_eq_one_iff.mp hl
theorem CP(us:aS)(hl:↑us=2):∃a1 a2,us=[a1,a2]:=by
 cases us with
 | nil=>cases hl
 | cons a1 us=>
  obtain⟨a2,rfl⟩:=CO us (ahM hl);exact⟨a1,a2,rfl⟩
theorem Lf(us:aS)(hl:↑us=3):∃a1 a2 a3,us=[a1,a2,a3]:=by
 cases us with
 | nil=>cases hl
 | cons a1 us=>
  obtain⟨a2,a3,rfl⟩:=CP us (ahM hl);exact⟨a1,a2,a3,rfl⟩
theorem Lg(us:aS)(hl:↑us=4):∃a1 a2 a3 a4,us=[a1,a2,a3,a4]:=by
 cases us with
 | nil=>cases hl
 | cons a1 us=>
  obtain⟨a2,a3,a4,rfl⟩:=Lf us (ahM hl);exact⟨a1,a2,a3,a4,rfl⟩
theorem aah(us:aS)(hl:↑us=5):∃a1 a2 a3 a4 a5,us=[a1,a2,a3,a4,a5]:=by
 cases us with
 | nil=>cases hl
 | cons a1 us=>
  obtain⟨a2,a3,a4,a5,rfl⟩:=Lg us (ahM hl);exact⟨a1,a2,a3,a4,a5,rfl⟩
noncomputable def top(i:Nat):Stmt:=PySem.Challenge.pw_boxwright_k30_texts_there_and_back.main.body.getD i (.Pass ⟨0,0,0,0⟩)
abbrev kD:Stmt:=top 55
abbrev pS:Stmt:=inClass (top 2) 0
noncomputable def gX:List (Str×aN):=[("set",["name","number"]),("copy",["name","name"]),("do",["name","word","name","name"]),("take",["name"]),("tell",["name"]),("turn",[]),("if",["name","place"]),("go",["place"]),("end",[])]
noncomputable def mE:aN:=["sum","less","times","part","below","alike"]
noncomputable def ER:SM:=(aC (bi (eT (ah gE (af 1) (aR bz (ag (af 0) ai)))) (aO (ah aE (af 0) (af 1))) bt) (aO {0}))
noncomputable def fK:aw->Mo W:=fM ER 2 2
noncomputable def Aa:SM:=(aC (aM (b6 (iU (ag {6} ai)) [Z,O 2,O 6,O 0] (gN 0) cu (ah aE (af 1) (ah aV (ah addW (ah addW (ah bv (af 3) {18}) (ah fB {5} (af 0))) (ah bv (af 2) {6})) {26}))) (gN 7)) (bi (eT (ah bo (ah aV (af 0) {3}) {0})) (d3 (bL fg eE (af 5) (ag (bL cy dn (eC (.str "")) (ag (cm (af 7) bJ (bA (ah addW {1} (ah aV (ah addW (ah bv (af 0) {3}) (af 6)) {6})))) ai)) ai))) (bi (eT (ah bo (ah aV (af 0) {3}) {1})) (aC (aM (b6 (iU (ag {6} ai)) [Z,O 2,O 0] (gN 0) cu (ah aE (af 1) (ah aV (ah addW (ah bv (af 2) {18}) (ah fB {5} (af 0))) {26}))) (gN 7)) (aC (aM (ah aE (af 2) (ah aV (ah addW (ah bv (af 0) {108}) (af 6)) {26})) (gN 8)) (aC (aM (bL cy dn (eC (.str "")) (ag (cm (af 7) (bA (ah addW (af 4) {1})) (bA (af 3))) ai)) (gN 9)) (d3 (bL fg eE (af 5) (ag (ah addW (ah addW (bL cy dn (eC (.str "")) (ag (cm (af 7) bJ (bA (af 4))) ai)) (af 8)) (af 9)) ai)))))) (d3 (bL fg eE (af 5) (ag (bL cy dn (eC (.str "")) (ag (ah addW (cm (af 7) (bA (ah aV (af 6) {6})) bJ) (cm (af 7) bJ (bA (ah aV (af 6) {6})))) ai)) ai))))))
noncomputable def EK:SM:=(aC (aM {"abcdefghijklmnopqrstuvwxyz"} (gN 2)) (aC (aM (ah addW {1} (ah aV (ah bv (af 0) {3}) {6})) (gN 3)) (aC (aM (ah aV (ah bv (af 0) {18}) (af 3)) (gN 4)) (aC (aM (bP ai) (gN 5)) (aC (ei (iU (ag (af 1) ai)) (gN 6) Aa) (aO (af 5)))))))
noncomputable def wD:aw->Mo W:=fM EK 10 2
noncomputable def EG:SM:=(aC (bi (eT (ah bo (ah aV (af 0) {4}) {3})) (aO (ah aE (bP (ag {2147483647} (ag (fY fA {2147483648}) (ag {65536} (ag (fY fA {1}) (ag {46341} (ag (fY fA {65537}) (ag {1} (ag {0} ai))))))))) (ah aV (ah bv (af 0) {4}) {8}))) bt) (aC (bi (eT (ah bo (ah aV (af 0) {4}) {2})) (aO (ah lz (ah aV (ah fB (ah bv (af 0) {4}) {48271}) {4294967296}) {2147483648})) bt) (aC (bi (eT (ah bo (ah aV (af 0) {4}) {1})) (aO (ah lz (ah aV (ah bv (af 0) {4}) {100003}) {1000})) bt) (aO (ah lz (ah aV (ah bv (af 0) {4}) {19}) {6})))))
noncomputable def wC:aw->Mo W:=fM EG 1 1
noncomputable def Ae:SM:=(aC (bi (d9 (eT (ah ck (af 3) (bP ai))) (eT (ah bo (ah aV (af 0) {2}) {1}))) (aO (ah aE (af 3) (ah aV (ah bv (af 0) {2}) (aR bz (ag (af 3) ai))))) bt) (aO (ah addW (ah addW (af 1) {1}) (ah aV (ah bv (af 0) {2}) (ah lz (af 2) (af 1))))))
noncomputable def mm:aw->Mo W:=fM Ae 4 4
noncomputable def EZ:SM:=(aC (aM (ah aV (ah fB (af 0) {48271}) {2147483647}) (gN 0)) (aC (aM (ah bv (af 0) {16}) (gN 5)) (aC (aM (ah aE (af 3) (ah aV (af 5) (aR bz (ag (af 3) ai)))) (gN 6)) (aC (aM (ah aE (af 3) (ah aV (ah bv (af 5) {6}) (aR bz (ag (af 3) ai)))) (gN 7)) (aC (aM (ah aE (af 3) (ah aV (ah bv (af 5) {36}) (aR bz (ag (af 3) ai)))) (gN 8)) (aC (aM (ah aV (af 0) {16}) (gN 9)) (aC (bi (eT (ah gE (af 9) {3})) (aO (ah aE (bP (ag (cw (ag {"set"} (ag (af 6) (ag (aP wC (ag (ah bv (af 5) {6}) ai)) ai)))) (ag (cw (ag {"copy"} (ag (af 6) (ag (af 7) ai)))) (ag (cw (ag {"tell"} (ag (af 6) ai))) ai)))) (af 9))) bt) (aC (bi (eT (ah gE (af 9) {8})) (aC (aM (ah aE (bP (ag {"sum"} (ag {"less"} (ag {"times"} (ag {"part"} (ag {"below"} (ag {"alike"} ai))))))) (ah aV (ah bv (af 5) {216}) {6})) (gN 10)) (aO (cw (ag {"do"} (ag (af 6) (ag (af 10) (ag (af 7) (ag (af 8) ai)))))))) bt) (aC (bi (eT (ah gE (af 9) {10})) (aO (ah aE (bP (ag (cw (ag {"take"} (ag (af 6) ai))) (ag (cw (ag {"turn"} ai)) ai))) (ah lz (af 9) {8}))) bt) (aC (bi (eT (ah gE (af 9) {14})) (aO (cw (ag {"if"} (ag (af 6) (ag (aP mm (ag (ah bv (af 5) {6}) (ag (af 1) (ag (af 2) (ag (af 4) ai))))) ai))))) bt) (aC (bi (eT (ah bo (af 9) {14})) (aO (cw (ag {"go"} (ag (aP mm (ag (ah bv (af 5) {6}) (ag (af 1) (ag (af 2) (ag (af 4) ai))))) ai)))) bt) (aO (ah aE (bP (ag (cw (ag {"end"} ai)) (ag (cw (ag {"tell"} (ag (af 6) ai))) (ag (cw (ag {"turn"} ai)) ai)))) (ah aV (ah bv (af 5) {6}) {3}))))))))))))))
noncomputable def sA:aw->Mo W:=fM EZ 11 5
noncomputable def wA:SM:=(aC (d3 (bL fg eE (af 4) (ag (aP sA (ag (ah addW (aP fK (ag (af 0) (ag (ah addW (af 1) (ah aV (af 6) {24})) ai))) (ah fB {7919} (af 6))) (ag (af 6) (ag (af 2) (ag (af 3) (ag (af 5) ai)))))) ai))) (bi (eT (ah bo (ah aE (af 4) (fY fA {1})) (cw (ag {"turn"} ai)))) (d3 (bL fg eE (af 5) (ag (af 6) ai))) bt))
noncomputable def ES:SM:=(aC (aM (bP ai) (gN 4)) (aC (aM (bP ai) (gN 5)) (aC (ei (iU (ag (af 2) ai)) (gN 6) wA) (aO (af 4)))))
noncomputable def wF:aw->Mo W:=fM ES 7 4
noncomputable def FU:SM:=(aC (bi (cF (de (bW (cN "str" (af 0)))) (de (eT (gY d7 d7 {1} (aR bz (ag (af 0) ai)) {6})))) (aO (eC (.bl false))) bt) (aO (aR jq (ag (b6 (ip (af 0)) [Z] (gN 0) cu (ah lG (af 0) {"abcdefghijklmnopqrstuvwxyz"})) ai))))
noncomputable def wX:aw->Mo W:=fM FU 1 1
noncomputable def E5:SM:=(aC (bi (cF (de (bW (cN "int" (af 0)))) (bW (cN "bool" (af 0)))) (aO (eC (.bl false))) bt) (aO (gY d7 gE (fY fA {2147483648}) (af 0) {2147483648})))
noncomputable def pU:aw->Mo W:=fM E5 1 1
noncomputable def FV:SM:=(aO (iO (cN "str" (af 0)) (ah rj (af 0) (eC (.kt (mE.map W.str))))))
noncomputable def wY:aw->Mo W:=fM FV 1 1
noncomputable def Fs:SM:=(aO (iO (aP pU (ag (af 0) ai)) (gY d7 d7 {0} (af 0) (af 1))))
noncomputable def wM:aw->Mo W:=fM Fs 2 2
noncomputable def FW:SM:=(aC (bi (eT (ah bo (af 0) {"name"})) (aO (aP wX (ag (af 1) ai))) bt) (aC (bi (eT (ah bo (af 0) {"number"})) (aO (aP pU (ag (af 1) ai))) bt) (aC (bi (eT (ah bo (af 0) {"word"})) (aO (aP wY (ag (af 1) ai))) bt) (aO (aP wM (ag (af 1) (ag (af 2) ai)))))))
noncomputable def sP:aw->Mo W:=fM FW 3 3
noncomputable def AU:SM:=(aC (bi (cF (de (bW (cN "tuple" (af 0)))) (eT (ah bo (aR bz (ag (af 0) ai)) {0}))) (aO (eC (.bl false))) bt) (aC (bi (cF (de (bW (cN "str" (ah aE (af 0) {0})))) (eT (B6 gX (ah aE (af 0) {0})))) (aO (eC (.bl false))) bt) (aC (aM (uq gX (ah aE (af 0) {0})) (gN 2)) (aC (bi (eT (ah ck (aR bz (ag (af 0) ai)) (ah addW (aR bz (ag (af 2) ai)) {1}))) (aO (eC (.bl false))) bt) (aO (aR jq (ag (b6 (mS (ag (af 2) (ag (cm (af 0) (bA {1}) bJ) ai))) [Z,Z,O 1] (g8 2 [(gN 0),(gN 1)]) cu (aP sP (ag (af 0) (ag (af 1) (ag (af 2) ai))))) ai)))))))
noncomputable def n8:aw->Mo W:=fM AU 3 2
noncomputable def EH:SM:=(aO (b6 (mS (ag (uq gX (ah aE (af 0) {0})) (ag (cm (af 0) (bA {1}) bJ) ai))) [Z,Z,O 1] (g8 2 [(gN 0),(gN 1)]) (eT (ah bo (af 0) (af 2))) (af 1)))
noncomputable def nW:aw->Mo W:=fM EH 2 2
noncomputable def zY:SM:=(bi (d9 (eT (ah d7 (af 2) (af 1))) (eT (ah ck (ah aE (ah aE (af 0) (af 2)) {0}) {"turn"}))) (aO (eC (.bl true))) bt)
noncomputable def Es:SM:=(aC (ei (cf (aP nW (ag (ah aE (af 0) (af 1)) (ag {"place"} ai)))) (gN 2) zY) (aO (eC (.bl false))))
noncomputable def r6:aw->Mo W:=fM Es 3 2
noncomputable def z6:SM:=(bi (eT (ah fc (af 3) (af 2))) (d3 (bL fg eE (af 2) (ag (af 3) ai))) bt)
noncomputable def EI:SM:=(aC (aM (aR oK (ag (af 1) ai)) (gN 2)) (aC (ei (cf (aP nW (ag (af 0) (ag {"name"} ai)))) (gN 3) z6) (aO (af 2))))
noncomputable def si:aw->Mo W:=fM EI 4 2
noncomputable def nV:SM:=(aC (bi (cF (de (bW (aP n8 (ag (af 3) (ag (aR bz (ag (af 0) ai)) ai))))) (bW (aP r6 (ag (af 0) (ag (af 2) ai))))) (kY "BadProgram" "at" (af 2)) bt) (aC (aM (aP si (ag (af 3) (ag (af 1) ai))) (gN 1)) (bi (eT (ah gF (aR bz (ag (af 1) ai)) {12})) (kY "BadProgram" "at" (af 2)) bt)))
noncomputable def Ac:SM:=(aC (bi (cF (de (bW (cN "list" (af 0)))) (eT (ah gF (aR bz (ag (af 0) ai)) {60}))) (kY "BadProgram" "at" (eC .ay)) bt) (aC (aM (bP ai) (gN 1)) (aC (ei (mR (ag (af 0) ai)) (g8 2 [(gN 2),(gN 3)]) nV) (aO (af 1)))))
noncomputable def ib:aw->Mo W:=fM Ac 4 1
noncomputable def FX:SM:=(aO (bL cy dn (eC (.str " ")) (ag (b6 (cf (af 0)) [Z] (gN 0) cu (aR pb (ag (af 0) ai))) ai)))
noncomputable def sQ:aw->Mo W:=fM FX 1 1
noncomputable def FY:SM:=(aO (bL cy dn (eC (.str "\n")) (ag (b6 (cf (af 0)) [Z] (gN 0) cu (aP sQ (ag (af 0) ai))) ai)))
noncomputable def pW:aw->Mo W:=fM FY 1 1
noncomputable def Bi:SM:=(aC (d3 (aP ib (ag (af 0) ai))) (aO (aP pW (ag (af 0) ai))))
noncomputable def mF:aw->Mo W:=fM Bi 1 1
noncomputable def Af:SM:=(aM (ah addW (ah addW (af 1) (eC (.str " "))) (aR pb (ag (af 2) ai))) (gN 1))
noncomputable def Ft:SM:=(aC (aM (ah aE (af 0) {0}) (gN 1)) (aC (ei (cf (cm (af 0) (bA {1}) bJ)) (gN 2) Af) (aO (af 1))))
noncomputable def nZ:aw->Mo W:=fM Ft 3 1
noncomputable def EL:SM:=(aC (aM (b6 (cf (af 0)) [Z] (gN 0) (eT (ah fc (ah aE (af 0) {0}) (cw (ag {"if"} (ag {"go"} ai))))) (af 0)) (gN 3)) (aC (aM (ah aV (af 2) (ah addW (aR bz (ag (af 3) ai)) {1})) (gN 4)) (aC (tH [("BadProgram",true)] 5 4 (d3 (aP mF (ag (ah addW (ah addW (cm (af 3) bJ (bA (af 4))) (bP (ag (af 1) ai))) (cm (af 3) (bA (af 4)) bJ)) ai))) (aO (iO (ah yK (B8 "BadProgram" "at" (af 5)) (af 4)) (jU [("BadProgram",true)] (af 5))))) (aO (eC (.bl false))))))
noncomputable def sj:aw->Mo W:=fM EL 6 3
noncomputable def E6:SM:=(aC (aM (vj (bW (bL cy oq (af 0) (ag (eC (.str "-")) ai))) (dP (af 0) (bA {1}) bJ) (af 0)) (gN 1)) (aC (bi (d9 (eT (gY gE d7 {0} (aR bz (ag (af 1) ai)) {10})) (bW (aR jq (ag (b6 (ip (af 1)) [Z] (gN 0) cu (ah lG (af 0) {"0123456789"})) ai)))) (aO (aR jQ (ag (af 0) ai))) bt) (aO (af 0))))
noncomputable def sD:aw->Mo W:=fM E6 2 1
noncomputable def Fu:SM:=(aO (aR qo (ag (b6 (cf (bL cy fP (af 0) (ag (eC (.str " ")) ai))) [Z] (gN 0) cu (aP sD (ag (af 0) ai))) ai)))
noncomputable def sI:aw->Mo W:=fM Fu 1 1
noncomputable def E7:SM:=(aC (bi (eT (ah bo (af 0) (eC (.str "")))) (aO (bP ai)) bt) (aO (b6 (cf (bL cy fP (af 0) (ag (eC (.str "\n")) ai))) [Z] (gN 0) cu (aP sI (ag (af 0) ai)))))
noncomputable def sE:aw->Mo W:=fM E7 1 1
noncomputable def Az:SM:=(aC (bi (de (bW (cN "str" (af 0)))) (tR "NoText" (ag (eC (.str "no text")) ai)) bt) (aC (aM (aP sE (ag (af 0) ai)) (gN 1)) (aC (lj [("BadProgram",true)] "NoText" (d3 (aP ib (ag (af 1) ai)))) (aC (bi (eT (ah ck (aP pW (ag (af 1) ai)) (af 0))) (tR "NoText" (ag (eC (.str "a program written otherwise")) ai)) bt) (aO (af 1))))))
noncomputable def ki:aw->Mo W:=fM Az 2 1
noncomputable def Ao:SM:=(mD [("NoText",true),("BadProgram",true)] 1 (aO (aP ki (ag (af 0) ai))) (aC (bi (cF (bW (jU [("NoText",false),("BadProgram",false)] (af 1))) (cF (bW (jU [("NoText",false),("BadProgram",false)] (af 1))) (cF (bW (jU [("NoText",false),("BadProgram",true)] (af 1))) (bW (jU [("NoText",false),("BadProgram",false)] (af 1)))))) (aO {"otherwise"}) bt) (aO (ah cP (bP (ag {"otherwise"} (ag {"refused"} ai))) (aR jQ (ag (iO (jU [("NoText",true),("BadProgram",false)] (af 1)) (jU [("NoText",true),("BadProgram",true)] (af 1))) ai))))))
noncomputable def iE:aw->Mo W:=fM Ao 2 1
noncomputable def EB:SM:=(d3 (bL fg eE (af 2) (ag (ah addW (ah addW (ah addW (eC (.str "set ")) (af 0)) (eC (.str " "))) (af 3)) ai)))
noncomputable def EO:SM:=(aC (aM (bP (ag (eC (.str "")) (ag {"tell"} (ag (eC (.str "tell ")) (ag (ah addW (eC (.str " tell ")) (af 0)) (ag (ah addW (eC (.str "tell  ")) (af 0)) (ag (ah addW (ah addW (eC (.str "tell ")) (af 0)) (eC (.str " "))) (ag (ah addW (eC (.str "tell\t")) (af 0)) ai)))))))) (gN 2)) (aC (aM (ah addW (af 2) (bP (ag (ah addW (eC (.str "tell ")) (ah nu (af 0) {7})) (ag (ah addW (eC (.str "Tell ")) (af 0)) (ag (ah addW (eC (.str "tells ")) (af 0)) (ag (ah addW (eC (.str "set ")) (af 0)) ai)))))) (gN 2)) (aC (ei (cf (bP (ag {"00"} (ag (eC (.str "-0")) (ag (eC (.str "+1")) (ag (eC (.str "1.0")) (ag {"1_0"} (ag {"2147483647"} (ag {"2147483648"} (ag (eC (.str "-2147483648")) (ag (eC (.str "-2147483649")) ai))))))))))) (gN 3) EB) (aC (aM (ah addW (af 2) (bP (ag (eC (.str "go 0")) (ag (eC (.str "go 1")) (ag (eC (.str "go 01")) (ag (eC (.str "go -1")) (ag (eC (.str "go 61")) (ag {"turn"} (ag (eC (.str "turn 0")) (ag {"end"} (ag (ah addW (ah addW (eC (.str "if ")) (af 0)) (eC (.str " 60"))) ai))))))))))) (gN 2)) (aC (d3 (bL fg eE (af 2) (ag (eC (.str "do a sum b")) ai))) (aO (ah aE (af 2) (ah aV (af 1) {30}))))))))
noncomputable def sk:aw->Mo W:=fM EO 4 2
noncomputable def Fv:SM:=(aC (aM (ah aV (ah bv (af 2) {5}) (ah addW (aR bz (ag (af 0) ai)) {1})) (gN 3)) (aC (aM (ah aE (eC (.str "0123456789 -+.,\n\taezAx_")) (ah aV (ah bv (af 2) {400}) {23})) (gN 4)) (aC (bi (eT (ah bo (ah aV (af 2) {5}) {0})) (aO (ah addW (ah addW (dP (af 0) bJ (bA (af 3))) (af 4)) (dP (af 0) (bA (af 3)) bJ))) bt) (aC (bi (eT (ah bo (ah aV (af 2) {5}) {1})) (aO (ah addW (dP (af 0) bJ (bA (af 3))) (dP (af 0) (bA (ah addW (af 3) {1})) bJ))) bt) (aC (bi (eT (ah bo (ah aV (af 2) {5}) {2})) (aO (ah addW (ah addW (dP (af 0) bJ (bA (af 3))) (af 4)) (dP (af 0) (bA (ah addW (af 3) {1})) bJ))) bt) (aC (bi (eT (ah bo (ah aV (af 2) {5}) {3})) (aC (aM (bL cy fP (af 0) (ag (eC (.str "\n")) ai)) (gN 5)) (aC (aM (ah aV (ah bv (af 2) {5}) (ah addW (aR bz (ag (af 5) ai)) {1})) (gN 6)) (aO (bL cy dn (eC (.str "\n")) (ag (ah addW (ah addW (cm (af 5) bJ (bA (af 6))) (bP (ag (aP sk (ag (af 1) (ag (ah bv (af 2) {400}) ai))) ai))) (cm (af 5) (bA (af 6)) bJ)) ai))))) bt) (aC (aM (bL cy dn (eC (.str "\n")) (ag (b6 (ip (dP {"abcdefghijklmn"} bJ (bA (ah addW {11} (ah aV (ah bv (af 2) {60}) {4}))))) [Z] (gN 0) cu (ah addW (eC (.str "tell ")) (af 0))) ai)) (gN 7)) (aO (ah aE (bP (ag (eC .ay) (ag {7} (ag (bP (ag {"end"} ai)) (ag (eC (.bl true)) (ag (eC (.str "\n")) (ag (eC (.str "end\n")) (ag (eC (.str "\nend")) (ag (eC (.str " ")) (ag (eC (.str "end end")) (ag {"END"} (ag (af 7) (ag (af 7) ai))))))))))))) (ah aV (ah bv (af 2) {5}) {12}))))))))))
noncomputable def wN:aw->Mo W:=fM Fv 8 3
noncomputable def Fw:SM:=(aO (iO (gY d7 d7 {1} (aR bz (ag (af 0) ai)) {6}) (ah bo (b6 (ip (af 0)) [Z] (gN 0) (eT (ah lm (af 0) {"abcdefghijklmnopqrstuvwxyz"})) (af 0)) (bP ai))))
noncomputable def sJ:aw->Mo W:=fM Fw 1 1
noncomputable def E2:SM:=(aC (aM (af 0) (gN 1)) (aC (bi (eT (ah bo (dP (af 0) bJ (bA {1})) (eC (.str "-")))) (aM (dP (af 0) (bA {1}) bJ) (gN 1)) bt) (aC (bi (cF (eT (ah bo (af 1) (eC (.str "")))) (cF (eT (ah gF (aR bz (ag (af 1) ai)) {10})) (eT (ah ck (b6 (ip (af 1)) [Z] (gN 0) (eT (ah lm (af 0) {"0123456789"})) (af 0)) (bP ai))))) (aO (eC .ay)) bt) (aC (bi (cF (d9 (eT (ah bo (ah aE (af 1) {0}) {"0"})) (eT (ah ck (af 0) {"0"}))) (eT (ah gF (aR qV (ag (aR jQ (ag (af 1) ai)) ai)) {2147483648}))) (aO (eC .ay)) bt) (aO (aR jQ (ag (af 0) ai)))))))
noncomputable def wJ:aw->Mo W:=fM E2 2 1
noncomputable def kS:SM:=(aC (bi (d9 (eT (ah bo (af 4) {"n"})) (de (bW (aP sJ (ag (af 5) ai))))) (aO (eC .ay)) bt) (aC (bi (d9 (eT (ah bo (af 4) {"w"})) (eT (ah fc (af 5) (cw (ag {"sum"} (ag {"less"} (ag {"times"} (ag {"part"} (ag {"below"} (ag {"alike"} ai)))))))))) (aO (eC .ay)) bt) (aC (bi (eT (ah bo (af 4) {"k"})) (aC (aM (aP wJ (ag (af 5) ai)) (gN 5)) (bi (cF (eT (ah lA (af 5) (eC .ay))) (eT (ah bo (af 5) {2147483648}))) (aO (eC .ay)) bt)) bt) (d3 (bL fg eE (af 3) (ag (af 5) ai))))))
noncomputable def FZ:SM:=(aC (aM (bL cy fP (af 0) (ag (eC (.str " ")) ai)) (gN 1)) (aC (aM (tX [({"set"},{"nk"}),({"copy"},{"nn"}),({"do"},{"nwnn"}),({"take"},{"n"}),({"tell"},{"n"})]) (gN 2)) (aC (d3 (bL rg pd (af 2) (ag (tX [({"if"},{"nk"}),({"go"},{"k"}),({"turn"},(eC (.str ""))),({"end"},(eC (.str "")))]) ai))) (aC (bi (cF (eT (ah fc (ah aE (af 1) {0}) (af 2))) (eT (ah ck (aR bz (ag (af 1) ai)) (ah addW {1} (aR bz (ag (ah aE (af 2) (ah aE (af 1) {0})) ai)))))) (aO (eC .ay)) bt) (aC (aM (bP (ag (ah aE (af 1) {0}) ai)) (gN 3)) (aC (ei (mS (ag (ah aE (af 2) (ah aE (af 1) {0})) (ag (cm (af 1) (bA {1}) bJ) ai))) (g8 2 [(gN 4),(gN 5)]) kS) (aO (aR qo (ag (af 3) ai)))))))))
noncomputable def pX:aw->Mo W:=fM FZ 6 1
noncomputable def wq:SM:=(bi (d9 (bW (cN "str" (ah aE (af 2) (af 3)))) (de (d9 (eT (ah bo (ah aE (af 2) {0}) {"do"})) (eT (ah bo (af 3) {2}))))) (aM (eC (.bl true)) (B3 (af 1) (ah aE (af 2) (af 3)))) bt)
noncomputable def wt:SM:=(ei (vk (ag {1} (ag (aR bz (ag (af 2) ai)) ai))) (gN 3) wq)
noncomputable def EC:SM:=(aC (aM CC (gN 1)) (aC (ei (cf (af 0)) (gN 2) wt) (aO (aR uQ (ag (af 1) ai)))))
noncomputable def se:aw->Mo W:=fM EC 4 1
noncomputable def wB:SM:=(bi (eT (ah fD (ah aE (af 3) {0}) (cw (ag {"if"} (ag {"go"} ai))))) (bi (cF (eT (ah gE (ah aE (af 3) (fY fA {1})) {0})) (cF (eT (ah gF (ah aE (af 3) (fY fA {1})) (aR bz (ag (af 1) ai)))) (d9 (eT (ah d7 (ah aE (af 3) (fY fA {1})) (af 2))) (eT (ah ck (ah aE (af 1) (ah aE (af 3) (fY fA {1}))) (cw (ag {"turn"} ai))))))) (aO (eC .ay)) bt) bt)
noncomputable def ET:SM:=(aC (bi (eT (ah bo (af 0) (eC (.str "")))) (aO (bP ai)) bt) (aC (aM (b6 (cf (bL cy fP (af 0) (ag (eC (.str "\n")) ai))) [Z] (gN 0) cu (aP pX (ag (af 0) ai))) (gN 1)) (aC (bi (cF (eT (ah fD (eC .ay) (af 1))) (cF (eT (ah gF (aR bz (ag (af 1) ai)) {60})) (eT (ah gF (aP se (ag (af 1) ai)) {12})))) (aO (eC .ay)) bt) (aC (ei (mR (ag (af 1) ai)) (g8 2 [(gN 2),(gN 3)]) wB) (aO (af 1))))))
noncomputable def nX:aw->Mo W:=fM ET 4 1
noncomputable def E8:SM:=(aO (iO (cN "int" (af 0)) (yw (cN "bool" (af 0)))))
noncomputable def sF:aw->Mo W:=fM E8 1 1
noncomputable def sh:SM:=(bi (de (bW (aR jq (ag (b6 (cf (af 3)) [Z] (gN 0) cu (rJ (cN "str" (af 0)) (aP sF (ag (af 0) ai)))) ai)))) (aO (eC (.bl false))) bt)
noncomputable def Ag:SM:=(aC (aM (eC .ay) (gN 1)) (aC (bi (bW (cN "str" (af 0))) (aM (aP nX (ag (af 0) ai)) (gN 1)) bt) (aC (aM (aP iE (ag (af 0) ai)) (gN 2)) (aC (bi (eT (ah lA (af 1) (eC .ay))) (aO (iO (cN "str" (af 2)) (ah bo (af 2) {"refused"}))) bt) (aC (bi (cF (de (bW (cN "list" (af 2)))) (cF (eT (ah ck (af 2) (af 1))) (de (bW (aR jq (ag (b6 (cf (af 2)) [Z] (gN 0) cu (cN "tuple" (af 0))) ai)))))) (aO (eC (.bl false))) bt) (aC (ei (cf (af 2)) (gN 3) sh) (aO (eC (.bl true)))))))))
noncomputable def mn:aw->Mo W:=fM Ag 4 1
noncomputable def AV:SM:=(bi (de (bW (aP mn (ag (aP wN (ag (af 5) (ag (ah aE (af 1) {0}) (ag (ah addW (af 6) (ah fB {100003} (af 7))) ai)))) ai)))) (aO (eC (.bl false))) bt)
noncomputable def oP:SM:=(aC (aM (aP wD (ag (aP fK (ag (af 0) (ag {0} ai))) (ag (ah addW {1} (ah aV (aP fK (ag (af 0) (ag {1} ai))) {12})) ai))) (gN 1)) (aC (aM (ah aV (ah bv (aP fK (ag (af 0) (ag {1} ai))) {12}) {25}) (gN 2)) (aC (bi (eT (ah bo (ah aV (ah bv (aP fK (ag (af 0) (ag {1} ai))) {300}) {8}) {1})) (aM (ah addW {25} (ah aV (ah bv (aP fK (ag (af 0) (ag {1} ai))) {2400}) {36})) (gN 2)) bt) (aC (aM (aP wF (ag (af 0) (ag {3} (ag (af 2) (ag (af 1) ai))))) (gN 3)) (aC (aM (aR oK (ag (af 3) ai)) (gN 4)) (aC (aM (aP mF (ag (af 4) ai)) (gN 5)) (aC (bi (cF (de (bW (cN "str" (af 5)))) (cF (eT (ah ck (af 5) (bL cy dn (eC (.str "\n")) (ag (b6 (cf (af 3)) [Z] (gN 0) cu (aP nZ (ag (af 0) ai))) ai)))) (eT (ah ck (af 4) (af 3))))) (aO (eC (.bl false))) bt) (aC (aM (ah aV (ah fB (aP fK (ag (af 0) (ag {2} ai))) {48271}) {2147483647}) (gN 6)) (aC (bi (de (bW (aP sj (ag (cm (af 3) bJ (bA {50})) (ag (ah aE (bP (ag (bP (ag {"end"} ai)) (ag (cw (ag {"tell"} (ag {"A"} ai))) (ag (cw (ag {"set"} (ag (ah aE (af 1) {0}) (ag (eC (.bl true)) ai)))) (ag (cw (ag {"go"} (ag {90} ai))) ai))))) (ah aV (af 6) {4})) (ag (ah bv (af 6) {4}) ai)))))) (aO (eC (.bl false))) bt) (aC (bi (eT (ah ck (aP iE (ag (af 5) ai)) (af 3))) (aO (eC (.bl false))) bt) (aC (ei (iU (ag {5} ai)) (gN 7) AV) (aO (aP mn (ag (af 5) ai))))))))))))))
noncomputable def qL:aw->Mo W:=fM oP 8 1
noncomputable def zG(K:abG)(n:Str)(st:ahZ)(f:abV)(fd:adR):Prop:=acx K acm n=O ⇑f/\nH K n n st f fd
noncomputable def DT:List (Str×Nat):=("_law_cell_at",37)::("_law_names_by",38)::("_law_number_by",39)::("_law_jump_by",40)::("_law_row_by",41)::("_law_rows_by",42)::("is_name",17)::("is_number",10)::("is_word",18)::("is_place",19)::("is_part",20)::("is_row",21)::("parts_of_kind",22)::("jumps_back_badly",23)::("with_names_of",24)::("need_program",25)::("line_of",29)::("written",30)::("spelt",34)::("_law_line",44)::("_law_is_spelt",54)::("part_read",31)::("row_read",32)::("rows_read",33)::("unspelt",35)::("_law_tried",51)::("_law_odd_line",45)::("_law_bent",52)::("_law_name",47)::("_law_number",46)::("_law_row",48)::("_law_many_names",49)::("_law_rows_of",50)::("_law_whole",43)::("_law_is_read",53)::[]
noncomputable def BL:aN:="ValueError"::"abs"::"all"::"bool"::"enumerate"::"int"::"isinstance"::"len"::"list"::"range"::"str"::"tuple"::"zip"::[]
noncomputable def lcN(s:aes):aN:=(s.names.filter λy=>y.2==.local||y.2==.cell).map (·.1)
noncomputable def pe(K:abG):List (Str×Nat)->Prop
 | []=>True
 | (x,i)::l=>(∃f fd,zG K x (top i) f fd)/\pe K l
noncomputable def pf(g:Str->Prop):aN->Prop
 | []=>True
 | x::l=>g x/\pf g l
variable{K:abG}{i:Nat}
theorem aai{x:Str}{l:List (Str×Nat)}(a:∃f fd,zG K x (top i) f fd)(h:pe K l):pe K ((x,i)::l):=⟨a,h⟩
theorem aaj{g:Str->Prop}{x:Str}{l:aN}(a:g x)(h:pf g l):pf g (x::l):=⟨a,h⟩
theorem pe.at{K:abG}:∀{l:List (Str×Nat)},pe K l->∀x i,(x,i)∈l->∃f fd,zG K x (top i) f fd
 | (_,_)::_,h,x,i,m=>(abR.mp m).elim (λe=>by cases e;exact h.1) (pe.at h.2 x i)
theorem pf.at{g:Str->Prop}:∀{l:aN},pf g l->∀x∈l,g x
 | _::_,h,x,m=>(abR.mp m).elim (λe=>by rw[e];exact h.1) (pf.at h.2 x)
set_option genInjectivity false in
class Tx (K:abG) (mg:dr) where
 fn:∀x i,(x,i)∈DT->∃f fd,nH K x x (top i) f fd/\mg x= ⇑f
 yi:abV
 yj:adR
 qM:nH K "law" "law" kD yi yj
 Kt:mg "law"= ⇑yi
 oP:Binds K yj ["_law_script"] []
 n:∀x∈BL,mg x=Z
 sR:Tok
 Py:mg "FIGURES"=O (.str "0123456789" sR)
 n9:abV
 Tu:mg "FORMS"= ⇑n9
 gX:KTab K n9 gX
 tY:Tok
 Wz:mg "HALF"=O (.int (2147483648) tY)
 sS:Tok
 Pz:mg "LETTERS"=O (.str "abcdefghijklmnopqrstuvwxyz" sS)
 su:Tok
 Nx:mg "MOST_FIGURES"=O (.int (10) su)
 sx:Tok
 Ny:mg "MOST_LETTERS"=O (.int (6) sx)
 sC:Tok
 E3:mg "MOST_NAMES"=O (.int (12) sC)
 sG:Tok
 E9:mg "MOST_ROWS"=O (.int (60) sG)
 og:abV
 Tv:mg "WORDS"= ⇑og
 mE:m9 K og (mE.map V.str)
 dM:abV
 i4:acx K acm "BadProgram"=O ⇑dM
 nY:mg "BadProgram"= ⇑dM
 jH:gA K dM
 pT:abV
 wu:adR
 sd:uM K "__init__" "BadProgram.__init__" pS pT wu
 wz:Binds K wu ["self","at"] []
 sy:kr K dM pT fu "ValueError.__new__"=true
 wG:aeC K (.ref dM) "__init__"=O ⇑pT
 wH:agN K (.ref pT)=true
 wI:adw K (.ref dM)=true
 EU:vB K dM "at"
 EV:aiG K dM=true
 EW:aeC K (.ref dM) "at"=O Z
 Ah:afx K (.ref dM)=O (.type "type")
 kT:abV
 N1:acx K acm "BoxError"=O ⇑kT
 wK:mg "BoxError"= ⇑kT
 Fb:gA K kT
 Fc:B7 K kT
 Fd:afx K (.ref kT)=O (.type "type")
 ig:abV
 mr:acx K acm "NoText"=O ⇑ig
 sT:mg "NoText"= ⇑ig
 n4:gA K ig
 wZ:aeO K ig fu "ValueError.__new__"=true
 sL:abV
 N2:acx K acm "BadBoxes"=O ⇑sL
 Fe:mg "BadBoxes"= ⇑sL
 sM:abV
 N3:acx K acm "ByNought"=O ⇑sM
 Ff:mg "ByNought"= ⇑sM
 sZ:abV
 PB:acx K acm "BadRun"=O ⇑sZ
 F0:mg "BadRun"= ⇑sZ
 zX:aev K (.ref dM) (.ref dM)=O true
 Eh:aco K (.ref dM) (.ref kT)=O true
 Ei:aev K (.ref dM) (.ref kT)=O true
 Et:aev K (.ref ig) (.ref kT)=O true
 Ej:aco K (.ref dM) (.ref sL)=O false
 Eu:aco K (.ref ig) (.ref sL)=O false
 Ek:aco K (.ref dM) (.ref sM)=O false
 Ew:aco K (.ref ig) (.ref sM)=O false
 Ef:aco K (.ref dM) (.ref dM)=O true
 Em:aco K (.ref ig) (.ref dM)=O false
 En:aco K (.ref dM) (.ref sZ)=O false
 ED:aco K (.ref ig) (.ref sZ)=O false
 Eo:aco K (.ref dM) (.ref ig)=O false
 EE:aco K (.ref ig) (.ref ig)=O true
 Eg:aco K (.ref dM) (.type "ValueError")=O true
 Ep:aco K (.ref ig) (.type "ValueError")=O true
noncomputable def Tx.cast{K':abG}{mg MG:dr}(h1:K'=K)(h2:MG=mg)(T:Tx K mg):Tx K' MG:=by subst h1 h2;exact T
theorem WA{x:Str}{st:ahZ}{f:abV}{oc:acb}{od an:ce}{gC:Array fQ}{kV doc pm bQ ct:acb}(a:acx K acm x=O ⇑f)(l:K.lookup f=O ⟨oc,od,.func (adu x x (ij st) (fN st) (cx st) .none kV doc pm an bQ ct),gC⟩)(c:aey K bQ x=true)(k:adw K (.ref f)=true):zG K x st f (adu x x (ij st) (fN st) (cx st) .none kV doc pm an bQ ct):=⟨a,Iy l c k⟩
abbrev JX(N:aN)(st:ahZ)(k:Nat)(b:SM):Prop:=∀{X:Cx},Tx X.K X.mg->Bd X N (cx st) k->iR X->X.env.scope=cx st->JB X (fN st) b
structure Z5 where
 P:acL
 w:adl
 base:adt
 K:abG
 mg:Str->Option acb
abbrev oN(i:Nat):aN:=lcN (cx (top i))
class cq (z:Z5) (x:outParam Str) (f:aw->Mo W) (j:outParam Nat):Prop where
 ex:∃(a:abV) (d:adR) (ps:aN),fV z.P z.w z.K z.mg z.base (dQ z.P z.w) j a d ps (j3 z.K z.mg ↑ps f)/\(∀{xs:aw} {ph:PH},↑xs≠↑ps->f xs ph=.no)/\z.mg x= ⇑a/\adw z.K (.ref a)=true/\Binds z.K d ps []
variable{k n:Nat}
theorem cE{z:Z5}{x:Str}{np:Nat}{b:SM}[T:Tx z.K z.mg](i:Nat)(N:aN)(hb:JX N (top i) k b)(hi:(x,i)∈DT:=by exact ⋯)(hn:↑N=n:=by exact ⋯)(hp:(N.take np).length=np:=by exact ⋯)(S:mC (N) (N.take np) (cx (top i)):=by exact⟨rfl,rfl,rfl,⋯,rfl,⋯,⋯⟩)(hB:∀(kV doc pm:acb) (an:ce) (bQ ct:acb) (us:aS),↑us=(N.take np).length->bindArgs (adu x x (ij (top i)) (fN (top i)) (cx (top i)) .none kV doc pm an bQ ct) ⟨us,[]⟩=pure ((N.take np).zip us):=by intro _ _ _ _ _ _ us hl;first | (obtain⟨_,rfl⟩:=CO us hl;rfl) | (obtain⟨_,_,rfl⟩:=CP us hl;rfl) | (obtain⟨_,_,_,rfl⟩:=Lf us hl;rfl) | (obtain⟨_,_,_,_,rfl⟩:=Lg us hl;rfl) | (obtain⟨_,_,_,_,_,rfl⟩:=aah us hl;rfl)):cq z x (fM b n np) (k+1):=by
 cases z;obtain⟨f,fd,F,m⟩:=T.fn x i hi;refine⟨f,fd,(N).take np,?_,?_,m,F.kp,F.binds hB⟩
 ·rw[hp];exact Hq hn hp F S λ{X} h1 h2 h3 h4 h5 B hF cU=>by subst h3 h4;exact hb T B hF cU
 ·rw[hp];exact IJ
variable{X:Cx}{N N':aN}{sc:aes}{g:GM}
theorem CQ{scope:aes}{tg:adA}(B:Bd X N sc k)(T:Tx X.K X.mg)(hc:∀y∈scope.names,y.2≠.cell)(nd:N'.Nodup)(h:∀{Y:Cx},Bd Y N' scope k->Tx Y.K Y.mg->JG Y tg g)(cl:List (Str×abV))(C:abV)(aI:abT)(ba:Hp)(ex:List abV):JG (bZ X N' scope cl C aI ba ex) tg g:=h (B.bZ hc nd) T
variable{t:TM}
theorem CS{scope:aes}{ifs:bS}(B:Bd X N sc k)(T:Tx X.K X.mg)(hc:∀y∈scope.names,y.2≠.cell)(nd:N'.Nodup)(h:∀{Y:Cx},Bd Y N' scope k->Tx Y.K Y.mg->JF Y ifs t)(cl:List (Str×abV))(C:abV)(aI:abT)(ba:Hp)(ex:List abV):JF (bZ X N' scope cl C aI ba ex) ifs t:=h (B.bZ hc nd) T
variable{m:EM}
theorem CT{scope:aes}{e:adA}(B:Bd X N sc k)(T:Tx X.K X.mg)(hc:∀y∈scope.names,y.2≠.cell)(nd:N'.Nodup)(h:∀{Y:Cx},Bd Y N' scope k->Tx Y.K Y.mg->JE Y e m)(cl:List (Str×abV))(C:abV)(aI:abT)(ba:Hp)(ex:List abV):JE (bZ X N' scope cl C aI ba ex) e m:=h (B.bZ hc nd) T
section
variable{X:Cx}{N:aN}{sc:aes}{k:Nat}{e o:adA}{es:bS}{mo m:EM}{am:AM}{p pos:Pos}
theorem qw(B:Bd X N sc k)(T:Tx X.K X.mg)(hg:sc.names.lookup ("len":Str)=O .globalImplicit)(ha:JA X (e::es) am)(hn:dX (e::es)=true:=by rfl):JE X (.Call (.Name "len" p) (e::es) [] pos) (aR bz am):=VA hn ⋯ ⋯ FH IK (B.gl _ hg) (T.n _ ⋯) PySem.boot_len ha
theorem YK(ho:JE X o mo)(ha:JA X (e::es) am)(iI:aeM o "append" X.env (aeX o X.env)=aeX o X.env:=by rfl)(lh:(p.endLine==pos.line)=true:=by rfl)(hn:dX (e::es)=true:=by rfl)(hl:decide ((e::es).length<30)=true:=by rfl):JE X (.Call (.Attribute o "append" p) (e::es) [] pos) (bL fg eE mo am):=BA hn hl PySem.F.plainAttrs_list PySem.F.slot_list_append PySem.F.type_list_append FE XU O0 ho ha iI lh
theorem cb(he:JE X e m)(ha:JA X es am)(h:isStar e=false:=by rfl):JA X (e::es) (ag m am):=ZH h he ha
noncomputable def CU(sc:aes)(x:Str):Bool:=yD x&&match sc.names.lookup x with | some .local | some .cell | some .free=>true | _=>false
variable{x:Str}
theorem Jj(h:CU sc x=true):ju sc x/\yD x=true:=by
 unfold CU at h;rw[abK] at h;refine⟨?_,h.1⟩;have h:=h.2;split at h <;> first | exact .inl ‹_› | exact .inr (.inl ‹_›) | exact .inr (.inr ‹_›) | cases h
noncomputable def yN(sc:aes)(x:Str):Bool:=match sc.names.lookup x with | some .local | some .cell=>true | _=>false
theorem Jk(h:yN sc x=true):Loc sc x:=by
 unfold yN at h;split at h <;> first | exact .inl ‹_› | exact .inr ‹_› | cases h
variable{i:Nat}
theorem abz(B:Bd X N sc k)(hN:N[i]? =O x:=by rfl)(h:CU sc x=true:=by exact ⋯):JE X (.Name x pos) (af i):=B.jv i hN (Jj h).1 (Jj h).2
theorem abA(B:Bd X N sc k)(hN:N[i]? =O x:=by rfl)(h:yN sc x=true:=by exact ⋯):JG X (.Name x pos) (gN i):=B.qD i hN (Jk h)
theorem abB(B:Bd X N sc k)(he:JE X e m)(hN:N[i]? =O x:=by rfl)(h:yN sc x=true:=by exact ⋯)(hn:xF e=true:=by rfl):JS X (.Assign [.Name x p] e pos) (aM m (gN i)):=B.lD i hN (Jk h) hn he
theorem Ca{fm:aw->Mo W}{j:Nat}(B:BdT X N sc k)[Oy:cq ⟨X.prog,X.w,X.base,X.K,X.mg⟩ x fm j](ha:JA X (e::es) am)(hg:sc.names.lookup x=O .globalImplicit:=by exact ⋯)(hk:j<=k:=by decide)(hn:dX (e::es)=true:=by rfl)(bR:(x==("__debug__":Str))=false:=by exact ⋯):JE X (.Call (.Name x p) (e::es) [] pos) (aP fm am):=by
 obtain⟨a,d,ps,F,hl,h1,h2,h3⟩:=Oy.ex;exact Vz hn bR F hl (B.room.mono hk) (B.gl _ hg) h1 h2 h3 ha
theorem ny{fm:aw->Mo W}{j:Nat}(B:Bd X N sc k)[Oy:cq ⟨X.prog,X.w,X.base,X.K,X.mg⟩ x fm j](ha:JA X (e::es) am)(hg:sc.names.lookup x=O .globalImplicit:=by exact ⋯)(hk:j<=k:=by decide)(hn:dX (e::es)=true:=by rfl)(bR:(x==("__debug__":Str))=false:=by exact ⋯):JE X (.Call (.Name x p) (e::es) [] pos) (aP fm am):=Ca B.toBdT ha hg hk hn bR
noncomputable def DU(N:aN):aN->List (Option Nat)->List Str
 | l,O j::c=>N.getD j ""::DU N l c
 | x::l,Z::c=>x::DU N l c
 | _,_=>[]
noncomputable def kQ(N:aN)(s:aes)(c:eY):aN:=DU N ((s.names.filter λy=>y.2==.local).map (·.1)).tail c
theorem abC{tg iter:adA}{im:IM}{g:GM}{t:TM}{scope:aes}{ifs:bS}{cap:eY}(B:Bd X N sc k)(T:Tx X.K X.mg)(cU:X.env.scope=sc)(hi:JI X tg iter im)(hg:∀{Y:Cx},Bd Y (kQ N scope cap) scope k->Tx Y.K Y.mg->JG Y tg g)(ht:∀{Y:Cx},Bd Y (kQ N scope cap) scope k->Tx Y.K Y.mg->JF Y ifs t)(he:∀{Y:Cx},Bd Y (kQ N scope cap) scope k->Tx Y.K Y.mg->JE Y e m)(hc:xZ sc scope N (kQ N scope cap) cap=true:=by exact ⋯)(nd:(kQ N scope cap).Nodup:=by exact ⋯)(hs:∀x,acX iter X.env x=pure x:=by intro _;rfl):JE X (.ListComp e [⟨tg,iter,ifs,0⟩] scope pos) (b6 im cap g t m):=
 have c:=Bd.cap B.hN cU hc
 Sa B.calm c hi (CQ B T c.cell nd hg) (CS B T c.cell nd ht) (CT B T c.cell nd he) hs
theorem abo{tg iter:adA}{im:IM}{g:GM}{t:TM}{scope:aes}{ifs:bS}{cap:eY}{pos':Pos}(B:Bd X N sc k)(T:Tx X.K X.mg)(cU:X.env.scope=sc)(hi:JI X tg iter im)(hg:∀{Y:Cx},Bd Y (kQ N scope cap) scope k->Tx Y.K Y.mg->JG Y tg g)(ht:∀{Y:Cx},Bd Y (kQ N scope cap) scope k->Tx Y.K Y.mg->JF Y ifs t)(he:∀{Y:Cx},Bd Y (kQ N scope cap) scope k->Tx Y.K Y.mg->JE Y e m)(hN:N[i]? =O x:=by rfl)(hx:sc.names.lookup x=O .local:=by exact ⋯)(hk:sc.kind=.function:=by rfl)(hl:(pos'.line==p.line)=true:=by rfl)(hn:(scope.names.any λy=>y.1==x&&(y.2==.local||y.2==.cell))=false:=by exact ⋯)(hc:xZ sc scope N (kQ N scope cap) cap=true:=by exact ⋯)(nd:(kQ N scope cap).Nodup:=by exact ⋯)(hs:∀x,acX iter X.env x=pure x:=by intro _;rfl):JS X (.Assign [.Name x pos'] (.ListComp e [⟨tg,iter,ifs,0⟩] scope p) pos) (aM (b6 im cap g t m) (gN i)):=
 have c:=Bd.cap B.hN cU hc
 Hl (by rw[B.hN];exact B.nd) (by rw[B.hN];exact hN) (B.fn _ (.inl hx)).2 (by rw[cU];exact hx) B.calm c hi (CQ B T c.cell nd hg) (CS B T c.cell nd ht) (CT B T c.cell nd he) (FN (by rw[cU];exact hk) (by rw[cU];exact hx) hl hn) hs
end
set_option hygiene false in
local macro_rules | `(tactic| ac_nf0) => do
 let tm (s : String) : Lean.MacroM Lean.Term := do
  let mut st : List (Array Lean.Term) := [#[]]
  for w in s.splitOn " " do
   if w == "(" then st := #[] :: st
   else
    let mut a <- if w == "?" then `(?_) else if w == "_" then `(_) else if w == "#" then `(by (decide +kernel)) else if w == "@" then `(by with_unfolding_all rfl) else if w == "%" then `(by intro _ _; rfl) else if w == "$" then `(fun B T => ?_) else if w == "&" then `(by decide) else pure (Lean.mkIdent w.toName)
    if w == ")" then
     a := aiH st.head![0]! (st.head!.extract 1 st.head!.size)
     st := st.tail!
    st := st.head!.push a :: st.tail!
  return aiH st.head![0]! (st.head!.extract 1 st.head!.size)
 let mut g := #[]
 for l in "JB _ _ _|jN|dZ ?|dY ? ?;JE _ _ _|abz B|kZ|cB|xC ? ?|Vx ? ?|ny B ?|B.aE ? ?|aa2 ? ?|xE ?|qw B T # ?|IU ?|X8|abC B T cU ? $ $ $|BY ? ? ?|abf ? ? ?|BA rfl rfl PySem.F.plainAttrs_str PySem.F.slot_str_join PySem.F.type_str_join aaP Wh aaQ ? ?|aaZ ?|YK ? ?|qp|aaT ? ?|Kf Qf PyProof.Rows.boot_str # # rfl ( B.gl _ # ) ( T.n _ # ) ( B.gl _ # ) ( T.n _ # ) ?|IP ?|aa1 ? ?|Vy ? ? ?|VA rfl # # ( aaB B.calm ) aa5 ( B.gl _ # ) ( T.n _ # ) PyProof.Rows.boot_all ?|IQ ? ?|BA rfl rfl PySem.F.plainAttrs_str PySem.F.slot_str_split PySem.F.type_str_split QJ Wh QK ? ?|aaN ? ? @ ? ? ?|IW rfl # # Pr Th ( B.gl _ # ) ( T.n _ # ) PyProof.Rows.boot_int ?|Kf aaM PyProof.Rows.boot_int # # rfl ( B.gl _ # ) ( T.n _ # ) ( B.gl _ # ) ( T.n _ # ) ?|Kf aaE PyProof.Rows.boot_bool # # rfl ( B.gl _ # ) ( T.n _ # ) ( B.gl _ # ) ( T.n _ # ) ?|Hj ( B.gl _ # ) T.Wz #|aaV ( B.gl _ # ) T.Tu T.gX # % ?|IW rfl # # ( aaC B.calm ) aaU ( B.gl _ # ) ( T.n _ # ) PyProof.Rows.boot_list ?|Hj ( B.gl _ # ) T.Ny #|aaR ( B.gl _ rfl ) T.Pz #|aa9 ( B.gl _ # ) T.Tv T.mE #|Kf aaA PyProof.Rows.boot_tuple # # rfl ( B.gl _ # ) ( T.n _ # ) ( B.gl _ # ) ( T.n _ # ) ?|IW rfl # # aaI abe ( B.gl _ rfl ) ( T.n _ # ) PyProof.Rows.boot_str ?|IW rfl # # aaI abe ( B.gl _ # ) ( T.n _ # ) PyProof.Rows.boot_str ?|BA rfl rfl PySem.F.plainAttrs_str PySem.F.slot_str_startswith PySem.F.type_str_startswith aaJ Wh aaK ? ?|abj ? ? ?|Hj ( B.gl _ # ) T.Nx #|aaR ( B.gl _ rfl ) T.Py #|IW rfl # # NA Qh ( B.gl _ # ) ( T.n _ # ) PyProof.Rows.boot_tuple ?|abc ? ?|VA rfl # # aaL aaY ( B.gl _ # ) ( T.n _ # ) PyProof.Rows.boot_abs ?|aa6|VA rfl # # aaH abd ( B.gl _ # ) ( T.n _ # ) PySem.boot_len ?|aa0 ?|Kf O1 PyProof.Rows.boot_list # # rfl ( B.gl _ # ) ( T.n _ # ) ( B.gl _ # ) ( T.n _ # ) ?|Kf aaA PyProof.Rows.boot_tuple # # rfl ( B.gl _ rfl ) ( T.n _ # ) ( B.gl _ rfl ) ( T.n _ # ) ?|Kf Qf PyProof.Rows.boot_str # # rfl ( B.gl _ rfl ) ( T.n _ # ) ( B.gl _ rfl ) ( T.n _ # ) ?|abi ? ?;JA _ _ _|cb ? ?|cQ;JS _ _ _|jc ?|jP ? ? ?|abB B ?|B.K4 ? ? ?|xp rfl ?|abo B T cU ? $ $ $|aa3 ? ?;JT _ _ _|i8 ? ? ?|xD ?|aaO ? ? @ ? ? ?|aaW ( B.gl _ # ) T.Tu T.gX # @ ?|oY ( IR ? ? )|oY ( oI ? ? )|k6 rfl ?;JG _ _ _|abA B|IV B.calm ?|B.aaS ? ?;Cp _ _ _ _|B.eq|B.ne|abh|abg|Ke|abb @|aaX @|B.abv @|aba @|B.B2 @|X9;JO _ _ _|Ba ?|A9;JW _ _ _|oB ?|oI ? ?|IR ? ?;JF _ _ _|aa4|VB ?;zi _ _ _|xb ? ?|Hk;JI _ _ _ _|aaF ( B.gl _ # ) ( T.n _ # ) rfl ?|Ts ( B.gl _ # ) ( T.n _ # ) rfl rfl ?|aaG ( B.gl _ # ) ( T.n _ # ) rfl rfl ?|Sh ( B.gl _ # ) ( T.n _ # ) rfl ?|Se ?|aa7 ?".splitOn ";" do
  let p := l.splitOn "|"
  let x <- p.tail!.toArray.mapM fun s => do `(tacticSeq| refine $(<- tm s))
  g := g.push (<- `(tacticSeq| (show $(<- tm p.head!); first $[| $x]*)))
 `(tactic| ((try intro _ T B hF cU); repeat' first $[| $g]*))
section
variable{P:acL}{w:adl}{K:abG}{mg:dr}{base:adt}
theorem M8:mC ["self","at"] ["self","at"] (cx pS):=⟨rfl,rfl,rfl,⋯,rfl,⋯,⋯⟩
theorem z7(T:Tx K mg):fV P w K mg base (dQ P w) 1 T.pT T.wu ["self","at"] (qt T.dM "at"):=S7 T.sd M8 rfl T.Fc T.sy ⋯ T.wK ⋯ ⋯ ⋯ T.EU ⋯ (λ_=>rfl) (λ_=>rfl) (λ_=>rfl)
variable{z:Z5}[T:Tx z.K z.mg]
instance:cq z "_law_cell_at" fK 1:=cE 37 (oN 37) (by ac_nf0)
instance:cq z "_law_names_by" wD 1:=cE 38 (oN 38) (by ac_nf0)
instance:cq z "_law_number_by" wC 1:=cE 39 (oN 39) (by ac_nf0)
instance:cq z "_law_jump_by" mm 1:=cE 40 (oN 40) (by ac_nf0)
instance:cq z "_law_row_by" sA 2:=cE 41 (oN 41) (by ac_nf0)
instance:cq z "_law_rows_by" wF 3:=cE 42 (oN 42) (by ac_nf0)
instance:cq z "is_name" wX 1:=cE 17 (oN 17) (by ac_nf0)
instance:cq z "is_number" pU 1:=cE 10 (oN 10) (by ac_nf0)
instance:cq z "is_word" wY 1:=cE 18 (oN 18) (by ac_nf0)
instance:cq z "is_place" wM 2:=cE 19 (oN 19) (by ac_nf0)
instance:cq z "is_part" sP 3:=cE 20 (oN 20) (by ac_nf0)
instance:cq z "is_row" n8 4:=cE 21 (oN 21) (by ac_nf0)
instance:cq z "parts_of_kind" nW 1:=cE 22 (oN 22) (by ac_nf0)
instance:cq z "jumps_back_badly" r6 2:=cE 23 (oN 23) (by ac_nf0)
instance:cq z "with_names_of" si 2:=cE 24 (oN 24) (by ac_nf0)
instance:cq z "need_program" ib 5:=cE 25 (oN 25) λ{X} T B hF cU=>
 letI v0:=("rows",0)
 letI v1:=("names",1)
 letI v2:=("at",2)
 letI v3:=("row",3)
 (dY (jP (oY (oI (xD (k6 rfl (Kf O1 PyProof.Rows.boot_list ⋯ ⋯ rfl (B.gl _ ⋯) (T.n _ ⋯) (B.gl _ ⋯) (T.n _ ⋯) v0))) (oB (i8 Ke (qw B T ⋯ (cb v0 cQ)) (Hj (B.gl _ ⋯) T.E9 ⋯))))) (dZ (Ay T.sy T.wG T.wH T.wI (z7 T) (B.room.mono (by decide)) T.wz (B.gl _ ⋯) T.nY B.calm rfl ⋯ qp)) jN) (dY (B.lD 1 rfl (.inl ⋯) rfl (xE cQ)) (dY (B.K4 (Sh (B.gl _ ⋯) (T.n _ ⋯) rfl (cb v0 cQ)) (IV B.calm (xb (B.qD 2 rfl (.inl ⋯)) (xb (B.qD 3 rfl (.inl ⋯)) Hk))) (dY (jP (oY (oI (xD (k6 rfl (ny B (cb v3 (cb (qw B T ⋯ (cb v0 cQ)) cQ))))) (oB (k6 rfl (ny B (cb v0 (cb v2 cQ))))))) (dZ (Ay T.sy T.wG T.wH T.wI (z7 T) (B.room.mono (by decide)) T.wz (B.gl _ ⋯) T.nY B.calm rfl ⋯ v2)) jN) (dY (B.lD 1 rfl (.inl ⋯) rfl (ny B (cb v3 (cb v1 cQ)))) (dZ (jP (i8 Ke (qw B T ⋯ (cb v1 cQ)) (Hj (B.gl _ ⋯) T.E3 ⋯)) (dZ (Ay T.sy T.wG T.wH T.wI (z7 T) (B.room.mono (by decide)) T.wz (B.gl _ ⋯) T.nY B.calm rfl ⋯ v2)) jN))))) (dZ (jc v1)))))
instance:cq z "line_of" sQ 1:=cE 29 (oN 29) (by ac_nf0)
instance:cq z "written" pW 2:=cE 30 (oN 30) (by ac_nf0)
instance:cq z "spelt" mF 6:=cE 34 (oN 34) (by ac_nf0)
instance:cq z "_law_line" nZ 1:=cE 44 (oN 44) (by ac_nf0)
instance:cq z "_law_is_spelt" sj 7:=cE 54 (oN 54) λ{X} T B hF cU=>
 letI v0:=("_law_rows",0)
 letI v2:=("_law_cell",2)
 letI v3:=("_law_plain",3)
 (dY (Hl (i:=3) (by rw[B.hN];exact B.nd) (by rw[B.hN];rfl) (B.fn _ (.inl ⋯)).2 (by rw[cU];decide +kernel) B.calm (N':=["_law_row_here"]) (Bd.cap B.hN cU ⋯) (Se v0) (CQ B T ⋯ ⋯ λ{X} B T=>(B.qD 0 rfl (.inl rfl))) (CS B T ⋯ ⋯ λ{X} B T=>(VB (i8 (B.B2 (by with_unfolding_all rfl)) (B.aE (B.jv 0 rfl (.inl rfl) ⋯) kZ) (IU (cb cB (cb cB cQ)))))) (CT B T ⋯ ⋯ λ{X} B T=>(B.jv 0 rfl (.inl rfl) ⋯)) (FN (by rw[cU];rfl) (by rw[cU];decide +kernel) rfl ⋯)) (dY (B.lD 4 rfl (.inl ⋯) rfl (Vx v2 (xC (qw B T ⋯ (cb v3 cQ)) kZ))) (dY (Ou B hF cU (B.gl _ ⋯) T.nY ⋯ ⟨T.jH,T.Ah⟩ (fW.cons T.i4 T.zX fW.nil) 5 rfl ⋯ 4 rfl (.inl ⋯) (λ{X} h1 h2 _ _ _ B hF cU=>(λ(T:Tx X.K X.mg)=>by have v1 {p:Pos}:JE X (.Name "_law_odd" p) (af 1):=B.jv 1 rfl (.inl ⋯) ⋯;have v3 {p:Pos}:JE X (.Name "_law_plain" p) (af 3):=B.jv 3 rfl (.inl ⋯) ⋯;have v4 {p:Pos}:JE X (.Name "_law_at" p) (af 4):=B.jv 4 rfl (.inr (.inr ⋯)) ⋯;exact(dZ (xp rfl (ny B (cb (xC (xC (BY v3 A9 (Ba v4)) (xE (cb v1 cQ))) (BY v3 (Ba v4) A9)) cQ))))) (Tx.cast h1 h2 T)) (λh1 h2 B=>(λT=>(dZ (jc (IQ (Vy Ww (Tc T.i4 T.jH T.EV T.EW (B.jv 5 rfl (.inl ⋯) ⋯)) (B.jv 4 rfl (.inl ⋯) ⋯)) (IP (qq (df.cons T.i4 T.jH T.Eh df.nil) rfl (B.gl _ ⋯) (T.n _ ⋯) (B.gl _ ⋯) T.wK ⋯ (B.jv 5 rfl (.inl ⋯) ⋯))))))) (Tx.cast h1 h2 T))) (dZ (jc X8)))))
instance:cq z "part_read" sD 1:=cE 31 (oN 31) (by ac_nf0)
instance:cq z "row_read" sI 2:=cE 32 (oN 32) (by ac_nf0)
instance:cq z "rows_read" sE 3:=cE 33 (oN 33) (by ac_nf0)
instance:cq z "unspelt" ki 6:=cE 35 (oN 35) λ{X} T B hF cU=>
 letI v0:=("text",0)
 letI v1:=("rows",1)
 (dY (jP (xD (k6 rfl (Kf Qf PyProof.Rows.boot_str ⋯ ⋯ rfl (B.gl _ ⋯) (T.n _ ⋯) (B.gl _ ⋯) (T.n _ ⋯) v0))) (dZ (Gw T.wZ (B.gl _ ⋯) T.sT B.calm rfl ⋯ (cb cB cQ))) jN) (dY (B.lD 1 rfl (.inl ⋯) rfl (ny B (cb v0 cQ))) (dY (To B hF (B.gl _ ⋯) T.nY ⋯ ⟨T.jH,T.Ah⟩ (fW.cons T.i4 T.zX fW.nil) T.wZ (B.gl _ ⋯) T.sT ⋯ (λ{X} h1 h2 _ _ _ B=>(λ(T:Tx X.K X.mg)=>(dZ (xp rfl (Ca B (cb (B.jv 1 rfl (.inl ⋯) ⋯) cQ))))) (Tx.cast h1 h2 T))) (dY (jP (i8 B.ne (ny B (cb v1 cQ)) v0) (dZ (Gw T.wZ (B.gl _ ⋯) T.sT B.calm rfl ⋯ (cb cB cQ))) jN) (dZ (jc v1))))))
instance:cq z "_law_tried" iE 7:=cE 51 (oN 51) λ{X} T B hF cU=>
 (dZ (Oo B.toBdT hF cU (B.gl _ ⋯) T.wK ⋯ ⟨T.Fb,T.Fd⟩ (fW.cons T.mr T.Et (fW.cons T.i4 T.Ei fW.nil)) 1 rfl ⋯ (λ{X} h1 h2 _ _ _ B=>(λ(T:Tx X.K X.mg)=>(dZ (jc (Ca B (cb (B.jv 0 rfl (.inl ⋯) ⋯) cQ))))) (Tx.cast h1 h2 T)) (λh1 h2 B=>(λT=>(dY (jP (oY (oI (k6 rfl (qq (df.cons T.mr T.n4 T.Eu (df.cons T.i4 T.jH T.Ej df.nil)) rfl (B.gl _ ⋯) (T.n _ ⋯) (B.gl _ ⋯) T.Fe ⋯ (B.jv 1 rfl (.inl ⋯) ⋯))) (oI (k6 rfl (qq (df.cons T.mr T.n4 T.Ew (df.cons T.i4 T.jH T.Ek df.nil)) rfl (B.gl _ ⋯) (T.n _ ⋯) (B.gl _ ⋯) T.Ff ⋯ (B.jv 1 rfl (.inl ⋯) ⋯))) (oI (k6 rfl (qq (df.cons T.mr T.n4 T.Em (df.cons T.i4 T.jH T.Ef df.nil)) rfl (B.gl _ ⋯) (T.n _ ⋯) (B.gl _ ⋯) T.nY ⋯ (B.jv 1 rfl (.inl ⋯) ⋯))) (oB (k6 rfl (qq (df.cons T.mr T.n4 T.ED (df.cons T.i4 T.jH T.En df.nil)) rfl (B.gl _ ⋯) (T.n _ ⋯) (B.gl _ ⋯) T.F0 ⋯ (B.jv 1 rfl (.inl ⋯) ⋯)))))))) (dZ (jc cB)) jN) (dZ (jc (Ya (by intro _ _;rfl) (xE (cb cB (cb cB cQ))) (IW rfl ⋯ ⋯ Pr Th (B.gl _ ⋯) (T.n _ ⋯) PyProof.Rows.boot_int (cb (IQ (qq (df.cons T.mr T.n4 T.EE (df.cons T.i4 T.jH T.Eo df.nil)) rfl (B.gl _ ⋯) (T.n _ ⋯) (B.gl _ ⋯) T.sT ⋯ (B.jv 1 rfl (.inl ⋯) ⋯)) (IP (VD (df.cons T.mr T.n4 T.Ep (df.cons T.i4 T.jH T.Eg df.nil)) rfl (B.gl _ ⋯) (T.n _ ⋯) (B.gl _ ⋯) (T.n _ ⋯) Nu ⋯ ⋯ (B.jv 1 rfl (.inl ⋯) ⋯)))) cQ))))))) (Tx.cast h1 h2 T))))
instance:cq z "_law_odd_line" sk 1:=cE 45 (oN 45) (by ac_nf0)
instance:cq z "_law_bent" wN 2:=cE 52 (oN 52) (by ac_nf0)
instance:cq z "_law_name" sJ 1:=cE 47 (oN 47) (by ac_nf0)
instance:cq z "_law_number" wJ 1:=cE 46 (oN 46) (by ac_nf0)
instance:cq z "_law_row" pX 2:=cE 48 (oN 48) λ{X} T B hF cU=>
 letI v0:=("_law_line_here",0)
 letI v1:=("_law_words",1)
 letI v2:=("_law_forms",2)
 letI v3:=("_law_row_here",3)
 letI v4:=("_law_kind",4)
 letI v5:=("_law_word",5)
 (dY (B.lD 1 rfl (.inl ⋯) rfl (BA rfl rfl PySem.F.plainAttrs_str aeW PySem.F.type_str_split QJ Wh QK v0 (cb cB cQ))) (dY (B.lD 2 rfl (.inl ⋯) rfl (GP (kX cB cB (kX cB cB (kX cB cB (kX cB cB (kX cB cB HH))))) rfl rfl (List.cons_ne_nil _ _) (acR rfl) (acR rfl))) (dY (xp rfl (BA rfl rfl PySem.F.plainAttrs_dict ahd PySem.F.type_dict_update Pu VL Wu v2 (cb (GP (kX cB cB (kX cB cB (kX cB cB (kX cB cB HH)))) rfl rfl (List.cons_ne_nil _ _) (acR rfl) (acR rfl)) cQ))) (dY (jP (oY (oI (i8 (B.B2 (by with_unfolding_all rfl)) (B.aE v1 kZ) v2) (oB (i8 B.ne (qw B T ⋯ (cb v1 cQ)) (xC kZ (qw B T ⋯ (cb (B.aE v2 (B.aE v1 kZ)) cQ))))))) (dZ (jc qp)) jN) (dY (B.lD 3 rfl (.inl ⋯) rfl (xE (cb (B.aE v1 kZ) cQ))) (dY (B.K4 (Ts (B.gl _ ⋯) (T.n _ ⋯) rfl rfl (cb (B.aE v2 (B.aE v1 kZ)) (cb (BY v1 (Ba kZ) A9) cQ))) (IV B.calm (xb (B.qD 4 rfl (.inl ⋯)) (xb (B.qD 5 rfl (.inl ⋯)) Hk))) (dY (jP (oY (IR (i8 B.eq v4 cB) (oB (xD (k6 rfl (ny B (cb v5 cQ))))))) (dZ (jc qp)) jN) (dY (jP (oY (IR (i8 B.eq v4 cB) (oB (i8 (B.B2 (by with_unfolding_all rfl)) v5 (IU (cb cB (cb cB (cb cB (cb cB (cb cB (cb cB cQ))))))))))) (dZ (jc qp)) jN) (dY (jP (i8 B.eq v4 cB) (dY (B.lD 5 rfl (.inl ⋯) rfl (ny B (cb v5 cQ))) (dZ (jP (oY (oI (i8 X9 v5 qp) (oB (i8 B.eq v5 kZ)))) (dZ (jc qp)) jN))) jN) (dZ (xp rfl (YK v3 (cb v5 cQ)))))))) (dZ (jc (IW rfl ⋯ ⋯ NA Qh (B.gl _ ⋯) (T.n _ ⋯) PyProof.Rows.boot_tuple (cb v3 cQ))))))))))
instance:cq z "_law_many_names" se 1:=cE 49 (oN 49) (by ac_nf0)
instance:cq z "_law_rows_of" nX 3:=cE 50 (oN 50) (by ac_nf0)
instance:cq z "_law_whole" sF 1:=cE 43 (oN 43) (by ac_nf0)
instance:cq z "_law_is_read" mn 8:=cE 53 (oN 53) (by ac_nf0)
theorem WB:mC ["_law_script","_law_names","_law_many","_law_rows","_law_handed","_law_text","_law_n","_law_turn"] ["_law_script"] (cx kD):=⟨rfl,rfl,rfl,⋯,rfl,⋯,⋯⟩
theorem QN:JX ["_law_script","_law_names","_law_many","_law_rows","_law_handed","_law_text","_law_n","_law_turn"] kD 8 oP:=λ{X} T B hF cU=>by ac_nf0
theorem Jl(T:Tx K mg):fV P w K mg base (dQ P w) 9 T.yi T.yj ["_law_script"] (j3 K mg 1 (fM oP 8 1)):=Hq rfl rfl T.qM WB λ{X} h1 h2 h3 h4 h5 B hF cU=>by subst h3 h4;exact QN T B hF cU
instance:cq z "law" qL 9:=⟨_,_,["_law_script"],Jl T,IJ,T.Kt,T.qM.kp,T.oP⟩
end
theorem all_mk{l:ahI}{w:adl}{h:adt}{mg:dr}{fa BF n9 og dN r9 Ey kh iF wO wQ xj:abV}{WC Jn M9 Na:ce}{WD Nb:Array fQ}{WE Jo Jp Jq BG Jr Nc Nd Nf Ng Ez Nh:acb}{sR tY sS su sx sC sG:Tok}{EA:Obj}{Ni:Nat}{Ai:ClassData}(KX:K.In h)(G:h.Ns acm mg)(hfa:mg "law"= ⇑fa)(J_0:acx K acm "law"=O ⇑BF)(J_1:K.lookup BF=O ⟨WE,WC,.func (adu "law" "law" (ij kD) (fN kD) (cx kD) .none Jo Jp Jq Jn BG Jr),WD⟩)(J_2:aey K BG "law"=true)(J_3:adw K (.ref BF)=true)(J_4:acx K acm "FIGURES"=O (O (.str "0123456789" sR)))(J_5:acx K acm "FORMS"=O ⇑n9)(J_6:PyProof.Rows.KTD.tabLook (rO K) (λb=>K.lookup b) n9 gX=true)(J_7:acx K acm "HALF"=O (O (.int (2147483648) tY)))(J_8:acx K acm "LETTERS"=O (O (.str "abcdefghijklmnopqrstuvwxyz" sS)))(J_9:acx K acm "MOST_FIGURES"=O (O (.int (10) su)))(J_10:acx K acm "MOST_LETTERS"=O (O (.int (6) sx)))(J_11:acx K acm "MOST_NAMES"=O (O (.int (12) sC)))(J_12:acx K acm "MOST_ROWS"=O (O (.int (60) sG)))(J_13:acx K acm "WORDS"=O ⇑og)(J_14:rO K mE (.ref og)=true)(J_15:acx K acm "BadProgram"=O ⇑dN)(J_16:uF K dN=true)(J_17:aeC K (.ref dN) "__init__"=O ⇑r9)(J_18:agN K (.ref r9)=true)(J_19:K.lookup r9=O ⟨Nc,M9,.func (adu "__init__" "BadProgram.__init__" (ij pS) (fN pS) (cx pS) (.ref Ey) Nd Nf Ng Na Ez Nh),Nb⟩)(J_20:aey K Ez "BadProgram.__init__"=true)(J_21:K.lookup Ey=O EA)(J_22:EA.data=.seq #[.none] Ni)(J_23:kr K dN r9 fu "ValueError.__new__"=true)(J_24:adw K (.ref dN)=true)(J_25:aeC K (.ref dN) "__setattr__"=O (O (.builtin "object.__setattr__")))(J_26:PySem.W.clsIn K dN=O Ai)(J_27:Ai.hasDict=true)(J_28:tW Ai.mro=fu)(J_29:PySem.W.takerIn K dN "at"=O Z)(J_30:aiG K dN=true)(J_31:aeC K (.ref dN) "at"=O Z)(J_32:afx K (.ref dN)=O (.type "type"))(J_33:acx K acm "BoxError"=O ⇑kh)(J_34:uF K kh=true)(J_35:aiF K (.ref kh) "__getattribute__"=O (O (.builtin "type.__getattribute__")))(J_36:PySem.W.readsIn K kh (.type "type")=true)(J_37:PySem.W.findCls K (.ref kh) (.type "type") "__init__"=O (.val (.builtin "ValueError.__init__")))(J_38:afx K (.ref kh)=O (.type "type"))(J_39:acx K acm "NoText"=O ⇑iF)(J_40:uF K iF=true)(J_41:aeO K iF fu "ValueError.__new__"=true)(J_42:acx K acm "BadBoxes"=O ⇑wO)(J_43:acx K acm "ByNought"=O ⇑wQ)(J_44:acx K acm "BadRun"=O ⇑xj)(J_45:aev K (.ref dN) (.ref dN)=O true)(J_46:aco K (.ref dN) (.ref kh)=O true)(J_47:aev K (.ref dN) (.ref kh)=O true)(J_48:aev K (.ref iF) (.ref kh)=O true)(J_49:aco K (.ref dN) (.ref wO)=O false)(J_50:aco K (.ref iF) (.ref wO)=O false)(J_51:aco K (.ref dN) (.ref wQ)=O false)(J_52:aco K (.ref iF) (.ref wQ)=O false)(J_53:aco K (.ref dN) (.ref dN)=O true)(J_54:aco K (.ref iF) (.ref dN)=O false)(J_55:aco K (.ref dN) (.ref xj)=O false)(J_56:aco K (.ref iF) (.ref xj)=O false)(J_57:aco K (.ref dN) (.ref iF)=O false)(J_58:aco K (.ref iF) (.ref iF)=O true)(J_59:aco K (.ref dN) (.type "ValueError")=O true)(J_60:aco K (.ref iF) (.type "ValueError")=O true)(hf:pe K DT)(hz:pf (λx=>acx K acm x=O Z) BL):∃fd:adR,(∀(s:abT) (v:acb),BindsTo s fd ⟨[v],[]⟩ [("_law_script",v)])/\∀base:adt,K.In base->base.Ns acm mg->fV l.prog w K mg base (dQ l.prog w) 9 fa fd ["_law_script"] (j3 K mg 1 qL):=by
 have e:=hfa.symm.trans (acP KX G J_0);cases e;have qM:=Iy (st:=kD) J_1 J_2 J_3;have sd:=S6 (st:=pS) J_19 J_20 J_21 J_22
 let T:Tx K mg:={
  fn:=λx i h=>let ⟨f,fd,H⟩:=hf.at x i h;⟨f,fd,H.2,acP KX G H.1⟩,
  n:=λx h=>PySem.W.mg_none_of KX G (hz.at x h),
  yi:=fa,yj:=_,qM:=qM,Kt:=acP KX G J_0,oP:=qM.binds (ps:=["_law_script"]) (λ_ _ _ _ _ _ us hl=>by obtain⟨_,rfl⟩:=CO us hl;rfl),
  sR:=sR,Py:=acP KX G J_4,
  n9:=n9,Tu:=acP KX G J_5,gX:=SY J_6,
  tY:=tY,Wz:=acP KX G J_7,
  sS:=sS,Pz:=acP KX G J_8,
  su:=su,Nx:=acP KX G J_9,
  sx:=sx,Ny:=acP KX G J_10,
  sC:=sC,E3:=acP KX G J_11,
  sG:=sG,E9:=acP KX G J_12,
  og:=og,Tv:=acP KX G J_13,mE:=HC J_14,
  dM:=dN,i4:=J_15,nY:=acP KX G J_15,
  jH:=.of J_16,
  pT:=r9,wu:=_,sd:=sd,wz:=sd.binds (ps:=["self","at"]) (λ_ _ _ _ _ _ _ us hl=>by obtain⟨_,_,rfl⟩:=CP us hl;exact⟨_,rfl,rfl⟩),sy:=J_23,wG:=J_17,wH:=J_18,wI:=J_24,EU:=⟨J_25,⟨_,J_26,J_27,J_28⟩,J_29⟩,EV:=J_30,EW:=J_31,
  Ah:=J_32,
  kT:=kh,N1:=J_33,wK:=acP KX G J_33,
  Fb:=.of J_34,
  Fc:=⟨J_35,J_36,J_37⟩,
  Fd:=J_38,
  ig:=iF,mr:=J_39,sT:=acP KX G J_39,
  n4:=.of J_40,
  wZ:=J_41,
  sL:=wO,N2:=J_42,Fe:=acP KX G J_42,
  sM:=wQ,N3:=J_43,Ff:=acP KX G J_43,
  sZ:=xj,PB:=J_44,F0:=acP KX G J_44,
  zX:=J_45,
  Eh:=J_46,
  Ei:=J_47,
  Et:=J_48,
  Ej:=J_49,
  Eu:=J_50,
  Ek:=J_51,
  Ew:=J_52,
  Ef:=J_53,
  Em:=J_54,
  En:=J_55,
  ED:=J_56,
  Eo:=J_57,
  EE:=J_58,
  Eg:=J_59,
  Ep:=J_60 }
 exact⟨adu "law" "law" (ij kD) (fN kD) (cx kD) .none Jo Jp Jq Jn BG Jr,λs v=>.of_eq rfl,λbase _ _=>Jl T⟩
theorem QO{l:ahI}{q:acL}{loose:aN}{XP:(Str->Option acb)->adt->Prop}{YP:adl->adt->Prop}{d:DefRec}{K:Params->abG}(good:∀ns:gM,↑ns<=63->∃ph',qL [.fl (ns.map W.int)] []=.ok (.bl true) ph')(hn:l.most=O 63)(u6:d.params.defaults=[])(hY:∀(w:adl) (h:adt),YP w h->(K w.params).In h)(hK:∀w:adl,ahX (K w.params)=true)(hT:∀(w:adl) (h:adt),YP w h->∀p∈kl (K w.params),agQ h p.2.1 p.2.2/\h.get? p.2.2=O (aeU #[]))(F:∀(w:adl) (mg:dr) (fa:abV) (h:adt),(K w.params).In h->h.Ns acm mg->mg d.name= ⇑fa->∃fd:adR,(∀(s:abT) (u:acb),BindsTo s fd ⟨[u],[]⟩ [("_law_script",u)])/\∀base:adt,(K w.params).In base->base.Ns acm mg->fV l.prog w (K w.params) mg base (dQ l.prog w) 9 fa fd ["_law_script"] (j3 (K w.params) mg 1 qL)):PySem.W.WalkO q loose XP YP l.row.toRowW d [] (λf vs=>PySem.call f vs):=Sb 9 good hn u6 ⟨rfl,by decide,by decide⟩ hY hK hT F
open PySem L2
variable{α β:Type}{ph:PH}
theorem aj{m:Mo α}{f:α->Mo β}{ph':PH}{a:α}{r:Out β}(h:m ph=.ok a ph')(k:f a ph'=r):ax m f ph=r:=by
 unfold ax;rw[h];exact k
variable{j:Nat}
theorem iM{l:List α}(h:j<↑l):∃x,l[j]? =O x:=⟨l[j],acn h⟩
theorem BH{a b:Int}(h1: -(2 ^ 64)<b)(h2:b<2 ^ 64):mulC a b=true:=by
 unfold mulC;rw[aL h1,aL h2];simp
theorem xN{a b:Int}(h1: -(2 ^ 64)<a)(h2:a<2 ^ 64):mulC a b=true:=by
 unfold mulC;rw[aL h1,aL h2];simp
theorem Ex.set{a b:PH}(h:Ex a b){i:Nat}(hi:↑a<=i)(o:PO):Ex a (b.set i o):=by
 obtain⟨m,rfl⟩:=h;exact⟨m.set (i-↑a) o,by rw[ahJ _ _ hi]⟩
theorem oE{o:PO}(h:i≠j):(ph.set i o)[j]? =ph[j]? :=aea h
theorem ku{o o':PO}(h:ph[i]? =O o):(ph.set i o')[i]? =O o':=aeV (abL.mp h).1
theorem Cb{o:PO}(h:ph[i]? =O o):i<↑ph:=(abL.mp h).1
variable{σ:aG}{ph1:PH}
theorem gf{im:IM}{b:SM}{items:aw}{chk:PH->Bool}{r:Out Fl}(h:im σ ph=.ok (items,chk) ph1)(h2:dG chk g b items σ ph1=r):ei im g b σ ph=r:=by
 unfold ei;refine aj h ?_;exact h2
variable{σ1:aG}
theorem aak{a b:SM}{k:Fl->Mo W}{P:Out W->Prop}(h:a σ ph=.ok (.nx σ1) ph1)(h2:P (ax (b σ1) k ph1)):P (ax (aC a b σ) k ph):=by
 have e:ax (aC a b σ) k ph=ax (b σ1) k ph1:=by
  rw[om,jJ,cc h]
 rw[e];exact h2
noncomputable def iw(l:cW):aw:=l.map λx:Nat=>W.int x
theorem xO(l:cW):(iw l).length=↑l:=by simp[iw]
theorem WG(l m:cW):iw (l++m)=iw l++iw m:=by simp[iw]
theorem WH{l:cW}{w:W}(h:(iw l)[j]? =O w):∃x,l[j]? =O x/\w=.int x:=by
 unfold iw at h;rw[abQ] at h;obtain⟨x,e,rfl⟩:=abU.mp h;exact⟨x,e,rfl⟩
theorem YL{l:cW}{x:Nat}(h:l[j]? =O x):cJ (iw l) (j:Int)= ↥x:=by
 have:=(abL.mp h).1;rw[fq _ _ (by rw[xO];exact this)];unfold iw;rw[abQ,h];rfl
theorem Tw(ns:gM)(k:Nat)(ph:PH):fK [.fl (ns.map W.int),.int k] ph=.ok (.int (ns.getD k 0)) ph:=by
 unfold fK ER
 push_cast [Z9]
 by_cases h:k<↑ns
 ·have e:cJ (ns.map W.int) (k:Int)= ↥(ns.getD k 0):=by
   rw[fq _ _ (by simpa using h)];simp[h]
  rw[ixF e];simp[h,aD,fw,ax]
 ·have e:ns.getD k 0=0:=by simp[Nat.le_of_not_lt h]
  simp[h,aD,fw,ax,e]
theorem YM(ns:gM)(k:Nat):fK [.fl (ns.map W.int),.int k]=aD (.int (ns.getD k 0)):=funext λph=>Tw ns k ph
theorem sq{a b:SM}{r:Out Fl}(h:a σ ph=.ok (.nx σ1) ph1)(h2:b σ1 ph1=r):aC a b σ ph=r:=by
 rw[om,cc h];exact h2
theorem bq{a b:SM}{k:Fl->Mo W}{r:Out W}(h:a σ ph=.ok (.nx σ1) ph1)(h2:ax (b σ1) k ph1=r):ax (aC a b σ) k ph=r:=aak (P:=λq=>q=r) h h2
theorem br{e:EM}{w:W}(h:e σ ph=.ok w ph1):ax (aO e σ) fw ph=.ok w ph1:=by
 rw[Bc,jJ,cc h];rfl
theorem asg{e:EM}{w:W}(h:e σ ph=.ok w ph1):aM e (gN i) σ ph=.ok (.nx (σ.set i (O w))) ph1:=by
 rw[Be,cc h];rfl
theorem bh{a b:SM}{r:Out Fl}(h:t σ ph=.ok true ph1)(h2:a σ ph1=r):bi t a b σ ph=r:=by
 rw[BC,cc h];exact h2
theorem aK{a b:SM}{r:Out Fl}(h:t σ ph=.ok false ph1)(h2:b σ ph1=r):bi t a b σ ph=r:=by
 rw[BC,cc h];exact h2
theorem retS{e:EM}{w:W}(h:e σ ph=.ok w ph1):aO e σ ph=.ok (.rt w) ph1:=by
 rw[Bc,cc h];rfl
variable{o:EM}{ws:aw}
theorem l8{e:EM}{w:W}(ho:o σ=aD (.ref i))(hi0:∃zh,ph[i]? =O (.lst zh))(he:e σ ph=.ok w ph1)(hi:ph1[i]? =O (.lst ws))(hz:↑ws<1000000):d3 (bL fg eE o (ag e ai)) σ ph=.ok (.nx σ) (ph1.set i (.lst (ws++[w]))):=by
 obtain⟨zh,h0⟩:=hi0;rw[GD,qc,ho];rw[jJ,xr,jJ,cc (SH h0),jJ,GF,jJ,cc he];rw[Hu,xr,xr,cc (Fm hi (aci hz (by decide)) w)];rfl
theorem bT{a b:SM}{w:W}(h:a σ ph=.ok (.rt w) ph1):ax (aC a b σ) fw ph=.ok w ph1:=by
 rw[om,jJ,cc h];rfl
inductive Wd where
 | sum | less | times | part | below | alike
variable{ph2:PH}
theorem au{e:EM}{r:AM}{w:W}(h:e σ ph=.ok w ph1)(h2:r σ ph1=.ok ws ph2):ag e r σ ph=.ok (w::ws) ph2:=aj h (aj h2 rfl)
theorem tF{a b:TM}(h:a σ ph=.ok false ph1):d9 a b σ ph=.ok false ph1:=aj h rfl
theorem tT{a b:TM}{r:Out Bool}(h:a σ ph=.ok true ph1)(h2:b σ ph1=r):d9 a b σ ph=r:=aj h h2
noncomputable def vN(v:Int):Prop:= -2147483648<=v/\v<=2147483647
noncomputable def Wd.s:Wd->String
 | .sum=>"sum"
 | .less=>"less"
 | .times=>"times"
 | .part=>"part"
 | .below=>"below"
 | .alike=>"alike"
theorem wv(x:String){y:String}{c:Bool}(h:af i σ=aD (.str x))(hc:decide (x=y)=c):eT (ah bo (af i) (eC (.str y))) σ ph=.ok c ph:=by
 rw[yc,xG,h,<- hc];ac_nf
theorem zH{a b:SM}{w:W}(h:a σ ph=.ok (.rt w) ph1):aC a b σ ph=.ok (.rt w) ph1:=by
 rw[om,cc h];rfl
theorem eI{g z:Int}{c:Bool}{e:EM}(h:e σ ph=.ok (.int g) ph1)(hc:decide (g=z)=c):eT (ah bo e (eC (.int z))) σ ph=.ok c ph1:=by
 rw[yc,xG,jJ,cc h,<- hc];ac_nf
variable{a b:EM}
theorem op{f:W->W->Po W}{x y:W}{r:Out W}(ha:a σ ph=.ok x ph1)(hb:b σ ph1=.ok y ph2)(hf:lift (f x y) ph2=r):ah f a b σ ph=r:=aj ha (aj hb hf)
theorem md{i j:Int}(ha:a σ ph=.ok (.int i) ph1)(hb:b σ ph1=.ok (.int j) ph2)(h:j≠0):ah aV a b σ ph=.ok (.int (i.fmod j)) ph2:=op ha hb (congrFun (Yn h) ph2)
theorem dv{i j:Int}(ha:a σ ph=.ok (.int i) ph1)(hb:b σ ph1=.ok (.int j) ph2)(h:j≠0)(h':j.natAbs<2 ^ 64):ah bv a b σ ph=.ok (.int (i.fdiv j)) ph2:=op ha hb (congrFun (Yo h h') ph2)
theorem ad{i j:Int}(ha:a σ ph=.ok (.int i) ph1)(hb:b σ ph1=.ok (.int j) ph2):ah addW a b σ ph=.ok (.int (i+j)) ph2:=op ha hb rfl
theorem sb{i j:Int}(ha:a σ ph=.ok (.int i) ph1)(hb:b σ ph1=.ok (.int j) ph2):ah lz a b σ ph=.ok (.int (i-j)) ph2:=op ha hb rfl
theorem ml{i j:Int}(ha:a σ ph=.ok (.int i) ph1)(hb:b σ ph1=.ok (.int j) ph2)(h:mulC i j=true):ah fB a b σ ph=.ok (.int (i*j)) ph2:=op ha hb (by rw[Jd];exact congrFun (Ym h) ph2)
theorem ltI{i z:Int}{c:Bool}{e:EM}(h:e σ ph=.ok (.int i) ph1)(hc:decide (i<z)=c):eT (ah gE e (eC (.int z))) σ ph=.ok c ph1:=by
 rw[yc,xG,jJ,cc h,<- hc];rfl
theorem tZ{w:W}{m:AM}{e:EM}{i:Int}(hm:m σ ph=.ok ws ph1)(hz:↑ws<=1000000)(he:e σ (ph1++[.lst ws])=.ok (.int i) (ph1++[.lst ws]))(hi:cJ ws i=O w):ah aE (bP m) e σ ph=.ok w (ph1++[.lst ws]):=by
 refine op (x:=.ref ↑ph1) (ph1:=ph1++[.lst ws]) ?_ he (iG (bp _ _) hi);rw[Hv];exact aj hm (k7 ws ph1 (small hz))
theorem d0{a n:Int}(hn:0<n):∃m:Nat,(m:Int)<n/\a.fmod n=(m:Int):=by
 have q:=sH a n hn;exact⟨(a.fmod n).toNat,∅,∅⟩
theorem xP{v:Int}(h1: -2147483648<=v)(h2:v<=2147483647):vN v:=⟨∅,∅⟩
theorem YN(c:Int)(ph:PH):∃v ph',wC [.int c] ph=.ok (.int v) ph'/\Ex ph ph'/\vN v:=by
 unfold wC EG;rw[dh];have m4:∀{σ:aG} {H:PH},af 0 σ=aD (.int c)->ah aV (af 0) {4} σ H=.ok (.int (c.fmod 4)) H:=λ{σ H} h=>md (by rw[h];rfl) rfl (by decide)
 have d4:∀{σ:aG} {H:PH},af 0 σ=aD (.int c)->ah bv (af 0) {4} σ H=.ok (.int (c.fdiv 4)) H:=λ{σ H} h=>dv (by rw[h];rfl) rfl (by decide) (by decide)
 by_cases h3:c.fmod 4=3
 ·obtain⟨m,hm,em⟩:=d0 (a:=c.fdiv 4) (n:=8) (by decide);obtain⟨v,hv,sv⟩:∃v,[(2147483647:Int),-2147483648,65536,-1,46341,-65537,1,0][m]? =O v/\vN v:=by
   have:m=0\/m=1\/m=2\/m=3\/m=4\/m=5\/m=6\/m=7:=by omega
   rcases this with rfl | rfl | rfl | rfl | rfl | rfl | rfl | rfl <;> exact⟨_,rfl,xP (by decide) (by decide)⟩
  refine⟨v,_,bT (bh (eI (m4 rfl) (aL h3)) (retS (tZ (ws:=[(2147483647:Int),-2147483648,65536,-1,46341,-65537,1,0].map W.int) (i:=(m:Int)) (ph1:=ph) rfl (acR rfl) ?_ ?_))),Ex.one _ _,sv⟩
  ·rw[<- em];exact md (d4 rfl) rfl (by decide)
  ·rw[fq _ _ (by simp;omega),abQ,hv];rfl
 ·by_cases h2:c.fmod 4=2
  ·refine⟨_,ph,bq (aK (eI (m4 rfl) (aX h3)) rfl) (bT (bh (eI (m4 rfl) (aL h2)) (retS (sb (md (ml (d4 rfl) rfl (BH (by decide) (by decide))) rfl (by decide)) rfl)))),Ex.refl _,?_⟩;have q:=sH (c.fdiv 4*48271) 4294967296 (by decide);exact xP ∅ ∅
  ·by_cases h1:c.fmod 4=1
   ·refine⟨_,ph,bq (aK (eI (m4 rfl) (aX h3)) rfl) (bq (aK (eI (m4 rfl) (aX h2)) rfl) (bT (bh (eI (m4 rfl) (aL h1)) (retS (sb (md (d4 rfl) rfl (by decide)) rfl))))),Ex.refl _,?_⟩;have q:=sH (c.fdiv 4) 100003 (by decide);exact xP ∅ ∅
   ·refine⟨_,ph,bq (aK (eI (m4 rfl) (aX h3)) rfl) (bq (aK (eI (m4 rfl) (aX h2)) rfl) (bq (aK (eI (m4 rfl) (aX h1)) rfl) (br (sb (md (d4 rfl) rfl (by decide)) rfl)))),Ex.refl _,?_⟩;have q:=sH (c.fdiv 4) 19 (by decide);exact xP ∅ ∅
theorem tB{e:EM}{c:Bool}(h:e σ ph=.ok (.bl c) ph1):eT e σ ph=.ok c ph1:=aj h rfl
theorem uy{a b:TM}{x y:Bool}(ha:a σ ph=.ok x ph)(hb:b σ ph=.ok y ph):d9 a b σ ph=.ok (x&&y) ph:=by
 rw[GC];refine aj ha ?_;cases x
 ·rfl
 ·exact hb
theorem CG(b:SM)(n:Nat)(x y z u v:W):fM b n 5 [x,y,z,u,v]=ax (b (O x::O y::O z::O u::O v::abS (n-5) Z)) fw:=(rfl)
variable{H:PH}
theorem YO{x:Nat}{l:cW}(h:H[i]? =O (.lst (iw l)))(hk:l[k]? =O x):lift (aE (.ref i) (.int k)) H=.ok (.int x) H:=iG h (YL hk)
theorem YQ(ph:PH)(s:String):dat ph 40 (.str (abH s))=O (.str (abH s)):=by
 unfold dat;rw[if_pos (so s)]
theorem ky(H:PH)(n:Nat)(s:String):dat H n (.str (abH s))=O (.str (abH s)):=by
 have:=YQ H s;cases n <;> exact this
theorem jM{ds:List afr}(h:aT (dat H n) ws=O ds):dat H (n+1) (.tup ws)=O (.tuple ds):=by
 show(aT (dat H n) ws).map aiN=_;rw[h];rfl
theorem HK{ds:List afr}(hi:H[i]? =O (.lst ws))(h:aT (dat H n) ws=O ds):dat H (n+1) (.ref i)=O (.list ds):=by
 unfold dat;simp only[hi,h];rfl
theorem mc{f:α->Option β}{a:α}{l:List α}{b:β}{m:List β}(h:f a=O b)(h2:aT f l=O m):aT f (a::l)=O (b::m):=by
 unfold aT;rw[h,h2]
theorem YR(ns:gM)(i:Int)(h:0<=i):fK [.fl (ns.map W.int),.int i]=aD (.int (ns.getD i.toNat 0)):=by
 have:=YM ns i.toNat;rw[afF h] at this;exact this
theorem cl{ns:gM}{i:Int}(ha:a σ ph=.ok (.fl (ns.map W.int)) ph1)(hb:b σ ph1=.ok (.int i) ph2)(h:0<=i):aP fK (ag a (ag b ai)) σ ph=.ok (.int (ns.getD i.toNat 0)) ph2:=aj (au ha (au hb rfl)) (congrFun (YR ns i h) ph2)
theorem F1(h:ph[i]? =O (.lst ws)):lift (oK [.ref i]) ph=.ok (.ref ↑ph) (ph++[.lst ws]):=by
 have e:oK [.ref i] ph=qC [.ref i] ph:=by
  unfold oK;simp only[yf h]
 have:=Qx h;unfold lift at this ⊢;rw[e];exact this
theorem Js{l:List α}{x y:α}(h:(l++[x])[i]? =O y):(i<↑l/\l[i]? =O y)\/(i=↑l/\y=x):=by
 by_cases hi:i<↑l
 ·rw[ado hi] at h;exact .inl ⟨hi,h⟩
 ·have:=(abL.mp h).1;simp at this;have:i=↑l:=by omega
  subst this;rw[afg] at h;cases h;exact .inr ⟨rfl,rfl⟩
theorem Tz(n:Nat):fv 0 n=(adm n).map λi:Nat=>W.int i:=by
 unfold fv;apply adb;intro i _;simp
theorem TB(as:List α)(h:α->W){im:IM}{cap:eY}{e:EM}{ph0:PH}{chk:PH->Bool}(iA:im σ ph0=.ok (as.map h,chk) ph)(DA:∀ph',Ex ph ph'->chk ph'=true)(hz:↑as<=1000)(P:Nat->W->PH->Prop)(hP:∀j w H H',P j w H->(∀r o,r≠↑ph->H[r]? =O o->H'[r]? =O o)->P j w H')(S:aG->Prop)(h0:S (jp cap σ))(step:∀j x,as[j]? =O x->∀σ H,S σ->Ex ph H->↑ph<↑H->∃σ1,g (h x) σ H=.ok σ1 H/\S σ1/\∃w H2,e σ1 H=.ok w H2/\Ex H H2/\P j w H2):∃ph' ws,b6 im cap g cu e σ ph0=.ok (.ref ↑ph) ph'/\Ex ph ph'/\ph'[↑ph]? =O (.lst ws)/\↑ws=↑as/\∀j w,ws[j]? =O w->P j w ph':=by
 rw[GG,cc iA];obtain⟨uL,ao,ph',ec,hS,x1,x2,x3,x4⟩:=Av (chk:=chk) (g:=g) (c:=cu) (e:=e) ↑ph
  (λk acc σ H=>S σ/\Ex ph H/\H[↑ph]? =O (.lst acc)/\↑acc=k/\∀(j:Nat) w,acc[j]? =O w->P j w H)
  (as.map h) 0 [] (jp cap σ) (ph++[.lst []]) (λj acc σ H hI=>DA _ hI.2.1)
  (λj y acc σ H hj hI=>by
   rw[adE] at hI ⊢;obtain⟨hS,x1,x2,x3,x4⟩:=hI;rw[abQ] at hj;obtain⟨x,hx,rfl⟩:=abU.mp hj;have j1:=(abL.mp hx).1;obtain⟨σ1,e1,lX,w,H2,e2,y1,y2⟩:=step j x hx σ H hS x1 (Cb x2);have keep:∀r o,r≠↑ph->H2[r]? =O o->(H2.set ↑ph (.lst (acc++[w])))[r]? =O o:=λr o hr ho=>(oE (adD hr)).trans ho
   refine⟨σ1,H,e1,true,H,rfl,.inr ⟨rfl,w,H2,e2,y1.get x2,aci (by omega:↑acc<1001) (by decide),lX,Ex.set (x1.trans y1) (abO _) _,ku (y1.get x2),by simp[x3],λi w' hw'=>?_⟩⟩
   rcases Js hw' with⟨_,z⟩ | ⟨z0,z⟩
   ·exact hP i w' H _ (x4 i w' z) λr o hr ho=>keep r o hr (y1.get ho)
   ·rw[z,z0,x3];exact hP j w H2 _ y2 keep)
  ⟨h0,Ex.one _ _,bp _ _,rfl,λj w z=>by simp at z⟩
 rw[adE,abI] at x3;exact⟨ph',uL,cc ec,x1,x2,x3,x4⟩
theorem QP{ws:List β}{f:α->β}{Q:Nat->α->Prop}(h:∀(j:Nat) w,ws[j]? =O w->∃d,w=f d/\Q j d):∃D:List α,ws=D.map f/\∀(j:Nat) d,D[j]? =O d->Q j d:=by
 induction ws generalizing Q with
 | nil=>exact⟨[],rfl,λj d z=>by simp at z⟩
 | cons w ws ih=>
  obtain⟨d,e,q⟩:=h 0 w rfl;obtain⟨D,e2,q2⟩:=ih (Q:=λj=>Q (j+1)) λj w hw=>h (j+1) w (by simpa using hw)
  refine⟨d::D,by rw[e,e2];rfl,λj d' hd=>?_⟩;cases j with
  | zero=>cases hd;exact q
  | succ j=>exact q2 j d' (by simpa using hd)
noncomputable def sg(c:Nat):Str:=⟨#[c]⟩
noncomputable def tx(cs:cW):Str:=⟨cs.toArray⟩
noncomputable def bw(c:Nat):W:=.str (sg c)
noncomputable def Ab(c:Nat):Prop:=97<=c/\c<123
structure dH(cs:cW):Prop where
 lo:1<=↑cs
 hi:↑cs<=6
 ab:∀c∈cs,Ab c
theorem t5(a b:cW):tx a++tx b=tx (a++b):=by
 show Str.append _ _=_;unfold Str.append tx;simp
theorem TC:∀cs:cW,ait (abH "") (cs.map sg)=tx cs:=by
 intro cs;rw[Txt.join_eq]
 induction cs with
 | nil=>rfl
 | cons c cs ih=>
  cases cs with
  | nil=>rfl
  | cons d cs=>
   have e:aiW (abH "") ((c::d::cs).map sg)=sg c++abH ""++aiW (abH "") ((d::cs).map sg):=rfl;rw[e,ih];have e2:sg c++abH ""=tx [c]:=rfl;rw[e2,t5];rfl
theorem WI{cs:cW}(h:H[i]? =O (.lst (cs.map bw)))(hl:↑cs<=6):lift (dn (.str "") [.ref i]) H=.ok (.str (tx cs)) H:=by
 have e:aT strOf (cs.map bw)=O (cs.map sg):=n6 strOf bw sg (λ_=>rfl) cs;have e2:dn (.str "") [.ref i] H=O (.str (tx cs),H):=by
  unfold dn;simp only[h,e];have hs:∀cs:cW,((cs.map sg).map (·.length)).sum=↑cs:=λcs=>by
   induction cs with
   | nil=>rfl
   | cons c cs ih=>rw[ace,ace,afU,ih,abP];show 1+↑cs=_;omega
  rw[if_pos,TC];rw[hs,show(abH "").length=0 from ⋯];omega
 unfold lift;rw[e2]
theorem jn{e:EM}{cs:cW}(he:e σ ph=.ok (.ref i) ph1)(h:ph1[i]? =O (.lst (cs.map bw)))(hl:↑cs<=6):bL cy dn (eC (.str "")) (ag e ai) σ ph=.ok (.str (tx cs)) ph1:=by
 rw[qc];exact aj rfl (aj rfl (aj (au he rfl) (WI h hl)))
theorem YS:(abH "abcdefghijklmnopqrstuvwxyz").cps.toList=(adm 26).map (97+ ·):=⋯
theorem WJ{m:Nat}(h:m<26)(H:PH):lift (aE (.str "abcdefghijklmnopqrstuvwxyz") (.int m)) H=.ok (bw (97+m)) H:=by
 have e:cP (.str (abH "abcdefghijklmnopqrstuvwxyz")) (.int m) H=O (bw (97+m),H):=by
  unfold cP;simp only[];rw[if_pos ⋯,YS,fq _ _ (by simpa using h)];rw[abQ,agu h];rfl
 rw[ye];unfold lift;rw[e]
theorem Cc{i:Int}(ha:a σ ph=.ok (.str "abcdefghijklmnopqrstuvwxyz") ph)(hb:b σ ph=.ok (.int i) ph):∃c,Ab c/\ah aE a (ah aV b {26}) σ ph=.ok (bw c) ph:=by
 obtain⟨m,hm,em⟩:=d0 (a:=i) (n:=26) (by decide);refine⟨97+m,⟨∅,∅⟩,op ha (md hb rfl (by decide)) ?_⟩;rw[em];exact WJ ∅ ph
theorem Jt{cap:eY}{e:EM}(S:aG->Prop)(h0:S (jp cap σ))(step:∀(j:Nat) σ H,S σ->∃σ1,gN 0 (.int j) σ H=.ok σ1 H/\S σ1/\∃c,Ab c/\e σ1 H=.ok (bw c) H):∃(cs:cW) (ph':PH),b6 (iU (ag {6} ai)) cap (gN 0) cu e σ ph=.ok (.ref ↑ph) ph'/\Ex ph ph'/\ph'[↑ph]? =O (.lst (cs.map bw))/\↑cs=6/\∀c∈cs,Ab c:=by
 obtain⟨ph',ws,e1,x1,h1,h2,h3⟩:=TB (adm 6) (λj:Nat=>W.int j) (im:=iU (ag {6} ai)) (cap:=cap) (g:=gN 0) (e:=e) (σ:=σ) (ph:=ph) (ph0:=ph) (chk:=λ_=>true) (by rw[<- Tz];exact xI (j:=6) rfl (by decide) (by decide)) (λ_ _=>rfl) (by simp)
  (λ_ w _=>∃c,w=bw c/\Ab c) (λ_ _ _ _ h _=>h) S h0 (λj x _ σ H hS _ _=>by
   obtain⟨σ1,q1,q2,c,hc,q3⟩:=step x σ H hS;exact⟨σ1,q1,q2,_,H,q3,Ex.refl _,c,rfl,hc⟩)
 obtain⟨cs,rfl,hq⟩:=QP (f:=bw) (Q:=λ_ c=>Ab c) h3;refine⟨cs,ph',e1,x1,h1,by simpa using h2,λc hc=>?_⟩;obtain⟨j,hj,rfl⟩:=adi hc;exact hq j _ (acn hj)
theorem WK(h:ph[i]? =O (.lst ws))(a b:Nat)(kP:a<=b)(hb:b<=↑ws):lift (j6 (.ref i) (O (a:Int)) (O (b:Int))) ph=.ok (.ref ↑ph) (ph++[.lst ((ws.drop a).take (b-a))]):=by
 have:iQ ws (O (a:Int)) (O (b:Int))=(ws.drop a).take (b-a):=by
  unfold iQ HT.bD;simp only[show ¬((a:Int)<0) by omega,show ¬((b:Int)<0) by omega,if_false,ahb,agw hb,agw (abX kP hb)]
 unfold lift j6;simp only[h,this]
theorem rS(hm:m σ ph=.ok (.ref i) ph)(hi:ph[i]? =O (.lst ws))(ho:o σ ph=.ok (.int k) ph):cm m bJ (bA o) σ ph=.ok (.ref ↑ph) (ph++[.lst (ws.take k)]):=by
 rw[xJ];exact aj hm (aj rfl (aj (aj ho rfl) (Wb hi k)))
theorem zI(hm:m σ ph=.ok (.ref i) ph)(hi:ph[i]? =O (.lst ws))(ho:o σ ph=.ok (.int k) ph):cm m (bA o) bJ σ ph=.ok (.ref ↑ph) (ph++[.lst (ws.drop k)]):=by
 rw[xJ];exact aj hm (aj (aj ho rfl) (aj rfl (SR hi k)))
theorem slM{p:EM}{a b:Nat}(hm:m σ ph=.ok (.ref i) ph)(hi:ph[i]? =O (.lst ws))(ho:o σ ph=.ok (.int a) ph)(hp:p σ ph=.ok (.int b) ph)(kP:a<=b)(hb:b<=↑ws):cm m (bA o) (bA p) σ ph=.ok (.ref ↑ph) (ph++[.lst ((ws.drop a).take (b-a))]):=by
 rw[xJ];exact aj hm (aj (aj ho rfl) (aj (aj hp rfl) (WK hi a b kP hb)))
theorem Ju{x y:cW}(ha:a σ ph=.ok (.str (tx x)) ph1)(hb:b σ ph1=.ok (.str (tx y)) ph2)(hl:↑x+↑y<=100):ah addW a b σ ph=.ok (.str (tx (x++y))) ph2:=by
 refine op ha hb ?_;have e:addW (.str (tx x)) (.str (tx y)) ph2=O (.str (tx x++tx y),ph2):=by
  unfold addW;simp only[];rw[if_pos];show(x.toArray).size+(y.toArray).size<=acd;simp only[aca];exact abX hl (by decide)
 unfold lift;rw[e,t5]
noncomputable def aq(cs:cW):W:=.str (tx cs)
theorem TF(n:Int)(many:Nat)(hm:many<=12)(ph:PH):∃(NS:List cW) (H':PH),wD [.int n,.int many] ph=.ok (.ref ↑ph) H'/\Ex ph H'/\H'[↑ph]? =O (.lst (NS.map aq))/\NS.length=many/\∀cs∈NS,dH cs:=by
 obtain⟨z,hz,ez⟩:=d0 (a:=n.fdiv 3) (n:=6) (by decide);obtain⟨at_,pJ,eat⟩:=d0 (a:=n.fdiv 18) (n:=1+(z:Int)) ∅;obtain⟨st,aF⟩:∃st:W->Option W->Option W->Option W->Option W->aG,st=λnl o6 o7 o8 o9=>[↥n,↥many,O (.str "abcdefghijklmnopqrstuvwxyz"),↥(1+(z:Int)),↥at_,O nl,o6,o7,o8,o9]:=⟨_,rfl⟩
 have key:=kj (chk:=λ_=>true) (g:=gN 6) (b:=Aa) (λk σ H=>∃(NS:List cW) (o6 o7 o8 o9:dO),σ=st (.ref ↑ph) o6 o7 o8 o9/\Ex ph H/\H[↑ph]? =O (.lst (NS.map aq))/\NS.length=k/\k<=many/\∀cs∈NS,dH cs)
  (fv 0 many) (st (.ref ↑ph) Z Z Z Z) (ph++[.lst []]) (λ_ _ _ _=>rfl) (λj x σ H hj hI=>by
   obtain⟨NS,o6,o7,o8,o9,rfl,xH,hN,hl,hk,ok⟩:=hI;obtain⟨j9,rfl⟩:=xi hj;rw[Int.zero_add];refine⟨st (.ref ↑ph) (↥j) o7 o8 o9,H,by rw[aF];rfl,?_⟩;obtain⟨cs,H1,e1,x1,g1,l1,a1⟩:=Jt (ph:=H) (σ:=st (.ref ↑ph) (↥j) o7 o8 o9) (cap:=[Z,O 2,O 6,O 0]) (e:=(ah aE (af 1) (ah aV (ah addW (ah addW (ah bv (af 3) {18}) (ah fB {5} (af 0))) (ah bv (af 2) {6})) {26})))
    (λσ=>∃o,σ=[o,O (.str "abcdefghijklmnopqrstuvwxyz"),↥j,↥n]) ⟨Z,by rw[aF];rfl⟩ (λi σ H2 hS=>by
     obtain⟨o,rfl⟩:=hS;refine⟨_,rfl,⟨_,rfl⟩,Cc rfl (ad (ad (dv rfl rfl (by decide) (by decide)) (ml rfl rfl (xN (by decide) (by decide)))) (dv rfl rfl (by decide) (by decide)))⟩)
   obtain⟨σ1,aU⟩:∃σ1,σ1=st (.ref ↑ph) (↥j) ⇑↑H o8 o9:=⟨_,rfl⟩
   have a7:aM (b6 (iU (ag {6} ai)) [Z,O 2,O 6,O 0] (gN 0) cu (ah aE (af 1) (ah aV (ah addW (ah addW (ah bv (af 3) {18}) (ah fB {5} (af 0))) (ah bv (af 2) {6})) {26}))) (gN 7) (st (.ref ↑ph) (↥j) o7 o8 o9) H=.ok (.nx σ1) H1:=by
    rw[aU,asg e1,aF];rfl
   have fin:∀{e:EM} {bE:aG} {H2 H3:PH} {cs:cW} {p7 p8 p9:dO},bE=st (.ref ↑ph) (↥j) p7 p8 p9->Ex H H2->e bE H2=.ok (aq cs) H3->Ex H2 H3->dH cs->d3 (bL fg eE (af 5) (ag e ai)) bE H2=.ok (.nx bE) (H3.set ↑ph (.lst (NS.map aq++[aq cs]))) /\
     ∃(DV:List cW) (o6 o7 o8 o9:dO),bE=st (.ref ↑ph) o6 o7 o8 o9/\Ex ph (H3.set ↑ph (.lst (NS.map aq++[aq cs])))/\(H3.set ↑ph (.lst (NS.map aq++[aq cs])))[↑ph]? =O (.lst (DV.map aq))/\DV.length=j+1/\j+1<=many/\∀cs∈DV,dH cs:=by
    intro e bE H2 H3 cs p7 p8 p9 h2 y2 he y3 hc;have g3:=y3.get (y2.get hN);refine⟨l8 (by rw[h2,aF];rfl) ⟨_,y2.get hN⟩ he g3 (by rw[abI];omega),NS++[cs],_,_,_,_,h2,Ex.set ((xH.trans y2).trans y3) (abO _) _,?_,by simp;omega,∅,λc jY=>?_⟩
    ·rw[ku g3];simp
    ·rcases acG.mp jY with q | q
     ·exact ok c q
     ·rw[ack.mp q];exact hc
   have m3:∀{H2:PH},ah aV (af 0) {3} σ1 H2=.ok (.int (n.fmod 3)) H2:=λ{H2}=>by rw[aU,aF];exact md rfl rfl (by decide)
   unfold Aa;by_cases h0:n.fmod 3=0
   ·obtain⟨q,hq,eq⟩:=d0 (a:=n.fdiv 3+(j:Int)) (n:=6) (by decide);obtain⟨f1,f2⟩:=fin (cs:=cs.take (1+q)) (e:=bL cy dn (eC (.str "")) (ag (cm (af 7) bJ (bA (ah addW {1} (ah aV (ah addW (ah bv (af 0) {3}) (af 6)) {6})))) ai)) aU x1 (H3:=H1++[.lst ((cs.take (1+q)).map bw)])
     (jn (i:=↑H1) (by
      rw[afq];refine rS (i:=↑H) (by rw[aU,aF];rfl) g1 ?_;have:=ad (a:=eC (.int (1))) (b:=ah aV (ah addW (ah bv (af 0) {3}) (af 6)) {6}) (σ:=σ1) (ph:=H1) (ph1:=H1) (ph2:=H1) (i:=1) rfl (md (ad (dv (by rw[aU,aF];rfl) rfl (by decide) (by decide)) (by rw[aU,aF];rfl)) rfl (by decide));rw[this,eq];rfl) (bp _ _) (by rw[acw];omega)) (Ex.one _ _) ⟨by rw[acw];omega,by rw[acw];omega,λc hc=>a1 c (acH hc)⟩
    exact⟨_,_,sq a7 (bh (eI m3 (aL h0)) f1),_,.inl rfl,f2⟩
   ·by_cases h1:n.fmod 3=1
    ·obtain⟨ds,H2,e2,x2,g2,l2,a2⟩:=Jt (ph:=H1) (σ:=σ1) (cap:=[Z,O 2,O 0]) (e:=(ah aE (af 1) (ah aV (ah addW (ah bv (af 2) {18}) (ah fB {5} (af 0))) {26})))
      (λσ=>∃o,σ=[o,O (.str "abcdefghijklmnopqrstuvwxyz"),↥n]) ⟨Z,by rw[aU,aF];rfl⟩ (λi σ H2 hS=>by
       obtain⟨o,rfl⟩:=hS;refine⟨_,rfl,⟨_,rfl⟩,Cc rfl (ad (dv rfl rfl (by decide) (by decide)) (ml rfl rfl (xN (by decide) (by decide))))⟩)
     obtain⟨bE,f9⟩:∃bE,bE=st (.ref ↑ph) (↥j) ⇑↑H1 o8 o9:=⟨_,rfl⟩
     obtain⟨c,hc,ec⟩:=Cc (a:=af 2) (b:=ah addW (ah bv (af 0) {108}) (af 6)) (σ:=bE) (ph:=H2) (by rw[f9,aF];rfl) (ad (dv (by rw[f9,aF];rfl) rfl (by decide) (by decide)) (by rw[f9,aF];rfl));obtain⟨kf,vO⟩:∃kf,kf=st (.ref ↑ph) (↥j) ⇑↑H1 (O (bw c)) o9:=⟨_,rfl⟩
     obtain⟨bk,DW⟩:∃bk,bk=(ds.drop (at_+1)).take (1+z-(at_+1)):=⟨_,rfl⟩
     have lbk:↑bk=z-at_:=by rw[DW,acw,adC];omega
     obtain⟨H3,e3⟩:∃H3,H3=H2++[PO.lst (bk.map bw)]:=⟨_,rfl⟩
     obtain⟨iD,rT⟩:∃iD,iD=st (.ref ↑ph) (↥j) ⇑↑H1 (O (bw c)) (O (aq bk)):=⟨_,rfl⟩
     obtain⟨H4,e4⟩:∃H4,H4=H3++[PO.lst ((ds.take at_).map bw)]:=⟨_,rfl⟩
     have x3:Ex H2 H3:=e3▸Ex.one _ _;have x4:Ex H3 H4:=e4▸Ex.one _ _;have b1:aM (bL cy dn (eC (.str "")) (ag (cm (af 7) (bA (ah addW (af 4) {1})) (bA (af 3))) ai)) (gN 9) kf H2=.ok (.nx iD) H3:=by
      refine(asg (w:=aq bk) (ph1:=H3) (jn (i:=↑H2) ?_ (by rw[e3];exact bp _ _) ∅)).trans (by rw[vO,rT,aF];rfl);have:=slM (m:=af 7) (o:=ah addW (af 4) {1}) (p:=af 3) (σ:=kf) (ph:=H2) (i:=↑H1) (a:=at_+1) (b:=1+z) (by rw[vO,aF];rfl) g2 (by rw[vO,aF];rfl) (by rw[vO,aF];rfl) ∅ (by rw[abI];omega);rw[this,e3,DW,afq,ahp]
     obtain⟨f1,f2⟩:=fin (cs:=ds.take at_++[c]++bk) (e:=ah addW (ah addW (bL cy dn (eC (.str "")) (ag (cm (af 7) bJ (bA (af 4))) ai)) (af 8)) (af 9)) rT ((x1.trans x2).trans x3) (H3:=H4)
      (Ju (x:=ds.take at_++[c]) (y:=bk) (ph1:=H4) (Ju (x:=ds.take at_) (y:=[c]) (ph1:=H4) (jn (i:=↑H3) (by
       rw[e4,afq];exact rS (i:=↑H1) (by rw[rT,aF];rfl) (x3.get g2) (by rw[rT,aF];rfl)) (by rw[e4];exact bp _ _) (by rw[acw];omega)) (by rw[rT,aF];rfl) (by simp;omega)) (by rw[rT,aF];rfl) (by simp;omega)) x4
      ⟨by simp;omega,by simp;omega,λd hd=>by
       rcases acG.mp hd with q | q
       ·rcases acG.mp q with q | q
        ·exact a2 d (acH q)
        ·rw[ack.mp q];exact hc
       ·rw[DW] at q;exact a2 d (adK (acH q))⟩
     refine⟨_,_,sq a7 (aK (eI m3 (aX h0)) (bh (eI m3 (aL h1)) (sq (σ1:=bE) (ph1:=H2) ?_ (sq (σ1:=kf) (ph1:=H2) ?_ (sq b1 f1))))),_,.inl rfl,f2⟩
     ·rw[asg e2,aU,f9,aF];rfl
     ·rw[asg ec,f9,vO,aF];rfl
    ·obtain⟨q,hq,eq⟩:=d0 (a:=(j:Int)) (n:=6) (by decide);have mq:∀{H2:PH},ah aV (af 6) {6} σ1 H2=.ok (.int q) H2:=λ{H2}=>by
      rw[<- eq,aU,aF];exact md rfl rfl (by decide)
     obtain⟨H2,e2⟩:∃H2,H2=H1++[PO.lst ((cs.drop q).map bw)]:=⟨_,rfl⟩
     obtain⟨H3,e3⟩:∃H3,H3=H2++[PO.lst ((cs.take q).map bw)]:=⟨_,rfl⟩
     obtain⟨H4,e4⟩:∃H4,H4=H3++[PO.lst ((cs.drop q++cs.take q).map bw)]:=⟨_,rfl⟩
     have x2:Ex H1 H2:=e2▸Ex.one _ _;have x3:Ex H2 H3:=e3▸Ex.one _ _;have x4:Ex H3 H4:=e4▸Ex.one _ _;have g2:H2[↑H1]? =O (PO.lst ((cs.drop q).map bw)):=by rw[e2];exact bp _ _
     have g3:H3[↑H2]? =O (PO.lst ((cs.take q).map bw)):=by rw[e3];exact bp _ _
     obtain⟨f1,f2⟩:=fin (cs:=cs.drop q++cs.take q) (e:=bL cy dn (eC (.str "")) (ag (ah addW (cm (af 7) (bA (ah aV (af 6) {6})) bJ) (cm (af 7) bJ (bA (ah aV (af 6) {6})))) ai)) aU x1 (H3:=H4)
      (jn (i:=↑H3) (op (x:=.ref ↑H1) (ph1:=H2) (y:=.ref ↑H2) (ph2:=H3) (by
       rw[e2,ahp];exact zI (i:=↑H) (by rw[aU,aF];rfl) g1 mq) (by
       rw[e3,afq];exact rS (i:=↑H) (by rw[aU,aF];rfl) (x2.get g1) mq) (by
       rw[oo (x3.get g2) g3 (small (by simp;omega)),e4,adk])) (by rw[e4];exact bp _ _) (by simp;omega)) ((x2.trans x3).trans x4)
      ⟨by simp;omega,by simp;omega,λd hd=>by
       rcases acG.mp hd with r | r
       ·exact a1 d (adK r)
       ·exact a1 d (acH r)⟩
     exact⟨_,_,sq a7 (aK (eI m3 (aX h0)) (aK (eI m3 (aX h1)) f1)),_,.inl rfl,f2⟩)
  ⟨[],Z,Z,Z,Z,rfl,Ex.one _ _,bp _ _,rfl,∅,λ_ h=>nomatch h⟩
 obtain⟨ao,H',e,NS,o6,o7,o8,o9,rfl,xH,hN,hl,_,ok⟩:=key;rw[GH] at hl;refine⟨NS,H',?_,xH,hN,hl,ok⟩;unfold wD EK;rw[lE];have hir:iU (ag (af 1) ai) (st (.ref ↑ph) Z Z Z Z) (ph++[.lst []])=.ok (fv 0 many,λ_=>true) (ph++[.lst []]):=xI (j:=(many:Int)) (by rw[aF];rfl) ∅ ∅;refine bq (σ1:=[↥n,↥many,O (.str "abcdefghijklmnopqrstuvwxyz"),Z,Z,Z,Z,Z,Z,Z]) rfl (bq (ph1:=ph) (σ1:=[↥n,↥many,O (.str "abcdefghijklmnopqrstuvwxyz"),↥(1+(z:Int)),Z,Z,Z,Z,Z,Z]) ?_ (bq (ph1:=ph) (σ1:=[↥n,↥many,O (.str "abcdefghijklmnopqrstuvwxyz"),↥(1+(z:Int)),↥at_,Z,Z,Z,Z,Z]) ?_ (bq (ph1:=ph++[.lst []]) (σ1:=st (.ref ↑ph) Z Z Z Z) ?_ (bq (gf hir e) (br ?_)))))
 ·rw[<- ez];exact asg (ad rfl (md (dv rfl rfl (by decide) (by decide)) rfl (by decide)))
 ·rw[<- eat];exact asg (md (dv rfl rfl (by decide) (by decide)) rfl ∅)
 ·rw[aF];exact asg rfl
 ·rw[aF];rfl
abbrev Nm:=cW
inductive Row where
 | set (a:Nm) (n:Int)
 | copy (a b:Nm)
 | lH (a:Nm) (w:Wd) (b c:Nm)
 | take (a:Nm)
 | tell (a:Nm)
 | turn
 | iff (a:Nm) (p:Nat)
 | go (p:Nat)
 | fin
noncomputable def Row.w:Row->W
 | .set a n=>.tup [.str "set",aq a,.int n]
 | .copy a b=>.tup [.str "copy",aq a,aq b]
 | .lH a w b c=>.tup [.str "do",aq a,.str w.s,aq b,aq c]
 | .take a=>.tup [.str "take",aq a]
 | .tell a=>.tup [.str "tell",aq a]
 | .turn=>.tup [.str "turn"]
 | .iff a p=>.tup [.str "if",aq a,.int p]
 | .go p=>.tup [.str "go",.int p]
 | .fin=>.tup [.str "end"]
noncomputable def Row.to:Row->List Nat
 | .iff _ p=>[p]
 | .go p=>[p]
 | _=>[]
noncomputable def Row.nm:Row->List Nm
 | .set a _=>[a]
 | .copy a b=>[a,b]
 | .lH a _ b c=>[a,b,c]
 | .take a=>[a]
 | .tell a=>[a]
 | .iff a _=>[a]
 | _=>[]
noncomputable def jh(NS:List Nm)(r:Row):Prop:=(∀a∈r.nm,a∈NS)/\∀a n,r=.set a n->vN n
noncomputable def Gl(n p:Nat)(TL:cW)(g:Nat):Prop:=(p<g/\g<=n)\/g∈TL
variable{TL:cW}
theorem WL{ti p:Nat}(mo:Int)(ht:ph[ti]? =O (.lst (iw TL)))(hp:p<n):∃g H',mm [.int mo,.int p,.int n,.ref ti] ph=.ok (.int ((g:Nat):Int)) H'/\Ex ph H'/\Gl n p TL g:=by
 obtain⟨H1,e1⟩:∃H1,H1=ph++[PO.lst []]:=⟨_,rfl⟩
 have x1:Ex ph H1:=e1▸Ex.one _ _;have g1:=x1.get ht;have et:eT (ah ck (af 3) (bP ai)) [↥mo,↥p,↥n,⇑ti] ph=.ok (!(iw TL).isEmpty) H1:=tB (op (x:=.ref ti) (y:=.ref ↑ph) (ph2:=H1) rfl (by rw[e1];rfl) (qJ (eq_nil g1 (by rw[e1];exact bp _ _) (n6 (dat _ 39) (λx:Nat=>W.int x) (λx:Nat=>PyData.int x) (λx=>um _ 39 x) TL))));have m2:eT (ah bo (ah aV (af 0) {2}) {1}) [↥mo,↥p,↥n,⇑ti] H1=.ok (decide (mo.fmod 2=1)) H1:=eI (md rfl rfl (by decide)) rfl;have d2:ah bv (af 0) {2} [↥mo,↥p,↥n,⇑ti] H1=.ok (.int (mo.fdiv 2)) H1:=dv rfl rfl (by decide) (by decide);have away:∀{H2:PH},d9 (eT (ah ck (af 3) (bP ai))) (eT (ah bo (ah aV (af 0) {2}) {1})) [↥mo,↥p,↥n,⇑ti] ph=.ok false H1->∃g H',mm [.int mo,.int p,.int n,.ref ti] ph=.ok (.int ((g:Nat):Int)) H'/\Ex ph H'/\Gl n p TL g:=λ{H2} t=>by
  obtain⟨m,hm,em⟩:=d0 (a:=mo.fdiv 2) (n:=(n:Int)-(p:Int)) ∅;refine⟨p+1+m,H1,?_,x1,.inl ⟨∅,∅⟩⟩;unfold mm Ae;rw[yF];rw[show((p+1+m:Nat):Int)=(p:Int)+1+(m:Int) by omega,<- em];exact bq (aK t rfl) (br (ad (ad rfl rfl) (md d2 (sb rfl rfl) ∅)))
 cases TL with
 | nil=>exact away (H2:=ph) (tF et)
 | cons a TL=>
  by_cases h1:mo.fmod 2=1
  ·rw[aL h1] at m2;obtain⟨m,hm,em⟩:=d0 (a:=mo.fdiv 2) (n:=((a::TL).length:Int)) (by simp);obtain⟨g,hg⟩:∃g,(a::TL)[m]? =O g:=iM ∅;refine⟨g,H1,?_,x1,.inr (abY hg)⟩;unfold mm Ae;rw[yF];refine bT (bh (tT et m2) (retS (op (y:=.int m) rfl ?_ (YO g1 hg))));rw[<- em];exact md d2 (aj (au rfl rfl) ((jL g1).trans (by rw[xO]))) (by simp;omega)
  ·rw[aX h1] at m2;exact away (H2:=ph) (tT et m2)
theorem tp{m:AM}(h:m σ ph=.ok ws ph1)(hn:lift (kE ws) ph1=.ok (.tup ws) ph1):cw m σ ph=.ok (.tup ws) ph1:=aj h hn
variable{ni:Nat}{NS:List Nm}
theorem Cd{e:EM}{i:Int}(hN:H[ni]? =O (.lst (NS.map aq)))(h0:NS≠[])(hv:∀{K:PH},af 3 σ K=.ok (.ref ni) K)(he:e σ H=.ok (.int i) H):∃a,a∈NS/\ah aE (af 3) (ah aV e (aR bz (ag (af 3) ai))) σ H=.ok (aq a) H:=by
 have hp:0<NS.length:=aii.mpr h0;obtain⟨m,hm,em⟩:=d0 (a:=i) (n:=(NS.length:Int)) ∅;obtain⟨a,ha⟩:∃a,NS[m]? =O a:=iM ∅;refine⟨a,abY ha,op hv (md (j:=(NS.length:Int)) he (aj (au hv rfl) ((jL hN).trans (by rw[abI]))) ∅) ?_⟩;rw[em];exact iG hN (by rw[fq _ _ (by rw[abI];omega),abQ,ha];rfl)
theorem WM{ti p:Nat}(c:Int)(hN:H[ni]? =O (.lst (NS.map aq)))(h0:NS≠[])(ht:H[ti]? =O (.lst (iw TL)))(hp:p<n):∃r H',sA [.int c,.int p,.int n,.ref ni,.ref ti] H=.ok (Row.w r) H'/\Ex H H'/\jh NS r/\∀k∈r.to,Gl n p TL k:=by
 obtain⟨d,hd⟩:∃d,d=(c*48271).fmod 2147483647:=⟨_,rfl⟩
 obtain⟨mo,hmo⟩:∃mo,mo=d.fdiv 16:=⟨_,rfl⟩
 obtain⟨s1,zJ⟩:∃s1:aG,s1=[↥d,↥p,↥n,⇑ni,⇑ti,↥mo,Z,Z,Z,Z,Z]:=⟨_,rfl⟩
 obtain⟨a,ha,ea⟩:=Cd (e:=af 5) (σ:=s1) (i:=mo) hN h0 (by rw[zJ];intro K;rfl) (by rw[zJ];rfl);obtain⟨s2,zK⟩:∃s2:aG,s2=[↥d,↥p,↥n,⇑ni,⇑ti,↥mo,O (aq a),Z,Z,Z,Z]:=⟨_,rfl⟩
 obtain⟨b,hb,eb⟩:=Cd (e:=ah bv (af 5) {6}) (σ:=s2) (i:=mo.fdiv 6) hN h0 (by rw[zK];intro K;rfl) (dv (by rw[zK];rfl) rfl (by decide) (by decide));obtain⟨s3,vP⟩:∃s3:aG,s3=[↥d,↥p,↥n,⇑ni,⇑ti,↥mo,O (aq a),O (aq b),Z,Z,Z]:=⟨_,rfl⟩
 obtain⟨e,he,ee⟩:=Cd (e:=ah bv (af 5) {36}) (σ:=s3) (i:=mo.fdiv 36) hN h0 (by rw[vP];intro K;rfl) (dv (by rw[vP];rfl) rfl (by decide) (by decide));obtain⟨σ,aU⟩:∃σ:aG,σ=[↥d,↥p,↥n,⇑ni,⇑ti,↥mo,O (aq a),O (aq b),O (aq e),↥(d.fmod 16),Z]:=⟨_,rfl⟩
 have pre:∀{q:SM} {r:Out W},ax (q σ) fw H=r->ax (aC (aM (ah aV (ah fB (af 0) {48271}) {2147483647}) (gN 0)) (aC (aM (ah bv (af 0) {16}) (gN 5)) (aC (aM (ah aE (af 3) (ah aV (af 5) (aR bz (ag (af 3) ai)))) (gN 6)) (aC (aM (ah aE (af 3) (ah aV (ah bv (af 5) {6}) (aR bz (ag (af 3) ai)))) (gN 7)) (aC (aM (ah aE (af 3) (ah aV (ah bv (af 5) {36}) (aR bz (ag (af 3) ai)))) (gN 8)) (aC (aM (ah aV (af 0) {16}) (gN 9)) q))))) [↥c,↥p,↥n,⇑ni,⇑ti,Z,Z,Z,Z,Z,Z]) fw H=r:=λ{q r} h=>by
  refine bq (ph1:=H) (σ1:=[↥d,↥p,↥n,⇑ni,⇑ti,Z,Z,Z,Z,Z,Z]) (by rw[hd];exact asg (md (ml rfl rfl (BH (by decide) (by decide))) rfl (by decide))) (bq (ph1:=H) (σ1:=s1) (by rw[zJ,hmo];exact asg (dv rfl rfl (by decide) (by decide))) (bq (ph1:=H) (σ1:=s2) ((asg ea).trans (by rw[zJ,zK];rfl)) (bq (ph1:=H) (σ1:=s3) ((asg eb).trans (by rw[zK,vP];rfl)) (bq (ph1:=H) (σ1:=s3.set 8 (O (aq e))) (asg ee) (bq (ph1:=H) (σ1:=σ) ?_ h)))));refine(asg (w:=.int (d.fmod 16)) (ph1:=H) (md (i:=d) (by rw[vP];rfl) rfl (by decide))).trans ?_;rw[vP,aU];rfl
 have v1:∀{K:PH},af 1 σ K=.ok (.int p) K:=by rw[aU];intro K;rfl
 have v2:∀{K:PH},af 2 σ K=.ok (.int n) K:=by rw[aU];intro K;rfl
 have v4:∀{K:PH},af 4 σ K=.ok (.ref ti) K:=by rw[aU];intro K;rfl
 have v5:∀{K:PH},af 5 σ K=.ok (.int mo) K:=by rw[aU];intro K;rfl
 have v6:∀{K:PH},af 6 σ K=.ok (aq a) K:=by rw[aU];intro K;rfl
 have v7:∀{K:PH},af 7 σ K=.ok (aq b) K:=by rw[aU];intro K;rfl
 have v8:∀{K:PH},af 8 σ K=.ok (aq e) K:=by rw[aU];intro K;rfl
 have v9:∀{K:PH},af 9 σ K=.ok (.int (d.fmod 16)) K:=by rw[aU];intro K;rfl
 have d6:∀{K:PH},ah bv (af 5) {6} σ K=.ok (.int (mo.fdiv 6)) K:=dv v5 rfl (by decide) (by decide);have qk:=sH d 16 (by decide);have na:∀{x:Nm},x∈[a]->x∈NS:=λh=>by rw[ack.mp h];exact ha
 have hW:∀{K:PH},K[ti]? =O (.lst (iw TL))->∃(g:Nat) (K':PH),aP mm (ag (ah bv (af 5) {6}) (ag (af 1) (ag (af 2) (ag (af 4) ai)))) σ K=.ok (.int g) K'/\Ex K K'/\Gl n p TL g:=λ{K} hK=>by
  obtain⟨g,K',e1,x1,hg⟩:=WL (mo.fdiv 6) hK hp;exact⟨g,K',aj (au d6 (au v1 (au v2 (au v4 rfl)))) e1,x1,hg⟩
 unfold sA EZ;rw[CG];by_cases h3:d.fmod 16<3
 ·obtain⟨m,em⟩:∃m:Nat,d.fmod 16=(m:Int):=⟨(d.fmod 16).toNat,∅⟩
  obtain⟨v,H1,e1,x1,sv⟩:=YN (mo.fdiv 6) H;obtain⟨r,hr,ok,to⟩:∃r:Row,[(Row.set a v).w,(Row.copy a b).w,(Row.tell a).w][m]? =O r.w/\jh NS r/\r.to=[]:=by
   have:m=0\/m=1\/m=2:=by omega
   rcases this with rfl | rfl | rfl
   ·exact⟨.set a v,rfl,⟨λx h=>na h,λ_ _ z=>by cases z;exact sv⟩,rfl⟩
   ·refine⟨.copy a b,rfl,⟨λx h=>?_,λ_ _ z=>by cases z⟩,rfl⟩
    rcases abR.mp h with z | z
    ·rw[z];exact ha
    ·rw[ack.mp z];exact hb
   ·exact⟨.tell a,rfl,⟨λx h=>na h,λ_ _ z=>by cases z⟩,rfl⟩
  refine⟨r,H1++[.lst [(Row.set a v).w,(Row.copy a b).w,(Row.tell a).w]],pre (bT (bh (ltI v9 (aL h3)) (retS (tZ (ph1:=H1) (i:=(m:Int)) (au (w:=(Row.set a v).w) (ph1:=H1) (tp (au rfl (au v6 (au (aj (au d6 rfl) e1) rfl))) rfl) (au (w:=(Row.copy a b).w) (ph1:=H1) (tp (au rfl (au v6 (au v7 rfl))) rfl) (au (w:=(Row.tell a).w) (ph1:=H1) (tp (au rfl (au v6 rfl)) rfl) rfl))) (acR rfl) (by rw[<- em];exact v9) ?_)))),x1.trans (Ex.one _ _),ok,λk hk=>by rw[to] at hk;cases hk⟩;rw[fq _ _ (by simp;omega)];exact hr
 by_cases h8:d.fmod 16<8
 ·obtain⟨m,hm,em⟩:=d0 (a:=mo.fdiv 216) (n:=6) (by decide);obtain⟨wd,hw⟩:∃wd:Wd,[(.str "sum":W),.str "less",.str "times",.str "part",.str "below",.str "alike"][m]? =O (.str wd.s):=by
   have:m=0\/m=1\/m=2\/m=3\/m=4\/m=5:=by omega
   rcases this with rfl | rfl | rfl | rfl | rfl | rfl
   ·exact⟨.sum,rfl⟩
   ·exact⟨.less,rfl⟩
   ·exact⟨.times,rfl⟩
   ·exact⟨.part,rfl⟩
   ·exact⟨.below,rfl⟩
   ·exact⟨.alike,rfl⟩
  refine⟨.lH a wd b e,H++[PO.lst [.str "sum",.str "less",.str "times",.str "part",.str "below",.str "alike"]],pre (bq (aK (ltI v9 (aX h3)) rfl) (bT (bh (ltI v9 (aL h8)) (sq (asg (tZ (ws:=[.str "sum",.str "less",.str "times",.str "part",.str "below",.str "alike"]) (w:=.str wd.s) (i:=(m:Int)) (ph1:=H) rfl (acR rfl) ?_ ?_)) (retS ?_))))),Ex.one _ _,⟨λx h=>?_,λ_ _ z=>by cases z⟩,λk hk=>nomatch hk⟩
  ·rw[<- em];exact md (dv v5 rfl (by decide) (by decide)) rfl (by decide)
  ·rw[fq _ _ (by simp;omega)];exact hw
  ·rw[aU];exact aj (au rfl (au rfl (au rfl (au rfl (au rfl rfl))))) rfl
  ·rcases abR.mp h with z | h
   ·rw[z];exact ha
   rcases abR.mp h with z | h
   ·rw[z];exact hb
   ·rw[ack.mp h];exact he
 by_cases iB:d.fmod 16<10
 ·obtain⟨m,em⟩:∃m:Nat,d.fmod 16-8=(m:Int):=⟨(d.fmod 16-8).toNat,∅⟩
  obtain⟨r,hr,ok,to⟩:∃r:Row,[(Row.take a).w,Row.turn.w][m]? =O r.w/\jh NS r/\r.to=[]:=by
   have:m=0\/m=1:=by omega
   rcases this with rfl | rfl
   ·exact⟨.take a,rfl,⟨λx h=>na h,λ_ _ z=>by cases z⟩,rfl⟩
   ·exact⟨.turn,rfl,⟨(λx h=>nomatch h),λ_ _ z=>by cases z⟩,rfl⟩
  refine⟨r,H++[.lst [(Row.take a).w,Row.turn.w]],pre (bq (aK (ltI v9 (aX h3)) rfl) (bq (aK (ltI v9 (aX h8)) rfl) (bT (bh (ltI v9 (aL iB)) (retS (tZ (ph1:=H) (i:=(m:Int)) (au (w:=(Row.take a).w) (ph1:=H) (tp (au rfl (au v6 rfl)) rfl) (au (w:=Row.turn.w) (ph1:=H) rfl rfl)) (acR rfl) (by rw[<- em];exact sb v9 rfl) ?_)))))),Ex.one _ _,ok,λk hk=>by rw[to] at hk;cases hk⟩;rw[fq _ _ (by simp;omega)];exact hr
 by_cases vQ:d.fmod 16<14
 ·obtain⟨g,H1,e1,x1,hg⟩:=hW ht;exact⟨.iff a g,H1,pre (bq (aK (ltI v9 (aX h3)) rfl) (bq (aK (ltI v9 (aX h8)) rfl) (bq (aK (ltI v9 (aX iB)) rfl) (bT (bh (ltI v9 (aL vQ)) (retS (tp (au rfl (au v6 (au e1 rfl))) rfl))))))),x1,⟨λx h=>na h,λ_ _ z=>by cases z⟩,λk hk=>by cases ack.mp hk;exact hg⟩
 by_cases rP:d.fmod 16=14
 ·obtain⟨g,H1,e1,x1,hg⟩:=hW ht;exact⟨.go g,H1,pre (bq (aK (ltI v9 (aX h3)) rfl) (bq (aK (ltI v9 (aX h8)) rfl) (bq (aK (ltI v9 (aX iB)) rfl) (bq (aK (ltI v9 (aX vQ)) rfl) (bT (bh (eI v9 (aL rP)) (retS (tp (au rfl (au e1 rfl)) rfl)))))))),x1,⟨(λx h=>nomatch h),λ_ _ z=>by cases z⟩,λk hk=>by cases ack.mp hk;exact hg⟩
 ·obtain⟨m,hm,em⟩:=d0 (a:=mo.fdiv 6) (n:=3) (by decide);obtain⟨r,hr,ok,to⟩:∃r:Row,[Row.fin.w,(Row.tell a).w,Row.turn.w][m]? =O r.w/\jh NS r/\r.to=[]:=by
   have:m=0\/m=1\/m=2:=by omega
   rcases this with rfl | rfl | rfl
   ·exact⟨.fin,rfl,⟨(λx h=>nomatch h),λ_ _ z=>by cases z⟩,rfl⟩
   ·exact⟨.tell a,rfl,⟨λx h=>na h,λ_ _ z=>by cases z⟩,rfl⟩
   ·exact⟨.turn,rfl,⟨(λx h=>nomatch h),λ_ _ z=>by cases z⟩,rfl⟩
  refine⟨r,H++[.lst [Row.fin.w,(Row.tell a).w,Row.turn.w]],pre (bq (aK (ltI v9 (aX h3)) rfl) (bq (aK (ltI v9 (aX h8)) rfl) (bq (aK (ltI v9 (aX iB)) rfl) (bq (aK (ltI v9 (aX vQ)) rfl) (bq (aK (eI v9 (aX rP)) rfl) (br (tZ (ph1:=H) (i:=(m:Int)) (au (w:=Row.fin.w) (ph1:=H) rfl (au (w:=(Row.tell a).w) (ph1:=H) (tp (au rfl (au v6 rfl)) rfl) (au (w:=Row.turn.w) (ph1:=H) rfl rfl))) (acR rfl) (by rw[<- em];exact md d6 rfl (by decide)) ?_))))))),Ex.one _ _,ok,λk hk=>by rw[to] at hk;cases hk⟩;rw[fq _ _ (by simp;omega)];exact hr
theorem YT{cs:cW}(h:dH cs):adX (tx cs)=true:=by
 unfold adX tx;rw[agg,acA];intro c hc;have:=(h.ab c hc).2;exact aL ∅
theorem jO{cs:cW}(h:dH cs)(H:PH)(n:Nat):dat H n (aq cs)=O (.str (tx cs)):=by
 have:(if adX (tx cs)=true then O (aha (tx cs)) else Z)=O (.str (tx cs)):=if_pos (YT h);cases n <;> exact this
noncomputable def Row.d:Row->afr
 | .set a n=>.tuple [.str (abH "set"),.str (tx a),.int n]
 | .copy a b=>.tuple [.str (abH "copy"),.str (tx a),.str (tx b)]
 | .lH a w b c=>.tuple [.str (abH "do"),.str (tx a),.str (abH w.s),.str (tx b),.str (tx c)]
 | .take a=>.tuple [.str (abH "take"),.str (tx a)]
 | .tell a=>.tuple [.str (abH "tell"),.str (tx a)]
 | .turn=>.tuple [.str (abH "turn")]
 | .iff a p=>.tuple [.str (abH "if"),.str (tx a),.int p]
 | .go p=>.tuple [.str (abH "go"),.int p]
 | .fin=>.tuple [.str (abH "end")]
theorem HL(H:PH)(n:Nat){r:Row}(h:∀a∈r.nm,dH a):dat H (n+1) r.w=O r.d:=by
 cases r with
 | set a m=>exact jM (mc (ky H n "set") (mc (jO (h a (by simp[Row.nm])) H n) (mc (um ..) rfl)))
 | copy a b=>exact jM (mc (ky H n "copy") (mc (jO (h a (by simp[Row.nm])) H n) (mc (jO (h b (by simp[Row.nm])) H n) rfl)))
 | lH a w b c=>exact jM (mc (ky H n "do") (mc (jO (h a (by simp[Row.nm])) H n) (mc (ky H n w.s) (mc (jO (h b (by simp[Row.nm])) H n) (mc (jO (h c (by simp[Row.nm])) H n) rfl)))))
 | take a=>exact jM (mc (ky H n "take") (mc (jO (h a (by simp[Row.nm])) H n) rfl))
 | tell a=>exact jM (mc (ky H n "tell") (mc (jO (h a (by simp[Row.nm])) H n) rfl))
 | turn=>exact jM (mc (ky H n "turn") rfl)
 | iff a p=>exact jM (mc (ky H n "if") (mc (jO (h a (by simp[Row.nm])) H n) (mc (um ..) rfl)))
 | go p=>exact jM (mc (ky H n "go") (mc (um ..) rfl))
 | fin=>exact jM (mc (ky H n "end") rfl)
noncomputable def Row.fj:Row->Bool
 | .turn=>true
 | _=>false
theorem QQ(r:Row):acI r.d Row.turn.d=r.fj:=by
 cases r <;> simp only[Row.d,Row.fj,acI,aec,ahU] <;> decide +kernel
theorem WN{r:Row}(h:r.fj=true):r=.turn:=by cases r <;> first | rfl | cases h
structure GI(ph H:PH)(NS:List Nm)(n j:Nat)(R:List Row)(TL:cW):Prop where
 ex:Ex ph H
 r:H[↑ph]? =O (.lst (R.map Row.w))
 t:H[↑ph+1]? =O (.lst (iw TL))
 len:↑R=j
 tl:TL.length<=j
 vR:∀t∈TL,R[t]? =O .turn
 ok:∀r∈R,jh NS r
 jm:∀(p:Nat) y,R[p]? =O y->∀k∈y.to,(p<k/\k<=n)\/R[k]? =O .turn
abbrev sr(ns:gM)(n ni p:Nat)(o:dO):aG:=[~~~ns,↥3,↥n,⇑ni,⇑p,⇑(p+1),o]
theorem WO(ns:gM){R:List Row}(hN:ph[ni]? =O (.lst (NS.map aq)))(h0:NS≠[])(nk:∀a∈NS,dH a)(G:GI ph H NS n j R TL)(hj:j<n)(hn:n<=60):∃H' R' DX,wA (sr ns n ni ↑ph (↥j)) H=.ok (.nx (sr ns n ni ↑ph (↥j))) H'/\GI ph H' NS n (j+1) R' DX:=by
 have hl:=G.len;have htl:=G.tl;obtain⟨m,hm,em⟩:=d0 (a:=(j:Int)) (n:=24) (by decide);obtain⟨r,H1,e1,x1,ok,jm⟩:=WM (ns.getD (3+(m:Int)).toNat 0+7919*(j:Int)) (G.ex.get hN) h0 G.t hj;obtain⟨H2,dR⟩:∃H2,H2=H1.set ↑ph (.lst (R.map Row.w++[r.w])):=⟨_,rfl⟩
 have gr:=x1.get G.r;have gt:=x1.get G.t;have a1:d3 (bL fg eE (af 4) (ag (aP sA (ag (ah addW (aP fK (ag (af 0) (ag (ah addW (af 1) (ah aV (af 6) {24})) ai))) (ah fB {7919} (af 6))) (ag (af 6) (ag (af 2) (ag (af 3) (ag (af 5) ai)))))) ai)) (sr ns n ni ↑ph (↥j)) H=.ok (.nx (sr ns n ni ↑ph (↥j))) H2:=by
  rw[dR];refine l8 rfl ⟨_,G.r⟩ (aj (au (ad (cl rfl (ad rfl (md rfl rfl (by decide))) (by rw[em];omega)) (ml rfl rfl (xN (by decide) (by decide)))) (au rfl (au rfl (au rfl (au rfl rfl))))) ?_) gr (by rw[abI];omega);rw[em];exact e1
 have g4:H2[↑ph]? =O (.lst ((R++[r]).map Row.w)):=by rw[dR,ku gr,adk];rfl
 have g5:H2[↑ph+1]? =O (.lst (iw TL)):=by rw[dR];exact(oE ∅).trans gt
 have nr:∀a∈r.nm,dH a:=λa ha=>nk a (ok.1 a ha)
 have fJ:eT (ah bo (ah aE (af 4) (fY fA {1})) (cw (ag {"turn"} ai))) (sr ns n ni ↑ph (↥j)) H2=.ok r.fj H2:=by
  refine tB (op (x:=r.w) (y:=Row.turn.w) (op (x:=.ref ↑ph) (y:=.int (-1)) rfl rfl (iG g4 ?_)) rfl (Kn ?_))
  ·unfold cJ hG;rw[if_neg ∅,if_pos (by simp;omega)];have:((-1:Int)+(((R++[r]).map Row.w).length:Nat)).toNat=↑R:=by simp;omega
   simp only[adj,this];rw[abQ,afg];rfl
  ·unfold fZ;rw[HL H2 39 nr,HL H2 39 (r:=.turn) (λa ha=>nomatch ha)];simp only[QQ]
 have Lh:Ex ph H2:=by rw[dR];exact Ex.set (G.ex.trans x1) (abO _) _
 have vR:∀t∈TL,(R++[r])[t]? =O .turn:=λt ht=>by
  have:=G.vR t ht;rw[ado (abL.mp this).1];exact this
 have MH:∀y∈R++[r],jh NS y:=λy hy=>by
  rcases acG.mp hy with z | z
  ·exact G.ok y z
  ·rw[ack.mp z];exact ok
 have MI:∀(p:Nat) y,(R++[r])[p]? =O y->∀k∈y.to,(p<k/\k<=n)\/(R++[r])[k]? =O .turn:=λp y hy k hk=>by
  rcases Js hy with⟨hp,z⟩ | ⟨z0,z⟩
  ·rcases G.jm p y z k hk with q | q
   ·exact .inl q
   ·refine .inr ?_;rw[ado (abL.mp q).1];exact q
  ·subst z
   rcases jm k hk with q | q
   ·exact .inl ⟨∅,q.2⟩
   ·exact .inr (vR k q)
 unfold wA;cases ht:r.fj with
 | false=>
  rw[ht] at fJ;exact⟨H2,R++[r],TL,sq a1 (aK fJ rfl),Lh,g4,g5,by rw[acg,hl];rfl,∅,vR,MH,MI⟩
 | true=>
  rw[ht] at fJ;refine⟨H2.set (↑ph+1) (.lst (iw TL++[.int j])),R++[r],TL++[j],sq a1 (bh fJ (l8 rfl ⟨_,g5⟩ rfl g5 (by rw[xO];omega))),Ex.set Lh ∅ _,(oE ∅).trans g4,(ku g5).trans (by rw[WG];rfl),by rw[acg,hl];rfl,by simp;omega,λt h=>?_,MH,MI⟩
  rcases acG.mp h with z | z
  ·exact vR t z
  ·rw[ack.mp z,<- hl,afg,WN ht]
structure Li(NS:List Nm)(R:List Row):Prop where
 ok:∀r∈R,jh NS r
 jm:∀(p:Nat) y,R[p]? =O y->∀k∈y.to,k<=↑R/\(k<=p->R[k]? =O .turn)
theorem WP(ns:gM)(hN:ph[ni]? =O (.lst (NS.map aq)))(h0:NS≠[])(nk:∀a∈NS,dH a)(hn:n<=60):∃R H',wF [.fl (ns.map W.int),.int 3,.int n,.ref ni] ph=.ok (.ref ↑ph) H'/\Ex ph H'/\H'[↑ph]? =O (.lst (R.map Row.w))/\↑R=n/\Li NS R:=by
 obtain⟨H0,eH⟩:∃H0,H0=ph++[PO.lst []]++[PO.lst []]:=⟨_,rfl⟩
 have G0:GI ph H0 NS n 0 [] []:=by
  subst eH;refine⟨(Ex.one _ _).trans (Ex.one _ _),(Ex.one _ _).get (bp _ _),?_,rfl,abO _,λ_ h=>(nomatch h),λ_ h=>(nomatch h),λp y h=>by simp at h⟩;have:=bp (ph++[PO.lst []]) (PO.lst []);rw[acg] at this;exact this
 obtain⟨ao,H',e,R,TL,⟨o,rfl⟩,G⟩:=kj (chk:=λ_=>true) (g:=gN 6) (b:=wA) (λj σ H=>∃R TL,(∃o,σ=sr ns n ni ↑ph o)/\GI ph H NS n j R TL)
  (fv 0 n) (sr ns n ni ↑ph Z) H0 (λ_ _ _ _=>rfl) (λj x σ H hj hI=>by
   obtain⟨R,TL,⟨o,rfl⟩,G⟩:=hI;obtain⟨hjn,rfl⟩:=xi hj;rw[Int.zero_add];obtain⟨H',R',DX,e1,G'⟩:=WO ns hN h0 nk G hjn hn;exact⟨_,_,rfl,_,_,e1,_,.inl rfl,R',DX,⟨_,rfl⟩,G'⟩) ⟨[],[],⟨Z,rfl⟩,G0⟩
 rw[GH] at G;refine⟨R,H',?_,G.ex,G.r,G.len,G.ok,λp y hy k hk=>?_⟩
 ·unfold wF ES;rw[yF];refine bq (ph1:=ph++[.lst []]) (σ1:=[~~~ns,↥3,↥n,⇑ni,⇑↑ph,Z,Z]) rfl (bq (ph1:=H0) (σ1:=sr ns n ni ↑ph Z) ?_ (bq (gf (xI (j:=(n:Int)) rfl ∅ ∅) e) (br rfl)));refine(asg (w:=.ref (↑ph+1)) (ph1:=H0) ?_).trans rfl;rw[eH];show Out.ok (W.ref (ph++[PO.lst []]).length) _=_;rw[acg];rfl
 ·have hl:=G.len
  rcases G.jm p y hy k hk with q | q
  ·exact⟨∅,λz=>by omega⟩
  ·exact⟨ahE (abL.mp q).1,λ_=>q⟩
noncomputable def bG(c:Nat):Nm->List Nm
 | []=>[[]]
 | a::l=>if a=c then[]::bG c l else match bG c l with
  | []=>[[a]]
  | p::r=>(a::p)::r
noncomputable def dD(c:Nat):List Nm->Nm
 | []=>[]
 | [p]=>p
 | p::q::r=>p++c::dD c (q::r)
theorem km(c:Nat)(l:Nm):∃p r,bG c l=p::r:=by
 cases l with
 | nil=>exact⟨_,_,rfl⟩
 | cons a l=>
  unfold bG;split
  ·exact⟨_,_,rfl⟩
  ·split <;> exact⟨_,_,rfl⟩
theorem F2(c:Nat):∀p:Nm,c∉p->bG c p=[p]
 | [],_=>rfl
 | a::p,h=>by
  rw[abR,not_or] at h;unfold bG;rw[if_neg (adD h.1),F2 c p h.2]
theorem HM(c:Nat)(q:Nm):∀p:Nm,c∉p->bG c (p++c::q)=p::bG c q
 | [],_=>by
  rw[ahH,bG,if_pos rfl]
 | a::p,h=>by
  rw[abR,not_or] at h;rw[agi,bG,if_neg (adD h.1),HM c q p h.2]
theorem qd(c:Nat):∀ls:List Nm,ls≠[]->(∀p∈ls,c∉p)->bG c (dD c ls)=ls
 | [],h,_=>absurd rfl h
 | [p],_,h=>F2 c p (h p (by simp))
 | p::q::r,_,h=>by
  rw[dD,HM c _ p (h p (by simp)),qd c (q::r) (by simp) λx hx=>h x (abN _ hx)]
theorem sU(c:Nat)(p:Nm){l:List Nm}(h:l≠[]):dD c (p::l)=p++c::dD c l:=by
 cases l with
 | nil=>exact absurd rfl h
 | cons q r=>rfl
theorem AW(c:Nat):∀l:Nm,dD c (bG c l)=l
 | []=>rfl
 | a::l=>by
  have ih:=AW c l;obtain⟨p,r,e⟩:=km c l;unfold bG;split
  ·rename_i h;rw[sU c _ (by rw[e];simp),ih,h];rfl
  ·rw[e] at ih ⊢
   dsimp only
   cases r with
   | nil=>rw[show p=l from ih];rfl
   | cons q r=>
    rw[sU c _ (by simp)] at ih ⊢;rw[agi,ih]
theorem AX(c:Nat):∀l:Nm,∀p∈bG c l,c∉p
 | [],p,h=>by
  rw[bG,ack] at h;rw[h];simp
 | a::l,p,h=>by
  have ih:=AX c l;unfold bG at h;split at h
  ·rcases abR.mp h with z | z
   ·rw[z];simp
   ·exact ih p z
  ·rename_i hac;obtain⟨q,r,e⟩:=km c l;rw[e] at h ih
   dsimp only at h
   rcases abR.mp h with z | z
   ·rw[z,abR,not_or];exact⟨adD hac,ih q (by simp)⟩
   ·exact ih p (abN _ z)
theorem kn(c:Nat):∀l:Nm,∀p∈bG c l,∀x∈p,x∈l
 | [],p,h,x,hx=>by
  rw[bG,ack] at h;rw[h] at hx;exact hx
 | a::l,p,h,x,hx=>by
  have ih:=kn c l;unfold bG at h;split at h
  ·rcases abR.mp h with z | z
   ·rw[z] at hx;cases hx
   ·exact abN _ (ih p z x hx)
  ·obtain⟨q,r,e⟩:=km c l;rw[e] at h ih
   dsimp only at h
   rcases abR.mp h with z | z
   ·rw[z] at hx
    rcases abR.mp hx with y | y
    ·rw[y];simp
    ·exact abN _ (ih q (by simp) x y)
   ·exact abN _ (ih p (abN _ z) x hx)
theorem mG(c:Nat):∀l:Nm,(bG c l).length<=↑l+1/\∀p∈bG c l,↑p<=↑l
 | []=>⟨abO _,λp h=>by rw[bG,ack] at h;rw[h];exact abO _⟩
 | a::l=>by
  obtain⟨i1,i2⟩:=mG c l;unfold bG;split
  ·refine⟨by simp only[abP];omega,λp h=>?_⟩
   rcases abR.mp h with z | z
   ·rw[z];simp
   ·have:=i2 p z;simp only[abP];omega
  ·obtain⟨q,r,e⟩:=km c l;rw[e] at i1 i2 ⊢
   dsimp only
   refine⟨by simp only[abP] at i1 ⊢;omega,λp h=>?_⟩
   rcases abR.mp h with z | z
   ·have:=i2 q (by simp);rw[z];simp only[abP];omega
   ·have:=i2 p (abN _ z);simp only[abP];omega
theorem Bj(x:Str):x=tx x.cps.toList:=by
 unfold tx;simp
theorem k8(l:Nm):(tx l).cps.toList=l:=rfl
theorem gJ(l:Nm):(tx l).length=↑l:=by
 show l.toArray.size=_;simp
theorem HN(c:Nat):∀ls:List Nm,ait (tx [c]) (ls.map tx)=tx (dD c ls):=by
 intro ls;rw[Txt.join_eq]
 induction ls with
 | nil=>rfl
 | cons p ls ih=>
  cases ls with
  | nil=>rfl
  | cons q r=>
   have e:aiW (tx [c]) ((p::q::r).map tx)=tx p++tx [c]++aiW (tx [c]) ((q::r).map tx):=rfl;rw[e,ih,t5,t5,dD,adM];rfl
theorem ko{a b:cW}(h:tx a=tx b):a=b:=by
 unfold tx at h;injection h with h
 simpa using h
theorem QR(x y:Str):aex x y≠[]:=by
 unfold aex;split
 ·simp
 ·split
  ·simp
  ·rw[StrLaws.partsBetween_eq];obtain⟨p,r,e⟩:=StrLaws.partsFrom_ne x ↑y 0 (adg x y 0 ↑x (↑x+1));rw[e];simp
theorem QS(c:Nat)(l:Nm):aex (tx l) (tx [c])=(bG c l).map tx:=by
 obtain⟨P,hP⟩:∃P,P=(aex (tx l) (tx [c])).map λx=>x.cps.toList:=⟨_,rfl⟩
 have e:aex (tx l) (tx [c])=P.map tx:=by
  rw[hP,acz]
  conv=>lhs;rw[<- ahq (aex (tx l) (tx [c]))]
  exact adb λx _=>Bj x
 have h1:=StrLaws.join_split (tx l) (tx [c]);rw[<- Txt.join_eq,e,HN] at h1;have h2:=ko h1;rw[e,<- h2,qd c P ?_ ?_]
 ·intro z;rw[hP] at z;exact QR _ _ (List.map_eq_nil_iff.mp z)
 ·intro p hp;rw[hP] at hp;obtain⟨x,hx,rfl⟩:=ach.mp hp;exact StrLaws.split_free (tx l) c x hx
open PySem L2 PySem.NumText
theorem WQ(b n:Nat):acT Z (O (b:Int)) 1 n=acT (O ((0:Nat):Int)) (O ((min b n:Nat):Int)) 1 n:=by
 unfold acT;simp only[show ¬((b:Int)<0) by omega,show ¬(((0:Nat):Int)<0) by omega,show ¬(((min b n:Nat):Int)<0) by omega,if_false,show((1:Int)>0) by decide,if_true]
 congr 1 <;> omega
theorem QT(a n:Nat):acT (O (a:Int)) Z 1 n=acT (O ((min a n:Nat):Int)) (O ((n:Nat):Int)) 1 n:=by
 unfold acT;simp only[show ¬((a:Int)<0) by omega,show ¬((n:Int)<0) by omega,show ¬(((min a n:Nat):Int)<0) by omega,if_false,show((1:Int)>0) by decide,if_true]
 congr 1 <;> omega
theorem GR(l:Nm)(lo hi:Option Int){a b:Nat}(kP:a<=b)(hb:b<=↑l)(e:acT lo hi 1 ↑l=acT (O (a:Int)) (O (b:Int)) 1 ↑l):afS (tx l) lo hi=tx ((l.drop a).take (b-a)):=by
 unfold afS;rw[gJ,e];split
 ·rename_i h;rw[StrLaws.strSliceIndices_plain kP hb,abI,afp] at h;have:b-a=↑l:=by simpa using h
  have ha:a=0:=by omega
  subst ha;rw[List.drop_zero,aem ∅]
 ·have:=StrLaws.sliced_plain (tx l) kP (by rw[gJ];exact hb);rw[gJ] at this;rw[this];rfl
theorem QU(l:Nm)(b:Nat):afS (tx l) Z (O (b:Int))=tx (l.take b):=by
 rw[GR l _ _ (adH _) (ahv b ↑l) (WQ b ↑l),List.drop_zero,Nat.sub_zero,Nat.min_comm,List.take_eq_take_min (i:=b),Nat.min_comm]
theorem Ov(l:Nm)(a:Nat):afS (tx l) (O (a:Int)) Z=tx (l.drop a):=by
 rw[GR l _ _ (ahv a ↑l) (abO _) (QT a ↑l),aem (by rw[adC];omega)];by_cases h:a<=↑l
 ·rw[agw h]
 ·rw[Nat.min_eq_right ∅,List.drop_length,List.drop_of_length_le ∅]
noncomputable def bg(l:Nm):Prop:=∀c∈l,c<128
variable{l:Nm}
theorem bg.sub{m:Nm}(h:bg l)(s:∀x∈m,x∈l):bg m:=λc hc=>h c (s c hc)
theorem t6(h:bg l):adX (tx l)=true:=by
 unfold adX tx;simp only[agg,acA,decide_eq_true_eq];intro c hc;have:=h c hc;omega
theorem HP(h:bg l):(tx l).cps.all (· <128)=true:=by
 unfold tx;simp only[agg,acA,decide_eq_true_eq];exact h
theorem oQ{a b:Nm}(ha:bg a)(hb:bg b)(H:PH):lift (bo (.str (tx a)) (.str (tx b))) H=.ok (.bl (decide (a=b))) H:=by
 rw[Kl (t6 ha) (t6 hb)];have:decide (tx a=tx b)=decide (a=b):=decide_eq_decide.mpr ⟨ko,λz=>by rw[z]⟩;rw[this];rfl
theorem yk{a b:Nm}(ha:bg a)(hb:bg b)(H:PH):lift (ck (.str (tx a)) (.str (tx b))) H=.ok (.bl (!decide (a=b))) H:=by
 rw[Km (t6 ha) (t6 hb)];have:decide (tx a=tx b)=decide (a=b):=decide_eq_decide.mpr ⟨ko,λz=>by rw[z]⟩;rw[this];rfl
theorem qx(h:↑l<=1000000)(H:PH):lift (bz [.str (tx l)]) H=.ok (.int (↑l:Int)) H:=by
 unfold lift bz;simp only[gJ];rw[if_pos (small h)]
theorem Bk{e:EM}(h:e σ H=.ok (.str (tx l)) H)(ha:bg l):ip e σ H=.ok (l.map bw,λ_=>true) H:=by
 refine aj h ?_;unfold lift CH;simp only[];rw[if_pos (HP ha)];rfl
theorem Bl{b:Nat}(hm:m σ H=.ok (.str (tx l)) H)(ho:o σ H=.ok (.int b) H)(hl:↑l<=1000000):dP m bJ (bA o) σ H=.ok (.str (tx (l.take b))) H:=by
 refine aj hm (aj rfl (aj (aj ho rfl) ?_));unfold lift yI;simp only[gJ];rw[if_pos (small hl),QU]
theorem w4{a:Nat}(hm:m σ H=.ok (.str (tx l)) H)(ho:o σ H=.ok (.int a) H)(hl:↑l<=1000000):dP m (bA o) bJ σ H=.ok (.str (tx (l.drop a))) H:=by
 refine aj hm (aj (aj ho rfl) (aj rfl ?_));unfold lift yI;simp only[gJ];rw[if_pos (small hl),Ov]
theorem Ku(c:Nat)(l:Nm)(H:PH):lift (lG (bw c) (.str (tx l))) H=.ok (.bl (decide (c∈l))) H:=by
 unfold lift lG;simp only[bw];have:=aiI (tx l) c;rw[k8] at this;rw[<- this];rfl
theorem Jv(c:Nat)(l:Nm)(H:PH):lift (lm (bw c) (.str (tx l))) H=.ok (.bl (!decide (c∈l))) H:=by
 unfold lift lm;simp only[bw];have:=aiI (tx l) c;rw[k8] at this;rw[<- this,agO];rfl
theorem wR{α β:Type}(c:α->Bool)(f:α->β):∀l:List α,l.filterMap (λa=>if c a=true then O (f a) else Z)=(l.filter c).map f
 | []=>rfl
 | a::l=>by
  rw[aeh,List.filter_cons,wR c f l];cases c a <;> rfl
theorem Jw{e0 e:EM}(p:Nat->Bool)(h:e0 σ H=.ok (.str (tx l)) H)(ha:bg l)(hl:↑l<=1000000)(he:∀c (K:PH),e [O (bw c)] K=.ok (.bl (p c)) K):∃H',aR jq (ag (b6 (ip e0) [Z] (gN 0) cu e) ai) σ H=.ok (.bl (l.all p)) H'/\Ex H H':=by
 obtain⟨H1,e1,x1⟩:=ie l bw (cap:=[Z]) (g:=gN 0) (c:=cu) (e:=e) (Bk h ha) (λ_ _=>rfl) (small hl) (λc=>O (.bl (p c))) (λσ=>∃o,σ=[o]) ⟨Z,rfl⟩
  (λc _ σ K hS _=>by
   obtain⟨o,rfl⟩:=hS;exact⟨_,rfl,⟨_,rfl⟩,true,K,rfl,Ex.refl _,.inr ⟨rfl,_,K,he c K,Ex.refl _,rfl⟩⟩)
 have hm:l.filterMap (λc=>O (W.bl (p c)))=(l.map p).map W.bl:=by rw[acz];exact congrFun afX l
 rw[hm] at x1;refine⟨H1,aj (au e1 rfl) ((Bf (x1.get (bp _ _))).trans ?_),(Ex.one _ _).trans x1⟩;rw[List.all_map];rfl
theorem TH{e0 c:EM}(p:Nat->Bool)(h:e0 σ H=.ok (.str (tx l)) H)(ha:bg l)(hl:↑l<=1000000)(hc:∀x (K:PH),c [O (bw x)] K=.ok (.bl (!p x)) K):∃H',b6 (ip e0) [Z] (gN 0) (eT c) (af 0) σ H=.ok (.ref ↑H) H'/\Ex (H++[.lst ((l.filter λx=> !p x).map bw)]) H':=by
 obtain⟨H1,e1,x1⟩:=ie l bw (cap:=[Z]) (g:=gN 0) (c:=eT c) (e:=af 0) (Bk h ha) (λ_ _=>rfl) (small hl) (λx=>if(!p x)=true then O (bw x) else Z) (λσ=>∃o,σ=[o]) ⟨Z,rfl⟩
  (λx _ σ K hS _=>by
   obtain⟨o,rfl⟩:=hS;refine⟨_,rfl,⟨_,rfl⟩,!p x,K,tB (hc x K),Ex.refl _,?_⟩;cases p x with
   | false=>exact .inr ⟨rfl,_,K,rfl,Ex.refl _,rfl⟩
   | true=>exact .inl ⟨rfl,rfl⟩)
 rw[wR (λx=> !p x)] at x1;exact⟨H1,e1,x1⟩
inductive Pt where
 | s (cs:Nm) | n (i:Int) | t
noncomputable def Pt.w:Pt->W
 | .s cs=>.str (tx cs)
 | .n i=>.int i
 | .t=>.bl true
noncomputable def uU:Nm:=[48,49,50,51,52,53,54,55,56,57]
noncomputable def dig(c:Nat):Bool:=decide (c∈uU)
theorem HQ{c:Nat}:dig c=true↔48<=c/\c<=57:=by
 unfold dig uU;rw[decide_eq_true_eq];constructor
 ·intro h;simp at h;omega
 ·intro h;have:c=48\/c=49\/c=50\/c=51\/c=52\/c=53\/c=54\/c=55\/c=56\/c=57:=by omega
  simp[this]
theorem HR:abH "0123456789"=tx uU:=⋯
noncomputable def neg(cs:Nm):Bool:=decide (cs.head? =O 45)
noncomputable def bc(cs:Nm):Nm:=if neg cs=true then cs.drop 1 else cs
noncomputable def cz(cs:Nm):Bool:=decide (0<(bc cs).length)&&(decide ((bc cs).length<=10)&&(bc cs).all dig)
noncomputable def eJ(cs:Nm):Int:=if neg cs=true then -((digitsVal (bc cs):Nat):Int) else((digitsVal (bc cs):Nat):Int)
noncomputable def Pt.rd(cs:Nm):Pt:=if cz cs=true then .n (eJ cs) else .s cs
theorem tJ:l.all dig=true↔AllDigits l:=by
 rw[acA];exact forall_congr' λc=>forall_congr' λ_=>HQ
theorem HS{cs:Nm}(h:cz cs=true):intText? (tx (bc cs))=O ((digitsVal (bc cs):Nat):Int):=by
 unfold cz at h;rw[abK,abK,decide_eq_true_eq,decide_eq_true_eq,tJ] at h;exact intText_digits (x:=tx (bc cs)) (by rw[k8];exact h.2.2) (by rw[k8];intro z;rw[z] at h;exact absurd h.1 (by decide)) (by rw[gJ];omega)
theorem HU{cs:Nm}(h:cz cs=true):intText? (tx cs)=O (eJ cs):=by
 unfold eJ;by_cases hn:neg cs=true
 ·rw[if_pos hn];have h':=h;unfold cz at h;rw[abK,abK,decide_eq_true_eq,decide_eq_true_eq,tJ] at h;have e:cs=45::bc cs:=by
   unfold bc;rw[if_pos hn];unfold neg at hn;cases cs with
   | nil=>simp at hn
   | cons a l=>simp at hn;rw[hn];rfl
  refine intText_neg (x:=tx cs) (cs:=bc cs) (by rw[k8];exact e) h.2.2 (by intro z;rw[z] at h;exact absurd h.1 (by decide)) ?_;rw[gJ,e,abP];omega
 ·have:=HS h;rw[if_neg hn];unfold bc at this ⊢;rw[if_neg hn] at this ⊢;exact this
theorem len_num{cs:Nm}(h:cz cs=true):↑cs<=11/\(bc cs).length<=10:=by
 unfold cz at h;rw[abK,abK,decide_eq_true_eq,decide_eq_true_eq] at h;refine⟨?_,h.2.1⟩;have:=h.2.1;unfold bc at this;split at this
 ·rw[adC] at this;omega
 ·omega
theorem Ce{x:Nm}{v:Int}(h:intText? (tx x)=O v)(hl:↑x<=640)(H:PH):lift (jQ [.str (tx x)]) H=.ok (.int v) H:=by
 unfold lift jQ CM;simp only[h,gJ];rw[if_pos hl]
theorem QV(l:Nm)(H:PH):lift (oq (.str (tx l)) [.str "-"]) H=.ok (.bl (neg l)) H:=by
 unfold lift oq;simp only[ret];have:(decide (0+(abH "-").length<=(tx l).length)&&Builtin.Str.subAt (tx l) (abH "-") 0)=neg l:=by
  have e:=StrLaws.subAt_one (tx l) 45 0;rw[k8] at e;have e1:abH "-"=⟨#[45]⟩:=⋯;rw[e1];unfold neg;rw[aei,abK,decide_eq_true_eq,decide_eq_true_eq];rw[e,List.head?_eq_getElem?]
 rw[this]
theorem TJ{cs:Nm}(ha:bg cs)(hl:↑cs<=1000000)(H:PH):∃H',sD [.str (tx cs)] H=.ok (Pt.rd cs).w H'/\Ex H H':=by
 have hf:(bc cs).length<=1000000:=by unfold bc;split <;> (try rw[adC]) <;> omega
 have vT:bg (bc cs):=by
  unfold bc;split
  ·exact ha.sub λx hx=>adK hx
  ·exact ha
 obtain⟨σ,aU⟩:∃σ:aG,σ=[O (.str (tx cs)),O (.str (tx (bc cs)))]:=⟨_,rfl⟩
 obtain⟨H1,e1,x1⟩:=Jw (e0:=af 1) (e:=ah lG (af 0) {"0123456789"}) (σ:=σ) (H:=H) (l:=bc cs) dig (by rw[aU];rfl) vT hf (λc K=>op rfl rfl (by rw[HR];exact Ku c uU K));have bj:aR bz (ag (af 1) ai) σ H=.ok (.int ((bc cs).length:Int)) H:=aj (au (by rw[aU];rfl) rfl) (qx hf H);have a1:aM (vj (bW (bL cy oq (af 0) (ag (eC (.str "-")) ai))) (dP (af 0) (bA {1}) bJ) (af 0)) (gN 1) [O (.str (tx cs)),Z] H=.ok (.nx σ) H:=by
  refine(asg (w:=.str (tx (bc cs))) ?_).trans (by rw[aU];rfl);have t:bW (bL cy oq (af 0) (ag (eC (.str "-")) ai)) [O (.str (tx cs)),Z] H=.ok (neg cs) H:=aj (aj rfl (aj rfl (aj (au rfl rfl) (QV cs H)))) rfl;unfold bc;cases hn:neg cs with
  | true=>rw[hn] at t;exact aj t (w4 (a:=1) rfl rfl hl)
  | false=>rw[hn] at t;exact aj t rfl
 unfold sD E6;rw[dh];unfold Pt.rd cz;by_cases h0:0<(bc cs).length
 ·rw[aL h0,ade];by_cases iB:(bc cs).length<=10
  ·rw[aL iB,ade];have tc:eT (gY gE d7 {0} (aR bz (ag (af 1) ai)) {10}) σ H=.ok true H:=by
    refine tB (aj rfl (aj bj ?_));rw[cc (show lift (gE (.int 0) (.int ((bc cs).length:Int))) H=.ok (.bl true) H by rw[uJ,aL ∅];rfl)];show lift (d7 (.int ((bc cs).length:Int)) (.int 10)) H=_;rw[yG,aL ∅];rfl
   cases hd:(bc cs).all dig with
   | true=>
    rw[hd] at e1;refine⟨H1,bq (ph1:=H) a1 (bT (bh (tT tc (aj e1 rfl)) (retS (aj (au (by rw[aU];rfl) rfl) (Ce (HU (cs:=cs) ?_) ?_ H1))))),x1⟩
    ·unfold cz;rw[aL h0,aL iB,hd];rfl
    ·have:=len_num (cs:=cs) (by unfold cz;rw[aL h0,aL iB,hd];rfl);omega
   | false=>
    rw[hd] at e1;exact⟨H1,bq (ph1:=H) a1 (bq (ph1:=H1) (aK (tT tc (aj e1 rfl)) rfl) (br (by rw[aU];rfl))),x1⟩
  ·rw[aX iB,aeS];refine⟨H,bq (ph1:=H) a1 (bq (ph1:=H) (aK (tF (tB (aj rfl (aj bj ?_)))) rfl) (br (by rw[aU];rfl))),Ex.refl _⟩;rw[cc (show lift (gE (.int 0) (.int ((bc cs).length:Int))) H=.ok (.bl true) H by rw[uJ,aL ∅];rfl)];show lift (d7 (.int ((bc cs).length:Int)) (.int 10)) H=_;rw[yG,aX ∅];rfl
 ·rw[aX h0,aeS];refine⟨H,bq (ph1:=H) a1 (bq (ph1:=H) (aK (tF (tB (aj rfl (aj bj ?_)))) rfl) (br (by rw[aU];rfl))),Ex.refl _⟩;rw[cc (show lift (gE (.int 0) (.int ((bc cs).length:Int))) H=.ok (.bl false) H by rw[uJ,aX ∅];rfl)];rfl
theorem cL{a:TM}{c:Bool}(h:a σ ph=.ok c ph1):de a σ ph=.ok (!c) ph1:=aj h rfl
theorem eB{e:EM}{c:Bool}(h:e σ ph=.ok (.bl c) ph1):bW e σ ph=.ok c ph1:=aj h rfl
theorem oF{a b:TM}{r:Out Bool}(h:a σ ph=.ok false ph1)(h2:b σ ph1=r):cF a b σ ph=r:=aj h h2
theorem oT{a b:TM}(h:a σ ph=.ok true ph1):cF a b σ ph=.ok true ph1:=aj h rfl
theorem pN{r:Out W}(ha:a σ ph=.ok (.bl true) ph1)(hb:b σ ph1=r):iO a b σ ph=r:=aj ha (aj rfl hb)
theorem rV(ha:a σ ph=.ok (.bl false) ph1):iO a b σ ph=.ok (.bl false) ph1:=aj ha rfl
theorem zL{f f':W->W->Po W}{c:EM}{x y u:W}{j k:Bool}(ha:a σ ph=.ok x ph)(hb:b σ ph=.ok y ph)(h1:lift (f x y) ph=.ok (.bl j) ph)(hc:c σ ph=.ok u ph)(h2:lift (f' y u) ph=.ok (.bl k) ph):gY f f' a b c σ ph=.ok (.bl (j&&k)) ph:=by
 refine aj ha (aj hb (aj h1 ?_));cases j with
 | false=>rfl
 | true=>exact aj hc h2
theorem lI(a b:Int)(H:PH):lift (d7 (.int a) (.int b)) H=.ok (.bl (decide (a<=b))) H:=by rw[yG];rfl
theorem Lj(a b:Int)(H:PH):lift (gE (.int a) (.int b)) H=.ok (.bl (decide (a<b))) H:=by rw[uJ];rfl
theorem nz(a b:Int)(H:PH):lift (gF (.int a) (.int b)) H=.ok (.bl (decide (a>b))) H:=by rw[K6];rfl
theorem yO(a b:Int)(H:PH):lift (bo (.int a) (.int b)) H=.ok (.bl (decide (a=b))) H:=by rw[Kj];rfl
theorem Lk(a b:Int)(H:PH):lift (ck (.int a) (.int b)) H=.ok (.bl (!decide (a=b))) H:=by rw[Kk];rfl
theorem tN{e:EM}{a:W}{l:aw}(h:e σ H=.ok (.tup (a::l)) H):cm e (bA {1}) bJ σ H=.ok (.tup l) H:=by
 rw[xJ];refine aj h (aj (a:=O 1) (ph':=H) rfl (aj (a:=Z) (ph':=H) rfl ?_));have e:j6 (.tup (a::l)) (O 1) Z H=O (.tup l,H):=by
  unfold j6;have c1:HT.bD (a::l).length 0 (O 1)=1:=by
   unfold HT.bD;simp
  have c2:iQ (a::l) (O 1) Z=l:=by
   unfold iQ;rw[c1];unfold HT.bD;simp
  simp only[c1,c2];rw[if_neg (λz=>absurd z.1 (by decide))]
 unfold lift;rw[e]
noncomputable def eK:Nm:=(adm 26).map (97+ ·)
theorem HV:abH "abcdefghijklmnopqrstuvwxyz"=tx eK:=⋯
noncomputable def isNm(cs:Nm):Bool:=(decide (1<=↑cs)&&decide (↑cs<=6))&&cs.all λc=>decide (c∈eK)
noncomputable def Pt.nm:Pt->Bool
 | .s cs=>isNm cs
 | _=>false
noncomputable def Pt.num:Pt->Bool
 | .n i=>decide (-2147483648<=i)&&decide (i<2147483648)
 | _=>false
noncomputable def eD:List Nm:=[[115,117,109],[108,101,115,115],[116,105,109,101,115],[112,97,114,116],[98,101,108,111,119],[97,108,105,107,101]]
theorem WR:mE=eD.map tx:=by unfold mE;decide +kernel
noncomputable def Pt.wd:Pt->Bool
 | .s cs=>decide (cs∈eD)
 | _=>false
noncomputable def Pt.pl(n:Nat):Pt->Bool
 | .n i=>(Pt.n i).num&&(decide (0<=i)&&decide (i<=(n:Int)))
 | _=>false
noncomputable def Pt.ok:Pt->Prop
 | .s cs=>bg cs/\↑cs<=1000000
 | _=>True
theorem PC{p:Pt}(h:p.ok)(H:PH):∃H',wX [p.w] H=.ok (.bl p.nm) H'/\Ex H H':=by
 unfold wX FU;rw[dh];cases p with
 | n i=>exact⟨H,bT (bh (oT (cL (eB (c:=false) rfl))) rfl),Ex.refl _⟩
 | t=>exact⟨H,bT (bh (oT (cL (eB (c:=false) rfl))) rfl),Ex.refl _⟩
 | s cs=>
  obtain⟨ha,hl⟩:=h;have bj:aR bz (ag (af 0) ai) [O (.str (tx cs))] H=.ok (.int (↑cs:Int)) H:=aj (au rfl rfl) (qx hl H);have hc:eT (gY d7 d7 {1} (aR bz (ag (af 0) ai)) {6}) [O (.str (tx cs))] H=.ok (decide (1<=↑cs)&&decide (↑cs<=6)) H:=by
   refine tB ((zL rfl bj (lI _ _ H) rfl (lI _ _ H)).trans ?_);rw[show decide ((1:Int)<=(↑cs:Int))=decide (1<=↑cs) from decide_eq_decide.mpr ∅,show decide ((↑cs:Int)<=6)=decide (↑cs<=6) from decide_eq_decide.mpr ∅]
  show ∃H',_=Out.ok (W.bl (isNm cs)) H'/\_;unfold isNm;cases hq:decide (1<=↑cs)&&decide (↑cs<=6) with
  | false=>
   rw[hq] at hc;exact⟨H,bT (bh (oF (cL (c:=true) (eB (aj (a:=.str (tx cs)) (ph':=H) rfl rfl))) (cL hc)) rfl),Ex.refl _⟩
  | true=>
   rw[hq] at hc;obtain⟨H1,e1,x1⟩:=Jw (e0:=af 0) (e:=ah lG (af 0) {"abcdefghijklmnopqrstuvwxyz"}) (σ:=[O (.str (tx cs))]) (H:=H) (l:=cs) (λc=>decide (c∈eK)) rfl ha hl (λc K=>op rfl rfl (by rw[HV];exact Ku c eK K));exact⟨H1,bq (ph1:=H) (aK (oF (cL (c:=true) (eB (aj (a:=.str (tx cs)) (ph':=H) rfl rfl))) (cL hc)) rfl) (br e1),x1⟩
theorem GS(p:Pt)(H:PH):pU [p.w] H=.ok (.bl p.num) H:=by
 unfold pU E5;rw[dh];cases p with
 | n i=>exact bq (ph1:=H) (aK (oF (cL (eB (c:=true) rfl)) (eB (c:=false) rfl)) rfl) (br (zL rfl rfl (lI _ _ H) rfl (Lj _ _ H)))
 | t=>exact bT (bh (oF (cL (c:=true) (eB rfl)) (eB (c:=true) rfl)) rfl)
 | s cs=>exact bT (bh (oT (cL (c:=false) (eB (aj (a:=.str (tx cs)) (ph':=H) rfl rfl)))) rfl)
theorem PD(p:Pt)(H:PH):wY [p.w] H=.ok (.bl p.wd) H:=by
 unfold wY FV;rw[dh];cases p with
 | n i=>exact br (rV rfl)
 | t=>exact br (rV rfl)
 | s cs=>
  refine br (pN (aj (a:=.str (tx cs)) (ph':=H) rfl rfl) (op (x:=.str (tx cs)) rfl rfl ?_));have e:rj (.str (tx cs)) (.kt (mE.map W.str)) H=O (.bl (decide (cs∈eD)),H):=by
   unfold rj;simp only[n6 strOf W.str id (λ_=>rfl),List.map_id_fun,id,acC];rw[WR,show decide (tx cs∈eD.map tx)=decide (cs∈eD) from decide_eq_decide.mpr ⟨λz=>by
    obtain⟨y,hy,e⟩:=ach.mp z;rw[<- ko e];exact hy,λz=>ach.mpr ⟨_,z,rfl⟩⟩]
  unfold lift;rw[e];rfl
theorem Ow(p:Pt)(n:Nat)(H:PH):wM [p.w,.int n] H=.ok (.bl (p.pl n)) H:=by
 unfold wM Fs;rw[lE];have hn:aP pU (ag (af 0) ai) [O p.w,↥n] H=.ok (.bl p.num) H:=aj (au rfl rfl) (GS p H);cases p with
 | t=>exact br (rV hn)
 | s cs=>exact br (rV hn)
 | n i=>
  show _=Out.ok (W.bl ((Pt.n i).num&&(decide (0<=i)&&decide (i<=(n:Int))))) H;cases hq:(Pt.n i).num with
  | false=>rw[hq] at hn;exact br (rV hn)
  | true=>rw[hq] at hn;rw[ade];exact br (pN hn (zL (x:=.int 0) (y:=.int i) (u:=.int n) rfl rfl (lI _ _ H) rfl (lI _ _ H)))
inductive Kd where
 | bM | num | fk | dj
deriving DecidableEq
noncomputable def Kd.s:Kd->String
 | .bM=>"name"
 | .num=>"number"
 | .fk=>"word"
 | .dj=>"place"
noncomputable def Kd.w(k:Kd):W:=.str (abH k.s)
noncomputable def Kd.fit(n:Nat)(k:Kd)(p:Pt):Bool:=match k with
 | .bM=>p.nm
 | .num=>p.num
 | .fk=>p.wd
 | .dj=>p.pl n
theorem PJ{p:Pt}(h:p.ok)(k:Kd)(n:Nat)(H:PH):∃H',sP [k.w,p.w,.int n] H=.ok (.bl (k.fit n p)) H'/\Ex H H':=by
 unfold sP FW;rw[yE];have q:∀{y:String} {c:Bool},decide (k.s=y)=c->eT (ah bo (af 0) (eC (.str y))) [O k.w,O p.w,↥n] H=.ok c H:=λ{y c} hc=>wv k.s rfl hc
 cases k with
 | bM=>
  obtain⟨H',e,x⟩:=PC h H;exact⟨H',bT (bh (q (by decide)) (retS (aj (au rfl rfl) e))),x⟩
 | num=>exact⟨H,bq (ph1:=H) (aK (q (by decide)) rfl) (bT (bh (q (by decide)) (retS (aj (au rfl rfl) (GS p H))))),Ex.refl _⟩
 | fk=>exact⟨H,bq (ph1:=H) (aK (q (by decide)) rfl) (bq (ph1:=H) (aK (q (by decide)) rfl) (bT (bh (q (by decide)) (retS (aj (au rfl rfl) (PD p H)))))),Ex.refl _⟩
 | dj=>exact⟨H,bq (ph1:=H) (aK (q (by decide)) rfl) (bq (ph1:=H) (aK (q (by decide)) rfl) (bq (ph1:=H) (aK (q (by decide)) rfl) (br (aj (au rfl (au rfl rfl)) (Ow p n H))))),Ex.refl _⟩
noncomputable def fT:List (Nm×List Kd):=[([115,101,116],[.bM,.num]),([99,111,112,121],[.bM,.bM]),([100,111],[.bM,.fk,.bM,.bM]),([116,97,107,101],[.bM]),([116,101,108,108],[.bM]),([116,117,114,110],[]),([105,102],[.bM,.dj]),([103,111],[.dj]),([101,110,100],[])]
noncomputable def look(h:Nm):List (Nm×List Kd)->Option (List Kd)
 | []=>Z
 | (x,d)::D=>if h=x then O d else look h D
noncomputable def formOf(h:Nm):Option (List Kd):=look h fT
theorem QW:gX=fT.map λp=>(tx p.1,p.2.map λk=>abH k.s):=by unfold gX fT;decide +kernel
theorem HW(h:Nm):∀D:List (Nm×List Kd),iL (tx h) (D.map λp=>(tx p.1,p.2.map λk=>abH k.s))=(look h D).map λl=>l.map λk=>abH k.s
 | []=>rfl
 | (x,d)::D=>by
  rw[ace];unfold iL look;by_cases e:h=x
  ·rw[e,aL rfl,if_pos rfl,if_pos rfl];rfl
  ·rw[aX (λz=>e (ko z)),if_neg (by decide),if_neg e];exact HW h D
theorem Kv(h:Nm):iL (tx h) gX=(formOf h).map λl=>l.map λk=>abH k.s:=by
 rw[QW];exact HW h fT
abbrev Rw:=List Pt
noncomputable def Rw.w(r:Rw):W:=.tup (r.map Pt.w)
noncomputable def fits(n:Nat)(ks:List Kd)(r:Rw):Bool:=(ks.zip r).all λq=>q.1.fit n q.2
noncomputable def c6(n:Nat):Rw->Bool
 | .s h::r=>match formOf h with
  | some ks=>decide (↑r=↑ks)&&fits n ks r
  | none=>false
 | _=>false
noncomputable def kq(q:Kd×Pt):W:=.tup [q.1.w,q.2.w]
theorem WS(ks:List Kd)(r:Rw):jr (ks.map Kd.w) (r.map Pt.w)=(ks.zip r).map kq:=by
 unfold jr;rw[List.zip_map,acz];rfl
variable{ks:List Kd}{r:Rw}
theorem Kw(ha:a σ H=.ok (.kt (ks.map Kd.w)) H)(hb:b σ H=.ok (.tup (r.map Pt.w)) H):mS (ag a (ag b ai)) σ H=.ok ((ks.zip r).map kq,λ_=>true) H:=by
 refine aj (au ha (au hb rfl)) ?_;have e:qK [.kt (ks.map Kd.w),.tup (r.map Pt.w)] H=O (((ks.zip r).map kq,λ_=>true),H):=by
  unfold qK;simp only[yg,WS]
 unfold lift;rw[e]
variable{h:Nm}
theorem Jx{e:EM}(he:e σ H=.ok (.str (tx h)) H)(hk:formOf h=O ks):uq gX e σ H=.ok (.kt (ks.map Kd.w)) H:=by
 refine aj he ?_;have e:yh gX (.str (tx h)) H=O (.kt (ks.map Kd.w),H):=by
  unfold yh;simp only[Kv,hk,acC,acz];rfl
 unfold lift;rw[e]
theorem pY(hk:formOf h=O ks):↑ks<=4:=by
 have key:∀D:List (Nm×List Kd),(∀p∈D,↑p.2<=4)->look h D=O ks->↑ks<=4:=by
  intro D
  induction D with
  | nil=>intro _ z;cases z
  | cons p D ih=>
   intro hD z;unfold look at z;split at z
   ·cases z;exact hD p (by simp)
   ·exact ih (λq hq=>hD q (abN _ hq)) z
 exact key fT (by unfold fT;decide) hk
theorem QX(hr:∀p∈r,p.ok)(hl:↑r<=1000000)(n:Nat)(H:PH):∃H',n8 [Rw.w r,.int n] H=.ok (.bl (c6 n r)) H'/\Ex H H':=by
 unfold n8 AU;rw[lE];have l0:∀{σ:aG} {K:PH},af 0 σ=aD (Rw.w r)->aR bz (ag (af 0) ai) σ K=.ok (.int (↑r:Int)) K:=λ{σ K} h=>by
  refine aj (au (by rw[h];rfl) rfl) ?_;show Out.ok (W.int (((r.map Pt.w).length:Nat):Int)) K=_;rw[abI]
 cases r with
 | nil=>exact⟨H,bT (bh (oF (cL (c:=true) (eB (aj (a:=Rw.w []) (ph':=H) rfl rfl))) (tB (op (l0 rfl) rfl (yO _ _ H)))) rfl),Ex.refl _⟩
 | cons p0 r=>
  have hZ:∀{σ:aG} {K:PH},af 0 σ=aD (Rw.w (p0::r))->ah aE (af 0) {0} σ K=.ok p0.w K:=λ{σ K} h=>op (by rw[h];rfl) rfl (by rw[Rw.w,qI,ace,yd];rfl)
  have a1:bi (cF (de (bW (cN "tuple" (af 0)))) (eT (ah bo (aR bz (ag (af 0) ai)) {0}))) (aO (eC (.bl false))) bt [O (Rw.w (p0::r)),↥n,Z] H=.ok (.nx [O (Rw.w (p0::r)),↥n,Z]) H:=
   aK (oF (cL (c:=true) (eB (aj (a:=Rw.w (p0::r)) (ph':=H) rfl rfl))) (tB ((op (l0 rfl) rfl (yO _ _ H)).trans (by rw[aX (by rw[abP];omega)])))) rfl
  cases p0 with
  | n i=>exact⟨H,bq (ph1:=H) a1 (bT (bh (oT (cL (c:=false) (eB (aj (hZ rfl) rfl)))) rfl)),Ex.refl _⟩
  | t=>exact⟨H,bq (ph1:=H) a1 (bT (bh (oT (cL (c:=false) (eB (aj (hZ rfl) rfl)))) rfl)),Ex.refl _⟩
  | s h=>
   have cR:eT (B6 gX (ah aE (af 0) {0})) [O (Rw.w (.s h::r)),↥n,Z] H=.ok (!(formOf h).isSome) H:=by
    refine tB (aj (hZ rfl) ?_);show Out.ok (W.bl (!(iL (tx h) gX).isSome)) H=_;rw[Kv,afn]
   have s1:cN "str" (ah aE (af 0) {0}) [O (Rw.w (.s h::r)),↥n,Z] H=.ok (.bl true) H:=aj (hZ rfl) rfl;show ∃H',_=Out.ok (W.bl (match formOf h with
    | some ks=>decide (↑r=↑ks)&&fits n ks r
    | none=>false)) H'/\_
   cases hf:formOf h with
   | none=>
    rw[hf] at cR;exact⟨H,bq (ph1:=H) a1 (bT (bh (oF (cL (eB s1)) cR) rfl)),Ex.refl _⟩
   | some ks=>
    rw[hf] at cR
    dsimp only
    have DY:=pY hf;obtain⟨σ,aU⟩:∃σ:aG,σ=[O (Rw.w (.s h::r)),↥n,O (.kt (ks.map Kd.w))]:=⟨_,rfl⟩
    have a2:aM (uq gX (ah aE (af 0) {0})) (gN 2) [O (Rw.w (.s h::r)),↥n,Z] H=.ok (.nx σ) H:=(asg (Jx (hZ rfl) hf)).trans (by rw[aU];rfl);have l2:aR bz (ag (af 2) ai) σ H=.ok (.int (↑ks:Int)) H:=by
     rw[aU];refine aj (au rfl rfl) ?_;show Out.ok (W.int (((ks.map Kd.w).length:Nat):Int)) H=_;rw[abI]
    have tn:eT (ah ck (aR bz (ag (af 0) ai)) (ah addW (aR bz (ag (af 2) ai)) {1})) σ H=.ok (!decide (↑r=↑ks)) H:=by
     refine tB ((op (l0 (by rw[aU];rfl)) (ad l2 rfl) (Lk _ _ H)).trans ?_);rw[show decide ((((Pt.s h::r).length:Nat):Int)=(↑ks:Int)+1)=decide (↑r=↑ks) from decide_eq_decide.mpr (by rw[abP];omega)]
    by_cases bj:↑r=↑ks
    ·rw[aL bj] at tn ⊢;have hs:cm (af 0) (bA {1}) bJ σ H=.ok (.tup (r.map Pt.w)) H:=by
      rw[aU];exact tN (a:=.str (tx h)) rfl
     obtain⟨H1,e1,x1⟩:=ie (ks.zip r) kq (cap:=[Z,Z,O 1]) (g:=g8 2 [(gN 0),(gN 1)]) (c:=cu) (e:=aP sP (ag (af 0) (ag (af 1) (ag (af 2) ai)))) (Kw (a:=af 2) (b:=cm (af 0) (bA {1}) bJ) (σ:=σ) (by rw[aU];rfl) hs) (λ_ _=>rfl) (small (by rw[aff];omega)) (λq=>O (.bl (q.1.fit n q.2))) (λσ=>∃o o',σ=[o,o',↥n]) ⟨Z,Z,by rw[aU];rfl⟩
      (λq hq σ K hS _=>by
       obtain⟨o,o',rfl⟩:=hS;obtain⟨K',e2,x2⟩:=PJ (hr q.2 (abN _ (afd hq).2)) q.1 n K;exact⟨_,rfl,⟨_,_,rfl⟩,true,K,rfl,Ex.refl _,.inr ⟨rfl,_,K',aj (au rfl (au rfl (au rfl rfl))) e2,x2,rfl⟩⟩)
     have hm:(ks.zip r).filterMap (λq=>O (W.bl (q.1.fit n q.2)))=((ks.zip r).map λq=>q.1.fit n q.2).map W.bl:=by rw[acz];exact congrFun afX _
     rw[hm] at x1;refine⟨H1,bq (ph1:=H) a1 (bq (ph1:=H) (aK (oF (cL (eB s1)) cR) rfl) (bq (ph1:=H) a2 (bq (ph1:=H) (aK tn rfl) (br (aj (au e1 rfl) ((Bf (x1.get (bp _ _))).trans ?_)))))),(Ex.one _ _).trans x1⟩;rw[List.all_map,ade];rfl
    ·rw[aX bj] at tn ⊢;exact⟨H,bq (ph1:=H) a1 (bq (ph1:=H) (aK (oF (cL (eB s1)) cR) rfl) (bq (ph1:=H) a2 (bT (bh tn rfl)))),Ex.refl _⟩
variable{x:XC}
theorem bx{m:Mo α}{f:α->Mo β}(h:m ph=.ex x ph1):ax m f ph=.ex x ph1:=by
 unfold ax;rw[h]
theorem rW{a b:SM}{k:Fl->Mo W}(h:a σ ph=.ex x ph1):ax (aC a b σ) k ph=.ex x ph1:=by
 rw[om,jJ];exact bx h
theorem DZ{a b:SM}(h:a σ ph=.ex x ph1):aC a b σ ph=.ex x ph1:=by
 rw[om];exact bx h
theorem Bm{c fl:Str}{w:W}(h:m σ ph=.ok w ph1)(hw:zv w=true):kY c fl m σ ph=.ex ⟨c,[(fl,w)]⟩ ph1:=by
 unfold kY;refine aj h ?_;rw[if_pos hw];rfl
theorem YU{tb:List (Str×Bool)}{b h:SM}{w:W}(e1:b σ ph=.ex x ph1)(ht:tb.lookup x.cls=O true)(e2:h ((abS σ.length Z).set i (O (.exc x.cls (x.fs.map (·.1)) (x.fs.map (·.2))))) ph1=.ok (.rt w) ph2):mD tb i b h σ ph=.ok (.rt w) ph2:=by
 unfold mD;rw[e1];show(if tb.lookup x.cls=O true then _ else _)=_;rw[if_pos ht];unfold rM;rw[cc e2];rfl
theorem aal{c f:Str}{v:W}(ph:PH):lift (vD c f (.exc c [f] [v])) ph=.ok v ph:=by
 have e:vD c f (.exc c [f] [v]) ph=O (v,ph):=by
  unfold vD;exact if_pos ⟨rfl,rfl⟩
 unfold lift;rw[e]
theorem HX{chk:PH->Bool}{g:GM}{b:SM}(I:Nat->aG->PH->Prop)(P:XC->PH->Prop):∀(items:aw) (k m:Nat) (σ:aG) (ph:PH),
  (∀j σ ph,I j σ ph->chk ph=true) →
  (∀j x σ ph,j<m->items[j]? =O x->I (k+j) σ ph->∃σ1 ph1,g x σ ph=.ok σ1 ph1/\∃bE ph2,b σ1 ph1=.ok (.nx bE) ph2/\I (k+j+1) bE ph2) →
  (∃x,items[m]? =O x/\∀σ ph,I (k+m) σ ph->∃σ1 ph1,g x σ ph=.ok σ1 ph1/\∃e ph2,b σ1 ph1=.ex e ph2/\P e ph2) →
  I k σ ph->∃e ph',dG chk g b items σ ph=.ex e ph'/\P e ph'
 | [],k,m,σ,ph,hc,hs,he,h0=>by
  obtain⟨x,hx,_⟩:=he;simp at hx
 | x::xs,k,0,σ,ph,hc,hs,he,h0=>by
  obtain⟨y,hy,hr⟩:=he;cases hy;obtain⟨σ1,ph1,e1,e,ph2,e2,hP⟩:=hr σ ph h0;refine⟨e,ph2,?_,hP⟩;unfold dG;rw[if_pos (hc _ _ _ h0),cc e1];exact bx e2
 | x::xs,k,m+1,σ,ph,hc,hs,he,h0=>by
  obtain⟨σ1,ph1,e1,bE,ph2,e2,hI⟩:=hs 0 x σ ph (Nat.succ_pos _) rfl h0;have e:dG chk g b (x::xs) σ ph=dG chk g b xs bE ph2:=by
   conv=>lhs;unfold dG
   rw[if_pos (hc _ _ _ h0),cc e1,cc e2]
  rw[e];obtain⟨y,hy,hr⟩:=he;exact HX I P xs (k+1) m bE ph2 hc (λj y σ ph hj hx hI=>by
   have:=hs (j+1) y σ ph ∅ (by simpa using hx) (by rw[show k+(j+1)=k+1+j by omega];exact hI);rw[show k+(j+1)+1=k+1+j+1 by omega] at this;exact this) ⟨y,by simpa using hy,λσ ph hI=>hr σ ph (by rw[show k+(m+1)=k+1+m by omega];exact hI)⟩ hI
theorem WT{MS:List Nm}{a:Nm}(h:H[i]? =O (.lst (MS.map aq)))(nk:∀b∈MS,dH b)(na:dH a):lift (fc (aq a) (.ref i)) H=.ok (.bl (!decide (a∈MS))) H:=by
 have e:aT (dat H 40) (MS.map aq)=O (MS.map λb=>aha (tx b)):=by
  clear h
  induction MS with
  | nil=>rfl
  | cons b MS ih=>exact mc (jO (nk b (by simp)) H 40) (ih λc hc=>nk c (abN _ hc))
 rw[Qz h e (jO na H 40),aiP]
 congr 3
 rw[aei,aep,decide_eq_true_eq];constructor
 ·rintro⟨b,hb,q⟩;simp only[ahr,qH,decide_eq_true_eq] at q;exact ko q▸hb
 ·intro hk;exact⟨a,hk,by simp only[ahr,qH,decide_true]⟩
noncomputable def pick(k:Kd):Rw->List Pt
 | .s h::r=>match formOf h with
  | some ks=>((ks.zip r).filter λq=>decide (q.1=k)).map (·.2)
  | none=>[]
 | _=>[]
theorem k9(h:c6 n r=true):∃hd ps ks,r=.s hd::ps/\formOf hd=O ks/\↑ps=↑ks/\fits n ks ps=true:=by
 cases r with
 | nil=>cases h
 | cons p r=>
  cases p with
  | n i=>cases h
  | t=>cases h
  | s hd=>
   unfold c6 at h
   dsimp only at h
   cases hf:formOf hd with
   | none=>rw[hf] at h;cases h
   | some ks=>
    rw[hf] at h;simp only[abK,decide_eq_true_eq] at h;exact⟨hd,r,ks,rfl,hf,h.1,h.2⟩
theorem qh{hd:Nm}{ps:Rw}(hf:formOf hd=O ks)(k:Kd):pick k (.s hd::ps)=((ks.zip ps).filter λq=>decide (q.1=k)).map (·.2):=by
 unfold pick
 dsimp only
 rw[hf]
theorem AY(h:c6 n r=true)(k:Kd):∀p∈pick k r,k.fit n p=true:=by
 obtain⟨hd,ps,ks,rfl,hf,hl,hx⟩:=k9 h;rw[qh hf];intro p hp;obtain⟨q,hq,rfl⟩:=ach.mp hp;rw[afK,decide_eq_true_eq] at hq;unfold fits at hx;rw[acA] at hx;rw[<- hq.2];exact hx q hq.1
theorem HY(h:c6 n r=true)(k:Kd)(H:PH):∃H',nW [Rw.w r,k.w] H=.ok (.ref ↑H) H'/\Ex (H++[.lst ((pick k r).map Pt.w)]) H':=by
 obtain⟨hd,ps,ks,rfl,hf,hl,hx⟩:=k9 h;have DY:=pY hf;have hZ:ah aE (af 0) {0} [O (Rw.w (.s hd::ps)),O k.w] H=.ok (.str (tx hd)) H:=op rfl rfl (by rw[Rw.w,qI,ace,yd];rfl);have hs:cm (af 0) (bA {1}) bJ [O (Rw.w (.s hd::ps)),O k.w] H=.ok (.tup (ps.map Pt.w)) H:=tN (a:=.str (tx hd)) rfl;obtain⟨H1,e1,x1⟩:=ie (ks.zip ps) kq (cap:=[Z,Z,O 1]) (g:=g8 2 [(gN 0),(gN 1)]) (c:=eT (ah bo (af 0) (af 2))) (e:=af 1) (Kw (Jx hZ hf) hs) (λ_ _=>rfl) (small (by rw[aff];omega)) (λq=>if decide (q.1=k)=true then O q.2.w else Z) (λσ=>∃o o',σ=[o,o',O k.w]) ⟨Z,Z,rfl⟩
  (λq hq σ K hS _=>by
   obtain⟨o,o',rfl⟩:=hS;refine⟨_,rfl,⟨_,_,rfl⟩,decide (q.1=k),K,tB (op (x:=q.1.w) (y:=k.w) rfl rfl ?_),Ex.refl _,?_⟩
   ·unfold Kd.w;rw[B5,show decide (q.1.s=k.s)=decide (q.1=k) from decide_eq_decide.mpr ⟨λz=>by cases hq1:q.1 <;> cases k <;> rw[hq1] at z <;> first | rfl | exact absurd z (by decide),λz=>by rw[z]⟩];rfl
   ·cases decide (q.1=k) with
    | false=>exact .inl ⟨rfl,rfl⟩
    | true=>exact .inr ⟨rfl,_,K,rfl,Ex.refl _,rfl⟩)
 rw[wR (λq:Kd×Pt=>decide (q.1=k))] at x1;refine⟨H1,?_,by rw[qh hf,acz];exact x1⟩;unfold nW EH;rw[lE];exact br e1
noncomputable def Pt.nat:Pt->Nat
 | .n i=>i.toNat
 | _=>0
noncomputable def Pt.cs:Pt->Nm
 | .s cs=>cs
 | _=>[]
noncomputable def dS(r:Rw):cW:=(pick .dj r).map Pt.nat
noncomputable def cA(r:Rw):List Nm:=(pick .bM r).map Pt.cs
theorem WU{p:Pt}(h:p.pl n=true):p.w=.int p.nat/\p.nat<=n/\p=.n (p.nat:Int):=by
 cases p with
 | s cs=>cases h
 | t=>cases h
 | n i=>
  unfold Pt.pl at h;simp only[abK,decide_eq_true_eq] at h;have:((Pt.n i).nat:Int)=i:=afF h.2.1;refine⟨by rw[this];rfl,?_,by rw[this]⟩;have:=h.2.2;omega
theorem YV(h:c6 n r=true):(pick .dj r).map Pt.w=iw (dS r):=by
 unfold dS iw;rw[acz];exact adb λp hp=>(WU (AY h .dj p hp)).1
theorem t8{cs:Nm}(h:isNm cs=true):dH cs:=by
 unfold isNm at h;simp only[abK,decide_eq_true_eq,acA] at h;refine⟨h.1.1,h.1.2,λc hc=>?_⟩;have:=h.2 c hc;unfold eK at this;obtain⟨j,hj,rfl⟩:=ach.mp this;rw[adQ] at hj;exact⟨∅,∅⟩
theorem js{p:Pt}(h:p.nm=true):p=.s p.cs/\isNm p.cs=true:=by
 cases p with
 | s cs=>exact⟨rfl,h⟩
 | n i=>cases h
 | t=>cases h
theorem YW(h:c6 n r=true):(pick .bM r).map Pt.w=(cA r).map aq:=by
 unfold cA;rw[acz];refine adb λp hp=>?_
 rw[(js (AY h .bM p hp)).1];rfl
theorem BI(h:c6 n r=true):∀a∈cA r,dH a:=by
 intro a ha;obtain⟨p,hp,rfl⟩:=ach.mp ha;exact t8 (js (AY h .bM p hp)).2
theorem QY(h:c6 n r=true)(k:Kd):(pick k r).length<=4:=by
 obtain⟨hd,ps,ks,rfl,hf,hl,hx⟩:=k9 h;have DY:=pY hf;rw[qh hf,abI];refine abX (ahN _ _) ?_;rw[aff];omega
inductive Rv where
 | row (r:Rw) | pO (i:Nat)
noncomputable def Rv.w:Rv->W
 | .row r=>Rw.w r
 | .pO i=>.ref i
noncomputable def mT:Nm:=[116,117,114,110]
theorem HZ:abH "turn"=tx mT:=⋯
noncomputable def pg:Option Rv->Bool
 | some (.row (.s h::_))=>decide (h=mT)
 | _=>false
noncomputable def jb(R:List Rv)(p:Nat)(r:Rw):Bool:=(dS r).any λk=>decide (k<=p)&& !pg R[k]?
variable{v:Rv}
theorem Cf{R:List Rv}(h:R[k]? =O v):cJ (R.map Rv.w) (k:Int)=O v.w:=by
 rw[fq _ _ (by rw[abI];exact(abL.mp h).1),abQ,h];rfl
theorem GU:bg mT:=by unfold bg mT;decide
variable{ri:Nat}
theorem TK{p:Nat}{R:List Rv}(hR:H[ri]? =O (.lst (R.map Rv.w)))(hp:R[p]? =O (.row r))(hr:c6 n r=true)(hd:∀k,k<=p->∃h ps,R[k]? =O (.row (.s h::ps))/\bg h):∃H',r6 [.ref ri,.int p] H=.ok (.bl (jb R p r)) H'/\Ex H H':=by
 obtain⟨H1,e1,x1⟩:=HY hr .dj H;rw[YV hr] at x1;have g1:=x1.get (bp _ _);have y1:Ex H H1:=(Ex.one _ _).trans x1;have iA:cf (aP nW (ag (ah aE (af 0) (af 1)) (ag {"place"} ai))) [⇑ri,↥p,Z] H=.ok (iw (dS r),λq=>decide (q[↑H]? =O (.lst (iw (dS r))))) H1:=
  i5 (aj (au (op rfl rfl (iG hR (Cf hp))) (au rfl rfl)) e1) g1
 have key:=sX (chk:=λq=>decide (q[↑H]? =O (.lst (iw (dS r))))) (g:=gN 2) (b:=zY) (λw K=>w=.bl true/\Ex H1 K/\jb R p r=true) (λj σ K=>(∃o,σ=[⇑ri,↥p,o])/\Ex H1 K/\((dS r).take j).any (λk=>decide (k<=p)&& !pg R[k]?)=false) (iw (dS r)) 0 [⇑ri,↥p,Z] H1
  (λ_ _ _ h=>aL (h.2.1.get g1)) (λj x σ K hj hI=>by
   rw[adE] at hI ⊢;obtain⟨⟨o,rfl⟩,y,ha⟩:=hI;obtain⟨k,hk,rfl⟩:=WH hj;refine⟨_,_,rfl,?_⟩;have tk:(dS r).take (j+1)=(dS r).take j++[k]:=by rw[adO,hk];rfl
   unfold zY;have fJ:d9 (eT (ah d7 (af 2) (af 1))) (eT (ah ck (ah aE (ah aE (af 0) (af 2)) {0}) {"turn"})) [⇑ri,↥p,↥k] K=.ok (decide (k<=p)&& !pg R[k]?) K:=by
    have t1:eT (ah d7 (af 2) (af 1)) [⇑ri,↥p,↥k] K=.ok (decide (k<=p)) K:=by
     refine tB ((op rfl rfl (lI _ _ K)).trans ?_);rw[show decide ((k:Int)<=(p:Int))=decide (k<=p) from decide_eq_decide.mpr ∅]
    by_cases h:k<=p
    ·rw[aL h] at t1 ⊢;obtain⟨hh,ps,e,CV⟩:=hd k h;refine tT t1 (tB ((op (x:=.str (tx hh)) (y:=.str "turn") (ph1:=K) (r:=.ok (.bl (!decide (hh=mT))) K) (op (x:=Rw.w (.s hh::ps)) (y:=.int 0) (ph1:=K) (op rfl rfl (iG (y.get (y1.get hR)) (Cf e))) rfl (by rw[Rw.w,qI,ace,yd];rfl)) rfl (by rw[HZ];exact yk CV GU K)).trans ?_));rw[e];rfl
    ·rw[aX h] at t1 ⊢;exact tF t1
   cases hb:decide (k<=p)&& !pg R[k]? with
   | false=>
    rw[hb] at fJ;exact⟨_,K,aK fJ rfl,.inl ⟨_,.inl rfl,⟨_,rfl⟩,y,by rw[tk,List.any_append,ha,acO,hb];rfl⟩⟩
   | true=>
    rw[hb] at fJ;refine⟨_,K,bh fJ rfl,.inr ⟨_,rfl,rfl,y,?_⟩⟩;unfold jb;rw[aep];exact⟨k,abY hk,hb⟩) ⟨⟨Z,rfl⟩,Ex.refl _,rfl⟩
 unfold r6 Es;rw[lE]
 rcases key with⟨ao,H2,e2,⟨o,rfl⟩,x2,ha⟩ | ⟨w,H2,e2,rfl,x2,hj⟩
 ·rw[adE,xO,aeq] at ha;refine⟨H2,bq (gf iA e2) (br ?_),y1.trans x2⟩;rw[show jb R p r=false from ha];rfl
 ·rw[hj];exact⟨H2,bT (gf iA e2),y1.trans x2⟩
noncomputable def b8(M:List Nm)(a:Nm):List Nm:=if a∈M then M else M++[a]
theorem QZ(M:List Nm)(a:Nm):(b8 M a).length<=↑M+1/\↑M<=(b8 M a).length:=by
 unfold b8;split
 ·omega
 ·rw[acg];simp
theorem td:∀(l M:List Nm),(l.foldl b8 M).length<=↑M+↑l/\↑M<=(l.foldl b8 M).length
 | [],M=>⟨abO _,abO _⟩
 | a::l,M=>by
  have h1:=td l (b8 M a);have h2:=QZ M a;rw[aej,abP];omega
variable{M:List Nm}
theorem Q0{a b:Nm}(h:b∈b8 M a):b∈M\/b=a:=by
 unfold b8 at h;split at h
 ·exact .inl h
 ·rcases acG.mp h with z | z
  ·exact .inl z
  ·exact .inr (ack.mp z)
theorem xk{b:Nm}:∀{l M:List Nm},b∈l.foldl b8 M->b∈M\/b∈l
 | [],M,h=>.inl h
 | a::l,M,h=>by
  rw[aej] at h
  rcases xk h with z | z
  ·rcases Q0 z with y | y
   ·exact .inl y
   ·exact .inr (by rw[y];simp)
  ·exact .inr (abN _ z)
theorem WV{MS:List Nm}(hM:H[ni]? =O (.lst (MS.map aq)))(nk:∀a∈MS,dH a)(hl:MS.length<=100)(hr:c6 n r=true):∃(i:Nat) (H':PH),si [Rw.w r,.ref ni] H=.ok (.ref i) H'/\Ex H H'/\H'[i]? =O (.lst (((cA r).foldl b8 MS).map aq)):=by
 obtain⟨H1,eW⟩:∃H1,H1=H++[PO.lst (MS.map aq)]:=⟨_,rfl⟩
 have x1:Ex H H1:=eW▸Ex.one _ _;have g1:H1[↑H]? =O (.lst (MS.map aq)):=by rw[eW];exact bp _ _
 have dJ:↑H1=↑H+1:=by rw[eW];simp
 have h4:(cA r).length<=4:=by unfold cA;rw[abI];exact QY hr .bM
 obtain⟨H2,e2,x2⟩:=HY hr .bM H1;rw[YW hr] at x2;have g2:=x2.get (bp _ _);have y2:Ex H1 H2:=(Ex.one _ _).trans x2;have iA:cf (aP nW (ag (af 0) (ag {"name"} ai))) [O (Rw.w r),⇑ni,⇑↑H,Z] H1=.ok ((cA r).map aq,λq=>decide (q[↑H1]? =O (.lst ((cA r).map aq)))) H2:=i5 (aj (au rfl (au rfl rfl)) e2) g2;obtain⟨ao,H3,e3,⟨o,rfl⟩,x3,g3,g4⟩:=kj (chk:=λq=>decide (q[↑H1]? =O (.lst ((cA r).map aq)))) (g:=gN 3) (b:=z6) (λj σ K=>(∃o,σ=[O (Rw.w r),⇑ni,⇑↑H,o])/\Ex H K/\K[↑H]? =O (.lst ((((cA r).take j).foldl b8 MS).map aq))/\K[↑H1]? =O (.lst ((cA r).map aq))) ((cA r).map aq) [O (Rw.w r),⇑ni,⇑↑H,Z] H2
  (λ_ _ _ h=>aL h.2.2.2) (λj x σ K hj hI=>by
   obtain⟨⟨o,rfl⟩,y,gm,gk⟩:=hI;rw[abQ] at hj;obtain⟨a,ha,rfl⟩:=abU.mp hj;obtain⟨M,zM⟩:∃M,M=((cA r).take j).foldl b8 MS:=⟨_,rfl⟩
   have tk:((cA r).take (j+1)).foldl b8 MS=b8 M a:=by rw[adO,ha,aeL,<- zM];rfl
   rw[<- zM] at gm;have nkM:∀b∈M,dH b:=λb hb=>by
    rw[zM] at hb
    rcases xk hb with z | z
    ·exact nk b z
    ·exact BI hr b (acH z)
   have hlM:↑M<=200:=by
    have:=(td ((cA r).take j) MS).1;rw[acw] at this;rw[zM];omega
   refine⟨_,_,rfl,?_⟩;unfold z6;have fJ:eT (ah fc (af 3) (af 2)) [O (Rw.w r),⇑ni,⇑↑H,O (aq a)] K=.ok (!decide (a∈M)) K:=tB (op rfl rfl (WT gm nkM (BI hr a (abY ha))));rw[tk];unfold b8;by_cases h:a∈M
   ·rw[aL h] at fJ;rw[if_pos h];exact⟨_,K,aK fJ rfl,_,.inl rfl,⟨_,rfl⟩,y,gm,gk⟩
   ·rw[aX h] at fJ;rw[if_neg h];exact⟨_,_,bh fJ (l8 rfl ⟨_,gm⟩ rfl gm (by rw[abI];omega)),_,.inl rfl,⟨_,rfl⟩,Ex.set y (abO _) _,(ku gm).trans (by rw[adk];rfl),(oE ∅).trans gk⟩) ⟨⟨Z,rfl⟩,x1.trans y2,y2.get g1,g2⟩
 rw[abI,aeq] at g3;refine⟨↑H,H3,?_,x3,g3⟩;unfold si EI;rw[lE];refine bq (ph1:=H1) (σ1:=[O (Rw.w r),⇑ni,⇑↑H,Z]) ?_ (bq (gf iA e3) (br rfl));rw[eW];exact asg (aj (au rfl rfl) (F1 hM))
noncomputable def Rv.ok(H:PH):Rv->Prop
 | .row r=>(∀p∈r,p.ok)/\↑r<=1000000
 | .pO i=>∃ws,H[i]? =O (.lst ws)
theorem Rv.ok.mono{K:PH}(h:v.ok H)(x:Ex H K):v.ok K:=by
 cases v with
 | row r=>exact h
 | pO i=>obtain⟨ws,e⟩:=h;exact⟨ws,x.get e⟩
noncomputable def pj:Rv->List Nm
 | .row r=>cA r
 | .pO _=>[]
noncomputable def eh(R:List Rv)(j:Nat):List Nm:=((R.take j).flatMap pj).foldl b8 []
theorem Ox{R:List Rv}(h:R[j]? =O v):eh R (j+1)=(pj v).foldl b8 (eh R j):=by
 unfold eh;rw[adO,h];simp[agB,aeL]
noncomputable def kc(R:List Rv)(j:Nat):Bool:=match R[j]? with
 | some (.row r)=>c6 ↑R r&& !jb R j r
 | _=>false
noncomputable def gO(R:List Rv)(j:Nat):Prop:=kc R j=true/\(eh R (j+1)).length<=12
noncomputable def XB(w:W):XC:=⟨"BadProgram",[("at",w)]⟩
theorem mH{R:List Rv}(h:kc R j=true):∃r,R[j]? =O (.row r)/\c6 ↑R r=true/\jb R j r=false:=by
 unfold kc at h;split at h
 ·rename_i r e;simp only[abK,ahe] at h;exact⟨r,e,h.1,h.2⟩
 ·cases h
theorem Q1{R:List Rv}(h:∀k,k<j->kc R k=true):∀a∈eh R j,dH a:=by
 intro a ha;unfold eh at ha
 rcases xk ha with z | z
 ·cases z
 ·obtain⟨v,hv,D0⟩:=List.mem_flatMap.mp z;obtain⟨k,hk,e⟩:=adi hv;rw[acw] at hk;obtain⟨r,e1,h1,_⟩:=mH (h k ∅);rw[List.getElem_take] at e;have:R[k]? =O v:=by rw[<- e];exact acn ∅
  rw[this] at e1;cases e1;exact BI h1 a D0
theorem WW{n:Int}(h:H[i]? =O (.lst ws)):n8 [.ref i,.int n] H=.ok (.bl false) H:=by
 unfold n8 AU;rw[lE];exact bT (bh (oT (cL (c:=false) (eB (aj (a:=.ref i) (ph':=H) rfl ((tV h).trans rfl))))) rfl)
theorem AA{R:List Rv}(hR:H[ri]? =O (.lst (R.map Rv.w)))(hj:R[j]? =O v)(hv:∀w∈R,Rv.ok H w)(hb:∀k,k<j->gO R k)(hM:H[ni]? =O (.lst ((eh R j).map aq)))(hn:↑R<=60):(gO R j->∃i H',nV [⇑ri,⇑ni,↥j,O v.w] H=.ok (.nx [⇑ri,⇑i,↥j,O v.w]) H'/\Ex H H'/\H'[i]? =O (.lst ((eh R (j+1)).map aq)))/\(¬gO R j->∃H',nV [⇑ri,⇑ni,↥j,O v.w] H=.ex (XB (.int j)) H'/\Ex H H'):=by
 have abD:j<↑R:=(abL.mp hj).1;have cY:zv (.int j)=true:=aL ∅;have len:aR bz (ag (af 0) ai) [⇑ri,⇑ni,↥j,O v.w] H=.ok (.int (↑R:Int)) H:=aj (au rfl rfl) ((jL hR).trans (by rw[abI]));have D1:∀K,kY "BadProgram" "at" (af 2) [⇑ri,⇑ni,↥j,O v.w] K=.ex (XB (.int j)) K:=λK=>Bm rfl cY
 unfold nV;cases v with
 | pO i=>
  obtain⟨ws,e⟩:=hv _ (abY hj);refine⟨λh=>?_,λ_=>⟨H,DZ (bh (oT (cL (c:=false) (eB (aj (au rfl (au len rfl)) (WW e))))) (D1 H)),Ex.refl _⟩⟩;obtain⟨r,e1,_⟩:=mH h.1;rw[hj] at e1;cases e1
 | row r=>
  obtain⟨zN,pG⟩:=hv _ (abY hj);obtain⟨H1,f1,z1⟩:=QX zN pG ↑R H;cases pq:c6 ↑R r with
  | false=>
   rw[pq] at f1;refine⟨λh=>?_,λ_=>⟨H1,DZ (bh (oT (cL (c:=false) (eB (aj (au rfl (au len rfl)) f1)))) (D1 H1)),z1⟩⟩;obtain⟨r',e1,h1,_⟩:=mH h.1;rw[hj] at e1;cases e1;rw[pq] at h1;cases h1
  | true=>
   rw[pq] at f1;obtain⟨H2,f2,z2⟩:=TK (H:=H1) (z1.get hR) hj pq (λk hk=>by
    by_cases h:k=j
    ·subst h;obtain⟨hd,ps,ks,rfl,_⟩:=k9 pq;exact⟨hd,ps,hj,(zN (.s hd) (by simp)).1⟩
    ·obtain⟨r',e1,h1,_⟩:=mH (hb k ∅).1;obtain⟨hd,ps,ks,rfl,_⟩:=k9 h1;exact⟨hd,ps,e1,((hv _ (abY e1)).1 (.s hd) (by simp)).1⟩)
   have vU:kc R j= !jb R j r:=by
    unfold kc;rw[hj];simp only[pq,ade]
   cases MJ:jb R j r with
   | true=>
    rw[MJ] at f2 vU;refine⟨λh=>?_,λ_=>⟨H2,DZ (bh (oF (cL (c:=true) (eB (aj (au rfl (au len rfl)) f1))) (eB (aj (au rfl (au rfl rfl)) f2))) (D1 H2)),z1.trans z2⟩⟩;rw[h.1] at vU;cases vU
   | false=>
    rw[MJ] at f2 vU;have Ll:(eh R j).length<=12:=by
     cases j with
     | zero=>exact adH _
     | succ k=>exact(hb k ∅).2
    obtain⟨i,H3,f3,z3,g3⟩:=WV (H:=H2) (z2.get (z1.get hM)) (Q1 λk hk=>(hb k hk).1) ∅ pq;have es:eh R (j+1)=(cA r).foldl b8 (eh R j):=Ox hj;rw[<- es] at g3;have hl:eT (ah gF (aR bz (ag (af 1) ai)) {12}) [⇑ri,⇑i,↥j,O (Rw.w r)] H3=.ok (decide (12<(eh R (j+1)).length)) H3:=by
     refine tB ((op (aj (au (w:=.ref i) rfl rfl) ((jL g3).trans (by rw[abI]))) rfl (nz _ _ H3)).trans ?_);rw[show decide (((eh R (j+1)).length:Int)>12)=decide (12<(eh R (j+1)).length) from decide_eq_decide.mpr ∅]
    have a1:bi (cF (de (bW (aP n8 (ag (af 3) (ag (aR bz (ag (af 0) ai)) ai))))) (bW (aP r6 (ag (af 0) (ag (af 2) ai))))) (kY "BadProgram" "at" (af 2)) bt [⇑ri,⇑ni,↥j,O (Rw.w r)] H=.ok (.nx [⇑ri,⇑ni,↥j,O (Rw.w r)]) H2:=
     aK (oF (cL (c:=true) (eB (aj (au rfl (au len rfl)) f1))) (eB (aj (au rfl (au rfl rfl)) f2))) rfl
    have a2:aM (aP si (ag (af 3) (ag (af 1) ai))) (gN 1) [⇑ri,⇑ni,↥j,O (Rw.w r)] H2=.ok (.nx [⇑ri,⇑i,↥j,O (Rw.w r)]) H3:=asg (aj (au rfl (au rfl rfl)) f3);refine⟨λh=>⟨i,H3,sq a1 (sq a2 (aK (hl.trans (by rw[aX (by have:=h.2;omega)])) rfl)),(z1.trans z2).trans z3,g3⟩,λh=>⟨H3,sq a1 (sq a2 (bh (hl.trans (by rw[aL (Nat.lt_of_not_le λz=>h ⟨vU,z⟩)])) (Bm rfl cY))),(z1.trans z2).trans z3⟩⟩
noncomputable def NI(H:PH)(ri:Nat)(R:List Rv)(j:Nat)(σ:aG)(K:PH):Prop:=∃(ni:Nat) (o2 o3:dO),σ=[⇑ri,⇑ni,o2,o3]/\Ex H K/\K[ni]? =O (.lst ((eh R j).map aq))
theorem D2(R:List Rv){w:W}(h:(fS (R.map Rv.w))[j]? =O w):∃v,R[j]? =O v/\w=.tup [.int j,v.w]:=by
 obtain⟨x,h1,h2⟩:=Hx h;rw[abQ] at h1;obtain⟨r,hr,rfl⟩:=abU.mp h1;exact⟨r,hr,h2⟩
theorem YX{R:List Rv}(h:R[j]? =O v):(fS (R.map Rv.w))[j]? =O (.tup [.int j,v.w]):=by
 have hl:j<(fS (R.map Rv.w)).length:=by rw[Hy,abI];exact(abL.mp h).1
 obtain⟨w,hw⟩:=iM hl;obtain⟨v',h1,rfl⟩:=D2 R hw;rw[h] at h1;cases h1;exact hw
theorem F3{us:aw}{o:Out W}(h:H[ri]? =O (.lst us))(hl:↑us<=60)(h2:ax (aC (ei (mR (ag (af 0) ai)) (g8 2 [(gN 2),(gN 3)]) nV) (aO (af 1)) [⇑ri,⇑↑H,Z,Z]) fw (H++[.lst []])=o):ib [.ref ri] H=o:=by
 unfold ib Ac;rw[dh];refine bq (ph1:=H) (aK (oF (cL (c:=true) (eB (aj rfl (tV h)))) (tB ((op (aj (au rfl rfl) (jL h)) rfl (nz _ _ H)).trans (by rw[aX ∅])))) rfl) (bq (ph1:=H++[.lst []]) (σ1:=[⇑ri,⇑↑H,Z,Z]) (asg (w:=.ref ↑H) rfl) h2)
theorem TN{us:aw}{K:PH}(h:K[i]? =O (.lst us))(hl:60<↑us):ib [.ref i] K=.ex (XB .ay) K:=by
 unfold ib Ac;rw[dh];exact rW (bh (oF (cL (c:=true) (eB (aj rfl (tV h)))) (tB ((op (aj (au rfl rfl) (jL h)) rfl (nz _ _ K)).trans (by rw[aL ∅])))) (Bm rfl rfl))
theorem Ia{R:List Rv}(hR:H[ri]? =O (.lst (R.map Rv.w)))(hv:∀w∈R,Rv.ok H w)(hn:↑R<=60)(hf:∀j,j<↑R->gO R j):∃w H',ib [.ref ri] H=.ok w H'/\Ex H H':=by
 have x1:Ex H (H++[PO.lst []]):=Ex.one _ _;obtain⟨ao,H2,e2,ni,o2,o3,rfl,x2,g2⟩:=kj (chk:=λp=>decide (p[ri]? =O (.lst (R.map Rv.w)))) (g:=g8 2 [(gN 2),(gN 3)]) (b:=nV) (NI H ri R) (fS (R.map Rv.w)) [⇑ri,⇑↑H,Z,Z] (H++[.lst []])
  (λ_ _ _ h=>by obtain⟨_,_,_,_,q,_⟩:=h;exact aL (q.get hR)) (λj x σ K hj hI=>by
   obtain⟨ni,o2,o3,rfl,y,gm⟩:=hI;obtain⟨v,zO,rfl⟩:=D2 R hj;have j1:=(abL.mp zO).1;obtain⟨i,K',a1,a2,a3⟩:=(AA (y.get hR) zO (λw hw=>(hv w hw).mono y) (λk hk=>hf k ∅) gm hn).1 (hf j j1);exact⟨[⇑ri,⇑ni,↥j,O v.w],K,rfl,_,K',a1,_,.inl rfl,i,_,_,rfl,y.trans a2,a3⟩) ⟨↑H,Z,Z,rfl,x1,bp _ _⟩
 exact⟨.ref ni,H2,F3 hR (by rw[abI];exact hn) (bq (gf (Aw rfl (x1.get hR)) e2) (br rfl)),x2⟩
theorem GV{m:Nat}{R:List Rv}(hR:H[ri]? =O (.lst (R.map Rv.w)))(hv:∀w∈R,Rv.ok H w)(hn:↑R<=60)(hm:m<↑R)(hf:∀j,j<m->gO R j)(hb:¬gO R m):∃H',ib [.ref ri] H=.ex (XB (.int m)) H'/\Ex H H':=by
 have x1:Ex H (H++[PO.lst []]):=Ex.one _ _;obtain⟨v0,MK⟩:=iM hm;obtain⟨e,H2,e2,rfl,x2⟩:=HX (chk:=λp=>decide (p[ri]? =O (.lst (R.map Rv.w)))) (g:=g8 2 [(gN 2),(gN 3)]) (b:=nV) (NI H ri R) (λe K=>e=XB (.int m)/\Ex H K) (fS (R.map Rv.w)) 0 m [⇑ri,⇑↑H,Z,Z] (H++[.lst []])
  (λ_ _ _ h=>by obtain⟨_,_,_,_,q,_⟩:=h;exact aL (q.get hR)) (λj x σ K j9 hj hI=>by
   rw[adE] at hI ⊢;obtain⟨ni,o2,o3,rfl,y,gm⟩:=hI;obtain⟨v,zO,rfl⟩:=D2 R hj;obtain⟨i,K',a1,a2,a3⟩:=(AA (y.get hR) zO (λw hw=>(hv w hw).mono y) (λk hk=>hf k ∅) gm hn).1 (hf j j9);exact⟨[⇑ri,⇑ni,↥j,O v.w],K,rfl,_,K',a1,i,_,_,rfl,y.trans a2,a3⟩) ⟨.tup [.int m,v0.w],YX MK,λσ K hI=>by
    obtain⟨ni,o2,o3,rfl,y,gm⟩:=hI;rw[adE] at gm;obtain⟨K',a1,a2⟩:=(AA (y.get hR) MK (λw hw=>(hv w hw).mono y) hf gm hn).2 hb;exact⟨[⇑ri,⇑ni,↥m,O v0.w],K,rfl,_,K',a1,rfl,y.trans a2⟩⟩ ⟨↑H,Z,Z,rfl,x1,bp _ _⟩
 exact⟨H2,F3 hR (by rw[abI];exact hn) (rW (gf (Aw rfl (x1.get hR)) e2)),x2⟩
noncomputable def kH(R:List Rv):Prop:=↑R<=60/\∀j,j<↑R->gO R j
theorem Q2{R:List Rv}(hR:H[ri]? =O (.lst (R.map Rv.w)))(hv:∀w∈R,Rv.ok H w):(kH R/\∃w H',ib [.ref ri] H=.ok w H'/\Ex H H')\/(¬kH R/\∃w H',ib [.ref ri] H=.ex (XB w) H'/\Ex H H'):=by
 by_cases hn:↑R<=60
 ·by_cases hf:∀j,j<↑R->gO R j
  ·exact .inl ⟨⟨hn,hf⟩,Ia hR hv hn hf⟩
  ·refine .inr ⟨λz=>hf z.2,?_⟩;have:∃m,m<↑R/\¬gO R m:=by
    refine aeD λz=>hf λj hj=>aeD λy=>z ⟨j,hj,y⟩
   have key:∀m,m<↑R->¬gO R m->∃m',m'<↑R/\¬gO R m'/\∀j,j<m'->gO R j:=by
    intro m
    induction m using Nat.strongRecOn with
    | _ m ih=>
     intro h1 h2;by_cases h:∀j,j<m->gO R j
     ·exact⟨m,h1,h2,h⟩
     ·obtain⟨j,hj,hj2⟩:∃j,j<m/\¬gO R j:=aeD λz=>h λj hj=>aeD λy=>z ⟨j,hj,y⟩
      exact ih j hj ∅ hj2
   obtain⟨m,h1,h2⟩:=this;obtain⟨m',a1,a2,a3⟩:=key m h1 h2;obtain⟨H',e,x⟩:=GV hR hv hn a1 a3 a2;exact⟨_,H',e,x⟩
 ·exact .inr ⟨λz=>hn z.1,_,H,TN hR (by rw[abI];omega),Ex.refl _⟩
open PySem L2 PySem.NumText PyProof.Rows
noncomputable def dec(m:Nat):Nm:=(ahO 10 m).map aiD
noncomputable def dE(i:Int):Nm:=if i<0 then 45::dec i.natAbs else dec i.natAbs
theorem Ar(m:Nat):AllDigits (dec m):=by
 intro c hc;obtain⟨ch,jw,e⟩:=ach.mp hc;have r:=digit_range (Nat.isDigit_of_mem_toDigits (by decide) (by decide) jw);rw[<- e];exact r
theorem Bo(m:Nat):digitsVal (dec m)=m:=_root_.PySem.W.KIN.val_back m
theorem dec_lt{m:Nat}(h:m<10):dec m=[48+m]:=by
 unfold dec;rw[Nat.toDigits_of_lt_base h];have:∀d:Nat,d<10->(Nat.digitChar d).toNat=48+d:=by decide
 rw[ace,this m h];rfl
theorem A0{m d:Nat}(hm:0<m)(hd:d<10):dec (10*m+d)=dec m++[48+d]:=by
 have t:ahO 10 m++ahO 10 d=ahO 10 (10*m+d):=Nat.toDigits_append_toDigits (by decide) hm hd;unfold dec;rw[<- t,adk]
 congr 1
 exact dec_lt hd
theorem Jy(m:Nat):∃c l,dec m=c::l/\(c=48->m=0):=by
 induction m using Nat.strongRecOn with
 | _ m ih=>
  by_cases h:m<10
  ·exact⟨_,_,dec_lt h,λz=>by omega⟩
  ·obtain⟨c,l,e,hc⟩:=ih (m / 10) ∅;have:m=10*(m / 10)+m % 10:=by omega
   rw[this,A0 ∅ ∅,e];exact⟨c,l++[48+m % 10],rfl,λz=>by have:=hc z;omega⟩
theorem Jz:∀(l:Nm) (a:Nat),a<=l.foldl (λacc c=>acc*10+(c-48)) a
 | [],a=>abO _
 | c::l,a=>by
  rw[aej];have:=Jz l (a*10+(c-48));omega
theorem Ib{c:Nat}(h:48<c):0<digitsVal (c::l):=by
 unfold digitsVal;rw[aej];have:=Jz l (0*10+(c-48));omega
theorem Q3(l:Nm)(c:Nat):digitsVal (l++[c])=10*digitsVal l+(c-48):=by
 unfold digitsVal;rw[aeL];show _*10+_=_;omega
noncomputable def ML(l:Nm):Prop:=l≠[]/\(l.head? =O 48->l=[48])
theorem Ic(m:Nat):ML (dec m):=by
 obtain⟨c,l,e,hc⟩:=Jy m;refine⟨by rw[e];simp,λh=>?_⟩;rw[e] at h;have:c=48:=by simpa using h
 rw[hc this];exact dec_lt (by decide)
theorem GW(n:Nat):∀l:Nm,↑l=n->AllDigits l->ML l->dec (digitsVal l)=l:=by
 induction n with
 | zero=>
  intro l hl _ hc;exact absurd (ahs.mp hl) hc.1
 | succ n ih=>
  intro l hl hd hc
  rcases List.eq_nil_or_concat l with e | ⟨es,d,e⟩
  ·rw[e] at hl;cases hl
  ·rw[e,List.concat_eq_append] at hl hd hc ⊢;have Mr:=hd d (by simp);rw[Q3];cases es with
   | nil=>
    rw[ahH,show digitsVal []=0 from rfl,dec_lt ∅]
    congr 1
    omega
   | cons c es=>
    have aam:c≠48:=λz=>by
     have:=hc.2 (by rw[z];rfl);simp at this
    have hcd:=hd c (by simp);have hp:=Ib (l:=es) (show 48<c by omega);rw[A0 hp ∅,ih (c::es) (by simpa using hl) (λx hx=>hd x (by simp at hx ⊢;rcases hx with z | z <;> simp[z])) ⟨by simp,λz=>by simp at z;exact absurd z aam⟩]
    congr 2
    omega
theorem TQ(i:Int):abH (toString i)=tx (dE i):=by
 rw[Bj (abH (toString i))]
 congr 1
 unfold dE;cases i with
 | ofNat m=>
  rw[if_neg (by simp)];exact _root_.PySem.W.KIN.signs_num m
 | negSucc m=>
  rw[if_pos (Int.negSucc_lt_zero m)];have e:toString (Int.negSucc m)="-"++toString (m+1):=rfl;rw[signs_ofString,e];have:=_root_.PySem.W.KIN.signs_num (m+1);rw[signs_ofString] at this;rw[String.toList_append,adk];show[45]++(toString (m+1)).toList.map aiD=45::dec (m+1);exact congrArg (List.cons 45) this
theorem Bp:∀(k m:Nat),m<10 ^ (k+1)->(dec m).length<=k+1
 | 0,m,h=>by
  rw[dec_lt (by simpa using h)];simp
 | k+1,m,h=>by
  by_cases hm:m<10
  ·rw[dec_lt hm];simp
  ·have e:m=10*(m / 10)+m % 10:=by omega
   rw[e,A0 ∅ ∅,acg];have:=Bp k (m / 10) (by rw[Nat.pow_succ] at h;omega);simp only[abP,acS];omega
theorem Q4{i:Int}(h:i.natAbs<10 ^ 10):(dE i).length<=11:=by
 have:=Bp 9 i.natAbs h;unfold dE;split
 ·rw[abP];omega
 ·omega
theorem xl(i:Int):∀c∈dE i,c=45\/(48<=c/\c<=57):=by
 intro c hc;unfold dE at hc;split at hc
 ·rcases abR.mp hc with z | z
  ·exact .inl z
  ·exact .inr (Ar _ c z)
 ·exact .inr (Ar _ c hc)
theorem Q5(i:Int):bg (dE i):=λc hc=>by
 have:=xl i c hc;omega
noncomputable def canon(cs:Nm):Bool:= !(decide ((bc cs).head? =O 48)&& !decide (cs=[48]))
theorem WX{cs:Nm}(h:cz cs=true):AllDigits (bc cs)/\bc cs≠[]/\(bc cs).length<=10:=by
 unfold cz at h;rw[abK,abK,decide_eq_true_eq,decide_eq_true_eq,tJ] at h;exact⟨h.2.2,λz=>by rw[z] at h;exact absurd h.1 (by decide),h.2.1⟩
theorem TR{cs:Nm}(h:neg cs=true):cs=45::bc cs:=by
 unfold bc;rw[if_pos h];unfold neg at h;cases cs with
 | nil=>simp at h
 | cons a l=>simp at h;rw[h];rfl
theorem Q6{cs:Nm}(h:cz cs=true):dE (eJ cs)=cs↔canon cs=true:=by
 obtain⟨hd,cT,hl⟩:=WX h;obtain⟨v,hv⟩:∃v,v=digitsVal (bc cs):=⟨_,rfl⟩
 unfold canon eJ;rw[ahe,Bool.and_eq_false_iff,decide_eq_false_iff_not,Bool.not_eq_false',decide_eq_true_eq,<- hv];by_cases hn:neg cs=true
 ·have e:=TR hn;rw[if_pos hn];have D3:¬cs=[48]:=λz=>by rw[z] at hn;exact absurd hn (by decide)
  by_cases h0:v=0
  ·rw[h0];constructor
   ·intro z;exfalso;have:dE (-((0:Nat):Int))=[48]:=by unfold dE;exact dec_lt (by decide)
    rw[this] at z;exact D3 z.symm
   ·rintro(z | z)
    ·exfalso
     obtain⟨c,l,ec⟩:=aft cT;have hc:=hd c (by rw[ec];simp);have:c≠48:=λy=>z (by rw[ec,y];rfl)
     have:=Ib (l:=l) (show 48<c by omega);rw[<- ec,<- hv] at this;omega
    ·exact absurd z D3
  ·have et:dE (-(v:Int))=45::dec v:=by
    unfold dE;rw[if_pos ∅,Int.natAbs_neg,Int.natAbs_natCast]
   rw[et];constructor
   ·intro z
    left
    intro y;have z2:dec v=bc cs:=by rw[e] at z;exact(ahk z).2
    have:=(Ic v).2 (by rw[z2];exact y);have MM:=Bo v;rw[this] at MM;exact h0 MM.symm
   ·rintro(z | z)
    ·rw[hv,GW _ (bc cs) rfl hd ⟨cT,λy=>absurd y z⟩];exact e.symm
    ·exact absurd z D3
 ·rw[if_neg hn];have e:bc cs=cs:=by unfold bc;rw[if_neg hn]
  have et:dE (v:Int)=dec v:=by
   unfold dE;rw[if_neg ∅,Int.natAbs_natCast]
  rw[et];rw[e] at hd cT hv ⊢;constructor
  ·intro z;by_cases y:cs.head? =O 48
   ·right
    have:=(Ic v).2 (by rw[z];exact y);rw[<- z,this]
   ·exact .inl y
  ·intro z;rw[hv];exact GW _ cs rfl hd ⟨cT,λy=>z.resolve_left λq=>q y⟩
theorem TU{i:Int}(h:i.natAbs<10 ^ 10):cz (dE i)=true/\eJ (dE i)=i:=by
 have hl:=Bp 9 i.natAbs h;obtain⟨c,l,e,_⟩:=Jy i.natAbs;have hd:=Ar i.natAbs;have hc:=hd c (by rw[e];simp);by_cases hi:i<0
 ·have e2:dE i=45::dec i.natAbs:=by unfold dE;rw[if_pos hi]
  have hn:neg (dE i)=true:=by rw[e2];rfl
  have hf:bc (dE i)=dec i.natAbs:=by unfold bc;rw[if_pos hn,e2];rfl
  refine⟨?_,?_⟩
  ·unfold cz;rw[hf,tJ.mpr hd,aL (by rw[e];simp),aL ∅];rfl
  ·unfold eJ;rw[if_pos hn,hf,Bo];omega
 ·have e2:dE i=dec i.natAbs:=by unfold dE;rw[if_neg hi]
  have hn:¬neg (dE i)=true:=by
   rw[e2,e];unfold neg;simp;omega
  have hf:bc (dE i)=dec i.natAbs:=by unfold bc;rw[if_neg hn,e2]
  refine⟨?_,?_⟩
  ·unfold cz;rw[hf,tJ.mpr hd,aL (by rw[e];simp),aL ∅];rfl
  ·unfold eJ;rw[if_neg hn,hf,Bo];omega
noncomputable def Pt.st:Pt->Nm
 | .s cs=>cs
 | .n i=>dE i
 | .t=>[]
noncomputable def Pt.cX:Pt->Prop
 | .s cs=>bg cs/\↑cs<=20
 | .n i=>i.natAbs<10 ^ 10
 | .t=>False
theorem xQ{p:Pt}(h:p.cX):p.st.length<=20:=by
 cases p with
 | s cs=>exact h.2
 | n i=>exact abX (Q4 h) (by decide)
 | t=>exact h.elim
theorem WY{p:Pt}(h:p.cX):bg p.st:=by
 cases p with
 | s cs=>exact h.1
 | n i=>exact Q5 i
 | t=>exact h.elim
theorem PK(h:k<10 ^ 10):k.log2<1920:=by
 by_cases h0:k=0
 ·rw[h0];decide
 ·exact aci ((Nat.log2_lt h0).mpr (aci h (by decide:10 ^ 10<=2 ^ 40))) (by decide)
theorem Kx{p:Pt}(h:p.cX)(H:PH):lift (pb [p.w]) H=.ok (.str (tx p.st)) H:=by
 cases p with
 | s cs=>rfl
 | t=>exact h.elim
 | n i=>
  unfold lift pb;simp only[Pt.w];rw[if_pos (PK h),TQ];rfl
variable{H1:PH}
theorem wW(h:m σ H=.ok (.tup ws) H1):cf m σ H=.ok (ws,λ_=>true) H1:=aj h rfl
theorem oG{α:Type}(f:α->Nat){B:Nat}:∀l:List α,(∀x∈l,f x<=B)->(l.map f).sum<=↑l*B
 | [],_=>adH _
 | a::l,h=>by
  have h1:=h a (by simp);have h2:=oG f l λx hx=>h x (abN _ hx)
  rw[ace,afU,abP,Nat.add_mul];omega
theorem TV{c:Nat}{s:String}(hs:abH s=tx [c]){ls:List Nm}(h:H[i]? =O (.lst (ls.map aq)))(hb:(ls.map (·.length)).sum+↑ls<=16777216):lift (dn (.str s) [.ref i]) H=.ok (.str (tx (dD c ls))) H:=by
 have e:aT strOf (ls.map aq)=O (ls.map tx):=n6 strOf aq tx (λ_=>rfl) ls;have e2:dn (.str (abH s)) [.ref i] H=O (.str (tx (dD c ls)),H):=by
  unfold dn;simp only[h,e];rw[if_pos,hs,HN];rw[acz,abI,hs,gJ];have:((λx:Str=>↑x)∘tx)=λl:Nm=>↑l:=funext λl=>gJ l
  rw[this]
  simpa using hb
 unfold lift;rw[e2]
theorem vV{e:EM}{c:Nat}{s:String}(hs:abH s=tx [c]){ls:List Nm}(he:e σ H=.ok (.ref i) H1)(h:H1[i]? =O (.lst (ls.map aq)))(hb:(ls.map (·.length)).sum+↑ls<=16777216):bL cy dn (eC (.str s)) (ag e ai) σ H=.ok (.str (tx (dD c ls))) H1:=by
 rw[qc];exact aj rfl (aj rfl (aj (au he rfl) (TV hs h hb)))
theorem yl:abH " "=tx [32]:=⋯
theorem oR:abH "\n"=tx [10]:=⋯
noncomputable def du(r:Rw):Nm:=dD 32 (r.map Pt.st)
theorem lc(f:α->β)(l:List α):l.filterMap (λx=>O (f x))=l.map f:=congrFun afX l
theorem WZ(hr:∀p∈r,p.cX)(hl:↑r<=10)(H:PH):∃H',sQ [Rw.w r] H=.ok (.str (tx (du r))) H'/\Ex H H':=by
 obtain⟨H1,e1,x1⟩:=ie r Pt.w (im:=cf (af 0)) (cap:=[Z]) (g:=gN 0) (c:=cu) (e:=aR pb (ag (af 0) ai)) (σ:=[O (Rw.w r)]) (ph0:=H) (wW rfl) (λ_ _=>rfl) (small ∅) (λp=>O (aq p.st)) (λσ=>∃o,σ=[o]) ⟨Z,rfl⟩
  (λp hp σ K hS _=>by
   obtain⟨o,rfl⟩:=hS;exact⟨_,rfl,⟨_,rfl⟩,true,K,rfl,Ex.refl _,.inr ⟨rfl,_,K,aj (au rfl rfl) (Kx (hr p hp) K),Ex.refl _,rfl⟩⟩)
 rw[lc] at x1;have hm:r.map (λp=>aq p.st)=(r.map Pt.st).map aq:=by rw[acz];rfl
 rw[hm] at x1;refine⟨H1,?_,(Ex.one _ _).trans x1⟩;unfold sQ FX;rw[dh];refine br (vV yl e1 (x1.get (bp _ _)) ?_);have:=oG (λl:Nm=>↑l) (B:=20) (r.map Pt.st) λx hx=>by
  obtain⟨p,hp,rfl⟩:=ach.mp hx;exact xQ (hr p hp)
 rw[abI] at this ⊢;omega
theorem qe(c:Nat):∀ls:List Nm,(dD c ls).length<=(ls.map (·.length)).sum+↑ls
 | []=>abO _
 | [p]=>by simp[dD]
 | p::q::r=>by
  have:=qe c (q::r);rw[dD,acg,abP];simp only[ace,afU,abP] at this ⊢;omega
theorem tf{c:Nat}(hc:c<128):∀{ls:List Nm},(∀l∈ls,bg l)->bg (dD c ls)
 | [],_=>λx hx=>nomatch hx
 | [p],h=>h p (by simp)
 | p::q::r,h=>by
  intro x hx;rw[dD] at hx
  rcases acG.mp hx with z | z
  ·exact h p (by simp) x z
  ·rcases abR.mp z with y | y
   ·omega
   ·exact tf hc (λl hl=>h l (abN _ hl)) x y
theorem PL(hr:∀p∈r,p.cX)(hl:↑r<=10):(du r).length<=210:=by
 have h1:=qe 32 (r.map Pt.st);have:=oG (λl:Nm=>↑l) (B:=20) (r.map Pt.st) λx hx=>by
  obtain⟨p,hp,rfl⟩:=ach.mp hx;exact xQ (hr p hp)
 rw[abI] at h1 this;unfold du;omega
theorem PM(hr:∀p∈r,p.cX):bg (du r):=tf (by decide) λl hl=>by
 obtain⟨p,hp,rfl⟩:=ach.mp hl;exact WY (hr p hp)
structure Wr(R:List Rw):Prop where
 f:∀r∈R,∀p∈r,p.cX
 l:∀r∈R,↑r<=10
 n:↑R<=100
noncomputable def gZ(R:List Rw):Nm:=dD 10 (R.map du)
variable{R:List Rw}
theorem AB(h:Wr R):((R.map du).map (·.length)).sum+(R.map du).length<=30000:=by
 have:=oG (λl:Nm=>↑l) (B:=210) (R.map du) λx hx=>by
  obtain⟨r,hr,rfl⟩:=ach.mp hx;exact PL (h.f r hr) (h.l r hr)
 have hn:=h.n;rw[abI] at this ⊢;omega
theorem PN(h:Wr R):(gZ R).length<=30000:=abX (qe 10 _) (AB h)
theorem F4(h:Wr R):bg (gZ R):=tf (by decide) λl hl=>by
 obtain⟨r,hr,rfl⟩:=ach.mp hl;exact PM (h.f r hr)
theorem F5(hR:H[ri]? =O (.lst (R.map Rw.w)))(h:Wr R):∃H',pW [.ref ri] H=.ok (.str (tx (gZ R))) H'/\Ex H H':=by
 obtain⟨H1,e1,x1⟩:=ie R Rw.w (im:=cf (af 0)) (cap:=[Z]) (g:=gN 0) (c:=cu) (e:=aP sQ (ag (af 0) ai)) (σ:=[⇑ri]) (ph0:=H) (i5 rfl hR) (λK x=>aL (x.get hR)) (small (by have:=h.n;omega)) (λr=>O (aq (du r))) (λσ=>∃o,σ=[o]) ⟨Z,rfl⟩
  (λr hr σ K hS _=>by
   obtain⟨o,rfl⟩:=hS;obtain⟨K',e,x⟩:=WZ (h.f r hr) (h.l r hr) K;exact⟨_,rfl,⟨_,rfl⟩,true,K,rfl,Ex.refl _,.inr ⟨rfl,_,K',aj (au rfl rfl) e,x,rfl⟩⟩)
 rw[lc] at x1;have hm:R.map (λr=>aq (du r))=(R.map du).map aq:=by rw[acz];rfl
 rw[hm] at x1;refine⟨H1,?_,(Ex.one _ _).trans x1⟩;unfold pW FY;rw[dh];exact br (vV oR e1 (x1.get (bp _ _)) (abX (AB h) (by decide)))
theorem TX{c:Nat}{s:String}(hs:abH s=tx [c])(hl:↑l<=100000):lift (fP (.str (tx l)) [.str s]) H=.ok (.ref ↑H) (H++[.lst ((bG c l).map aq)]):=by
 have e:fP (.str (tx l)) [.str (abH s)] H=O (.ref ↑H,H++[.lst ((bG c l).map aq)]):=by
  unfold fP;simp only[];have:=(mG c l).1;rw[hs,QS,if_pos,acz]
  ·rfl
  ·refine⟨rfl,?_,?_⟩
   ·rw[gJ];exact abX hl (by decide)
   ·rw[abI];exact abX this (abX (Nat.succ_le_succ hl) (by decide))
 unfold lift;rw[e]
theorem vW{e:EM}{c:Nat}{s:String}(hs:abH s=tx [c])(he:e σ H=.ok (.str (tx l)) H)(hl:↑l<=100000):bL cy fP e (ag (eC (.str s)) ai) σ H=.ok (.ref ↑H) (H++[.lst ((bG c l).map aq)]):=by
 rw[qc];exact aj he (aj rfl (aj (au rfl rfl) (TX hs hl)))
noncomputable def eZ(l:Nm):Rw:=(bG 32 l).map Pt.rd
noncomputable def eF(cs:Nm):List Rw:=if cs=[] then[] else(bG 10 cs).map eZ
theorem W0(ha:bg l)(hl:↑l<=100000)(H:PH):∃H',sI [.str (tx l)] H=.ok (Rw.w (eZ l)) H'/\Ex H H':=by
 have hc:=mG 32 l;obtain⟨H0,h9⟩:∃H0,H0=H++[PO.lst ((bG 32 l).map aq)]:=⟨_,rfl⟩
 have g0:H0[↑H]? =O (.lst ((bG 32 l).map aq)):=by rw[h9];exact bp _ _
 have x0:Ex H H0:=by rw[h9];exact Ex.one _ _
 obtain⟨H1,e1,x1⟩:=ie (bG 32 l) aq (im:=cf (bL cy fP (af 0) (ag (eC (.str " ")) ai))) (cap:=[Z]) (g:=gN 0) (c:=cu) (e:=aP sD (ag (af 0) ai)) (σ:=[O (.str (tx l))]) (ph0:=H) (ph:=H0) (i5 (by rw[h9];exact vW yl rfl hl) g0) (λK x=>aL (x.get g0)) (small ∅) (λw=>O (Pt.rd w).w) (λσ=>∃o,σ=[o]) ⟨Z,rfl⟩
  (λw hw σ K hS _=>by
   obtain⟨o,rfl⟩:=hS;obtain⟨K',e,x⟩:=TJ (cs:=w) (ha.sub λy hy=>kn 32 l w hw y hy) (by have:=hc.2 w hw;omega) K;exact⟨_,rfl,⟨_,rfl⟩,true,K,rfl,Ex.refl _,.inr ⟨rfl,_,K',aj (au rfl rfl) e,x,rfl⟩⟩)
 rw[lc] at x1;have hm:(bG 32 l).map (λw=>(Pt.rd w).w)=(eZ l).map Pt.w:=by unfold eZ;rw[acz];rfl
 rw[hm] at x1;refine⟨H1,?_,x0.trans ((Ex.one _ _).trans x1)⟩;unfold sI Fu;rw[dh];refine br (aj (au e1 rfl) ?_);have g1:=x1.get (bp _ _);unfold lift qo;simp only[cM,g1];rfl
theorem TY{cs:Nm}(ha:bg cs)(hl:↑cs<=100000)(H:PH):∃i H',sE [.str (tx cs)] H=.ok (.ref i) H'/\Ex H H'/\H'[i]? =O (.lst ((eF cs).map Rw.w)):=by
 have t0:eT (ah bo (af 0) (eC (.str ""))) [O (.str (tx cs))] H=.ok (decide (cs=[])) H:=tB (op (x:=.str (tx cs)) (y:=.str (tx [])) rfl rfl (oQ ha (by intro c hc;cases hc) H));unfold sE E7;rw[dh];unfold eF;by_cases h:cs=[]
 ·rw[aL h] at t0;rw[if_pos h];exact⟨↑H,H++[.lst []],bT (bh t0 rfl),Ex.one _ _,bp _ _⟩
 ·rw[aX h] at t0;rw[if_neg h];have hc:=mG 10 cs;obtain⟨H0,h9⟩:∃H0,H0=H++[PO.lst ((bG 10 cs).map aq)]:=⟨_,rfl⟩
  have g0:H0[↑H]? =O (.lst ((bG 10 cs).map aq)):=by rw[h9];exact bp _ _
  have x0:Ex H H0:=by rw[h9];exact Ex.one _ _
  obtain⟨H1,e1,x1⟩:=ie (bG 10 cs) aq (im:=cf (bL cy fP (af 0) (ag (eC (.str "\n")) ai))) (cap:=[Z]) (g:=gN 0) (c:=cu) (e:=aP sI (ag (af 0) ai)) (σ:=[O (.str (tx cs))]) (ph0:=H) (ph:=H0) (i5 (by rw[h9];exact vW oR rfl hl) g0) (λK x=>aL (x.get g0)) (small ∅) (λl=>O (Rw.w (eZ l))) (λσ=>∃o,σ=[o]) ⟨Z,rfl⟩
   (λl eo σ K hS _=>by
    obtain⟨o,rfl⟩:=hS;obtain⟨K',e,x⟩:=W0 (l:=l) (ha.sub λy hy=>kn 10 cs l eo y hy) (by have:=hc.2 l eo;omega) K;exact⟨_,rfl,⟨_,rfl⟩,true,K,rfl,Ex.refl _,.inr ⟨rfl,_,K',aj (au rfl rfl) e,x,rfl⟩⟩)
  rw[lc] at x1;rw[acz];exact⟨↑H0,H1,bq (ph1:=H) (aK t0 rfl) (br e1),x0.trans ((Ex.one _ _).trans x1),x1.get (bp _ _)⟩
theorem GX(hk:formOf h=O ks):↑h<=4:=by
 have key:∀D:List (Nm×List Kd),(∀p∈D,↑p.1<=4)->look h D=O ks->↑h<=4:=by
  intro D
  induction D with
  | nil=>intro _ z;cases z
  | cons p D ih=>
   intro hD z;unfold look at z;split at z
   ·rename_i e;rw[e];exact hD p (by simp)
   ·exact ih (λq hq=>hD q (abN _ hq)) z
 exact key fT (by unfold fT;decide) hk
theorem Ie:∀w∈eD,↑w<=5:=by unfold eD;decide
theorem GY{k:Kd}{p:Pt}(h:k.fit n p=true)(ho:p.ok):p.cX:=by
 have nums:∀{i:Int},(Pt.n i).num=true->(Pt.n i).cX:=λ{i} h=>by
  unfold Pt.num at h;simp only[abK,decide_eq_true_eq] at h;show i.natAbs<10 ^ 10;omega
 cases k with
 | bM=>
  obtain⟨e,h2⟩:=js h;rw[e] at ho ⊢;exact⟨ho.1,abX (t8 h2).hi (by decide)⟩
 | num=>
  cases p with
  | s cs=>cases h
  | t=>cases h
  | n i=>exact nums h
 | fk=>
  cases p with
  | n i=>cases h
  | t=>cases h
  | s cs=>
   have h:decide (cs∈eD)=true:=h;rw[decide_eq_true_eq] at h;exact⟨ho.1,abX (Ie cs h) (by decide)⟩
 | dj=>
  cases p with
  | s cs=>cases h
  | t=>cases h
  | n i=>
   have h:((Pt.n i).num&&(decide (0<=i)&&decide (i<=(n:Int))))=true:=h;rw[abK] at h;exact nums h.1
theorem Bq{α β:Type}:∀{l:List α} {m:List β},↑m=↑l->∀y∈m,∃x,(x,y)∈l.zip m
 | [],[],_,y,h=>nomatch h
 | a::l,[],h,_,_=>by cases h
 | [],b::m,h,_,_=>by cases h
 | a::l,b::m,h,y,hy=>by
  rcases abR.mp hy with z | z
  ·exact⟨a,by rw[z];simp⟩
  ·obtain⟨x,hx⟩:=Bq (by simpa using h) y z;exact⟨x,by simp[hx]⟩
theorem Q7(h:c6 n r=true)(ho:∀p∈r,p.ok):(∀p∈r,p.cX)/\↑r<=5:=by
 obtain⟨hd,ps,ks,rfl,hf,hl,hx⟩:=k9 h;have h4:=pY hf;refine⟨λp hp=>?_,by rw[abP];omega⟩
 rcases abR.mp hp with z | z
 ·rw[z];exact⟨(ho (.s hd) (by simp)).1,abX (GX hf) (by decide)⟩
 ·obtain⟨k,hk⟩:=Bq hl p z;unfold fits at hx;rw[acA] at hx;exact GY (hx _ hk) (ho p hp)
noncomputable def Acc(cs:Nm):Prop:=kH ((eF cs).map .row)/\gZ (eF cs)=cs
theorem YY{w:Nm}(ha:bg w)(hl:↑w<=1000000):(Pt.rd w).ok:=by
 unfold Pt.rd;split
 ·exact trivial
 ·exact⟨ha,hl⟩
theorem Ig{cs:Nm}(ha:bg cs)(hl:↑cs<=100000):∀r∈eF cs,(∀p∈r,p.ok)/\↑r<=1000000:=by
 intro r hr;unfold eF at hr;split at hr
 ·cases hr
 ·obtain⟨l,eo,rfl⟩:=ach.mp hr;have h1:=(mG 10 cs).2 l eo;have h2:=mG 32 l;refine⟨λp hp=>?_,?_⟩
  ·obtain⟨w,hw,rfl⟩:=ach.mp hp;exact YY (ha.sub λx hx=>kn 10 cs l eo x (kn 32 l w hw x hx)) (by have:=h2.2 w hw;omega)
  ·unfold eZ;rw[abI];omega
theorem xu(h:kH (R.map .row))(ho:∀r∈R,∀p∈r,p.ok):Wr R:=by
 have hr:∀r∈R,(∀p∈r,p.cX)/\↑r<=5:=λr hr=>by
  obtain⟨j,hj,e⟩:=adi hr;obtain⟨r',e1,h1,_⟩:=mH (h.2 j (by rw[abI];exact hj)).1;rw[abQ,acn hj,e] at e1;cases e1;exact Q7 h1 (ho r hr)
 exact⟨λr h=>(hr r h).1,λr h=>abX (hr r h).2 (by decide),abX (by have:=h.1;rw[abI] at this;exact this) (by decide)⟩
theorem Ih(R:List Rw):(R.map Rv.row).map Rv.w=R.map Rw.w:=by rw[acz];rfl
theorem TZ{tb:List (Str×Bool)}{y:Str}{b:SM}{f:Fl}(h:b σ H=.ok f H1):lj tb y b σ H=.ok f H1:=by
 unfold lj;rw[h]
theorem PP{cs:Nm}(ha:bg cs)(hl:↑cs<=100000)(H:PH):(Acc cs/\∃i H',ki [.str (tx cs)] H=.ok (.ref i) H'/\Ex H H'/\H'[i]? =O (.lst ((eF cs).map Rw.w)))\/(¬Acc cs/\∃H',ki [.str (tx cs)] H=.ex ⟨"NoText",[]⟩ H'/\Ex H H'):=by
 obtain⟨i,H1,e1,x1,g1⟩:=TY ha hl H;have MN:=Ig ha hl;unfold ki Az;rw[dh];have a0:bi (de (bW (cN "str" (af 0)))) (tR "NoText" (ag (eC (.str "no text")) ai)) bt [O (.str (tx cs)),Z] H=.ok (.nx [O (.str (tx cs)),Z]) H:=aK (cL (c:=true) (eB (aj (a:=.str (tx cs)) (ph':=H) rfl rfl))) rfl;have a1:aM (aP sE (ag (af 0) ai)) (gN 1) [O (.str (tx cs)),Z] H=.ok (.nx [O (.str (tx cs)),⇑i]) H1:=asg (aj (au rfl rfl) e1)
 rcases Q2 (R:=(eF cs).map .row) (H:=H1) (ri:=i) (by rw[Ih];exact g1) (λw hw=>by
   obtain⟨r,hr,rfl⟩:=ach.mp hw;exact MN r hr) with⟨hp,w,H2,e2,x2⟩ | ⟨hp,w,H2,e2,x2⟩
 ·have wr:=xu hp λr hr=>(MN r hr).1
  obtain⟨H3,e3,x3⟩:=F5 (x2.get g1) wr;have fJ:eT (ah ck (aP pW (ag (af 1) ai)) (af 0)) [O (.str (tx cs)),⇑i] H2=.ok (!decide (gZ (eF cs)=cs)) H3:=tB (op (aj (au rfl rfl) e3) rfl (yk (F4 wr) ha H3));have a2:lj [("BadProgram",true)] "NoText" (d3 (aP ib (ag (af 1) ai))) [O (.str (tx cs)),⇑i] H1=.ok (.nx [O (.str (tx cs)),⇑i]) H2:=TZ (aj (aj (au rfl rfl) e2) rfl);by_cases ht:gZ (eF cs)=cs
  ·rw[aL ht] at fJ;exact .inl ⟨⟨hp,ht⟩,i,H3,bq a0 (bq a1 (bq a2 (bq (aK fJ rfl) (br rfl)))),(x1.trans x2).trans x3,x3.get (x2.get g1)⟩
  ·rw[aX ht] at fJ;exact .inr ⟨λz=>ht z.2,H3,bq a0 (bq a1 (bq a2 (rW (bh fJ rfl)))),(x1.trans x2).trans x3⟩
 ·refine .inr ⟨λz=>hp z.1,H2,bq a0 (bq a1 (rW ?_)),x1.trans x2⟩;unfold lj;rw[show d3 (aP ib (ag (af 1) ai)) [O (.str (tx cs)),⇑i] H1=.ex (XB w) H2 from bx (aj (au rfl rfl) e2)];exact if_pos ⟨show adN (abH "BadProgram") [(abH "BadProgram",true)]=O true from ⋯,rfl⟩
theorem PQ{w:W}(h:lift (hV "str" w) H=.ok (.bl false) H):ki [w] H=.ex ⟨"NoText",[]⟩ H:=by
 unfold ki Az;rw[dh];exact rW (bh (cL (c:=false) (eB (aj rfl h))) rfl)
theorem Q8{w v:W}{H':PH}(e:ki [w] H=.ok v H'):iE [w] H=.ok v H':=by
 unfold iE Ao;rw[dh];refine aj (a:=.rt v) (ph':=H') ?_ rfl;unfold mD;rw[show aO (aP ki (ag (af 0) ai)) (O w::abS (2-1) Z) H=.ok (.rt v) H' from retS (aj (au rfl rfl) e)]
theorem Ii{w:W}{H':PH}(e:ki [w] H=.ex ⟨"NoText",[]⟩ H'):∃H2,iE [w] H=.ok (.str "refused") H2/\Ex H' H2:=by
 refine⟨H'++[.lst [.str "otherwise",.str "refused"]],?_,Ex.one _ _⟩;unfold iE Ao;rw[dh];refine aj (a:=.rt (.str "refused")) (YU (x:=⟨"NoText",[]⟩) (w:=.str "refused") (ph1:=H') (bx (aj (au rfl rfl) e)) ⋯ ?_) rfl;have q:∀{tb:List (Str×Bool)} {b:Bool} {K:PH},tb.lookup (abH "NoText")=O b->jU tb (af 1) ((abS 2 Z).set 1 (O (.exc (abH "NoText") [] []))) K=.ok (.bl b) K:=λ{tb b K} h=>by
  refine aj (a:=.exc (abH "NoText") [] []) (ph':=K) rfl ?_;unfold lift zj;simp only[h];rfl
 refine sq (ph1:=H') (aK (oF (eB (q (b:=false) ⋯)) (oF (eB (q (b:=false) ⋯)) (oF (eB (q (b:=false) ⋯)) (eB (q (b:=false) ⋯))))) rfl) (retS (op (x:=.ref ↑H') (y:=.int 1) (ph1:=H'++[.lst [.str "otherwise",.str "refused"]]) rfl ?_ (Jc (bp _ _) ⋯)));exact aj (au (pN (q (b:=true) ⋯) (q (b:=true) ⋯)) rfl) rfl
theorem Br{cs:Nm}(ha:bg cs)(hl:↑cs<=100000)(H:PH):(Acc cs/\∃i H',iE [.str (tx cs)] H=.ok (.ref i) H'/\Ex H H'/\H'[i]? =O (.lst ((eF cs).map Rw.w)))\/(¬Acc cs/\∃H',iE [.str (tx cs)] H=.ok (.str "refused") H'/\Ex H H'):=by
 rcases PP ha hl H with⟨h,i,H1,e,x,g⟩ | ⟨h,H1,e,x⟩
 ·exact .inl ⟨h,i,H1,Q8 e,x,g⟩
 ·obtain⟨H2,e2,x2⟩:=Ii e;exact .inr ⟨h,H2,e2,x.trans x2⟩
theorem t9(h:bg l)(H:PH)(n:Nat):dat H n (.str (tx l))=O (.str (tx l)):=by
 cases n <;> (unfold dat;rw[if_pos (t6 h)])
theorem T2(h:bg l)(H:PH)(n:Nat):aT (dat H n) (l.map bw)=O (l.map λc=>aha (sg c)):=by
 induction l with
 | nil=>rfl
 | cons c l ih=>exact mc (t9 (l:=[c]) (λx hx=>h x (by rw[ack.mp hx];simp)) H n) (ih λx hx=>h x (abN _ hx))
theorem filter_all(p:Nat->Bool):∀l:Nm,((l.filter λx=> !p x).map bw).isEmpty=l.all p
 | []=>rfl
 | c::l=>by
  rw[List.filter_cons,ady,<- filter_all p l];cases p c <;> rfl
theorem T3{l:List Nm}(h:∀b∈l,bg b)(H:PH)(n:Nat):aT (dat H n) (l.map aq)=O (l.map λb=>aha (tx b)):=by
 induction l with
 | nil=>rfl
 | cons b l ih=>exact mc (t9 (h b (by simp)) H n) (ih λc hc=>h c (abN _ hc))
theorem JC{l:List Nm}(h:∀b∈l,bg b){w:Nm}(ha:bg w)(H:PH):inD H (aq w) (.tup (l.map aq))=O (decide (w∈l)):=by
 unfold inD;have d1:dat H 40 (aq w)=O (.str (tx w)):=t9 ha H 40;simp only[cM,d1,T3 h H 40,acC];rw[aiP]
 congr 1
 rw[aei,aep,decide_eq_true_eq];constructor
 ·rintro⟨b,hb,q⟩;simp only[ahr,qH,decide_eq_true_eq] at q;exact ko q▸hb
 ·intro hk;exact⟨w,hk,by simp only[ahr,qH,decide_true]⟩
theorem aan{l:List Nm}(h:∀b∈l,bg b){w:Nm}(ha:bg w)(H:PH):lift (fD (aq w) (.tup (l.map aq))) H=.ok (.bl (decide (w∈l))) H:=by
 have e2:fD (aq w) (.tup (l.map aq)) H=O (.bl (decide (w∈l)),H):=by
  show iV (aq w) (.tup (l.map aq)) H=_;unfold iV;rw[JC h ha];rfl
 unfold lift;rw[e2]
theorem Ky{l:List Nm}(h:∀b∈l,bg b){w:Nm}(ha:bg w)(H:PH):lift (fc (aq w) (.tup (l.map aq))) H=.ok (.bl (!decide (w∈l))) H:=by
 have e2:fc (aq w) (.tup (l.map aq)) H=O (.bl (!decide (w∈l)),H):=by
  show qW (aq w) (.tup (l.map aq)) H=_;unfold qW;rw[JC h ha];rfl
 unfold lift;rw[e2]
theorem Ij{e0 c:EM}(p:Nat->Bool)(h:e0 σ H=.ok (.str (tx l)) H)(ha:bg l)(hl:↑l<=1000000)(hc:∀x (K:PH),c [O (bw x)] K=.ok (.bl (!p x)) K):∃H',ah bo (b6 (ip e0) [Z] (gN 0) (eT c) (af 0)) (bP ai) σ H=.ok (.bl (l.all p)) H'/\ah ck (b6 (ip e0) [Z] (gN 0) (eT c) (af 0)) (bP ai) σ H=.ok (.bl (!l.all p)) H'/\Ex H H':=by
 obtain⟨H1,e1,x1⟩:=TH p h ha hl hc;have g1:=(Ex.one H1 (.lst [])).get (x1.get (bp _ _));have q:=eq_nil g1 (bp H1 (.lst [])) (T2 (ha.sub λx hx=>(afK.mp hx).1) _ 39);rw[filter_all p l] at q;exact⟨H1++[.lst []],op e1 rfl (Kn q),op e1 rfl (qJ q),((Ex.one _ _).trans x1).trans (Ex.one _ _)⟩
theorem Oz{cs:Nm}(ha:bg cs)(hl:↑cs<=1000000)(H:PH):∃H',sJ [.str (tx cs)] H=.ok (.bl (isNm cs)) H'/\Ex H H':=by
 have bj:aR bz (ag (af 0) ai) [O (.str (tx cs))] H=.ok (.int (↑cs:Int)) H:=aj (au rfl rfl) (qx hl H);have hc:gY d7 d7 {1} (aR bz (ag (af 0) ai)) {6} [O (.str (tx cs))] H=.ok (.bl (decide (1<=↑cs)&&decide (↑cs<=6))) H:=by
  refine(zL rfl bj (lI _ _ H) rfl (lI _ _ H)).trans ?_;rw[show decide ((1:Int)<=(↑cs:Int))=decide (1<=↑cs) from decide_eq_decide.mpr ∅,show decide ((↑cs:Int)<=6)=decide (↑cs<=6) from decide_eq_decide.mpr ∅]
 unfold sJ Fw;rw[dh];unfold isNm;cases hq:decide (1<=↑cs)&&decide (↑cs<=6) with
 | false=>rw[hq] at hc;exact⟨H,br (rV hc),Ex.refl _⟩
 | true=>
  rw[hq] at hc;obtain⟨H1,e1,_,x1⟩:=Ij (e0:=af 0) (c:=ah lm (af 0) {"abcdefghijklmnopqrstuvwxyz"}) (σ:=[O (.str (tx cs))]) (H:=H) (l:=cs) (λc=>decide (c∈eK)) rfl ha hl (λc K=>op rfl rfl (by rw[HV];exact Jv c eK K));exact⟨H1,br (pN hc e1),x1⟩
noncomputable def mL(cs:Nm):Option Int:=if(cz cs&&(canon cs&&decide (digitsVal (bc cs)<=2147483648)))=true then O (eJ cs) else Z
noncomputable def Lm:Option Int->W
 | none=>.ay
 | some v=>.int v
theorem Q9(cs:Nm):decide (cs.take 1=[45])=neg cs:=by
 unfold neg;cases cs with
 | nil=>rfl
 | cons a l=>exact decide_eq_decide.mpr (by simp)
theorem W2:abH "-"=tx [45]:=⋯
theorem F6:abH "0"=tx [48]:=⋯
theorem gv(h:l.all (λc=>decide (c<128))=true):bg l:=λc hc=>by
 rw[acA] at h;exact of_decide_eq_true (h c hc)
theorem NO{cs:Nm}(ha:bg cs)(hl:↑cs<=1000000)(H:PH):∃H',wJ [.str (tx cs)] H=.ok (Lm (mL cs)) H'/\Ex H H':=by
 have hf:(bc cs).length<=1000000:=by unfold bc;split <;> (try rw[adC]) <;> omega
 have vT:bg (bc cs):=by
  unfold bc;split
  ·exact ha.sub λx hx=>adK hx
  ·exact ha
 obtain⟨σ,aU⟩:∃σ:aG,σ=[O (.str (tx cs)),O (.str (tx (bc cs)))]:=⟨_,rfl⟩
 have tn:eT (ah bo (dP (af 0) bJ (bA {1})) (eC (.str "-"))) [O (.str (tx cs)),O (.str (tx cs))] H=.ok (neg cs) H:=by
  rw[<- Q9];exact tB (op (Bl (b:=1) rfl rfl hl) rfl (by rw[W2];exact oQ (ha.sub λx hx=>acH hx) (gv rfl) H))
 have a1:bi (eT (ah bo (dP (af 0) bJ (bA {1})) (eC (.str "-")))) (aM (dP (af 0) (bA {1}) bJ) (gN 1)) bt [O (.str (tx cs)),O (.str (tx cs))] H=.ok (.nx σ) H:=by
  rw[aU];unfold bc;cases hn:neg cs with
  | true=>rw[hn] at tn;exact bh tn (asg (w4 (a:=1) rfl rfl hl))
  | false=>rw[hn] at tn;exact aK tn rfl
 have l1:aR bz (ag (af 1) ai) σ H=.ok (.int ((bc cs).length:Int)) H:=aj (au (by rw[aU];rfl) rfl) (qx hf H);obtain⟨H1,_,e1,x1⟩:=Ij (e0:=af 1) (c:=ah lm (af 0) {"0123456789"}) (σ:=σ) (H:=H) (l:=bc cs) dig (by rw[aU];rfl) vT hf (λc K=>op rfl rfl (by rw[HR];exact Jv c uU K));have t1:eT (ah bo (af 1) (eC (.str ""))) σ H=.ok (!decide (0<(bc cs).length)) H:=by
  refine tB ((op (x:=.str (tx (bc cs))) (y:=.str (tx [])) (by rw[aU];rfl) rfl (oQ vT (gv rfl) H)).trans ?_);rw[show decide (bc cs=[])= !decide (0<(bc cs).length) from by rw[<- decide_not];exact decide_eq_decide.mpr (by rw[Nat.not_lt,Nat.le_zero,ahs])]
 have t2:eT (ah gF (aR bz (ag (af 1) ai)) {10}) σ H=.ok (!decide ((bc cs).length<=10)) H:=by
  refine tB ((op l1 rfl (nz _ _ H)).trans ?_);rw[show decide (((bc cs).length:Int)>10)= !decide ((bc cs).length<=10) from by rw[<- decide_not];exact decide_eq_decide.mpr ∅]
 unfold wJ E2;rw[dh];unfold mL;have a0:aM (af 0) (gN 1) (O (.str (tx cs))::abS (2-1) Z) H=.ok (.nx [O (.str (tx cs)),O (.str (tx cs))]) H:=asg rfl;by_cases h0:0<(bc cs).length
 case neg=>
  rw[aX h0] at t1;rw[if_neg (by unfold cz;rw[aX h0];simp)];exact⟨H,bq a0 (bq a1 (bT (bh (oT t1) rfl))),Ex.refl _⟩
 rw[aL h0] at t1;by_cases iB:(bc cs).length<=10
 case neg=>
  rw[aX iB] at t2;rw[if_neg (by unfold cz;rw[aX iB];simp)];exact⟨H,bq a0 (bq a1 (bT (bh (oF t1 (oT t2)) rfl))),Ex.refl _⟩
 rw[aL iB] at t2;by_cases hd:(bc cs).all dig=true
 case neg=>
  rw[adz.mpr hd] at e1;rw[if_neg (by unfold cz;rw[adz.mpr hd];simp)];exact⟨H1,bq a0 (bq a1 (bT (bh (oF t1 (oF t2 (tB e1))) rfl))),x1⟩
 rw[hd] at e1;have aA:cz cs=true:=by unfold cz;rw[aL h0,aL iB,hd];rfl
 rw[aA,ade];have YZ:eT (ah bo (ah aE (af 1) {0}) {"0"}) σ H1=.ok (decide ((bc cs).head? =O 48)) H1:=by
  obtain⟨c,l,ec⟩:=aft (aii.mp h0);refine tB ((op (x:=bw c) (y:=.str "0") (ph1:=H1) (op (x:=.str (tx (bc cs))) (y:=.int 0) (ph1:=H1) (by rw[aU];rfl) rfl ?_) rfl (r:=.ok (.bl (decide ([c]=[48]))) H1) (by rw[F6];exact oQ (a:=[c]) (vT.sub λx hx=>by rw[ec,ack.mp hx];simp) (gv rfl) H1)).trans ?_)
  ·rw[ye];unfold lift cP;simp only[gJ,k8];rw[if_pos (small hf),ec,show cJ (c::l) 0=O c from fq (c::l) 0 (by simp)];rfl
  ·rw[ec,show decide ([c]=[48])=decide ((c::l).head? =O 48) from decide_eq_decide.mpr (by simp)]
 have Y0:eT (ah ck (af 0) {"0"}) σ H1=.ok (!decide (cs=[48])) H1:=tB (op (x:=.str (tx cs)) (by rw[aU];rfl) rfl (by rw[F6];exact yk ha (gv rfl) H1));have yP:eT (ah gF (aR qV (ag (aR jQ (ag (af 1) ai)) ai)) {2147483648}) σ H1=.ok (!decide (digitsVal (bc cs)<=2147483648)) H1:=by
  refine tB ((op (x:=.int ((digitsVal (bc cs):Nat):Int)) (aj (au (aj (au (by rw[aU];rfl) rfl) (Ce (HS aA) ∅ H1)) rfl) ?_) rfl (nz _ _ H1)).trans ?_)
  ·show Out.ok (W.int (if((digitsVal (bc cs):Nat):Int)<0 then _ else _)) H1=_;rw[if_neg ∅]
  ·rw[show decide (((digitsVal (bc cs):Nat):Int)>2147483648)= !decide (digitsVal (bc cs)<=2147483648) from by rw[<- decide_not];exact decide_eq_decide.mpr ∅]
 have uV:d9 (eT (ah bo (ah aE (af 1) {0}) {"0"})) (eT (ah ck (af 0) {"0"})) σ H1=.ok (!canon cs) H1:=by
  unfold canon;rw[agO];exact uy YZ Y0
 have nxt:=bq (b:=aC (bi (cF (d9 (eT (ah bo (ah aE (af 1) {0}) {"0"})) (eT (ah ck (af 0) {"0"}))) (eT (ah gF (aR qV (ag (aR jQ (ag (af 1) ai)) ai)) {2147483648}))) (aO (eC .ay)) bt) (aO (aR jQ (ag (af 0) ai)))) (k:=fw) (r:=.ok (Lm (if(canon cs&&decide (digitsVal (bc cs)<=2147483648))=true then O (eJ cs) else Z)) H1) (aK (a:=aO (eC .ay)) (b:=bt) (oF t1 (oF t2 (tB e1))) rfl) (by
  cases hc:canon cs with
  | false=>
   rw[hc] at uV;exact bT (bh (oT uV) rfl)
  | true=>
   rw[hc] at uV;by_cases hv:digitsVal (bc cs)<=2147483648
   ·rw[aL hv] at yP ⊢;refine bq (aK (oF uV yP) rfl) (br (aj (au (by rw[aU];rfl) rfl) (Ce (HU aA) ?_ H1)));have:=(len_num aA).1;omega
   ·rw[aX hv] at yP ⊢;exact bT (bh (oF uV yP) rfl))
 exact⟨H1,bq a0 (bq a1 nxt),x1⟩
noncomputable def Kd.c:Kd->Nat
 | .bM=>110
 | .fk=>119
 | .num=>107
 | .dj=>107
noncomputable def lJ(w:Nm):Option Pt:=match mL w with
 | some v=>if v=2147483648 then Z else O (.n v)
 | none=>Z
noncomputable def cY(q:Kd×Nm):Option Pt:=match q.1 with
 | .bM=>if isNm q.2=true then O (.s q.2) else Z
 | .fk=>if q.2∈eD then O (.s q.2) else Z
 | _=>lJ q.2
noncomputable def gj(l:Nm):Option Rw:=match bG 32 l with
 | []=>Z
 | w0::ws=>match formOf w0 with
  | none=>Z
  | some ks=>if ↑ws=↑ks then(aT cY (ks.zip ws)).map λr=>Pt.s w0::r else Z
noncomputable def kz:List (Nm×List Kd):=[([115,101,116],[.bM,.num]),([99,111,112,121],[.bM,.bM]),([100,111],[.bM,.fk,.bM,.bM]),([116,97,107,101],[.bM]),([116,101,108,108],[.bM]),([105,102],[.bM,.dj]),([103,111],[.dj]),([116,117,114,110],[]),([101,110,100],[])]
noncomputable def l9(p:Nm×List Kd):W×W:=(.str (tx p.1),.str (tx (p.2.map Kd.c)))
theorem JD(w:Nm):look w kz=formOf w:=by
 unfold formOf kz fT;simp only[look];by_cases h1:w=[116,117,114,110]
 ·subst h1;decide
 ·simp only[h1,if_false]
theorem BJ(w:Nm):∀D:List (Nm×List Kd),iK (D.map l9) (.str (tx w))=(look w D).map λks=>W.str (tx (ks.map Kd.c))
 | []=>rfl
 | p::D=>by
  have ih:=BJ w D;unfold iK at ih ⊢;unfold look;rw[ace,adV];by_cases h:w=p.1
  ·rw[if_pos h,show decide ((l9 p).1=W.str (tx w))=true from aL (by rw[h];rfl)];rfl
  ·rw[if_neg h,show decide ((l9 p).1=W.str (tx w))=false from aX (λz=>h (ko (W.str.inj z)).symm)];exact ih
noncomputable def jC:bN:=[(.str "set",.str "nk"),(.str "copy",.str "nn"),(.str "do",.str "nwnn"),(.str "take",.str "n"),(.str "tell",.str "n")]
noncomputable def jD:bN:=[(.str "if",.str "nk"),(.str "go",.str "k"),(.str "turn",.str ""),(.str "end",.str "")]
theorem W3:jg [] jC=jC:=by unfold jC;decide +kernel
theorem W4:jg [] jD=jD:=by unfold jD;decide +kernel
theorem W5:jg jC jD=kz.map l9:=by unfold jC jD kz;decide +kernel
theorem JH{d:bN}(hf:jg [] d=d)(hk:d.all (λp=>(kG p.1).isSome)=true):lift (mK ↑H d) (H++[.bI []])=.ok (.ref ↑H) (H++[.bI d]):=by
 have e:mK ↑H d (H++[.bI []])=O (.ref ↑H,H++[.bI d]):=by
  unfold mK;simp only[bp];rw[if_pos hk,hf];simp
 unfold lift;rw[e]
theorem Y1{a b:Nat}{p q:bN}(ha:H[a]? =O (.bI p))(hb:H[b]? =O (.bI q))(kP:a≠b)(hp:p≠[])(hq:q≠[])(h1:p.all (λz=> !fj z.1)=true)(h2:q.all (λz=> !fj z.1)=true)(hl:↑p+↑q<=1000000):lift (pd (.ref a) [.ref b]) H=.ok .ay (H.set a (.bI (jg p q))):=by
 have e:pd (.ref a) [.ref b] H=O (.ay,H.set a (.bI (jg p q))):=by
  unfold pd;simp only[oM ha,oM hb];rw[if_pos ⟨kP,hp,hq,h1,h2,small hl⟩]
 unfold lift;rw[e]
noncomputable def vX(q:Kd×Nm):W:=.tup [bw q.1.c,aq q.2]
theorem JJ(ks:List Kd):bg (ks.map Kd.c):=by
 intro c hc;obtain⟨k,_,rfl⟩:=ach.mp hc;cases k <;> decide
theorem W6{ws:List Nm}(ha:a σ H=.ok (.str (tx (ks.map Kd.c))) H)(hb:b σ H=.ok (.ref j) (H++[.lst (ws.map aq)]))(hj:j=↑H):mS (ag a (ag b ai)) σ H=.ok ((ks.zip ws).map vX,λp=>decide (jR (.ref j) p=O (ws.map aq))) (H++[.lst (ws.map aq)]):=by
 refine aj (au ha (au hb rfl)) ?_;have hs:jR (.ref j) (H++[.lst (ws.map aq)])=O (ws.map aq):=by
  unfold jR;simp only[hj,bp]
 have hz:jr (rh (tx (ks.map Kd.c))) (ws.map aq)=(ks.zip ws).map vX:=by
  unfold rh jr;rw[k8,acz,List.zip_map,acz];rfl
 have e:qK [.str (tx (ks.map Kd.c)),.ref j] (H++[.lst (ws.map aq)])=O (((ks.zip ws).map vX,λp=>decide (jR (.ref j) p=O (ws.map aq))),H++[.lst (ws.map aq)]):=by
  unfold qK;simp only[hs];rw[if_pos (HP (JJ ks)),hz]
 unfold lift;rw[e]
theorem F7{α β:Type}{f:α->Option β}:∀(l:List α) (a:α),aT f (l++[a])=match aT f l,f a with
  | some bs,O b=>O (bs++[b])
  | _,_=>Z
 | [],a=>by
  show(match f a,aT f [] with
   | some b,O bs=>O (b::bs)
   | _,_=>Z)=_
  unfold aT;cases f a <;> rfl
 | x::l,a=>by
  have ih:=F7 (f:=f) l a;show(match f x,aT f (l++[a]) with
   | some b,O bs=>O (b::bs)
   | _,_=>Z)=_
  rw[ih]
  conv=>rhs;unfold aT
  cases f x <;> cases aT f l <;> cases f a <;> rfl
theorem F8{α β:Type}{f:α->Option β}:∀{l:List α} {a:α},a∈l->f a=Z->aT f l=Z
 | x::l,a,h,hf=>by
  unfold aT
  rcases abR.mp h with z | z
  ·rw[<- z,hf]
  ·rw[F8 z hf];cases f x <;> rfl
theorem sY{α β:Type}{f:α->Option β}:∀{l:List α} {m:List β},aT f l=O m->∀b∈m,∃a∈l,f a=O b
 | [],m,h,b,hb=>by cases h;cases hb
 | x::l,m,h,b,hb=>by
  unfold aT at h;cases hx:f x with
  | none=>rw[hx] at h;cases h
  | some y=>
   cases hl:aT f l with
   | none=>rw[hx,hl] at h;cases h
   | some ys=>
    rw[hx,hl] at h;cases h
    rcases abR.mp hb with z | z
    ·exact⟨x,by simp,by rw[z,hx]⟩
    ·obtain⟨a,ha,e⟩:=sY hl b z;exact⟨a,abN _ ha,e⟩
theorem A1{α β:Type}{f:α->Option β}:∀{l:List α} {m:List β},aT f l=O m->↑m=↑l
 | [],m,h=>by cases h;rfl
 | x::l,m,h=>by
  unfold aT at h;cases hx:f x with
  | none=>rw[hx] at h;cases h
  | some y=>
   cases hl:aT f l with
   | none=>rw[hx,hl] at h;cases h
   | some ys=>
    rw[hx,hl] at h;cases h;rw[abP,abP,A1 hl]
theorem PR{q:Kd×Nm}(ha:bg q.2)(hl:↑q.2<=1000000){x0 x1 x2:W}(hr:H[ri]? =O (.lst ws))(hz:↑ws<1000000):(cY q=Z/\∃H',kS [O x0,O x1,O x2,⇑ri,O (bw q.1.c),O (aq q.2)] H=.ok (.rt .ay) H'/\Ex H H')\/∃p,cY q=O p/\∃o H',kS [O x0,O x1,O x2,⇑ri,O (bw q.1.c),O (aq q.2)] H=.ok (.nx [O x0,O x1,O x2,⇑ri,O (bw q.1.c),o]) (H'.set ri (.lst (ws++[p.w])))/\Ex H H':=by
 obtain⟨k,w⟩:=q;have kq:∀{s:String} {c:Nat} {K:PH} {o:dO},abH s=tx [c]->c<128->eT (ah bo (af 4) (eC (.str s))) [O x0,O x1,O x2,⇑ri,O (bw k.c),o] K=.ok (decide (k.c=c)) K:=λ{s c K o} hs hc=>by
  refine tB ((op (x:=bw k.c) (y:=.str s) (ph1:=K) rfl rfl (r:=.ok (.bl (decide ([k.c]=[c]))) K) (by rw[hs];exact oQ (a:=[k.c]) (JJ [k]) (λx hx=>by rw[ack.mp hx];exact hc) K)).trans ?_);rw[show decide ([k.c]=[c])=decide (k.c=c) from decide_eq_decide.mpr (by simp)]
 have tn:abH "n"=tx [110]:=⋯;have tw:abH "w"=tx [119]:=⋯;have tk:abH "k"=tx [107]:=⋯;have Ln:k.c=107->cY (k,w)=lJ w->(cY (k,w)=Z/\∃H',kS [O x0,O x1,O x2,⇑ri,O (bw k.c),O (aq w)] H=.ok (.rt .ay) H'/\Ex H H') \/
   ∃p,cY (k,w)=O p/\∃o H',kS [O x0,O x1,O x2,⇑ri,O (bw k.c),O (aq w)] H=.ok (.nx [O x0,O x1,O x2,⇑ri,O (bw k.c),o]) (H'.set ri (.lst (ws++[p.w])))/\Ex H H':=by
  unfold kS;intro hk aA;obtain⟨H1,e1,z1⟩:=NO ha hl H;have n1:=(kq (K:=H) (o:=O (aq w)) tn (by decide)).trans (by rw[aX ∅]);have n2:=(kq (K:=H) (o:=O (aq w)) tw (by decide)).trans (by rw[aX ∅]);have n3:=(kq (K:=H) (o:=O (aq w)) tk (by decide)).trans (by rw[aL hk]);rw[aA];unfold lJ;cases hn:mL w with
  | none=>
   rw[hn] at e1;refine .inl ⟨rfl,H1,sq (aK (tF n1) rfl) (sq (aK (tF n2) rfl) (zH (bh n3 (sq (asg (aj (au rfl rfl) e1)) (bh (oT (tB (op (x:=.ay) (y:=.ay) rfl rfl rfl))) rfl))))),z1⟩
  | some v=>
   rw[hn] at e1;have MO:∀{K:PH},eT (ah lA (af 5) (eC .ay)) [O x0,O x1,O x2,⇑ri,O (bw k.c),↥v] K=.ok false K:=λ{K}=>tB (op (x:=.int v) (y:=.ay) rfl rfl rfl)
   have eqv:eT (ah bo (af 5) {2147483648}) [O x0,O x1,O x2,⇑ri,O (bw k.c),↥v] H1=.ok (decide (v=2147483648)) H1:=tB (op (x:=.int v) rfl rfl (yO _ _ H1))
   dsimp only
   by_cases hv:v=2147483648
   ·rw[aL hv] at eqv;rw[if_pos hv];exact .inl ⟨rfl,H1,sq (aK (tF n1) rfl) (sq (aK (tF n2) rfl) (zH (bh n3 (sq (asg (aj (au rfl rfl) e1)) (bh (oF MO eqv) rfl))))),z1⟩
   ·rw[aX hv] at eqv;rw[if_neg hv];exact .inr ⟨.n v,rfl,↥v,H1,sq (aK (tF n1) rfl) (sq (aK (tF n2) rfl) (sq (bh n3 (sq (asg (aj (au rfl rfl) e1)) (aK (oF MO eqv) rfl))) (l8 (e:=af 5) (w:=.int v) rfl ⟨_,z1.get hr⟩ rfl (z1.get hr) hz))),z1⟩
 cases k with
 | num=>exact Ln rfl rfl
 | dj=>exact Ln rfl rfl
 | bM=>
  unfold kS;have n1:eT (ah bo (af 4) {"n"}) [O x0,O x1,O x2,⇑ri,O (bw Kd.bM.c),O (aq w)] H=.ok true H:=kq tn (by decide);obtain⟨H1,e1,z1⟩:=Oz ha hl H;have t1:d9 (eT (ah bo (af 4) {"n"})) (de (bW (aP sJ (ag (af 5) ai)))) [O x0,O x1,O x2,⇑ri,O (bw Kd.bM.c),O (aq w)] H=.ok (!isNm w) H1:=tT n1 (cL (eB (aj (au rfl rfl) e1)));show(cY (.bM,w)=Z/\_)\/∃p,cY (.bM,w)=O p/\_;unfold cY
  dsimp only
  cases hn:isNm w with
  | false=>
   rw[hn] at t1;exact .inl ⟨rfl,H1,zH (bh t1 rfl),z1⟩
  | true=>
   rw[hn] at t1;exact .inr ⟨.s w,rfl,_,H1,sq (aK t1 rfl) (sq (aK (tF (kq tw (by decide))) rfl) (sq (aK (kq tk (by decide)) rfl) (l8 (e:=af 5) (w:=aq w) rfl ⟨_,z1.get hr⟩ rfl (z1.get hr) hz))),z1⟩
 | fk=>
  unfold kS;have n1:eT (ah bo (af 4) {"n"}) [O x0,O x1,O x2,⇑ri,O (bw Kd.fk.c),O (aq w)] H=.ok false H:=kq tn (by decide);have n2:eT (ah bo (af 4) {"w"}) [O x0,O x1,O x2,⇑ri,O (bw Kd.fk.c),O (aq w)] H=.ok true H:=kq tw (by decide);have t2:eT (ah fc (af 5) (cw (ag {"sum"} (ag {"less"} (ag {"times"} (ag {"part"} (ag {"below"} (ag {"alike"} ai)))))))) [O x0,O x1,O x2,⇑ri,O (bw Kd.fk.c),O (aq w)] H=.ok (!decide (w∈eD)) H:=by
   refine tB (op (x:=aq w) (y:=.tup (eD.map aq)) (ph1:=H) (ph2:=H) rfl ?_ ?_)
   ·have hw:eD.map aq=[.str (abH "sum"),.str (abH "less"),.str (abH "times"),.str (abH "part"),.str (abH "below"),.str (abH "alike")]:=⋯;rw[hw];rfl
   ·exact Ky (λb hb=>by
     have:∀b∈eD,(b.all λc=>decide (c<128))=true:=by unfold eD;decide
     exact gv (this b hb)) ha H
  show(cY (.fk,w)=Z/\_)\/∃p,cY (.fk,w)=O p/\_;unfold cY
  dsimp only
  by_cases hn:w∈eD
  ·rw[aL hn] at t2;rw[if_pos hn];exact .inr ⟨.s w,rfl,_,H,sq (aK (tF n1) rfl) (sq (aK (tT n2 t2) rfl) (sq (aK (kq tk (by decide)) rfl) (l8 (e:=af 5) (w:=aq w) rfl ⟨_,hr⟩ rfl hr hz))),Ex.refl _⟩
  ·rw[aX hn] at t2;rw[if_neg hn];exact .inl ⟨rfl,H,sq (aK (tF n1) rfl) (zH (bh (tT n2 t2) rfl)),Ex.refl _⟩
noncomputable def rl:Option Rw->W
 | none=>.ay
 | some r=>Rw.w r
theorem MP(z:Str):jf (kz.map l9) (.str z)=true:=by
 show((true&&(kz.map l9).all λp=> !fj p.1)||_)=true;rw[show((kz.map l9).all λp=> !fj p.1)=true from by unfold kz;decide +kernel];rfl
theorem W7{a:W}(hm:m σ H=.ok (.ref i) H)(hi:H[i]? =O (.lst (a::ws))):cm m (bA {1}) bJ σ H=.ok (.ref ↑H) (H++[.lst ws]):=zI (k:=1) hm hi rfl
theorem PU(ha:bg l)(hl:↑l<=100000)(H:PH):∃H',pX [.str (tx l)] H=.ok (rl (gj l)) H'/\Ex H H':=by
 obtain⟨w0,ws,ew⟩:=km 32 l;have iy:=mG 32 l;have Ld:∀w∈w0::ws,bg w/\↑w<=1000000:=λw hw=>by
  rw[<- ew] at hw;exact⟨ha.sub λx hx=>kn 32 l w hw x hx,by have:=iy.2 w hw;omega⟩
 have y9:↑ws<=100000:=by have:=iy.1;rw[ew,abP] at this;omega
 obtain⟨H0,h9⟩:∃H0,H0=H++[PO.lst ((w0::ws).map aq)]:=⟨_,rfl⟩
 obtain⟨H1,eW⟩:∃H1,H1=H0++[PO.bI jC]:=⟨_,rfl⟩
 obtain⟨H2,dR⟩:∃H2,H2=H1++[PO.bI jD]:=⟨_,rfl⟩
 obtain⟨H3,ke⟩:∃H3,H3=H2.set ↑H0 (PO.bI (kz.map l9)):=⟨_,rfl⟩
 have x0:Ex H H0:=h9▸Ex.one _ _;have x1:Ex H0 H1:=eW▸Ex.one _ _;have x2:Ex H1 H2:=dR▸Ex.one _ _;have x3:Ex H0 H3:=by rw[ke];exact Ex.set (x1.trans x2) (abO _) _
 have g0:H0[↑H]? =O (.lst ((w0::ws).map aq)):=by rw[h9];exact bp _ _
 have g1:H1[↑H0]? =O (.bI jC):=by rw[eW];exact bp _ _
 have g2:H2[↑H1]? =O (.bI jD):=by rw[dR];exact bp _ _
 have g3:H3[↑H0]? =O (.bI (kz.map l9)):=by rw[ke];exact ku (x2.get g1)
 have l01:↑H0≠↑H1:=by rw[eW];simp
 have gw:=x3.get g0;obtain⟨st,aF⟩:∃st:dO->Option W->Option W->aG,st=λo3 o4 o5=>[O (.str (tx l)),⇑↑H,⇑↑H0,o3,o4,o5]:=⟨_,rfl⟩
 have a1:aM (bL cy fP (af 0) (ag (eC (.str " ")) ai)) (gN 1) (O (.str (tx l))::abS (6-1) Z) H=.ok (.nx [O (.str (tx l)),⇑↑H,Z,Z,Z,Z]) H0:=by
  rw[h9,<- ew];exact asg (vW yl rfl hl)
 have a2:aM (tX [({"set"},{"nk"}),({"copy"},{"nn"}),({"do"},{"nwnn"}),({"take"},{"n"}),({"tell"},{"n"})]) (gN 2) [O (.str (tx l)),⇑↑H,Z,Z,Z,Z] H0=.ok (.nx (st Z Z Z)) H1:=by
  rw[aF,eW];exact asg (show lift (mK ↑H0 jC) (H0++[.bI []])=_ from JH W3 (by unfold jC;decide +kernel))
 have a3:d3 (bL rg pd (af 2) (ag (tX [({"if"},{"nk"}),({"go"},{"k"}),({"turn"},(eC (.str ""))),({"end"},(eC (.str "")))]) ai)) (st Z Z Z) H1=.ok (.nx (st Z Z Z)) H3:=by
  have c:lift (oX (rg (.ref ↑H0))) H1=.ok () H1:=by
   unfold lift oX;rw[if_pos (by unfold rg;rw[oM g1];rfl)]
  refine aj (a:=.ay) (ph':=H3) ?_ rfl;rw[qc];refine aj (a:=.ref ↑H0) (ph':=H1) (by rw[aF];rfl) (aj c (aj (a:=[.ref ↑H1]) (ph':=H2) (au (w:=.ref ↑H1) (ph1:=H2) ?_ rfl) ?_))
  ·rw[dR];exact(show lift (mK ↑H1 jD) (H1++[.bI []])=_ from JH W4 (by unfold jD;decide +kernel))
  ·rw[ke,<- W5];exact Y1 (x2.get g1) g2 l01 (by unfold jC;simp) (by unfold jD;simp) (by unfold jC;decide +kernel) (by unfold jD;decide +kernel) (by unfold jC jD;decide)
 have hZ:∀{K:PH} {o3 o4 o5:dO},Ex H3 K->ah aE (af 1) {0} (st o3 o4 o5) K=.ok (.str (tx w0)) K:=λ{K o3 o4 o5} x=>op (x:=.ref ↑H) (y:=.int 0) (by rw[aF];rfl) rfl (iG (x.get gw) (fq _ 0 (by simp)))
 have rX:eT (ah fc (ah aE (af 1) {0}) (af 2)) (st Z Z Z) H3=.ok (!(formOf w0).isSome) H3:=by
  refine tB ((op (hZ (Ex.refl _)) (y:=.ref ↑H0) (by rw[aF];rfl) (Qy g3 (MP _))).trans ?_);rw[BJ,JD,afn]
 unfold pX FZ;rw[dh];unfold gj;rw[ew]
 dsimp only
 cases hf:formOf w0 with
 | none=>
  rw[hf] at rX;exact⟨H3,bq a1 (bq a2 (bq a3 (bT (bh (oT rX) rfl)))),x0.trans x3⟩
 | some ks=>
  rw[hf] at rX
  dsimp only
  have DY:=pY hf;have MQ:∀{K:PH} {o3 o4 o5:dO},Ex H3 K->ah aE (af 2) (ah aE (af 1) {0}) (st o3 o4 o5) K=.ok (.str (tx (ks.map Kd.c))) K:=λ{K o3 o4 o5} x=>op (x:=.ref ↑H0) (by rw[aF];rfl) (hZ x) (SN (x.get g3) (MP _) (by rw[BJ,JD,hf];rfl))
  have lw:aR bz (ag (af 1) ai) (st Z Z Z) H3=.ok (.int ((↑ws+1:Nat):Int)) H3:=aj (au (w:=.ref ↑H) (by rw[aF];rfl) rfl) ((jL gw).trans (by rw[abI,abP]));have ld:aR bz (ag (ah aE (af 2) (ah aE (af 1) {0})) ai) (st Z Z Z) H3=.ok (.int (↑ks:Int)) H3:=aj (au (MQ (Ex.refl _)) rfl) ((qx (by rw[abI];omega) H3).trans (by rw[abI]));have tl:eT (ah ck (aR bz (ag (af 1) ai)) (ah addW {1} (aR bz (ag (ah aE (af 2) (ah aE (af 1) {0})) ai)))) (st Z Z Z) H3=.ok (!decide (↑ws=↑ks)) H3:=by
   refine tB ((op lw (ad rfl ld) (Lk _ _ H3)).trans ?_);rw[show decide (((↑ws+1:Nat):Int)=1+(↑ks:Int))=decide (↑ws=↑ks) from decide_eq_decide.mpr ∅]
  by_cases bj:↑ws=↑ks
  case neg=>
   rw[aX bj] at tl;rw[if_neg bj];exact⟨H3,bq a1 (bq a2 (bq a3 (bT (bh (oF rX tl) rfl)))),x0.trans x3⟩
  rw[aL bj] at tl;rw[if_pos bj];obtain⟨H4,jE⟩:∃H4,H4=H3++[PO.lst [aq w0]]:=⟨_,rfl⟩
  obtain⟨H5,ia⟩:∃H5,H5=H4++[PO.lst (ws.map aq)]:=⟨_,rfl⟩
  have x4:Ex H3 H4:=jE▸Ex.one _ _;have x5:Ex H4 H5:=ia▸Ex.one _ _;have g4:H4[↑H3]? =O (.lst [aq w0]):=by rw[jE];exact bp _ _
  have g5:H5[↑H4]? =O (.lst (ws.map aq)):=by rw[ia];exact bp _ _
  have l45:↑H3≠↑H4:=by rw[jE];simp
  have a5:aM (bP (ag (ah aE (af 1) {0}) ai)) (gN 3) (st Z Z Z) H3=.ok (.nx (st ⇑↑H3 Z Z)) H4:=by
   have e:bP (ag (ah aE (af 1) {0}) ai) (st Z Z Z) H3=.ok (.ref ↑H3) H4:=by
    rw[jE];exact aj (au (hZ (Ex.refl _)) rfl) (k7 [aq w0] H3 (show 1<=acd by decide))
   rw[asg e,aF];rfl
  have iA:mS (ag (ah aE (af 2) (ah aE (af 1) {0})) (ag (cm (af 1) (bA {1}) bJ) ai)) (st ⇑↑H3 Z Z) H4=.ok ((ks.zip ws).map vX,λp=>decide (jR (.ref ↑H4) p=O (ws.map aq))) H5:=by
   rw[ia];exact W6 (MQ x4) (W7 (i:=↑H) (a:=aq w0) (by rw[aF];rfl) (x4.get gw)) rfl
  have key:=sX (chk:=λp=>decide (jR (.ref ↑H4) p=O (ws.map aq))) (g:=g8 2 [(gN 4),(gN 5)]) (b:=kS) (λw K=>w=.ay/\aT cY (ks.zip ws)=Z/\Ex H3 K) (λj σ K=>∃o4 o5 ps,σ=st ⇑↑H3 o4 o5/\Ex H3 K/\K[↑H3]? =O (.lst ((Pt.s w0::ps).map Pt.w))/\K[↑H4]? =O (.lst (ws.map aq))/\aT cY ((ks.zip ws).take j)=O ps) ((ks.zip ws).map vX) 0 (st ⇑↑H3 Z Z) H5
   (λj σ K hI=>by
    obtain⟨_,_,_,_,_,_,q,_⟩:=hI;exact aL (by unfold jR;simp only[q])) (λj x σ K hj hI=>by
    rw[adE] at hI ⊢;obtain⟨o4,o5,ps,rfl,y,gr,gt,hm⟩:=hI;rw[abQ] at hj;obtain⟨q,hq,rfl⟩:=abU.mp hj;have MR:=abY hq;obtain⟨b1,b2⟩:=Ld q.2 (abN _ (afd MR).2);have hps:↑ps<=4:=by
     have:=A1 hm;rw[acw,aff] at this;omega
    have tk:(ks.zip ws).take (j+1)=(ks.zip ws).take j++[q]:=by rw[adO,hq];rfl
    refine⟨st ⇑↑H3 (O (bw q.1.c)) (O (aq q.2)),K,by rw[aF];rfl,?_⟩
    rcases PR (q:=q) b1 b2 (x0:=.str (tx l)) (x1:=.ref ↑H) (x2:=.ref ↑H0) gr (by rw[abI,abP];omega) with⟨hn,K',e,z⟩ | ⟨p,hp,o,K',e,z⟩
    ·exact⟨_,K',by rw[aF];exact e,.inr ⟨_,rfl,rfl,F8 MR hn,y.trans z⟩⟩
    ·refine⟨_,_,by rw[aF];exact e,.inl ⟨_,.inl rfl,O (bw q.1.c),o,ps++[p],by rw[aF],Ex.set (y.trans z) (abO _) _,?_,(oE l45).trans (z.get gt),?_⟩⟩
     ·rw[ku (z.get gr),<- List.map_singleton,<- adk];rfl
     ·rw[tk,F7,hm,hp]) ⟨Z,Z,[],rfl,x4.trans x5,x5.get g4,g5,rfl⟩
  rcases key with⟨ao,H6,e6,o4,o5,ps,rfl,y,gr,gt,hm⟩ | ⟨w,H6,e6,rfl,hm,y⟩
  ·rw[adE,abI,aeq] at hm;rw[hm];refine⟨H6,bq a1 (bq a2 (bq a3 (bq (aK (oF rX tl) rfl) (bq a5 (bq (gf iA e6) (br (aj (au (w:=.ref ↑H3) (by rw[aF];rfl) rfl) ?_))))))),x0.trans (x3.trans y)⟩;unfold lift qo;simp only[cM,gr];rfl
  ·rw[hm];exact⟨H6,bq a1 (bq a2 (bq a3 (bq (aK (oF rX tl) rfl) (bq a5 (bT (gf iA e6)))))),x0.trans (x3.trans y)⟩
noncomputable def vY:Nm:=[100,111]
theorem Y2:abH "do"=tx vY:=⋯
noncomputable def JK:Rw->Bool
 | .s h::_=>decide (h=vY)
 | _=>false
noncomputable def kI(r:Rw)(k:Nat):Option Nm:=match(r[k]? :Option Pt) with
 | some (.s cs)=>if(JK r&&decide (k=2))=true then Z else O cs
 | _=>Z
noncomputable def gB(r:Rw):List Nm:=(adm (↑r-1)).filterMap λj=>kI r (j+1)
noncomputable def gU(M:List Nm):bN:=M.map λa=>(aq a,W.bl true)
theorem Y3(M:List Nm)(a:Nm):je (gU M) (aq a) (.bl true)=gU (b8 M a):=by
 have hi:∀b:Nm,aq b=aq a↔b=a:=λb=>⟨λz=>ko (W.str.inj z),λz=>by rw[z]⟩
 unfold je b8 gU;by_cases h:a∈M
 ·rw[if_pos h,if_pos]
  ·rw[acz];refine adb λb _=>?_
   show(if aq b=aq a then(aq b,W.bl true) else(aq b,W.bl true))=_;split <;> rfl
  ·rw[aep];exact⟨(aq a,.bl true),ach.mpr ⟨a,h,rfl⟩,aL rfl⟩
 ·rw[if_neg h,if_neg]
  ·rw[adk];rfl
  ·rw[aep];rintro⟨p,hp,q⟩;obtain⟨b,hb,rfl⟩:=ach.mp hp;rw[decide_eq_true_eq] at q;exact h ((hi b).mp q▸hb)
theorem okN(M:List Nm)(z:Str):jf (gU M) (.str z)=true:=by
 have:(gU M).all (λp=> !fj p.1)=true:=by
  rw[acA];intro p hp;obtain⟨a,_,rfl⟩:=ach.mp hp;rfl
 show((true&&(gU M).all λp=> !fj p.1)||_)=true;rw[this];rfl
theorem JL(h:∀p∈r,p.cX){p:Pt}(e:r[k]? =O p):p.cX:=h p (abY e)
theorem uW{p:Pt}(h:r[k]? =O p)(H:PH):lift (aE (Rw.w r) (.int k)) H=.ok p.w H:=by
 have hl:=(abL.mp h).1;have e:cP (.tup (r.map Pt.w)) (.int k) H=O (p.w,H):=by
  unfold cP;simp only[cM,adj];rw[fq _ _ (by rw[abI];exact hl),abQ,h];rfl
 rw[Rw.w,qI];unfold lift;rw[e]
theorem PV(hr:∀p∈r,p.cX)(h0:∃hd,r[0]? =O (.s hd)){di:Nat}{p:Pt}(hk:r[k]? =O p)(hd:H[di]? =O (.bI (gU M)))(hl:↑M<=1000){o3:dO} :
  wq [⇑ri,⇑di,O (Rw.w r),↥k] H=.ok (.nx [⇑ri,⇑di,O (Rw.w r),↥k]) (match kI r k with
   | some a=>H.set di (.bI (gU (b8 M a)))
   | none=>H):=by
 obtain⟨pP,e0⟩:=h0;have D4:ah aE (af 2) (af 3) [⇑ri,⇑di,O (Rw.w r),↥k] H=.ok p.w H:=op rfl rfl (uW hk H);have hZ:ah aE (af 2) {0} [⇑ri,⇑di,O (Rw.w r),↥k] H=.ok (.str (tx pP)) H:=op rfl rfl (uW (k:=0) e0 H);have hdo:JK r=decide (pP=vY):=by
  cases r with
  | nil=>cases e0
  | cons a l=>cases e0;rfl
 unfold wq kI;rw[hk,hdo];cases p with
 | n i=>exact aK (tF (eB (aj D4 rfl))) rfl
 | t=>exact(JL hr hk).elim
 | s cs=>
  have t1:d9 (eT (ah bo (ah aE (af 2) {0}) {"do"})) (eT (ah bo (af 3) {2})) [⇑ri,⇑di,O (Rw.w r),↥k] H=.ok (decide (pP=vY)&&decide (k=2)) H:=by
   refine uy (tB (op hZ rfl (by rw[Y2];exact oQ (JL hr e0).1 (gv rfl) H))) (tB ((op rfl rfl (yO _ _ H)).trans ?_));rw[show decide ((k:Int)=2)=decide (k=2) from decide_eq_decide.mpr ∅]
  have s1:bW (cN "str" (ah aE (af 2) (af 3))) [⇑ri,⇑di,O (Rw.w r),↥k] H=.ok true H:=eB (aj D4 rfl)
  dsimp only
  cases hb:decide (pP=vY)&&decide (k=2) with
  | true=>
   rw[hb] at t1;exact aK (tT s1 (cL t1)) rfl
  | false=>
   rw[hb] at t1;refine bh (tT s1 (cL t1)) ?_;rw[Be,cc (show eC (.bl true) _ H=.ok (.bl true) H from rfl)];refine aj (a:=[⇑ri,⇑di,O (Rw.w r),↥k]) (ph':=H.set di (.bI (gU (b8 M cs)))) ?_ rfl;rw[GJ];refine aj (a:=.ref di) (ph':=H) rfl (aj D4 (aj (a:=()) ?_ rfl));have e:qZ (.ref di) (aq cs) (.bl true) H=O ((),H.set di (.bI (gU (b8 M cs)))):=by
    unfold qZ;simp only[oM hd];rw[if_pos ⟨okN M _,by unfold gU;rw[abI];exact Nat.lt_of_le_of_lt hl (by decide)⟩,Y3]
   unfold lift;exact(by rw[show qZ (.ref di) (Pt.s cs).w (.bl true) H=_ from e])
theorem take_range(n j:Nat)(h:j<n):(adm n).take (j+1)=(adm n).take j++[j]:=by
 rw[adO,agu h];rfl
theorem Ra{f:Nat->Option Nm}(l:cW)(M:List Nm):((l.filterMap f).foldl b8 M).length<=↑M+↑l:=abX (td _ M).1 (Nat.add_le_add_left (afI _ _) _)
theorem PX(hr:∀p∈r,p.cX)(h0:∃hd,r[0]? =O (.s hd))(hl5:↑r<=10){di:Nat}(hd:H[di]? =O (.bI (gU M)))(hl:↑M<=900){o3:dO}:∃o H',wt [⇑ri,⇑di,O (Rw.w r),o3] H=.ok (.nx [⇑ri,⇑di,O (Rw.w r),o]) H'/\H'[di]? =O (.bI (gU ((gB r).foldl b8 M)))/\∀i o,i≠di->H[i]? =O o->H'[i]? =O o:=by
 have il:1<=↑r:=by obtain⟨hd,e⟩:=h0;exact(abL.mp e).1
 obtain⟨ao,H',e,⟨o,rfl⟩,g,kp⟩:=kj (chk:=λ_=>true) (g:=gN 3) (b:=wq) (λj σ K=>(∃o,σ=[⇑ri,⇑di,O (Rw.w r),o])/\K[di]? =O (.bI (gU ((((adm (↑r-1)).take j).filterMap λj=>kI r (j+1)).foldl b8 M)))/\∀i o,i≠di->H[i]? =O o->K[i]? =O o) (fv 1 (↑r-1)) [⇑ri,⇑di,O (Rw.w r),o3] H
  (λ_ _ _ _=>rfl) (λj x σ K hj hI=>by
   obtain⟨⟨o,rfl⟩,g,kp⟩:=hI;obtain⟨j1,rfl⟩:=xi hj;obtain⟨M',D5⟩:∃M',M'=(((adm (↑r-1)).take j).filterMap λj=>kI r (j+1)).foldl b8 M:=⟨_,rfl⟩
   rw[<- D5] at g;have eo:↑M'<=1000:=by
    have:=Ra (f:=λj=>kI r (j+1)) ((adm (↑r-1)).take j) M;rw[acw] at this;rw[D5];omega
   obtain⟨p,hp⟩:∃p,r[j+1]? =O p:=iM ∅;refine⟨[⇑ri,⇑di,O (Rw.w r),↥((j+1:Nat):Int)],K,by rw[show(1:Int)+(j:Int)=((j+1:Nat):Int) by omega];rfl,?_⟩;have st:=PV hr h0 (ri:=ri) hp g eo (o3:=Z);have tk:(((adm (↑r-1)).take (j+1)).filterMap λj=>kI r (j+1)).foldl b8 M=match kI r (j+1) with
     | some a=>b8 M' a
     | none=>M':=by
    rw[take_range _ _ j1,ahK,aeL,<- D5];show(List.filterMap _ [j]).foldl b8 M'=_;rw[aeh];cases kI r (j+1) <;> rfl
   rw[tk];cases hn:kI r (j+1) with
   | none=>
    rw[hn] at st;exact⟨_,K,st,_,.inl rfl,⟨_,rfl⟩,g,kp⟩
   | some a=>
    rw[hn] at st;exact⟨_,_,st,_,.inl rfl,⟨_,rfl⟩,ku g,λi o hi ho=>(oE (adD hi)).trans (kp i o hi ho)⟩) ⟨⟨o3,rfl⟩,hd,λi o _ h=>h⟩
 have bj:(fv 1 (↑r-1)).length=↑r-1:=by unfold fv;simp
 rw[bj,aem (by simp)] at g;refine⟨o,H',?_,g,kp⟩;unfold wt;refine gf (ph1:=H) (V7 (i:=1) (j:=(↑r:Int)) (au rfl (au (aj (au (w:=Rw.w r) rfl rfl) ?_) rfl)) (by decide) (by decide) ∅ ∅) ?_
 ·show Out.ok (W.int (((r.map Pt.w).length:Nat):Int)) H=_;rw[abI]
 ·rw[show((↑r:Int)-1).toNat=↑r-1 by omega];exact e
theorem Y4{a b:PH}(h:∀(i:Nat) (o:PO),a[i]? =O o->b[i]? =O o):Ex a b:=by
 refine⟨b.drop ↑a,?_⟩;have:b.take ↑a=a:=by
  apply List.ext_getElem?
  intro i;by_cases hi:i<↑a
  ·rw[agW hi,h i _ (acn hi),acn hi]
  ·rw[agc (by rw[acw];omega),agc ∅]
 conv=>lhs;rw[<- afh ↑a b,this]
theorem W8(hR:H[ri]? =O (.lst (R.map Rw.w)))(wr:Wr R)(h0:∀r∈R,∃hd,r[0]? =O (.s hd))(hn:↑R<=60):∃H',se [.ref ri] H=.ok (.int ((((R.flatMap gB).foldl b8 []).length:Nat):Int)) H'/\Ex H H':=by
 have lN:∀r∈R,(gB r).length<=9:=λr hr=>by
  have:=wr.l r hr;refine abX (afI _ _) ?_;rw[afp];omega
 have CW:∀j,((((R.take j).flatMap gB).foldl b8 []).length)<=600:=λj=>by
  refine abX (td _ []).1 ?_;rw[List.length_flatMap];have:=oG (λr=>(gB r).length) (B:=9) (R.take j) λr hr=>lN r (acH hr)
  rw[acw] at this;simp only[acS];omega
 obtain⟨ao,H',e,⟨o2,o3,rfl⟩,x,g⟩:=kj (chk:=λp=>decide (p[ri]? =O (.lst (R.map Rw.w)))) (g:=gN 2) (b:=wt) (λj σ K=>(∃o2 o3,σ=[⇑ri,⇑↑H,o2,o3])/\Ex H K/\K[↑H]? =O (.bI (gU (((R.take j).flatMap gB).foldl b8 [])))) (R.map Rw.w) [⇑ri,⇑↑H,Z,Z] (H++[.bI []])
  (λ_ _ _ h=>aL (h.2.1.get hR)) (λj x σ K hj hI=>by
   obtain⟨⟨o2,o3,rfl⟩,y,g⟩:=hI;rw[abQ] at hj;obtain⟨r,hr,rfl⟩:=abU.mp hj;have hm:=abY hr;obtain⟨o,K',e,g',kp⟩:=PX (wr.f r hm) (h0 r hm) (wr.l r hm) (ri:=ri) g (abX (CW j) (by decide)) (o3:=o3);refine⟨_,_,rfl,_,K',e,_,.inl rfl,⟨_,_,rfl⟩,?_,?_⟩
   ·refine Y4 λi o hi=>kp i o (acQ (Cb hi)) (y.get hi)
   ·rw[g',adO,hr,agB,aeL];simp) ⟨⟨Z,Z,rfl⟩,Ex.one _ _,bp _ _⟩
 rw[abI,aeq] at g;refine⟨H',?_,x⟩;unfold se EC;rw[dh];refine bq (ph1:=H++[.bI []]) (σ1:=[⇑ri,⇑↑H,Z,Z]) (asg rfl) (bq (gf (i5 rfl ((Ex.one _ _).get hR)) e) (br (aj (au (w:=.ref ↑H) rfl rfl) ?_)));have e2:uQ [.ref ↑H] H'=O (.int ((((R.flatMap gB).foldl b8 []).length:Nat):Int),H'):=by
  unfold uQ;simp only[oM g];unfold gU;rw[abI]
 unfold lift;rw[e2]
theorem Rb{q:Kd×Nm}{p:Pt}(ha:bg q.2)(h:cY q=O p):p.cX:=by
 obtain⟨k,w⟩:=q;have num:lJ w=O p->p.cX:=λh=>by
  unfold lJ at h;cases hn:mL w with
  | none=>rw[hn] at h;cases h
  | some v=>
   rw[hn] at h
   dsimp only at h
   split at h
   ·cases h
   ·cases h;unfold mL at hn;split at hn
    ·rename_i hc;cases hn;simp only[abK,decide_eq_true_eq] at hc;show(eJ w).natAbs<10 ^ 10;have:=hc.2.2;unfold eJ;split <;> omega
    ·cases hn
 cases k with
 | bM=>
  unfold cY at h
  dsimp only at h
  split at h
  ·rename_i hn;cases h;exact⟨ha,abX (t8 hn).hi (by decide)⟩
  ·cases h
 | fk=>
  unfold cY at h
  dsimp only at h
  split at h
  ·rename_i hn;cases h;exact⟨ha,abX (Ie w hn) (by decide)⟩
  ·cases h
 | num=>exact num h
 | dj=>exact num h
theorem w6(h:gj l=O r):∃w0 ws ks ps,bG 32 l=w0::ws/\formOf w0=O ks/\↑ws=↑ks/\aT cY (ks.zip ws)=O ps/\r=.s w0::ps:=by
 obtain⟨w0,ws,ew⟩:=km 32 l;unfold gj at h;rw[ew] at h
 dsimp only at h
 cases hf:formOf w0 with
 | none=>rw[hf] at h;cases h
 | some ks=>
  rw[hf] at h
  dsimp only at h
  split at h
  ·rename_i hl;obtain⟨ps,hp,rfl⟩:=abU.mp h;exact⟨w0,ws,ks,ps,ew,hf,hl,hp,rfl⟩
  ·cases h
theorem N4(ha:bg l)(h:gj l=O r):(∀p∈r,p.cX)/\↑r<=5/\∃hd,(r[0]? :Option Pt)=O (.s hd):=by
 obtain⟨w0,ws,ks,ps,ew,hf,hl,hp,rfl⟩:=w6 h;have uX:∀w∈w0::ws,bg w:=λw hw=>ha.sub λx hx=>kn 32 l w (ew▸hw) x hx
 have h4:=pY hf;refine⟨λp Dr=>?_,?_,w0,rfl⟩
 ·rcases abR.mp Dr with z | z
  ·rw[z];exact⟨uX w0 (by simp),abX (GX hf) (by decide)⟩
  ·obtain⟨q,hq,e⟩:=sY hp p z;exact Rb (uX q.2 (abN _ (afd hq).2)) e
 ·have:=A1 hp;rw[aff] at this;rw[abP];omega
noncomputable def Pt.d:Pt->afr
 | .s cs=>.str (tx cs)
 | .n i=>.int i
 | .t=>.bool true
theorem W9{p:Pt}(h:p.cX)(H:PH)(n:Nat):dat H n p.w=O p.d:=by
 cases p with
 | s cs=>exact t9 h.1 H n
 | n i=>exact um H n i
 | t=>exact h.elim
theorem BK(h:∀p∈r,p.cX)(H:PH)(n:Nat):dat H (n+1) (Rw.w r)=O (.tuple (r.map Pt.d)):=by
 refine jM ?_
 induction r with
 | nil=>rfl
 | cons p r ih=>exact mc (W9 (h p (by simp)) H n) (ih λq hq=>h q (abN _ hq))
noncomputable def jV:Option Rw->Bool
 | some [.s h]=>decide (h=mT)
 | _=>false
theorem Xa(h:∀p∈r,p.cX):acI (.tuple (r.map Pt.d)) (.tuple [.str (tx mT)])=jV (O r):=by
 match r,h with
 | [],_=>simp[acI,aec,jV]
 | [.s c],_=>
  simp only[ace,afH,acI,aec,afV,Pt.d,jV];exact decide_eq_decide.mpr ⟨ko,λz=>by rw[z]⟩
 | [.n i],_=>simp[acI,aec,jV,Pt.d]
 | [.t],h=>exact(h .t (by simp)).elim
 | p::q::r,_=>simp[acI,aec,jV]
noncomputable def gV:Nm:=[105,102]
noncomputable def gW:Nm:=[103,111]
noncomputable def hW:Rw->Bool
 | .s h::_=>decide (h∈[gV,gW])
 | _=>false
noncomputable def qN(r:Rw):Int:=match r.getLast? with
 | some (.n v)=>v
 | _=>0
noncomputable def nA(R:List Rw)(j:Nat)(r:Rw):Bool:= !hW r||(decide (0<=qN r)&&(decide (qN r<=(↑R:Int))&&(!decide (qN r<=(j:Int))||jV (R[(qN r).toNat]? :Option Rw))))
noncomputable def xw(R:List Rw):Bool:=decide (↑R<=60)&&(decide (((R.flatMap gB).foldl b8 []).length<=12)&&(adm ↑R).all λj=>nA R j (R.getD j []))
noncomputable def qi(cs:Nm):Option (List Rw):=if cs=[] then O [] else match aT gj (bG 10 cs) with
 | none=>Z
 | some R=>if xw R=true then O R else Z
theorem Rc(h:gj l=O r)(hj:hW r=true):∃v,(r[↑r-1]? :Option Pt)=O (.n v)/\qN r=v/\0<↑r:=by
 obtain⟨w0,ws,ks,ps,ew,hf,hl,hp,rfl⟩:=w6 h;have hw:w0=gV\/w0=gW:=by
  have:decide (w0∈[gV,gW])=true:=hj
  simpa using this
 have kv:∀{w:Nm} {p:Pt},lJ w=O p->∃v,p=.n v:=λ{w p} h=>by
  unfold lJ at h;cases hn:mL w with
  | none=>rw[hn] at h;cases h
  | some v=>
   rw[hn] at h
   dsimp only at h
   split at h
   ·cases h
   ·cases h;exact⟨v,rfl⟩
 rcases hw with rfl | rfl
 ·have e:formOf gV=O [.bM,.dj]:=by decide
  rw[e] at hf;cases hf
  match ws,hl with
  | [a,b],_=>
   have hp:aT cY [(.bM,a),(.dj,b)]=O ps:=hp;unfold aT at hp;cases h1:cY (.bM,a) with
   | none=>rw[h1] at hp;cases hp
   | some p1=>
    unfold aT at hp;cases h2:cY (.dj,b) with
    | none=>rw[h1,h2] at hp;cases hp
    | some p2=>
     rw[h1,h2] at hp;cases hp;obtain⟨v,rfl⟩:=kv (w:=b) h2;exact⟨v,rfl,rfl,by simp⟩
 ·have e:formOf gW=O [.dj]:=by decide
  rw[e] at hf;cases hf
  match ws,hl with
  | [b],_=>
   have hp:aT cY [(.dj,b)]=O ps:=hp;unfold aT at hp;cases h2:cY (.dj,b) with
   | none=>rw[h2] at hp;cases hp
   | some p2=>
    rw[h2] at hp;cases hp;obtain⟨v,rfl⟩:=kv (w:=b) h2;exact⟨v,rfl,rfl,by simp⟩
theorem T4{L:List (Option Rw)}(h:H[i]? =O (.lst (L.map rl)))(hf:∀r,O r∈L->∀p∈r,p.cX):lift (fD .ay (.ref i)) H=.ok (.bl (L.any (·.isNone))) H:=by
 have key:∃ds,aT (dat H 40) (L.map rl)=O ds/\(ds.any λe=>acI e .none)=L.any (·.isNone):=by
  clear h
  induction L with
  | nil=>exact⟨[],rfl,rfl⟩
  | cons o L ih=>
   obtain⟨ds,e,q⟩:=ih λr hr=>hf r (abN _ hr)
   cases o with
   | none=>exact⟨.none::ds,mc (by cases H <;> rfl) e,by simp[acI]⟩
   | some r=>exact⟨.tuple (r.map Pt.d)::ds,mc (BK (hf r (by simp)) H 39) e,by rw[acO,acO,q];simp[acI]⟩
 obtain⟨ds,e,q⟩:=key;rw[SO h e rfl,q]
theorem GZ{α β:Type}(f:α->Option β):∀l:List α,((l.map f).any (·.isNone)=true/\aT f l=Z)\/∃m,aT f l=O m/\(l.map f).any (·.isNone)=false/\l.map f=m.map O
 | []=>.inr ⟨[],rfl,rfl,rfl⟩
 | a::l=>by
  cases ha:f a with
  | none=>exact .inl ⟨by rw[ace,acO,ha];rfl,by unfold aT;rw[ha]⟩
  | some b=>
   rcases GZ f l with⟨h1,h2⟩ | ⟨m,h1,h2,h3⟩
   ·exact .inl ⟨by rw[ace,acO,ha,h1];rfl,by unfold aT;rw[ha,h2]⟩
   ·exact .inr ⟨b::m,mc ha h1,by rw[ace,acO,ha,h2];rfl,by rw[ace,ha,h3];rfl⟩
theorem OA{x0:W}(hR:H[ri]? =O (.lst (R.map Rw.w)))(hf:∀r∈R,∀p∈r,p.cX)(hr:R[j]? =O r)(hl:gj l=O r):∃H',wB [O x0,⇑ri,↥j,O (Rw.w r)] H=.ok (if nA R j r=true then .nx [O x0,⇑ri,↥j,O (Rw.w r)] else .rt .ay) H'/\Ex H H':=by
 obtain⟨w0,ws,ks,ps,ew,hfm,bj,hp,er⟩:=w6 hl;have eO:=hf r (abY hr);have ha0:bg w0:=(eO (.s w0) (by rw[er];simp)).1;have j1:=(abL.mp hr).1;have hZ:ah aE (af 3) {0} [O x0,⇑ri,↥j,O (Rw.w r)] H=.ok (aq w0) H:=op rfl rfl (uW (k:=0) (p:=.s w0) (by rw[er];rfl) H);have nT:eT (ah fD (ah aE (af 3) {0}) (cw (ag {"if"} (ag {"go"} ai)))) [O x0,⇑ri,↥j,O (Rw.w r)] H=.ok (decide (w0∈[gV,gW])) H:=by
  refine tB (op (y:=.tup ([gV,gW].map aq)) (ph2:=H) hZ ?_ (aan (l:=[gV,gW]) (λb hb=>by
   have:∀b∈[gV,gW],(b.all λc=>decide (c<128))=true:=by decide
   exact gv (this b hb)) ha0 H))
  have hw:[gV,gW].map aq=[.str (abH "if"),.str (abH "go")]:=⋯;rw[hw];rfl
 have j9:hW r=decide (w0∈[gV,gW]):=by rw[er];rfl
 unfold wB nA;rw[j9];by_cases rL:w0∈[gV,gW]
 case neg=>
  rw[aX rL] at nT ⊢;exact⟨H,aK nT rfl,Ex.refl _⟩
 rw[aL rL] at nT j9 ⊢;obtain⟨v,hv,Y5,il⟩:=Rc hl j9;rw[Y5];have zP:∀{K:PH},ah aE (af 3) (fY fA {1}) [O x0,⇑ri,↥j,O (Rw.w r)] K=.ok (.int v) K:=λ{K}=>by
  refine op (x:=Rw.w r) (y:=.int (-1)) (ph1:=K) (ph2:=K) rfl rfl ?_;have e:cP (.tup (r.map Pt.w)) (.int (-1)) K=O (.int v,K):=by
   unfold cP;simp only[cM,adj];have:cJ (r.map Pt.w) (-1)= ↥v:=by
    unfold cJ hG;rw[abI,if_neg (by decide),if_pos ∅];show(r.map Pt.w)[((-1:Int)+(↑r:Int)).toNat]? =_;rw[show((-1:Int)+(↑r:Int)).toNat=↑r-1 by omega,abQ,hv];rfl
   rw[this];rfl
  rw[Rw.w,qI];unfold lift;rw[e]
 have len:aR bz (ag (af 1) ai) [O x0,⇑ri,↥j,O (Rw.w r)] H=.ok (.int (↑R:Int)) H:=aj (au rfl rfl) ((jL hR).trans (by rw[abI]));have t1:eT (ah gE (ah aE (af 3) (fY fA {1})) {0}) [O x0,⇑ri,↥j,O (Rw.w r)] H=.ok (!decide (0<=v)) H:=by
  refine tB ((op zP rfl (Lj _ _ H)).trans ?_);rw[show decide (v<0)= !decide (0<=v) from by rw[<- decide_not];exact decide_eq_decide.mpr ∅]
 have t2:eT (ah gF (ah aE (af 3) (fY fA {1})) (aR bz (ag (af 1) ai))) [O x0,⇑ri,↥j,O (Rw.w r)] H=.ok (!decide (v<=(↑R:Int))) H:=by
  refine tB ((op zP len (nz _ _ H)).trans ?_);rw[show decide (v>(↑R:Int))= !decide (v<=(↑R:Int)) from by rw[<- decide_not];exact decide_eq_decide.mpr ∅]
 have t3:eT (ah d7 (ah aE (af 3) (fY fA {1})) (af 2)) [O x0,⇑ri,↥j,O (Rw.w r)] H=.ok (decide (v<=(j:Int))) H:=tB (op zP rfl (lI _ _ H));by_cases h0:0<=v
 case neg=>
  rw[aX h0] at t1 ⊢;exact⟨H,bh nT (bh (oT t1) rfl),Ex.refl _⟩
 rw[aL h0] at t1 ⊢;by_cases hn:v<=(↑R:Int)
 case neg=>
  rw[aX hn] at t2 ⊢;exact⟨H,bh nT (bh (oF t1 (oT t2)) rfl),Ex.refl _⟩
 rw[aL hn] at t2 ⊢;by_cases hj:v<=(j:Int)
 case neg=>
  rw[aX hj] at t3 ⊢;exact⟨H,bh nT (aK (oF t1 (oF t2 (tF t3))) rfl),Ex.refl _⟩
 rw[aL hj] at t3 ⊢;obtain⟨q,hq⟩:∃q,R[v.toNat]? =O q:=iM ∅;rw[hq];have t4:eT (ah ck (ah aE (af 1) (ah aE (af 3) (fY fA {1}))) (cw (ag {"turn"} ai))) [O x0,⇑ri,↥j,O (Rw.w r)] H=.ok (!jV (O q)) H:=by
  refine tB (op (x:=Rw.w q) (y:=.tup [.str "turn"]) (ph1:=H) (ph2:=H) (op rfl zP ?_) rfl (qJ ?_))
  ·have:cJ (R.map Rw.w) v=O (Rw.w q):=by
    have:=fq (R.map Rw.w) v.toNat (by rw[abI];omega);rw[afF h0] at this;rw[this,abQ,hq];rfl
   exact iG hR this
  ·unfold fZ;rw[BK (hf q (abY hq)) H 39,show dat H 40 (.tup [.str (abH "turn")])=O (.tuple [.str (tx mT)]) from jM (mc (by rw[HZ];exact t9 GU H 39) rfl)];exact congrArg O (Xa (hf q (abY hq)))
 cases hb:jV (O q) with
 | false=>
  rw[hb] at t4;exact⟨H,bh nT (bh (oF t1 (oF t2 (tT t3 t4))) rfl),Ex.refl _⟩
 | true=>
  rw[hb] at t4;exact⟨H,bh nT (aK (oF t1 (oF t2 (tT t3 t4))) rfl),Ex.refl _⟩
theorem enR(R:List Rw){w:W}(h:(fS (R.map Rw.w))[j]? =O w):∃r,R[j]? =O r/\w=.tup [.int j,Rw.w r]:=by
 obtain⟨x,h1,h2⟩:=Hx h;rw[abQ] at h1;obtain⟨r,hr,rfl⟩:=abU.mp h1;exact⟨r,hr,h2⟩
theorem PY{cs:Nm}(ha:bg cs)(hl:↑cs<=100000)(H:PH):∃H',Ex H H'/\((qi cs=Z/\nX [.str (tx cs)] H=.ok .ay H')\/∃R i,qi cs=O R/\nX [.str (tx cs)] H=.ok (.ref i) H'/\H'[i]? =O (.lst (R.map Rw.w))/\∀r∈R,∀p∈r,p.cX):=by
 have t0:eT (ah bo (af 0) (eC (.str ""))) [O (.str (tx cs)),Z,Z,Z] H=.ok (decide (cs=[])) H:=tB (op (x:=.str (tx cs)) (y:=.str (tx [])) rfl rfl (oQ ha (gv rfl) H));unfold nX ET;rw[dh];unfold qi;by_cases h:cs=[]
 ·rw[aL h] at t0;rw[if_pos h];exact⟨H++[.lst []],Ex.one _ _,.inr ⟨[],↑H,rfl,bT (bh t0 rfl),bp _ _,λr hr=>nomatch hr⟩⟩
 rw[aX h] at t0;rw[if_neg h];have hc:=mG 10 cs;obtain⟨H0,h9⟩:∃H0,H0=H++[PO.lst ((bG 10 cs).map aq)]:=⟨_,rfl⟩
 have g0:H0[↑H]? =O (.lst ((bG 10 cs).map aq)):=by rw[h9];exact bp _ _
 have x0:Ex H H0:=by rw[h9];exact Ex.one _ _
 have uX:∀l∈bG 10 cs,bg l:=λl eo=>ha.sub λy hy=>kn 10 cs l eo y hy
 obtain⟨H1,e1,x1⟩:=ie (bG 10 cs) aq (im:=cf (bL cy fP (af 0) (ag (eC (.str "\n")) ai))) (cap:=[Z]) (g:=gN 0) (c:=cu) (e:=aP pX (ag (af 0) ai)) (σ:=[O (.str (tx cs)),Z,Z,Z]) (ph0:=H) (ph:=H0) (i5 (by rw[h9];exact vW oR rfl hl) g0) (λK x=>aL (x.get g0)) (small ∅) (λl=>O (rl (gj l))) (λσ=>∃o,σ=[o]) ⟨Z,rfl⟩
  (λl eo σ K hS _=>by
   obtain⟨o,rfl⟩:=hS;obtain⟨K',e,x⟩:=PU (uX l eo) (by have:=hc.2 l eo;omega) K;exact⟨_,rfl,⟨_,rfl⟩,true,K,rfl,Ex.refl _,.inr ⟨rfl,_,K',aj (au rfl rfl) e,x,rfl⟩⟩)
 rw[lc] at x1;have hm:(bG 10 cs).map (λl=>rl (gj l))=((bG 10 cs).map gj).map rl:=by rw[acz];rfl
 rw[hm] at x1;have g1:=x1.get (bp _ _);have y1:Ex H H1:=x0.trans ((Ex.one _ _).trans x1);obtain⟨σ,aU⟩:∃σ:aG,σ=[O (.str (tx cs)),⇑↑H0,Z,Z]:=⟨_,rfl⟩
 have a1:aM (b6 (cf (bL cy fP (af 0) (ag (eC (.str "\n")) ai))) [Z] (gN 0) cu (aP pX (ag (af 0) ai))) (gN 1) [O (.str (tx cs)),Z,Z,Z] H=.ok (.nx σ) H1:=(asg e1).trans (by rw[aU];rfl);have fL:∀r,O r∈(bG 10 cs).map gj->(∀p∈r,p.cX)/\↑r<=5/\∃hd,(r[0]? :Option Pt)=O (.s hd):=λr hr=>by
  obtain⟨l,eo,e⟩:=ach.mp hr;exact N4 (uX l eo) e
 have oS:eT (ah fD (eC .ay) (af 1)) σ H1=.ok (((bG 10 cs).map gj).any (·.isNone)) H1:=tB (op rfl (y:=.ref ↑H0) (by rw[aU];rfl) (T4 g1 λr hr=>(fL r hr).1))
 rcases GZ gj (bG 10 cs) with⟨hn1,pI⟩ | ⟨R,MT,D6,MU⟩
 ·rw[hn1] at oS;rw[pI];exact⟨H1,y1,.inl ⟨rfl,bq (aK t0 rfl) (bq a1 (bT (bh (oT oS) rfl)))⟩⟩
 rw[D6] at oS;rw[MT]
 dsimp only
 have fR:∀r∈R,(∀p∈r,p.cX)/\↑r<=5/\∃hd,(r[0]? :Option Pt)=O (.s hd):=λr hr=>fL r (by rw[MU];exact ach.mpr ⟨r,hr,rfl⟩)
 have gR:H1[↑H0]? =O (.lst (R.map Rw.w)):=by rw[g1,MU,acz];rfl
 have rY:eT (ah gF (aR bz (ag (af 1) ai)) {60}) σ H1=.ok (!decide (↑R<=60)) H1:=by
  refine tB ((op (x:=.int (↑R:Int)) (aj (au (w:=.ref ↑H0) (by rw[aU];rfl) rfl) ((jL gR).trans (by rw[abI]))) rfl (nz _ _ H1)).trans ?_);rw[show decide ((↑R:Int)>60)= !decide (↑R<=60) from by rw[<- decide_not];exact decide_eq_decide.mpr ∅]
 unfold xw;by_cases zQ:↑R<=60
 case neg=>
  rw[aX zQ] at rY;rw[if_neg (by rw[aX zQ];simp)];exact⟨H1,y1,.inl ⟨rfl,bq (aK t0 rfl) (bq a1 (bT (bh (oF oS (oT rY)) rfl)))⟩⟩
 rw[aL zQ] at rY ⊢;have wr:Wr R:=⟨λr hr=>(fR r hr).1,λr hr=>abX (fR r hr).2.1 (by decide),∅⟩
 obtain⟨H2,e2,x2⟩:=W8 gR wr (λr hr=>(fR r hr).2.2) zQ;have vZ:eT (ah gF (aP se (ag (af 1) ai)) {12}) σ H1=.ok (!decide (((R.flatMap gB).foldl b8 []).length<=12)) H2:=by
  refine tB ((op (aj (au (w:=.ref ↑H0) (by rw[aU];rfl) rfl) e2) rfl (nz _ _ H2)).trans ?_);rw[show decide ((((R.flatMap gB).foldl b8 []).length:Int)>12)= !decide (((R.flatMap gB).foldl b8 []).length<=12) from by rw[<- decide_not];exact decide_eq_decide.mpr ∅]
 by_cases jF:((R.flatMap gB).foldl b8 []).length<=12
 case neg=>
  rw[aX jF] at vZ;rw[if_neg (by rw[aX jF];simp)];exact⟨H2,y1.trans x2,.inl ⟨rfl,bq (aK t0 rfl) (bq a1 (bT (bh (oF oS (oF rY vZ)) rfl)))⟩⟩
 rw[aL jF] at vZ ⊢;rw[ade,ade];have zR:=x2.get gR;have key:=sX (chk:=λp=>decide (p[↑H0]? =O (.lst (R.map Rw.w)))) (g:=g8 2 [(gN 2),(gN 3)]) (b:=wB) (λw K=>w=.ay/\Ex H2 K/\∃k,k<↑R/\nA R k (R.getD k [])=false) (λj σ K=>(∃o2 o3,σ=[O (.str (tx cs)),⇑↑H0,o2,o3])/\Ex H2 K/\∀k,k<j->nA R k (R.getD k [])=true) (fS (R.map Rw.w)) 0 σ H2
  (λ_ _ _ h=>aL (h.2.1.get zR)) (λj x σ K hj hI=>by
   rw[adE] at hI ⊢;obtain⟨⟨o2,o3,rfl⟩,y,hk⟩:=hI;obtain⟨r,hr,rfl⟩:=enR R hj;have j1:=(abL.mp hr).1;obtain⟨l,_,hlr⟩:=sY MT r (abY hr);obtain⟨K',e,x⟩:=OA (x0:=.str (tx cs)) (y.get zR) (λr hr=>(fR r hr).1) hr hlr;have hd:R.getD j []=r:=by rw[agF,hr];rfl
   refine⟨[O (.str (tx cs)),⇑↑H0,↥j,O (Rw.w r)],K,rfl,_,K',e,?_⟩;cases hp:nA R j r with
   | true=>exact .inl ⟨_,.inl rfl,⟨_,_,rfl⟩,y.trans x,λk Dk=>by
     by_cases z:k=j
     ·rw[z,hd];exact hp
     ·exact hk k ∅⟩
   | false=>exact .inr ⟨_,rfl,rfl,y.trans x,j,j1,by rw[hd];exact hp⟩) ⟨⟨Z,Z,by rw[aU]⟩,Ex.refl _,λk hk=>by omega⟩
 have iA:mR (ag (af 1) ai) σ H2=.ok (fS (R.map Rw.w),λp=>decide (p[↑H0]? =O (.lst (R.map Rw.w)))) H2:=Aw (by rw[aU];rfl) zR
 rcases key with⟨ao,H3,e3,⟨o2,o3,rfl⟩,x3,hk⟩ | ⟨w,H3,e3,rfl,x3,k,hk,hb⟩
 ·rw[adE,Hy,abI] at hk;rw[if_pos (by rw[acA];exact λj hj=>hk j (adQ.mp hj))];exact⟨H3,(y1.trans x2).trans x3,.inr ⟨R,↑H0,rfl,bq (aK t0 rfl) (bq a1 (bq (aK (oF oS (oF rY vZ)) rfl) (bq (gf iA e3) (br rfl)))),x3.get zR,λr hr=>(fR r hr).1⟩⟩
 ·rw[if_neg (by
   rw[acA];intro z;rw[z k (adQ.mpr hk)] at hb;cases hb)]
  exact⟨H3,(y1.trans x2).trans x3,.inl ⟨rfl,bq (aK t0 rfl) (bq a1 (bq (aK (oF oS (oF rY vZ)) rfl) (bT (gf iA e3))))⟩⟩
noncomputable def Kd.CY(k:Kd)(p:Pt):Bool:=match k with
 | .bM=>p.nm
 | .fk=>p.wd
 | _=>p.num
theorem T5{w:Nm}(h:∃c l,w=c::l/\57<c):cz w=false:=by
 obtain⟨c,l,rfl,hc⟩:=h;have hn:neg (c::l)=false:=by
  unfold neg;rw[decide_eq_false_iff_not];simp;omega
 unfold cz bc;rw[hn];simp only[aew,if_false,ady];rw[show dig c=false from adz.mpr λz=>by have:=HQ.mp z;omega];simp
theorem kJ{w:Nm}(h:cz w=false):Pt.rd w=.s w:=by
 unfold Pt.rd;rw[h];rfl
theorem BM{w:Nm}(h:isNm w=true):cz w=false:=by
 have:=t8 h;cases w with
 | nil=>exact absurd this.lo (by decide)
 | cons c l=>exact T5 ⟨c,l,rfl,by have:=(this.ab c (by simp)).1;omega⟩
theorem BN{w:Nm}(h:w∈eD):cz w=false:=by
 have:∀w∈eD,cz w=false:=by unfold eD;decide
 exact this w h
theorem T6{w:Nm}(h:cz w=true):(Pt.n (eJ w)).num=true↔digitsVal (bc w)<=2147483648/\eJ w≠2147483648:=by
 unfold Pt.num eJ;simp only[abK,decide_eq_true_eq];by_cases hn:neg w=true
 ·rw[if_pos hn];constructor
  ·intro z;omega
  ·intro z;omega
 ·rw[if_neg hn];constructor
  ·intro z;omega
  ·intro z;omega
theorem Ik(k:Kd)(w:Nm)(p:Pt):cY (k,w)=O p↔p=Pt.rd w/\(Pt.rd w).st=w/\k.CY (Pt.rd w)=true:=by
 have num:lJ w=O p↔p=Pt.rd w/\(Pt.rd w).st=w/\(Pt.rd w).num=true:=by
  unfold lJ mL;by_cases aA:cz w=true
  ·have er:Pt.rd w=.n (eJ w):=by unfold Pt.rd;rw[if_pos aA]
   rw[er];have c7:(Pt.n (eJ w)).st=w↔canon w=true:=Q6 aA;rw[c7,T6 aA,aA,ade];by_cases hc:canon w=true
   ·rw[hc,ade];by_cases hd:digitsVal (bc w)<=2147483648
    ·rw[aL hd,if_pos rfl]
     dsimp only
     by_cases hv:eJ w=2147483648
     ·rw[if_pos hv];exact⟨(λz=>nomatch z),λz=>absurd hv z.2.2.2⟩
     ·rw[if_neg hv];exact⟨λz=>⟨(acM z).symm,rfl,hd,hv⟩,λz=>by rw[z.1]⟩
    ·rw[aX hd,if_neg (by decide)];exact⟨(λz=>nomatch z),λz=>absurd z.2.2.1 hd⟩
   ·rw[adz.mpr hc,aeS,if_neg (by decide)];exact⟨(λz=>nomatch z),λz=>absurd z.2.1 (by decide)⟩
  ·have er:Pt.rd w=.s w:=kJ (adz.mpr aA);rw[er,adz.mpr aA,aeS,if_neg (by decide)];exact⟨(λz=>nomatch z),λz=>nomatch z.2.2⟩
 have str:∀{b:Prop} [Decidable b],(b->cz w=false)->((if b then O (Pt.s w) else Z)=O p↔p=Pt.s w/\b):=λ{b _} hb=>by
  by_cases h:b
  ·rw[if_pos h];exact⟨λz=>⟨(acM z).symm,h⟩,λz=>by rw[z.1]⟩
  ·rw[if_neg h];exact⟨(λz=>nomatch z),λz=>absurd z.2 h⟩
 cases k with
 | num=>exact num
 | dj=>exact num
 | bM=>
  show(if isNm w=true then O (Pt.s w) else Z)=O p↔_/\_/\(Pt.rd w).nm=true;rw[str BM];constructor
  ·rintro⟨rfl,h⟩;rw[kJ (BM h)];exact⟨rfl,rfl,h⟩
  ·rintro⟨h1,h2,h3⟩;by_cases aA:cz w=true
   ·have er:Pt.rd w=.n (eJ w):=by unfold Pt.rd;rw[if_pos aA]
    rw[er] at h3;cases h3
   ·rw[kJ (adz.mpr aA)] at h1 h3;exact⟨h1,h3⟩
 | fk=>
  show(if w∈eD then O (Pt.s w) else Z)=O p↔_/\_/\(Pt.rd w).wd=true;rw[str BN];constructor
  ·rintro⟨rfl,h⟩;rw[kJ (BN h)];exact⟨rfl,rfl,aL h⟩
  ·rintro⟨h1,h2,h3⟩;by_cases aA:cz w=true
   ·have er:Pt.rd w=.n (eJ w):=by unfold Pt.rd;rw[if_pos aA]
    rw[er] at h3;cases h3
   ·rw[kJ (adz.mpr aA)] at h1 h3;exact⟨h1,of_decide_eq_true h3⟩
noncomputable def uv(ks:List Kd)(r:Rw):Bool:=(ks.zip r).all λq=>q.1.CY q.2
theorem Bs:∀(ks:List Kd) (ws:List Nm) (ps:Rw),↑ws=↑ks->(aT cY (ks.zip ws)=O ps↔ps=ws.map Pt.rd/\(∀w∈ws,(Pt.rd w).st=w)/\uv ks (ws.map Pt.rd)=true)
 | [],[],ps,_=>⟨λh=>by cases h;exact⟨rfl,(λw hw=>nomatch hw),rfl⟩,λh=>by rw[h.1];rfl⟩
 | [],w::ws,ps,h=>by cases h
 | k::ks,[],ps,h=>by cases h
 | k::ks,w::ws,ps,h=>by
  have ih:=λps=>Bs ks ws ps (by simpa using h)
  have e:uv (k::ks) ((w::ws).map Pt.rd)=(k.CY (Pt.rd w)&&uv ks (ws.map Pt.rd)):=rfl;rw[List.zip_cons_cons,e];constructor
  ·intro z;unfold aT at z;cases h1:cY (k,w) with
   | none=>rw[h1] at z;cases z
   | some p=>
    cases h2:aT cY (ks.zip ws) with
    | none=>rw[h1,h2] at z;cases z
    | some qs=>
     rw[h1,h2] at z;cases z;obtain⟨a1,a2,a3⟩:=(Ik k w p).mp h1;obtain⟨b1,b2,b3⟩:=(ih qs).mp h2;refine⟨by rw[a1,b1];rfl,λx hx=>?_,by rw[a3,b3];rfl⟩
     rcases abR.mp hx with y | y
     ·rw[y];exact a2
     ·exact b2 x y
  ·rintro⟨z1,z2,z3⟩;rw[abK] at z3;rw[z1];exact mc ((Ik k w _).mpr ⟨rfl,z2 w (by simp),z3.1⟩) ((ih _).mpr ⟨rfl,λx hx=>z2 x (abN _ hx),z3.2⟩)
noncomputable def iq:Rw->Bool
 | .s h::r=>match formOf h with
  | some ks=>decide (↑r=↑ks)&&uv ks r
  | none=>false
 | _=>false
noncomputable def Cn(l:Nm):Prop:=∀w∈bG 32 l,(Pt.rd w).st=w
theorem xm(hk:formOf h=O ks):(h,ks)∈fT:=by
 have key:∀D:List (Nm×List Kd),look h D=O ks->(h,ks)∈D:=by
  intro D
  induction D with
  | nil=>intro z;cases z
  | cons p D ih=>
   intro z;unfold look at z;split at z
   ·rename_i e;cases z;rw[e];simp
   ·exact abN _ (ih z)
 exact key fT hk
theorem G1(hk:formOf h=O ks):cz h=false:=by
 have:∀p∈fT,cz p.1=false:=by unfold fT;decide
 exact this _ (xm hk)
theorem xx(l:Nm)(r:Rw):gj l=O r↔r=eZ l/\Cn l/\iq (eZ l)=true:=by
 obtain⟨w0,ws,ew⟩:=km 32 l;have CZ:eZ l=Pt.rd w0::ws.map Pt.rd:=by unfold eZ;rw[ew];rfl
 have cn:Cn l↔(Pt.rd w0).st=w0/\∀w∈ws,(Pt.rd w).st=w:=by
  unfold Cn;rw[ew];simp
 constructor
 ·intro h;obtain⟨v0,vs,ks,ps,ev,hf,hl,hp,rfl⟩:=w6 h;rw[ew] at ev;cases ev;obtain⟨b1,b2,b3⟩:=(Bs ks ws ps hl).mp hp;have e0:=kJ (G1 hf);refine⟨by rw[CZ,e0,b1],cn.mpr ⟨by rw[e0];rfl,b2⟩,?_⟩;rw[CZ,e0];unfold iq;simp only[hf,abI,aL hl,ade,b3]
 ·rintro⟨rfl,hc,h0⟩;obtain⟨c1,c2⟩:=cn.mp hc;rw[CZ] at h0 ⊢;by_cases aA:cz w0=true
  ·have er:Pt.rd w0=.n (eJ w0):=by unfold Pt.rd;rw[if_pos aA]
   rw[er] at h0;cases h0
  ·have er:Pt.rd w0=.s w0:=kJ (adz.mpr aA);rw[er] at h0 ⊢;unfold iq at h0
   dsimp only at h0
   cases hf:formOf w0 with
   | none=>rw[hf] at h0;cases h0
   | some ks=>
    rw[hf] at h0;simp only[abI,abK,decide_eq_true_eq] at h0;unfold gj;rw[ew];simp only[hf,h0.1,if_true];rw[(Bs ks ws _ h0.1).mpr ⟨rfl,c2,h0.2⟩];rfl
structure Nj(r:Rw):Prop where
 j:hW r=false
 t:dS r=[]
 i:∀n,c6 n r=true
 l:gB r=cA r
 n:pg (O (.row r))=jV (O r)
structure Jm(r:Rw)(v:Int):Prop where
 j:hW r=true
 a:qN r=v
 t:dS r=[v.toNat]
 i:∀n,c6 n r=(decide (0<=v)&&decide (v<=(n:Int)))
 l:gB r=cA r
 n:pg (O (.row r))=jV (O r)
theorem tu(hf:formOf h=O ks)(n:Nat)(ps:Rw):c6 n (.s h::ps)=(decide (↑ps=↑ks)&&fits n ks ps):=by
 unfold c6
 dsimp only
 rw[hf]
theorem Cg{p:Pt}(h:p.num=true):∃v,p=.n v:=by
 cases p with
 | n v=>exact⟨v,rfl⟩
 | s cs=>cases h
 | t=>cases h
theorem aao{p:Pt}(h:p.wd=true):∃w,p=.s w:=by
 cases p with
 | s cs=>exact⟨cs,rfl⟩
 | n v=>cases h
 | t=>cases h
theorem F9(h:iq r=true):Nj r\/∃v,Jm r v:=by
 cases r with
 | nil=>cases h
 | cons p0 ps=>
 cases p0 with
 | n i=>cases h
 | t=>cases h
 | s hd=>
 unfold iq at h
 dsimp only at h
 cases hf:formOf hd with
 | none=>rw[hf] at h;cases h
 | some ks=>
 rw[hf] at h
 dsimp only at h
 rw[abK,decide_eq_true_eq] at h;obtain⟨hl,hx⟩:=h;have hm:=xm hf;have pk:∀k (ps:Rw),pick k (.s hd::ps)=((ks.zip ps).filter λq=>decide (q.1=k)).map (·.2):=λk ps=>qh hf k
 unfold fT at hm;simp only[abR,Prod.mk.injEq,aeR,or_false,acY] at hm;have me:=tu hf
 rcases hm with⟨rfl,rfl⟩ | ⟨rfl,rfl⟩ | ⟨rfl,rfl⟩ | ⟨rfl,rfl⟩ | ⟨rfl,rfl⟩ | ⟨rfl,rfl⟩ | ⟨rfl,rfl⟩ | ⟨rfl,rfl⟩ | ⟨rfl,rfl⟩
 ·match ps,hl,hx with
  | [p1,p2],_,hx=>
   have hx:(p1.nm&&(p2.num&&true))=true:=hx;simp only[abK,and_true] at hx;obtain⟨e1,_⟩:=js hx.1;obtain⟨v,rfl⟩:=Cg hx.2;refine .inl ⟨rfl,by unfold dS;rw[pk];rfl,λn=>?_,?_,rfl⟩
   ·rw[me];show(true&&(p1.nm&&((Pt.n v).num&&true)))=true;rw[hx.1,hx.2];rfl
   ·unfold cA;rw[pk,e1];rfl
 ·match ps,hl,hx with
  | [p1,p2],_,hx=>
   have hx:(p1.nm&&(p2.nm&&true))=true:=hx;simp only[abK,and_true] at hx;obtain⟨e1,_⟩:=js hx.1;obtain⟨e2,_⟩:=js hx.2;refine .inl ⟨rfl,by unfold dS;rw[pk];rfl,λn=>?_,?_,rfl⟩
   ·rw[me];show(true&&(p1.nm&&(p2.nm&&true)))=true;rw[hx.1,hx.2];rfl
   ·unfold cA;rw[pk,e1,e2];rfl
 ·match ps,hl,hx with
  | [p1,p2,p3,p4],_,hx=>
   have hx:(p1.nm&&(p2.wd&&(p3.nm&&(p4.nm&&true))))=true:=hx;simp only[abK,and_true] at hx;obtain⟨e1,_⟩:=js hx.1;obtain⟨w2,rfl⟩:=aao hx.2.1;obtain⟨e3,_⟩:=js hx.2.2.1;obtain⟨e4,_⟩:=js hx.2.2.2;refine .inl ⟨rfl,by unfold dS;rw[pk];rfl,λn=>?_,?_,rfl⟩
   ·rw[me];show(true&&(p1.nm&&((Pt.s w2).wd&&(p3.nm&&(p4.nm&&true)))))=true;rw[hx.1,hx.2.1,hx.2.2.1,hx.2.2.2];rfl
   ·unfold cA;rw[pk,e1,e3,e4];rfl
 ·match ps,hl,hx with
  | [p1],_,hx=>
   have hx:(p1.nm&&true)=true:=hx;rw[afV] at hx;obtain⟨e1,_⟩:=js hx;refine .inl ⟨rfl,by unfold dS;rw[pk];rfl,λn=>?_,?_,rfl⟩
   ·rw[me];show(true&&(p1.nm&&true))=true;rw[hx];rfl
   ·unfold cA;rw[pk,e1];rfl
 ·match ps,hl,hx with
  | [p1],_,hx=>
   have hx:(p1.nm&&true)=true:=hx;rw[afV] at hx;obtain⟨e1,_⟩:=js hx;refine .inl ⟨rfl,by unfold dS;rw[pk];rfl,λn=>?_,?_,rfl⟩
   ·rw[me];show(true&&(p1.nm&&true))=true;rw[hx];rfl
   ·unfold cA;rw[pk,e1];rfl
 ·match ps,hl,hx with
  | [],_,hx=>exact .inl ⟨rfl,by unfold dS;rw[pk];rfl,λn=>by rw[me];rfl,by unfold cA;rw[pk];rfl,rfl⟩
 ·match ps,hl,hx with
  | [p1,p2],_,hx=>
   have hx:(p1.nm&&(p2.num&&true))=true:=hx;simp only[abK,and_true] at hx;obtain⟨e1,_⟩:=js hx.1;obtain⟨v,rfl⟩:=Cg hx.2;refine .inr ⟨v,rfl,rfl,by unfold dS;rw[pk];rfl,λn=>?_,?_,rfl⟩
   ·rw[me];show(true&&(p1.nm&&(((Pt.n v).num&&(decide (0<=v)&&decide (v<=(n:Int))))&&true)))=_;rw[hx.1,hx.2,afV];rfl
   ·unfold cA;rw[pk,e1];rfl
 ·match ps,hl,hx with
  | [p2],_,hx=>
   have hx:(p2.num&&true)=true:=hx;rw[afV] at hx;obtain⟨v,rfl⟩:=Cg hx;refine .inr ⟨v,rfl,rfl,by unfold dS;rw[pk];rfl,λn=>?_,?_,rfl⟩
   ·rw[me];show(true&&(((Pt.n v).num&&(decide (0<=v)&&decide (v<=(n:Int))))&&true))=_;rw[hx,afV];rfl
   ·unfold cA;rw[pk];rfl
 ·match ps,hl,hx with
  | [],_,hx=>exact .inl ⟨rfl,by unfold dS;rw[pk];rfl,λn=>by rw[me];rfl,by unfold cA;rw[pk];rfl,rfl⟩
theorem T7(h:c6 n r=true):iq r=true:=by
 obtain⟨hd,ps,ks,rfl,hf,hl,hx⟩:=k9 h;unfold iq
 dsimp only
 rw[hf]
 dsimp only
 rw[aL hl,ade];unfold fits at hx;unfold uv;rw[acA] at hx ⊢;intro q hq;have:=hx q hq;obtain⟨k,p⟩:=q;cases k with
 | bM=>exact this
 | num=>exact this
 | fk=>exact this
 | dj=>
  cases p with
  | s cs=>cases this
  | t=>cases this
  | n v=>
   have this:((Pt.n v).num&&(decide (0<=v)&&decide (v<=(n:Int))))=true:=this;rw[abK] at this;exact this.1
theorem Kz(h:iq r=true):gB r=cA r/\pg (O (.row r))=jV (O r):=by
 rcases F9 h with z | ⟨v,z⟩
 ·exact⟨z.l,z.n⟩
 ·exact⟨z.l,z.n⟩
theorem KA(h:∀r∈R,iq r=true)(hj:R[j]? =O r):kc (R.map .row) j=nA R j r:=by
 have j1:=(abL.mp hj).1;have e:kc (R.map .row) j=(c6 ↑R r&& !jb (R.map .row) j r):=by
  unfold kc;rw[abQ,hj];simp only[acC,abI]
 rw[e];unfold jb nA
 rcases F9 (h r (abY hj)) with z | ⟨v,z⟩
 ·rw[z.j,z.t,z.i];rfl
 ·rw[z.j,z.t,z.i,z.a];simp only[Bool.not_true,Bool.false_or,acO,aiQ,ahi,Bool.not_and,agO];by_cases h0:0<=v
  case neg=>rw[aX h0];rfl
  rw[aL h0,ade,ade,show decide (v.toNat<=j)=decide (v<=(j:Int)) from decide_eq_decide.mpr ∅]
  congr 1
  by_cases hvj:v<=(j:Int)
  case neg=>rw[aX hvj];rfl
  congr 1
  obtain⟨q,hq⟩:∃q,R[v.toNat]? =O q:=iM ∅;rw[abQ,hq];exact(Kz (h q (abY hq))).2
theorem Xb(h:∀r∈R,iq r=true):R.flatMap gB=R.flatMap cA:=by
 induction R with
 | nil=>rfl
 | cons r R ih=>rw[aga,aga,(Kz (h r (by simp))).1,ih λq hq=>h q (abN _ hq)]
theorem Xc(R:List Rw):(R.map Rv.row).flatMap pj=R.flatMap cA:=by
 induction R with
 | nil=>rfl
 | cons r R ih=>rw[ace,aga,aga,ih];rfl
theorem T8(h:∀r∈R,iq r=true):eh (R.map .row) ↑R=(R.flatMap gB).foldl b8 []:=by
 unfold eh;rw[aem (by rw[abI];exact abO _),Xc,Xb h]
theorem Xd(R:List Rv)(hj:j<=↑R):(eh R j).length<=(eh R ↑R).length:=by
 unfold eh;have:(R.take ↑R).flatMap pj=(R.take j).flatMap pj++(R.drop j).flatMap pj:=by
  rw[aeq,<- agB,afh]
 rw[this,aeL];exact(td _ _).2
theorem G2(h:∀r∈R,iq r=true):kH (R.map .row)↔xw R=true:=by
 unfold kH xw;rw[abK,abK,decide_eq_true_eq,decide_eq_true_eq,acA,abI,<- T8 h];have gd:∀{j:Nat},j<↑R->R[j]? =O (R.getD j []):=λ{j} hj=>by rw[agF,acn hj];rfl
 constructor
 ·rintro⟨h1,h2⟩;refine⟨h1,?_,λj hj=>?_⟩
  ·cases hR:↑R with
   | zero=>
    unfold eh;rw[List.take_zero];exact adH _
   | succ n=>
    have:=(h2 n ∅).2;rw[<- hR];rw[show ↑R=n+1 from hR];exact this
  ·have hj:=adQ.mp hj;rw[<- KA h (gd hj)];exact(h2 j hj).1
 ·rintro⟨h1,h2,h3⟩;refine⟨h1,λj hj=>⟨?_,?_⟩⟩
  ·rw[KA h (gd hj)];exact h3 j (adQ.mpr hj)
  ·refine abX (Xd _ (by rw[abI];omega)) ?_;rw[abI];exact h2
theorem Il{c:Nat}(hc:c=32\/c=10){w:Nm}(h:c∉w):c∉(Pt.rd w).st:=by
 unfold Pt.rd;split
 ·intro z;have:=xl _ c z;omega
 ·exact h
theorem AD{c d:Nat}(hcd:c≠d):∀{ls:List Nm},(∀l∈ls,c∉l)->c∉dD d ls
 | [],_=>λz=>nomatch z
 | [p],h=>h p (by simp)
 | p::q::r,h=>by
  rw[dD];intro z
  rcases acG.mp z with y | y
  ·exact h p (by simp) y
  ·rcases abR.mp y with x | x
   ·exact hcd x
   ·exact AD hcd (λl hl=>h l (abN _ hl)) x
theorem G3(l:Nm):du (eZ l)=l↔Cn l:=by
 unfold du eZ Cn;rw[acz];constructor
 ·intro h;have e:=congrArg (bG 32) h;rw[qd 32 _ (by
    obtain⟨p,r,q⟩:=km 32 l;rw[q];simp) (λp hp=>by
    obtain⟨w,hw,rfl⟩:=ach.mp hp;exact Il (.inl rfl) (AX 32 l w hw))] at e
  intro w hw;obtain⟨j,hj,rfl⟩:=adi hw;have:=congrArg (λx=>x[j]?) e;simp only[abQ,acn hj,acC] at this;exact acM this
 ·intro h;rw[adb (f:=Pt.st∘Pt.rd) (g:=id) h,ahq];exact AW 32 l
theorem Rf{cs:Nm}(cT:cs≠[]):gZ (eF cs)=cs↔∀l∈bG 10 cs,Cn l:=by
 unfold gZ eF;rw[if_neg cT,acz];constructor
 ·intro h;have e:=congrArg (bG 10) h;rw[qd 10 _ (by
    obtain⟨p,r,q⟩:=km 10 cs;rw[q];simp) (λp hp=>by
    obtain⟨l,hl,rfl⟩:=ach.mp hp;have f:=AX 10 cs l hl;refine AD (by decide) λx hx=>?_
    obtain⟨p,hp,rfl⟩:=ach.mp hx;obtain⟨w,hw,rfl⟩:=ach.mp hp;exact Il (.inr rfl) λz=>f (kn 32 l w hw 10 z))] at e
  intro l hl;obtain⟨j,hj,rfl⟩:=adi hl;have:=congrArg (λx=>x[j]?) e;simp only[abQ,acn hj,acC] at this;exact(G3 _).mp (acM this)
 ·intro h;rw[adb (f:=du∘eZ) (g:=id) λl hl=>(G3 l).mpr (h l hl),ahq];exact AW 10 cs
theorem G4{α β:Type}{f:α->Option β}{g:α->β}:∀{l:List α},(∀a∈l,f a=O (g a))->aT f l=O (l.map g)
 | [],_=>rfl
 | a::l,h=>mc (h a (by simp)) (G4 λb hb=>h b (abN _ hb))
theorem Ga{α β:Type}{f:α->Option β}{g:α->β}(hg:∀a b,f a=O b->b=g a):∀{l:List α} {m:List β},aT f l=O m->m=l.map g/\∀a∈l,f a=O (g a)
 | [],m,h=>by cases h;exact⟨rfl,(λa ha=>nomatch ha)⟩
 | x::l,m,h=>by
  unfold aT at h;cases hx:f x with
  | none=>rw[hx] at h;cases h
  | some y=>
   cases hl:aT f l with
   | none=>rw[hx,hl] at h;cases h
   | some ys=>
    rw[hx,hl] at h;cases h;obtain⟨i1,i2⟩:=Ga hg hl;have:=hg x y hx;refine⟨by rw[this,i1];rfl,λa ha=>?_⟩
    rcases abR.mp ha with z | z
    ·rw[z,hx,this]
    ·exact i2 a z
theorem T9(cs:Nm):(Acc cs->qi cs=O (eF cs))/\∀R,qi cs=O R->Acc cs/\R=eF cs:=by
 by_cases cT:cs=[]
 ·subst cT;have hr:eF []=[]:=rfl;refine⟨λ_=>rfl,λR h=>?_⟩;have:R=[]:=(acM h).symm;rw[this,hr];refine⟨⟨⟨adH _,λj hj=>?_⟩,rfl⟩,rfl⟩;rw[hr] at hj;exact absurd hj (Nat.not_lt_zero _)
 ·have er:eF cs=(bG 10 cs).map eZ:=by unfold eF;rw[if_neg cT]
  unfold Acc qi;rw[Rf cT,if_neg cT];constructor
  ·rintro⟨hp,hc⟩;have h0:∀r∈eF cs,iq r=true:=λr hr=>by
    obtain⟨j,hj,e⟩:=adi hr;obtain⟨r',e1,h1,_⟩:=mH (hp.2 j (by rw[abI];exact hj)).1;rw[abQ,acn hj,e] at e1;cases e1;exact T7 h1
   rw[G4 (g:=eZ) (λl hl=>(xx l _).mpr ⟨rfl,hc l hl,h0 _ (by rw[er];exact ach.mpr ⟨l,hl,rfl⟩)⟩),<- er]
   dsimp only
   rw[if_pos ((G2 h0).mp hp)]
  ·intro R h;cases hm:aT gj (bG 10 cs) with
   | none=>rw[hm] at h;cases h
   | some R'=>
    rw[hm] at h
    dsimp only at h
    split at h
    ·rename_i ht;cases h;obtain⟨i1,i2⟩:=Ga (g:=eZ) (λl r hr=>((xx l r).mp hr).1) hm;rw[<- er] at i1;have h0:∀r∈R,iq r=true:=λr hr=>by
      rw[i1,er] at hr;obtain⟨l,hl,rfl⟩:=ach.mp hr;exact((xx l _).mp (i2 l hl)).2.2
     refine⟨⟨?_,λl hl=>((xx l _).mp (i2 l hl)).2.1⟩,i1⟩;rw[<- i1];exact(G2 h0).mpr ht
    ·cases h
theorem Xe{p:Pt}:acI p.d p.d=true:=by
 cases p with
 | s cs=>exact(qH _ _).trans (aL rfl)
 | n i=>exact(YA _ _).trans (aL rfl)
 | t=>exact(YB _ _).trans (aL rfl)
theorem Xf(r:Rw):acI (.tuple (r.map Pt.d)) (.tuple (r.map Pt.d))=true:=by
 unfold acI;refine Am _ λd hd=>?_
 obtain⟨p,_,rfl⟩:=ach.mp hd;exact Xe
theorem Bt(hi:H[i]? =O (.lst (R.map Rw.w)))(hj:H[j]? =O (.lst (R.map Rw.w)))(hf:∀r∈R,∀p∈r,p.cX):fZ H (.ref i) (.ref j)=O true:=by
 have hd:aT (dat H 39) (R.map Rw.w)=O (R.map λr=>aiN (r.map Pt.d)):=by
  clear hi hj
  induction R with
  | nil=>rfl
  | cons r R ih=>exact mc (BK (hf r (by simp)) H 38) (ih λq hq=>hf q (abN _ hq))
 unfold fZ;rw[HK hi hd,HK hj hd];simp only[]
 congr 1
 unfold acI;refine Am _ λd hd=>?_
 obtain⟨r,_,rfl⟩:=ach.mp hd;exact Xf r
theorem aap{r:Out W}(ha:a σ ph=.ok (.bl false) ph1)(hb:b σ ph1=r):rJ a b σ ph=r:=aj ha hb
theorem Ua(i:Int)(H:PH):sF [.int i] H=.ok (.bl true) H:=by
 unfold sF E8;rw[dh];exact br (pN rfl rfl)
theorem all_true{l:List α}(h:H[i]? =O (.lst (l.map λ_=>W.bl true))):lift (jq [.ref i]) H=.ok (.bl true) H:=by
 have e:(l.map λ_=>W.bl true)=(l.map λ_=>true).map W.bl:=by rw[acz];rfl
 rw[e] at h;rw[Bf h]
 congr 2
 rw[acA];intro x hx;obtain⟨_,_,rfl⟩:=ach.mp hx;rfl
theorem PZ(hr:∀p∈r,p.cX)(hl:↑r<=1000000)(wm:af 3 σ=aD (Rw.w r))(H:PH):∃H',sh σ H=.ok (.nx σ) H'/\Ex H H':=by
 obtain⟨H1,e1,x1⟩:=ie r Pt.w (im:=cf (af 3)) (cap:=[Z]) (g:=gN 0) (c:=cu) (e:=rJ (cN "str" (af 0)) (aP sF (ag (af 0) ai))) (σ:=σ) (ph0:=H) (wW (by rw[wm];rfl)) (λ_ _=>rfl) (small hl) (λ_=>O (.bl true)) (λσ=>∃o,σ=[o]) ⟨Z,rfl⟩
  (λp hp σ K hS _=>by
   obtain⟨o,rfl⟩:=hS;refine⟨_,rfl,⟨_,rfl⟩,true,K,rfl,Ex.refl _,.inr ⟨rfl,.bl true,K,?_,Ex.refl _,rfl⟩⟩;have:=hr p hp;cases p with
   | t=>exact this.elim
   | s cs=>exact aj (a:=.bl true) (ph':=K) (aj (a:=.str (tx cs)) (ph':=K) rfl rfl) rfl
   | n i=>exact aap (aj (a:=.int i) (ph':=K) rfl rfl) (aj (au (w:=.int i) rfl rfl) (Ua i K)))
 rw[lc] at x1;refine⟨H1,?_,(Ex.one _ _).trans x1⟩;unfold sh;exact aK (cL (c:=true) (eB (aj (au e1 rfl) (all_true (x1.get (bp _ _)))))) rfl
theorem Gb{w:W}{H2:PH}{x:Ex H H1}(e:iE [w] H1=.ok (.str "refused") H2)(wm:σ=[O w,O .ay,Z,Z]):ax (aC (aM (aP iE (ag (af 0) ai)) (gN 2)) (aC (bi (eT (ah lA (af 1) (eC .ay))) (aO (iO (cN "str" (af 2)) (ah bo (af 2) {"refused"}))) bt) (aC (bi (cF (de (bW (cN "list" (af 2)))) (cF (eT (ah ck (af 2) (af 1))) (de (bW (aR jq (ag (b6 (cf (af 2)) [Z] (gN 0) cu (cN "tuple" (af 0))) ai)))))) (aO (eC (.bl false))) bt) (aC (ei (cf (af 2)) (gN 3) sh) (aO (eC (.bl true)))))) σ) fw H1=.ok (.bl true) H2:=by
 subst wm;refine bq (σ1:=[O w,O .ay,O (.str "refused"),Z]) (asg (aj (au rfl rfl) e)) (bT (bh (tB (op (x:=.ay) (y:=.ay) rfl rfl rfl)) (retS (pN (aj (a:=.str (abH "refused")) (ph':=H2) rfl rfl) (op (x:=.str (abH "refused")) rfl rfl ?_)))));rw[B5];rfl
theorem Gd{cs:Nm}(ha:bg cs)(hl:↑cs<=100000)(H:PH):∃H',mn [.str (tx cs)] H=.ok (.bl true) H'/\Ex H H':=by
 obtain⟨H1,x1,hr⟩:=PY ha hl H;obtain⟨a1,a2⟩:=T9 cs;have s1:bW (cN "str" (af 0)) [O (.str (tx cs)),O .ay,Z,Z] H=.ok true H:=eB (aj (a:=.str (tx cs)) (ph':=H) rfl rfl);unfold mn Ag;rw[dh];have b0:aM (eC .ay) (gN 1) (O (.str (tx cs))::abS (4-1) Z) H=.ok (.nx [O (.str (tx cs)),O .ay,Z,Z]) H:=asg rfl
 rcases hr with⟨hn,e1⟩ | ⟨R,i,hn,e1,g1,fR⟩
 ·have b1:bi (bW (cN "str" (af 0))) (aM (aP nX (ag (af 0) ai)) (gN 1)) bt [O (.str (tx cs)),O .ay,Z,Z] H=.ok (.nx [O (.str (tx cs)),O .ay,Z,Z]) H1:=bh s1 (asg (aj (au rfl rfl) e1))
  rcases Br ha hl H1 with⟨h,_⟩ | ⟨h,H2,e2,x2⟩
  ·rw[a1 h] at hn;cases hn
  ·exact⟨H2,bq b0 (bq b1 (Gb (x:=x1) e2 rfl)),x1.trans x2⟩
 ·obtain⟨nq,hR⟩:=a2 R hn;have b1:bi (bW (cN "str" (af 0))) (aM (aP nX (ag (af 0) ai)) (gN 1)) bt [O (.str (tx cs)),O .ay,Z,Z] H=.ok (.nx [O (.str (tx cs)),⇑i,Z,Z]) H1:=bh s1 (asg (aj (au rfl rfl) e1))
  rcases Br ha hl H1 with⟨_,k,H2,e2,x2,g2⟩ | ⟨h,_⟩
  case inr=>exact absurd nq h
  rw[<- hR] at g2;have bj:↑R<=60:=by have:=nq.1.1;rw[abI,<- hR] at this;exact this
  have wr:Wr R:=by rw[hR];exact xu nq.1 λr hr=>(Ig ha hl r hr).1
  obtain⟨σ,aU⟩:∃σ:aG,σ=[O (.str (tx cs)),⇑i,⇑k,Z]:=⟨_,rfl⟩
  obtain⟨H3,e3,x3⟩:=ie R Rw.w (im:=cf (af 2)) (cap:=[Z]) (g:=gN 0) (c:=cu) (e:=cN "tuple" (af 0)) (σ:=σ) (ph0:=H2) (i5 (by rw[aU];rfl) g2) (λK x=>aL (x.get g2)) (small ∅) (λ_=>O (.bl true)) (λσ=>∃o,σ=[o]) ⟨Z,rfl⟩
   (λr hr σ K hS _=>by
    obtain⟨o,rfl⟩:=hS;exact⟨_,rfl,⟨_,rfl⟩,true,K,rfl,Ex.refl _,.inr ⟨rfl,.bl true,K,aj (a:=Rw.w r) (ph':=K) rfl rfl,Ex.refl _,rfl⟩⟩)
  rw[lc] at x3;have y3:Ex H2 H3:=(Ex.one _ _).trans x3;obtain⟨ao,H4,e4,⟨o,rfl⟩,x4⟩:=kj (chk:=λp=>decide (p[k]? =O (.lst (R.map Rw.w)))) (g:=gN 3) (b:=sh) (λ_ σ K=>(∃o,σ=[O (.str (tx cs)),⇑i,⇑k,o])/\Ex H3 K) (R.map Rw.w) σ H3
   (λ_ _ _ h=>aL (h.2.get (y3.get g2))) (λj x σ K hj hI=>by
    obtain⟨⟨o,rfl⟩,y⟩:=hI;rw[abQ] at hj;obtain⟨r,hr,rfl⟩:=abU.mp hj;have hm:=abY hr;obtain⟨K',e,z⟩:=PZ (wr.f r hm) (by have:=wr.l r hm;omega) (σ:=[O (.str (tx cs)),⇑i,⇑k,O (Rw.w r)]) rfl K;exact⟨_,_,rfl,_,K',e,_,.inl rfl,⟨_,rfl⟩,y.trans z⟩) ⟨⟨Z,aU⟩,Ex.refl _⟩
  refine⟨H4,bq b0 (bq b1 (bq (σ1:=σ) ((asg (aj (au rfl rfl) e2)).trans (by rw[aU];rfl)) (bq (ph1:=H2) (aK (tB (op (x:=.ref i) (y:=.ay) (by rw[aU];rfl) rfl rfl)) rfl) (bq (ph1:=H3) (aK (oF (cL (c:=true) (eB (aj (a:=.ref k) (ph':=H2) (by rw[aU];rfl) (tV g2)))) (oF (tB (op (x:=.ref k) (y:=.ref i) (ph1:=H2) (by rw[aU];rfl) (by rw[aU];rfl) (qJ (b:=true) (Bt g2 (x2.get g1) wr.f)))) (cL (c:=true) (eB (aj (au e3 rfl) (all_true (x3.get (bp _ _)))))))) rfl) (bq (gf (i5 (by rw[aU];rfl) (y3.get g2)) e4) (br rfl)))))),((x1.trans x2).trans y3).trans x4⟩
theorem P0{w:W}(h:∀K,Ex H K->lift (hV "str" w) K=.ok (.bl false) K):∃H',mn [w] H=.ok (.bl true) H'/\Ex H H':=by
 obtain⟨H2,e2,x2⟩:=Ii (PQ (h H (Ex.refl _)));refine⟨H2,?_,x2⟩;unfold mn Ag;rw[dh];exact bq (ph1:=H) (σ1:=[O w,O .ay,Z,Z]) (asg rfl) (bq (ph1:=H) (aK (eB (aj (a:=w) (ph':=H) rfl (h H (Ex.refl _)))) rfl) (Gb (x:=Ex.refl H) e2 rfl))
noncomputable def Tn(k:Nat)(w:W):Prop:=∃l,w=aq l/\bg l/\↑l<=k
theorem Tn.up{w:W}(h:Tn j w)(hk:j<=k):Tn k w:=by
 obtain⟨l,e,a,b⟩:=h;exact⟨l,e,a,abX b hk⟩
noncomputable def Ev(k:Nat)(e:EM)(σ:aG):Prop:=∀H,∃w,e σ H=.ok w H/\Tn k w
theorem zS{s:String}(h:((abH s).cps.toList.all (λc=>decide (c<128))&&decide ((abH s).cps.toList.length<=k))=true):Tn k (.str s):=by
 rw[abK,decide_eq_true_eq] at h;exact⟨(abH s).cps.toList,congrArg W.str (Bj _),gv h.1,h.2⟩
theorem evC{s:String}(h:((abH s).cps.toList.all (λc=>decide (c<128))&&decide ((abH s).cps.toList.length<=k))=true):Ev k (eC (.str s)) σ:=λH=>⟨_,rfl,zS h⟩
theorem MV{w:W}(h:af i σ=aD w)(hw:Tn k w):Ev k (af i) σ:=λH=>⟨w,by rw[h];rfl,hw⟩
theorem lK{x y:Nm}(ha:a σ ph=.ok (.str (tx x)) ph1)(hb:b σ ph1=.ok (.str (tx y)) ph2)(hl:↑x+↑y<=1000000):ah addW a b σ ph=.ok (.str (tx (x++y))) ph2:=by
 refine op ha hb ?_;have e:addW (.str (tx x)) (.str (tx y)) ph2=O (.str (tx (x++y)),ph2):=by
  unfold addW;simp only[gJ];rw[if_pos (small hl),t5]
 unfold lift;rw[e]
theorem ot{a b:Nm}(ha:bg a)(hb:bg b):bg (a++b):=λc hc=>by
 rcases acG.mp hc with z | z
 ·exact ha c z
 ·exact hb c z
theorem iC{m:Nat}(ha:Ev j a σ)(hb:Ev k b σ)(hm:j+k<=m)(hl:m<=1000000):Ev m (ah addW a b) σ:=λH=>by
 obtain⟨w1,e1,l1,rfl,a1,b1⟩:=ha H;obtain⟨w2,e2,l2,rfl,a2,b2⟩:=hb H;exact⟨_,lK e1 e2 ∅,l1++l2,rfl,ot a1 a2,by rw[acg];omega⟩
noncomputable def zT(n:Nat)(a:AM)(σ:aG):Prop:=∀H,∃ws,a σ H=.ok ws H/\↑ws=n/\∀w∈ws,Tn 100 w
theorem zU:zT 0 ai σ:=λH=>⟨[],rfl,rfl,λw hw=>nomatch hw⟩
theorem da{e:EM}{a:AM}(h:Ev j e σ)(hj:j<=100)(ha:zT n a σ):zT (n+1) (ag e a) σ:=λH=>by
 obtain⟨w,e1,t⟩:=h H;obtain⟨ws,e2,l,q⟩:=ha H;refine⟨w::ws,au e1 e2,by rw[abP,l],λx hx=>?_⟩
 rcases abR.mp hx with z | z
 ·rw[z];exact t.up hj
 ·exact q x z
theorem yQ{a:AM}(h:zT n a σ)(hn:n<=1000)(H:PH):∃ws,bP a σ H=.ok (.ref ↑H) (H++[.lst ws])/\↑ws=n/\∀w∈ws,Tn 100 w:=by
 obtain⟨ws,e,l,q⟩:=h H;exact⟨ws,aj e (k7 ws H (small ∅)),l,q⟩
theorem Im(a:Nm):∀(n:Nat) (acc:Nm),(abS n a.toArray).foldl (· ++ ·) acc.toArray=(acc++(abS n a).flatten).toArray
 | 0,acc=>by simp
 | n+1,acc=>by
  rw[adh,aej,show acc.toArray++a.toArray=(acc++a).toArray by simp,Im a n (acc++a),adh,aef,adM]
theorem Xg(a:Nm)(n:Nat):uP (tx a) n=tx ((abS n a).flatten):=by
 unfold uP tx;exact congrArg Str.mk (Im a n [])
theorem evR{a:Nm}(ha:bg a)(h1:↑a≠0)(h6:↑a<=6)(h:af 0 σ=aD (aq a)):Ev 42 (ah nu (af 0) {7}) σ:=λH=>by
 refine⟨aq ((abS 7 a).flatten),op (x:=aq a) (y:=.int 7) (by rw[h];rfl) rfl ?_,_,rfl,λc hc=>?_,?_⟩
 ·have e:nu (aq a) (.int 7) H=O (aq ((abS 7 a).flatten),H):=by
   unfold nu aq;simp only[gJ];rw[if_pos ⟨by decide,by decide,h1,∅⟩];rw[show(7:Int).toNat=7 from rfl,Xg]
  unfold lift;rw[e]
 ·obtain⟨l,hl,hc⟩:=List.mem_flatten.mp hc;rw[List.eq_of_mem_replicate hl] at hc;exact ha c hc
 ·simp only[List.length_flatten,List.map_replicate,List.sum_replicate_nat];omega
theorem Y6{a:Nm}(ha:bg a)(h1:↑a≠0)(h6:↑a<=6)(n:Int)(H:PH):∃w H',sk [aq a,.int n] H=.ok w H'/\Ex H H'/\Tn 100 w:=by
 obtain⟨st,aF⟩:∃st:dO->Option W->aG,st=λo2 o3=>[O (aq a),↥n,o2,o3]:=⟨_,rfl⟩
 have ta:Tn 6 (aq a):=⟨a,rfl,ha,h6⟩
 have v0:∀{o2 o3:dO},Ev 6 (af 0) (st o2 o3):=λ{o2 o3}=>MV (w:=aq a) (by rw[aF];rfl) ta
 have c:∀{s:String} {σ:aG},((abH s).cps.toList.all (λc=>decide (c<128))&&decide ((abH s).cps.toList.length<=20))=true->Ev 20 (eC (.str s)) σ:=λh=>evC h
 have f:20<=100:=by decide
 obtain⟨gQ,e1,l1,q1⟩:=yQ (da (c (s:="") (σ:=st Z Z) ⋯) f (da (c (s:="tell") ⋯) f (da (c (s:="tell ") ⋯) f (da (iC (c (s:=" tell ") ⋯) v0 (abO _) (by decide)) (by decide) (da (iC (c (s:="tell  ") ⋯) v0 (abO _) (by decide)) (by decide) (da (iC (iC (c (s:="tell ") ⋯) v0 (abO _) (by decide)) (c (s:=" ") ⋯) (abO _) (by decide)) (by decide) (da (iC (c (s:="tell\t") ⋯) v0 (abO _) (by decide)) (by decide) zU))))))) (by decide) H;obtain⟨H1,eW⟩:∃H1,H1=H++[PO.lst gQ]:=⟨_,rfl⟩
 have g1:H1[↑H]? =O (.lst gQ):=by rw[eW];exact bp _ _
 have x1:Ex H H1:=eW▸Ex.one _ _;rw[<- eW] at e1;obtain⟨gS,e2,l2,q2⟩:=yQ (da (iC (c (s:="tell ") (σ:=st ⇑↑H Z) ⋯) (evR ha h1 h6 (by rw[aF];rfl)) (abO _) (by decide)) (by decide) (da (iC (c (s:="Tell ") ⋯) v0 (abO _) (by decide)) (by decide) (da (iC (c (s:="tells ") ⋯) v0 (abO _) (by decide)) (by decide) (da (iC (c (s:="set ") ⋯) v0 (abO _) (by decide)) (by decide) zU)))) (by decide) H1;obtain⟨H2,dR⟩:∃H2,H2=H1++[PO.lst gS]++[PO.lst (gQ++gS)]:=⟨_,rfl⟩
 have x2:Ex H1 H2:=by rw[dR];exact(Ex.one _ _).trans (Ex.one _ _)
 obtain⟨r2,D7⟩:∃r2,r2=(H1++[PO.lst gS]).length:=⟨_,rfl⟩
 have g2:H2[r2]? =O (.lst (gQ++gS)):=by rw[dR,D7];exact bp _ _
 have a2:ah addW (af 2) (bP (ag (ah addW (eC (.str "tell ")) (ah nu (af 0) {7})) (ag (ah addW (eC (.str "Tell ")) (af 0)) (ag (ah addW (eC (.str "tells ")) (af 0)) (ag (ah addW (eC (.str "set ")) (af 0)) ai))))) (st ⇑↑H Z) H1=.ok (.ref r2) H2:=by
  rw[dR,D7];exact op (x:=.ref ↑H) (by rw[aF];rfl) e2 (oo ((Ex.one _ _).get g1) (bp _ _) (small ∅))
 obtain⟨pQ,e3,l3,q3⟩:=yQ (da (c (s:="00") (σ:=st ⇑r2 Z) ⋯) f (da (c (s:="-0") ⋯) f (da (c (s:="+1") ⋯) f (da (c (s:="1.0") ⋯) f (da (c (s:="1_0") ⋯) f (da (c (s:="2147483647") ⋯) f (da (c (s:="2147483648") ⋯) f (da (c (s:="-2147483648") ⋯) f (da (c (s:="-2147483649") ⋯) f zU))))))))) (by decide) H2;have q3':∀w∈pQ,Tn 20 w:=by
  obtain⟨ws,e,_,_⟩:∃ws,bP (ag {"00"} (ag (eC (.str "-0")) (ag (eC (.str "+1")) (ag (eC (.str "1.0")) (ag {"1_0"} (ag {"2147483647"} (ag {"2147483648"} (ag (eC (.str "-2147483648")) (ag (eC (.str "-2147483649")) ai))))))))) (st ⇑r2 Z) H2=.ok (.ref ↑H2) (H2++[.lst ws])/\ws=[.str "00",.str "-0",.str "+1",.str "1.0",.str "1_0",.str "2147483647",.str "2147483648",.str "-2147483648",.str "-2147483649"]/\True:=⟨_,rfl,rfl,trivial⟩
  rw[e3] at e;have:pQ=ws:=by
   have:=(Out.ok.inj e).2
   simpa using this
  rename_i hw _;rw[this,hw];intro w hw;simp only[abR,acY,or_false] at hw
  rcases hw with rfl | rfl | rfl | rfl | rfl | rfl | rfl | rfl | rfl <;> exact zS ⋯
 obtain⟨H3,ke⟩:∃H3,H3=H2++[PO.lst pQ]:=⟨_,rfl⟩
 have g3:H3[↑H2]? =O (.lst pQ):=by rw[ke];exact bp _ _
 have x3:Ex H2 H3:=ke▸Ex.one _ _;rw[<- ke] at e3;have pG:r2<↑H2:=Cb g2;have zN:↑H1<=r2:=by rw[D7];simp
 obtain⟨ao,H4,e4,⟨o,rfl⟩,x4,g4s,⟨us,g4,l4,q4⟩⟩:=kj (chk:=λp=>decide (p[↑H2]? =O (.lst pQ))) (g:=gN 3) (b:=EB) (λj σ K=>(∃o,σ=st ⇑r2 o)/\Ex H1 K/\K[↑H2]? =O (.lst pQ)/\∃us,K[r2]? =O (.lst us)/\↑us=11+j/\∀w∈us,Tn 100 w) pQ (st ⇑r2 Z) H3
  (λ_ _ _ h=>aL h.2.2.1) (λj x σ K hj hI=>by
   obtain⟨⟨o,rfl⟩,y,gk,us,gu,lu,qu⟩:=hI;have hx:=q3' x (abY hj);have j1:=(abL.mp hj).1;refine⟨st ⇑r2 (O x),K,by rw[aF];rfl,?_⟩;obtain⟨w,ew,tw⟩:=iC (iC (iC (c (s:="set ") (σ:=st ⇑r2 (O x)) ⋯) v0 (abO _) (by decide)) (c (s:=" ") ⋯) (abO _) (by decide)) (MV (i:=3) (by rw[aF];rfl) hx) (abO _) (by decide) K;refine⟨_,_,l8 (by rw[aF];rfl) ⟨_,gu⟩ ew gu ∅,_,.inl rfl,⟨_,rfl⟩,Ex.set y zN _,(oE (acQ pG)).trans gk,us++[w],ku gu,by rw[acg,lu];simp;omega,λz hz=>?_⟩
   rcases acG.mp hz with q | q
   ·exact qu z q
   ·rw[ack.mp q];exact tw.up (by decide)) ⟨⟨Z,rfl⟩,x2.trans x3,g3,gQ++gS,x3.get g2,by rw[acg];omega,λw hw=>by
    rcases acG.mp hw with q | q
    ·exact q1 w q
    ·exact q2 w q⟩
 obtain⟨ff,e5,l5,q5⟩:=yQ (da (c (s:="go 0") (σ:=st ⇑r2 o) ⋯) f (da (c (s:="go 1") ⋯) f (da (c (s:="go 01") ⋯) f (da (c (s:="go -1") ⋯) f (da (c (s:="go 61") ⋯) f (da (c (s:="turn") ⋯) f (da (c (s:="turn 0") ⋯) f (da (c (s:="end") ⋯) f (da (iC (iC (c (s:="if ") ⋯) v0 (abO _) (by decide)) (c (s:=" 60") ⋯) (abO _) (by decide)) (by decide) zU))))))))) (by decide) H4;obtain⟨H5,ia⟩:∃H5,H5=H4++[PO.lst ff]++[PO.lst (us++ff)]:=⟨_,rfl⟩
 obtain⟨r5,mf⟩:∃r5,r5=(H4++[PO.lst ff]).length:=⟨_,rfl⟩
 have x5:Ex H4 H5:=by rw[ia];exact(Ex.one _ _).trans (Ex.one _ _)
 have g5:H5[r5]? =O (.lst (us++ff)):=by rw[ia,mf];exact bp _ _
 have a5:=op (f:=addW) (a:=af 2) (x:=.ref r2) (σ:=st ⇑r2 o) (ph:=H4) (by rw[aF];rfl) e5 (oo ((Ex.one _ _).get g4) (bp _ _) (small ∅));rw[<- ia,<- mf] at a5;obtain⟨m,hm,em⟩:=d0 (a:=n) (n:=30) (by decide);obtain⟨H6,pR⟩:∃H6,H6=H5.set r5 (.lst (us++ff++[.str "do a sum b"])):=⟨_,rfl⟩
 have g6:H6[r5]? =O (.lst (us++ff++[.str "do a sum b"])):=by rw[pR];exact ku g5
 have bj:(us++ff++[W.str "do a sum b"]).length=30:=by simp;omega
 obtain⟨w,hw⟩:=iM (l:=us++ff++[W.str "do a sum b"]) (j:=m) ∅;have hr5:↑H1<=r5:=by have:=x4.len;rw[mf];simp;omega
 refine⟨w,H6,?_,x1.trans (by rw[pR];exact Ex.set (x4.trans x5) hr5 _),?_⟩
 ·unfold sk EO;rw[lE];refine bq (σ1:=st ⇑↑H Z) (ph1:=H1) (by have z:=asg (i:=2) e1;rw[aF] at z ⊢;exact z) (bq (σ1:=st ⇑r2 Z) ((asg a2).trans (by rw[aF];rfl)) (bq (gf (i5 e3 g3) e4) (bq (σ1:=st ⇑r5 o) ((asg a5).trans (by rw[aF];rfl)) (bq (σ1:=st ⇑r5 o) (ph1:=H6) (by rw[pR];exact l8 (by rw[aF];rfl) ⟨_,g5⟩ rfl g5 (by rw[acg];omega)) (br (op (x:=.ref r5) (by rw[aF];rfl) (md (by rw[aF];rfl) rfl (by decide)) ?_))))));rw[em];exact iG g6 (by rw[fq _ _ ∅];exact hw)
 ·have wc:=abY hw
  rcases acG.mp wc with q | q
  ·rcases acG.mp q with q | q
   ·exact q4 w q
   ·exact q5 w q
  ·rw[ack.mp q];exact zS ⋯
theorem Io(c:Nat):∀l:Nm,((bG c l).map (·.length)).sum+(bG c l).length=↑l+1
 | []=>rfl
 | a::l=>by
  have ih:=Io c l;unfold bG;split
  ·simp only[ace,afU,abP,acS];omega
  ·obtain⟨p,r,e⟩:=km c l;rw[e] at ih ⊢;simp only[ace,afU,abP] at ih ⊢;omega
theorem Y7{m c:Nat}(h:l[m]? =O c)(hl:↑l<=1000000)(H:PH):lift (aE (.str (tx l)) (.int m)) H=.ok (bw c) H:=by
 have e:cP (.str (tx l)) (.int m) H=O (bw c,H):=by
  unfold cP;simp only[gJ,k8];rw[if_pos (small hl),fq _ _ (abL.mp h).1,h];rfl
 rw[ye];unfold lift;rw[e]
noncomputable def NoS(H:PH)(w:W):Prop:=∀K,Ex H K->lift (hV "str" w) K=.ok (.bl false) K
theorem ua{b:Nat}(h:bg l):bg (l.take b):=h.sub λx hx=>acH hx
theorem BO{b:Nat}(h:bg l):bg (l.drop b):=h.sub λx hx=>adK hx
noncomputable def lp:Nm:=[116,101,108,108,32]
theorem Xh(H:PH){n:Int}(wm:af 2 σ=aD (.int n)):∃w H',bL cy dn (eC (.str "\n")) (ag (b6 (ip (dP {"abcdefghijklmn"} bJ (bA (ah addW {11} (ah aV (ah bv (af 2) {60}) {4}))))) [Z] (gN 0) cu (ah addW (eC (.str "tell ")) (af 0))) ai) σ H=.ok w H'/\Ex H H'/\Tn 1000 w:=by
 obtain⟨m,hm,em⟩:=d0 (a:=n.fdiv 60) (n:=4) (by decide);have vQ:abH "abcdefghijklmn"=tx (eK.take 14):=⋯;have hte:abH "tell "=tx lp:=⋯;have aa:bg eK:=gv (by decide);have ae:bg ((eK.take 14).take (11+m)):=ua (ua aa);have l14:(eK.take 14).length=14:=by decide
 have hl:((eK.take 14).take (11+m)).length<=14:=by rw[acw];omega
 have hs:dP {"abcdefghijklmn"} bJ (bA (ah addW {11} (ah aV (ah bv (af 2) {60}) {4}))) σ H=.ok (.str (tx ((eK.take 14).take (11+m)))) H:=by
  refine Bl (l:=eK.take 14) (b:=11+m) (by rw[vQ];rfl) ?_ ∅;rw[show((11+m:Nat):Int)=11+(m:Int) by omega,<- em];exact ad rfl (md (dv (by rw[wm];rfl) rfl (by decide) (by decide)) rfl (by decide))
 obtain⟨H1,e1,x1⟩:=ie ((eK.take 14).take (11+m)) bw (cap:=[Z]) (g:=gN 0) (c:=cu) (e:=ah addW (eC (.str "tell ")) (af 0)) (Bk hs ae) (λ_ _=>rfl) (small ∅) (λc=>O (aq (lp++[c]))) (λσ=>∃o,σ=[o]) ⟨Z,rfl⟩
  (λc _ σ K hS _=>by
   obtain⟨o,rfl⟩:=hS;exact⟨_,rfl,⟨_,rfl⟩,true,K,rfl,Ex.refl _,.inr ⟨rfl,_,K,lK (x:=lp) (y:=[c]) (by rw[hte];rfl) rfl (show 5+1<=1000000 by decide),Ex.refl _,rfl⟩⟩)
 rw[lc] at x1;have D6:((eK.take 14).take (11+m)).map (λc=>aq (lp++[c]))=(((eK.take 14).take (11+m)).map λc=>lp++[c]).map aq:=by rw[acz];rfl
 rw[D6] at x1;have hb:((((eK.take 14).take (11+m)).map λc=>lp++[c]).map (·.length)).sum+(((eK.take 14).take (11+m)).map λc=>lp++[c]).length<=1000:=by
  have:=oG (λl:Nm=>↑l) (B:=6) (((eK.take 14).take (11+m)).map λc=>lp++[c]) λx hx=>by
   obtain⟨c,_,rfl⟩:=ach.mp hx;simp[lp]
  rw[abI] at this ⊢;omega
 refine⟨_,H1,vV oR e1 (x1.get (bp _ _)) (abX hb (by decide)),(Ex.one _ _).trans x1,_,rfl,tf (by decide) λl eo=>?_,abX (qe 10 _) hb⟩;obtain⟨c,hc,rfl⟩:=ach.mp eo;exact ot (gv rfl) λx hx=>by rw[ack.mp hx];exact ae c hc
noncomputable def yR:Nm:=[48,49,50,51,52,53,54,55,56,57,32,45,43,46,44,10,9,97,101,122,65,120,95]
theorem Xi{cs a:Nm}(hc:bg cs)(hl:↑cs<=40000)(ha:bg a)(h1:↑a≠0)(h6:↑a<=6)(n:Int)(H:PH):∃w H',wN [.str (tx cs),aq a,.int n] H=.ok w H'/\Ex H H'/\(Tn 100000 w\/NoS H' w):=by
 obtain⟨st,aF⟩:∃st:dO->Option W->Option W->Option W->Option W->aG,st=λo3 o4 o5 o6 o7=>[O (.str (tx cs)),O (aq a),↥n,o3,o4,o5,o6,o7]:=⟨_,rfl⟩
 obtain⟨p,hp,ep⟩:=d0 (a:=n.fdiv 5) (n:=(↑cs:Int)+1) ∅;obtain⟨m,hm,em⟩:=d0 (a:=n.fdiv 400) (n:=23) (by decide);obtain⟨c,MW⟩:=iM (l:=yR) (j:=m) (by show m<23;omega);have hsg:abH "0123456789 -+.,\n\taezAx_"=tx yR:=⋯;have ac:bg yR:=gv (by decide);have Lo:bg [c]:=λx hx=>by rw[ack.mp hx];exact ac c (abY MW)
 have d5:∀{K:PH} {o3 o4 o5 o6 o7:dO},ah bv (af 2) {5} (st o3 o4 o5 o6 o7) K=.ok (.int (n.fdiv 5)) K:=λ{K o3 o4 o5 o6 o7}=>dv (by rw[aF];rfl) rfl (by decide) (by decide)
 have a3:aM (ah aV (ah bv (af 2) {5}) (ah addW (aR bz (ag (af 0) ai)) {1})) (gN 3) (st Z Z Z Z Z) H=.ok (.nx (st (↥p) Z Z Z Z)) H:=by
  have bj:aR bz (ag (af 0) ai) (st Z Z Z Z Z) H=.ok (.int (↑cs:Int)) H:=aj (au (w:=.str (tx cs)) (by rw[aF];rfl) rfl) (qx ∅ H);have e:=md (d5 (K:=H) (o3:=Z) (o4:=Z) (o5:=Z) (o6:=Z) (o7:=Z)) (ad (b:=eC (.int 1)) bj rfl) ∅;rw[ep] at e;rw[asg e,aF];rfl
 have a4:aM (ah aE (eC (.str "0123456789 -+.,\n\taezAx_")) (ah aV (ah bv (af 2) {400}) {23})) (gN 4) (st (↥p) Z Z Z Z) H=.ok (.nx (st (↥p) (O (bw c)) Z Z Z)) H:=by
  have e:ah aE (eC (.str "0123456789 -+.,\n\taezAx_")) (ah aV (ah bv (af 2) {400}) {23}) (st (↥p) Z Z Z Z) H=.ok (bw c) H:=by
   refine op (x:=.str (tx yR)) (y:=.int m) (by rw[hsg];rfl) ?_ (Y7 MW (by decide) H);rw[<- em];exact md (dv (by rw[aF];rfl) rfl (by decide) (by decide)) rfl (by decide)
  rw[asg e,aF];rfl
 obtain⟨σ,aU⟩:∃σ,σ=st (↥p) (O (bw c)) Z Z none:=⟨_,rfl⟩
 rw[<- aU] at a4;have m5:∀{k:Int},eT (ah bo (ah aV (af 2) {5}) (eC (.int k))) σ H=.ok (decide (n.fmod 5=k)) H:=λ{k}=>eI (md (by rw[aU,aF];rfl) rfl (by decide)) rfl
 have D8:dP (af 0) bJ (bA (af 3)) σ H=.ok (.str (tx (cs.take p))) H:=Bl (by rw[aU,aF];rfl) (by rw[aU,aF];rfl) ∅;have eO:dP (af 0) (bA (af 3)) bJ σ H=.ok (.str (tx (cs.drop p))) H:=w4 (by rw[aU,aF];rfl) (by rw[aU,aF];rfl) ∅;have zu:dP (af 0) (bA (ah addW (af 3) {1})) bJ σ H=.ok (.str (tx (cs.drop (p+1)))) H:=w4 (by rw[aU,aF];rfl) (ad (i:=(p:Int)) (j:=1) (by rw[aU,aF];rfl) rfl) ∅;have MX:af 4 σ H=.ok (.str (tx [c])) H:=by rw[aU,aF];rfl
 have lt:(cs.take p).length<=↑cs:=by rw[acw];omega
 have ld:∀q,(cs.drop q).length<=↑cs:=λq=>by rw[adC];omega
 unfold wN Fv;rw[yE];have s0:(O (W.str (tx cs))::O (aq a)::O (W.int n)::abS (8-3) Z)=st Z Z Z Z none:=by rw[aF];rfl
 rw[s0];by_cases h0:n.fmod 5=0
 ·have t:=m5 (k:=0);rw[aL h0] at t;exact⟨_,H,bq a3 (bq a4 (bT (bh t (retS (lK (lK D8 MX (by simp;omega)) eO (by have:=ld p;simp;omega)))))),Ex.refl _,.inl ⟨_,rfl,ot (ot (ua hc) Lo) (BO hc),by have:=ld p;simp only[acg,abP,acS];omega⟩⟩
 have t0:=m5 (k:=0);rw[aX h0] at t0;by_cases MY:n.fmod 5=1
 ·have t:=m5 (k:=1);rw[aL MY] at t;exact⟨_,H,bq a3 (bq a4 (bq (aK t0 rfl) (bT (bh t (retS (lK D8 zu (by have:=ld (p+1);omega))))))),Ex.refl _,.inl ⟨_,rfl,ot (ua hc) (BO hc),by have:=ld (p+1);rw[acg];omega⟩⟩
 have t1:=m5 (k:=1);rw[aX MY] at t1;by_cases h2:n.fmod 5=2
 ·have t:=m5 (k:=2);rw[aL h2] at t;exact⟨_,H,bq a3 (bq a4 (bq (aK t0 rfl) (bq (aK t1 rfl) (bT (bh t (retS (lK (lK D8 MX (by simp;omega)) zu (by have:=ld (p+1);simp;omega)))))))),Ex.refl _,.inl ⟨_,rfl,ot (ot (ua hc) Lo) (BO hc),by have:=ld (p+1);simp only[acg,abP,acS];omega⟩⟩
 have t2:=m5 (k:=2);rw[aX h2] at t2;by_cases h3:n.fmod 5=3
 ·have t:=m5 (k:=3);rw[aL h3] at t;obtain⟨L,eL⟩:∃L,L=bG 10 cs:=⟨_,rfl⟩
  have aaq:=Io 10 cs;rw[<- eL] at aaq;obtain⟨H1,eW⟩:∃H1,H1=H++[PO.lst (L.map aq)]:=⟨_,rfl⟩
  have g1:H1[↑H]? =O (.lst (L.map aq)):=by rw[eW];exact bp _ _
  have x1:Ex H H1:=eW▸Ex.one _ _;obtain⟨q,hq,eq⟩:=d0 (a:=n.fdiv 5) (n:=(↑L:Int)+1) ∅;have b1:aM (bL cy fP (af 0) (ag (eC (.str "\n")) ai)) (gN 5) σ H=.ok (.nx (st (↥p) (O (bw c)) ⇑↑H Z Z)) H1:=by
   have e:bL cy fP (af 0) (ag (eC (.str "\n")) ai) σ H=.ok (.ref ↑H) H1:=by
    rw[eW,eL];exact vW oR (by rw[aU,aF];rfl) ∅
   rw[asg e,aU,aF];rfl
  obtain⟨bE,f9⟩:∃bE,bE=st (↥p) (O (bw c)) ⇑↑H (↥q) none:=⟨_,rfl⟩
  have b2:aM (ah aV (ah bv (af 2) {5}) (ah addW (aR bz (ag (af 5) ai)) {1})) (gN 6) (st (↥p) (O (bw c)) ⇑↑H Z Z) H1=.ok (.nx bE) H1:=by
   have bj:aR bz (ag (af 5) ai) (st (↥p) (O (bw c)) ⇑↑H Z Z) H1=.ok (.int (↑L:Int)) H1:=aj (au (w:=.ref ↑H) (by rw[aF];rfl) rfl) ((jL g1).trans (by rw[abI]));have e:=md (d5 (K:=H1) (o3:= ↥p) (o4:=O (bw c)) (o5:= ⇑↑H) (o6:=Z) (o7:=Z)) (ad (b:=eC (.int 1)) bj rfl) ∅;rw[eq] at e;rw[asg e,f9,aF];rfl
  obtain⟨H2,dR⟩:∃H2,H2=H1++[PO.lst ((L.take q).map aq)]:=⟨_,rfl⟩
  have x2:Ex H1 H2:=dR▸Ex.one _ _;have g2:H2[↑H1]? =O (.lst ((L.take q).map aq)):=by rw[dR];exact bp _ _
  have c1:cm (af 5) bJ (bA (af 6)) bE H1=.ok (.ref ↑H1) H2:=by
   rw[dR,afq];exact rS (i:=↑H) (by rw[f9,aF];rfl) g1 (by rw[f9,aF];rfl)
  obtain⟨w,H3,e3,x3,d,rfl,ad',ld'⟩:=Y6 ha h1 h6 (n.fdiv 400) H2;have c2:bP (ag (aP sk (ag (af 1) (ag (ah bv (af 2) {400}) ai))) ai) bE H2=.ok (.ref ↑H3) (H3++[.lst [aq d]]):=aj (au (aj (au (w:=aq a) (by rw[f9,aF];rfl) (au (dv (by rw[f9,aF];rfl) rfl (by decide) (by decide)) rfl)) e3) rfl) (k7 [aq d] H3 (show 1<=acd by decide));have lq:(L.take q).length<=↑L:=by rw[acw];omega
  have lL:↑L<=40001:=by omega
  have c3:=op (f:=addW) c1 c2 (oo ((Ex.one _ _).get (x3.get g2)) (bp _ _) (small (by rw[abI];simp only[abP,acS];omega)));obtain⟨H4,jE⟩:∃H4,H4=H3++[PO.lst [aq d]]++[PO.lst ((L.take q).map aq++[aq d])]:=⟨_,rfl⟩
  obtain⟨r4,we⟩:∃r4,r4=(H3++[PO.lst [aq d]]).length:=⟨_,rfl⟩
  have g4:H4[r4]? =O (.lst ((L.take q++[d]).map aq)):=by rw[jE,we,adk];exact bp _ _
  have x4:Ex H3 H4:=by rw[jE];exact(Ex.one _ _).trans (Ex.one _ _)
  rw[<- jE,<- we] at c3;have c4:cm (af 5) (bA (af 6)) bJ bE H4=.ok (.ref ↑H4) (H4++[.lst ((L.drop q).map aq)]):=by
   rw[ahp];exact zI (i:=↑H) (by rw[f9,aF];rfl) (x4.get (x3.get (x2.get g1))) (by rw[f9,aF];rfl)
  have hdq:(L.drop q).length<=↑L:=by rw[adC];omega
  have c5:=op (f:=addW) c3 c4 (oo ((Ex.one _ _).get g4) (bp _ _) (small (by rw[abI,abI,acg];simp only[abP,acS];omega)));obtain⟨H5,ia⟩:∃H5,H5=H4++[PO.lst ((L.drop q).map aq)]++[PO.lst ((L.take q++[d]).map aq++(L.drop q).map aq)]:=⟨_,rfl⟩
  obtain⟨r5,mf⟩:∃r5,r5=(H4++[PO.lst ((L.drop q).map aq)]).length:=⟨_,rfl⟩
  have g5:H5[r5]? =O (.lst ((L.take q++[d]++L.drop q).map aq)):=by rw[ia,mf,adk (l₁:=L.take q++[d])];exact bp _ _
  have x5:Ex H4 H5:=by rw[ia];exact(Ex.one _ _).trans (Ex.one _ _)
  rw[<- ia,<- mf] at c5;have hb:((L.take q++[d]++L.drop q).map (·.length)).sum+(L.take q++[d]++L.drop q).length<=50000:=by
   have e1:(L.map (·.length)).sum=((L.take q).map (·.length)).sum+((L.drop q).map (·.length)).sum:=by
    conv=>lhs;rw[<- afh q L]
    rw[adk,List.sum_append]
   have e2:↑L=(L.take q).length+(L.drop q).length:=by
    conv=>lhs;rw[<- afh q L]
    rw[acg]
   simp only[adk,List.sum_append,acg,ace,afH,afU,List.sum_nil,abP,acS];omega
  refine⟨_,H5,bq a3 (bq a4 (bq (aK t0 rfl) (bq (aK t1 rfl) (bq (aK t2 rfl) (bT (bh t (sq b1 (sq b2 (retS (vV oR c5 g5 (abX hb (by decide)))))))))))),(((x1.trans x2).trans x3).trans x4).trans x5,.inl ⟨_,rfl,tf (by decide) λl eo=>?_,abX (qe 10 _) (abX hb (by decide))⟩⟩;have Lp:∀l∈L,bg l:=λl eo=>hc.sub λy hy=>kn 10 cs l (eL▸eo) y hy
  rcases acG.mp eo with z | z
  ·rcases acG.mp z with z | z
   ·exact Lp l (acH z)
   ·rw[ack.mp z];exact ad'
  ·exact Lp l (adK z)
 have t3:=m5 (k:=3);rw[aX h3] at t3;obtain⟨w7,H1,e1,x1,t7⟩:=Xh H (σ:=σ) (n:=n) (by rw[aU,aF];rfl);obtain⟨q,hq,eq⟩:=d0 (a:=n.fdiv 5) (n:=12) (by decide);obtain⟨bE,f9⟩:∃bE,bE=st (↥p) (O (bw c)) Z Z (O w7):=⟨_,rfl⟩
 have b7:aM (bL cy dn (eC (.str "\n")) (ag (b6 (ip (dP {"abcdefghijklmn"} bJ (bA (ah addW {11} (ah aV (ah bv (af 2) {60}) {4}))))) [Z] (gN 0) cu (ah addW (eC (.str "tell ")) (af 0))) ai)) (gN 7) σ H=.ok (.nx bE) H1:=by
  rw[asg e1,aU,f9,aF];rfl
 obtain⟨H2,dR⟩:∃H2,H2=H1++[PO.lst [.str "end"]]:=⟨_,rfl⟩
 obtain⟨ws,D9⟩:∃ws,ws=[W.ay,.int 7,.ref ↑H1,.bl true,.str "\n",.str "end\n",.str "\nend",.str " ",.str "end end",.str "END",w7,w7]:=⟨_,rfl⟩
 have Ll:bP (ag (eC .ay) (ag {7} (ag (bP (ag {"end"} ai)) (ag (eC (.bl true)) (ag (eC (.str "\n")) (ag (eC (.str "end\n")) (ag (eC (.str "\nend")) (ag (eC (.str " ")) (ag (eC (.str "end end")) (ag {"END"} (ag (af 7) (ag (af 7) ai)))))))))))) bE H1=.ok (.ref ↑H2) (H2++[.lst ws]):=by
  rw[D9];exact aj (au rfl (au rfl (au (ph1:=H2) (w:=.ref ↑H1) (by rw[dR];exact aj (au rfl rfl) (k7 _ H1 (show 1<=acd by decide))) (au rfl (au rfl (au rfl (au rfl (au rfl (au rfl (au rfl (au (w:=w7) (by rw[f9,aF];rfl) (au (w:=w7) (by rw[f9,aF];rfl) rfl)))))))))))) (k7 _ H2 (show 12<=acd by decide))
 obtain⟨w,hw⟩:=iM (l:=ws) (j:=q) (by rw[D9];show q<12;omega);have fin:ah aE (bP (ag (eC .ay) (ag {7} (ag (bP (ag {"end"} ai)) (ag (eC (.bl true)) (ag (eC (.str "\n")) (ag (eC (.str "end\n")) (ag (eC (.str "\nend")) (ag (eC (.str " ")) (ag (eC (.str "end end")) (ag {"END"} (ag (af 7) (ag (af 7) ai))))))))))))) (ah aV (ah bv (af 2) {5}) {12}) bE H1=.ok w (H2++[.lst ws]):=by
  refine op Ll (y:=.int q) (ph2:=H2++[.lst ws]) ?_ (iG (bp _ _) (by rw[fq _ _ (abL.mp hw).1];exact hw));rw[<- eq,f9];exact md d5 rfl (by decide)
 have x2:Ex H1 H2:=dR▸Ex.one _ _;have g2:(H2++[PO.lst ws])[↑H1]? =O (.lst [.str "end"]):=(Ex.one _ _).get (by rw[dR];exact bp _ _);refine⟨w,H2++[.lst ws],bq a3 (bq a4 (bq (aK t0 rfl) (bq (aK t1 rfl) (bq (aK t2 rfl) (bq (aK t3 rfl) (bq b7 (br fin))))))),(x1.trans x2).trans (Ex.one _ _),?_⟩;have wc:=abY hw;rw[D9] at wc;simp only[abR,acY,or_false] at wc
 rcases wc with rfl | rfl | rfl | rfl | rfl | rfl | rfl | rfl | rfl | rfl | rfl | rfl
 ·exact .inr λK _=>rfl
 ·exact .inr λK _=>rfl
 ·exact .inr λK x=>(tV (x.get g2)).trans rfl
 ·exact .inr λK _=>rfl
 all_goals first
  | exact .inl (t7.up (by decide))
  | exact .inl (zS ⋯)
noncomputable def Wd.cs:Wd->Nm
 | .sum=>[115,117,109]
 | .less=>[108,101,115,115]
 | .times=>[116,105,109,101,115]
 | .part=>[112,97,114,116]
 | .below=>[98,101,108,111,119]
 | .alike=>[97,108,105,107,101]
theorem Y8(w:Wd):abH w.s=tx w.cs:=by cases w <;> decide +kernel
noncomputable def Row.p:Row->Rw
 | .set a n=>[.s [115,101,116],.s a,.n n]
 | .copy a b=>[.s [99,111,112,121],.s a,.s b]
 | .lH a w b c=>[.s [100,111],.s a,.s w.cs,.s b,.s c]
 | .take a=>[.s [116,97,107,101],.s a]
 | .tell a=>[.s [116,101,108,108],.s a]
 | .turn=>[.s [116,117,114,110]]
 | .iff a p=>[.s [105,102],.s a,.n (p:Int)]
 | .go p=>[.s [103,111],.n (p:Int)]
 | .fin=>[.s [101,110,100]]
theorem xR(r:Row):r.w=Rw.w r.p:=by
 have e:∀{s:String} {l:Nm} {ws:aw},abH s=tx l->W.tup (.str (abH s)::ws)=W.tup (aq l::ws):=λh=>by rw[h];rfl
 cases r with
 | lH a w b c=>
  show W.tup [.str (abH "do"),aq a,.str (abH w.s),aq b,aq c]=_;rw[Y8 w];exact e ⋯
 | _=>exact e ⋯
theorem Ub{a:Nm}(h:dH a):isNm a=true:=by
 unfold isNm;rw[aL h.lo,aL h.hi,ade,ade,acA];intro c hc;have:=h.ab c hc;rw[decide_eq_true_eq];unfold eK;exact ach.mpr ⟨c-97,adQ.mpr (by have:=this.2;omega),by have:=this.1;omega⟩
theorem Ip{v:Int}(h:vN v):(Pt.n v).num=true:=by
 show(decide (-2147483648<=v)&&decide (v<2147483648))=true;rw[aL h.1,aL (by have:=h.2;omega)];rfl
theorem KC(h:k<=n)(hn:n<=60):(Pt.n (k:Int)).pl n=true:=by
 show((Pt.n (k:Int)).num&&(decide (0<=(k:Int))&&decide ((k:Int)<=(n:Int))))=true;rw[Ip ⟨∅,∅⟩,aL ∅,aL ∅];rfl
theorem ym(nk:∀a∈NS,dH a){r:Row}(ok:jh NS r)(hp:∀k∈r.to,k<=n)(hn:n<=60):c6 n r.p=true/\dS r.p=r.to/\cA r.p=r.nm:=by
 have nm:∀a∈r.nm,(Pt.s a).nm=true:=λa ha=>Ub (nk a (ok.1 a ha))
 have key:∀{h:Nm} {ks:List Kd} {ps:Rw},formOf h=O ks->(true&&fits n ks ps)=true->↑ps=↑ks->((ks.zip ps).filter λq=>decide (q.1=.dj)).map (λq=>q.2.nat)=r.to->((ks.zip ps).filter λq=>decide (q.1=.bM)).map (λq=>q.2.cs)=r.nm->c6 n (.s h::ps)=true/\dS (.s h::ps)=r.to/\cA (.s h::ps)=r.nm:=λ{h ks ps} hf h1 h2 h3 h4=>by
  refine⟨by rw[tu hf,aL h2];exact h1,?_,?_⟩
  ·unfold dS;rw[qh hf,acz];exact h3
  ·unfold cA;rw[qh hf,acz];exact h4
 cases r with
 | set a v=>exact key (ks:=[.bM,.num]) (by decide) (by show(true&&((Pt.s a).nm&&((Pt.n v).num&&true)))=true;rw[nm a (by simp[Row.nm]),Ip (ok.2 a v rfl)];rfl) rfl rfl rfl
 | copy a b=>exact key (ks:=[.bM,.bM]) (by decide) (by show(true&&((Pt.s a).nm&&((Pt.s b).nm&&true)))=true;rw[nm a (by simp[Row.nm]),nm b (by simp[Row.nm])];rfl) rfl rfl rfl
 | lH a w b c=>exact key (ks:=[.bM,.fk,.bM,.bM]) (by decide) (by show(true&&((Pt.s a).nm&&((Pt.s w.cs).wd&&((Pt.s b).nm&&((Pt.s c).nm&&true)))))=true;rw[nm a (by simp[Row.nm]),nm b (by simp[Row.nm]),nm c (by simp[Row.nm]),show(Pt.s w.cs).wd=true by cases w <;> decide];rfl) rfl rfl rfl
 | take a=>exact key (ks:=[.bM]) (by decide) (by show(true&&((Pt.s a).nm&&true))=true;rw[nm a (by simp[Row.nm])];rfl) rfl rfl rfl
 | tell a=>exact key (ks:=[.bM]) (by decide) (by show(true&&((Pt.s a).nm&&true))=true;rw[nm a (by simp[Row.nm])];rfl) rfl rfl rfl
 | turn=>exact key (ks:=[]) (by decide) rfl rfl rfl rfl
 | iff a p=>exact key (ks:=[.bM,.dj]) (by decide) (by show(true&&((Pt.s a).nm&&((Pt.n (p:Int)).pl n&&true)))=true;rw[nm a (by simp[Row.nm]),KC (hp p (by simp[Row.to])) hn];rfl) rfl rfl rfl
 | go p=>exact key (ks:=[.dj]) (by decide) (by show(true&&((Pt.n (p:Int)).pl n&&true))=true;rw[KC (hp p (by simp[Row.to])) hn];rfl) rfl rfl rfl
 | fin=>exact key (ks:=[]) (by decide) rfl rfl rfl rfl
theorem BP(nk:∀a∈NS,dH a){r:Row}(ok:jh NS r):∀p∈r.p,p.ok:=by
 have nm:∀a∈r.nm,(Pt.s a).ok:=λa ha=>by
  have:=nk a (ok.1 a ha);exact⟨λc hc=>by have:=(this.ab c hc).2;omega,by have:=this.hi;omega⟩
 have cst:∀{l:Nm},(l.all (λc=>decide (c<128))&&decide (↑l<=1000000))=true->(Pt.s l).ok:=λh=>by
  rw[abK,decide_eq_true_eq] at h;exact⟨gv h.1,h.2⟩
 intro p hp;cases r with
 | lH a w b c=>
  simp only[Row.p,abR,acY,or_false] at hp
  rcases hp with rfl | rfl | rfl | rfl | rfl
  ·exact cst (by decide)
  ·exact nm _ (by simp[Row.nm])
  ·exact cst (by cases w <;> decide)
  ·exact nm _ (by simp[Row.nm])
  ·exact nm _ (by simp[Row.nm])
 | copy a b=>
  simp only[Row.p,abR,acY,or_false] at hp
  rcases hp with rfl | rfl | rfl
  ·exact cst (by decide)
  ·exact nm _ (by simp[Row.nm])
  ·exact nm _ (by simp[Row.nm])
 | set a v=>
  simp only[Row.p,abR,acY,or_false] at hp
  rcases hp with rfl | rfl | rfl
  ·exact cst (by decide)
  ·exact nm _ (by simp[Row.nm])
  ·exact trivial
 | iff a v=>
  simp only[Row.p,abR,acY,or_false] at hp
  rcases hp with rfl | rfl | rfl
  ·exact cst (by decide)
  ·exact nm _ (by simp[Row.nm])
  ·exact trivial
 | take a=>
  simp only[Row.p,abR,acY,or_false] at hp
  rcases hp with rfl | rfl
  ·exact cst (by decide)
  ·exact nm _ (by simp[Row.nm])
 | tell a=>
  simp only[Row.p,abR,acY,or_false] at hp
  rcases hp with rfl | rfl
  ·exact cst (by decide)
  ·exact nm _ (by simp[Row.nm])
 | go v=>
  simp only[Row.p,abR,acY,or_false] at hp
  rcases hp with rfl | rfl
  ·exact cst (by decide)
  ·exact trivial
 | turn=>
  rw[ack.mp hp];exact cst (by decide)
 | fin=>
  rw[ack.mp hp];exact cst (by decide)
theorem JM{α:Type}[DecidableEq α]:∀{M N:List α},M.Nodup->(∀a∈M,a∈N)->↑M<=↑N
 | [],_,_,_=>adH _
 | a::M,N,nd,h=>by
  have ha:=h a adF;have MZ:=afc.mp nd;have:=JM (N:=N.erase a) MZ.2 λb hb=>(List.mem_erase_of_ne (λz:b=a=>MZ.1 (z▸hb))).mpr (h b (abN _ hb))
  rw[List.length_erase_of_mem ha] at this;have:0<↑N:=List.length_pos_of_mem ha;rw[abP];omega
theorem Iq:∀(l:List Nm) {M:List Nm},M.Nodup->(l.foldl b8 M).Nodup
 | [],M,h=>h
 | a::l,M,h=>by
  rw[aej];refine Iq l ?_;unfold b8;split
  ·exact h
  ·rename_i hn;rw[List.nodup_append];refine⟨h,afc.mpr ⟨(λz=>nomatch z),agR⟩,λb hb c hc z=>?_⟩;rw[ack] at hc;exact hn (hc▸z▸hb)
theorem Ir{R:List Rv}(h:∀v∈R.take j,∀a∈pj v,a∈NS):(eh R j).length<=NS.length:=by
 refine JM (Iq _ agR) λa ha=>?_
 rcases xk ha with z | z
 ·cases z
 ·obtain⟨v,hv,D0⟩:=List.mem_flatMap.mp z;exact h v hv a D0
theorem OB{R:List Row}(nk:∀a∈NS,dH a)(jF:NS.length<=12)(hn:↑R<=60)(ok:Li NS R):kH ((R.map Row.p).map .row):=by
 refine⟨by rw[abI,abI];exact hn,λj hj=>⟨?_,?_⟩⟩
 ·rw[abI,abI] at hj;obtain⟨r,hr⟩:=iM hj;have j9:=ok.jm j r hr;obtain⟨p1,p2,_⟩:=ym nk (ok.ok r (abY hr)) (λk hk=>(j9 k hk).1) hn;unfold kc;rw[abQ,abQ,hr];simp only[acC,abI,p1,ade];rw[ahe];unfold jb;rw[p2,List.any_eq_false];intro k hk;by_cases Ea:k<=j
  ·rw[abQ,abQ,(j9 k hk).2 Ea,aL Ea];exact acj
  ·rw[aX Ea];exact acj
 ·refine abX (Ir (NS:=NS) λv hv a ha=>?_) jF;obtain⟨q,hq,rfl⟩:=ach.mp (acH hv);obtain⟨r,hr,rfl⟩:=ach.mp hq;obtain⟨i,hi,e⟩:=adi hr;have j9:=ok.jm i r (by rw[acn hi,e]);obtain⟨_,_,p3⟩:=ym nk (ok.ok r hr) (λk hk=>(j9 k hk).1) hn;have ha:a∈cA r.p:=ha;rw[p3] at ha;exact(ok.ok r hr).1 a ha
theorem Rg{k:Kd}{p:Pt}(h:k.fit n p=true)(ho:p.ok):Pt.rd p.st=p/\32∉p.st/\10∉p.st:=by
 have fn:=GY h ho;have num:∀{i:Int},(Pt.n i).cX->Pt.rd (Pt.n i).st=.n i/\32∉(Pt.n i).st/\10∉(Pt.n i).st:=λ{i} hi=>by
  obtain⟨a,b⟩:=TU hi;refine⟨?_,λz=>by have:=xl i _ z;omega,λz=>by have:=xl i _ z;omega⟩;show Pt.rd (dE i)=_;unfold Pt.rd;rw[if_pos a,b]
 cases p with
 | t=>exact fn.elim
 | n i=>exact num fn
 | s cs=>
  show Pt.rd cs=.s cs/\32∉cs/\10∉cs;cases k with
  | num=>cases h
  | dj=>cases h
  | bM=>
   have h:isNm cs=true:=h;have ab:=(t8 h).ab;exact⟨kJ (BM h),λz=>by have:=(ab _ z).1;omega,λz=>by have:=(ab _ z).1;omega⟩
  | fk=>
   have h:decide (cs∈eD)=true:=h;rw[decide_eq_true_eq] at h;have:∀w∈eD,32∉w/\10∉w:=by unfold eD;decide
   exact⟨kJ (BN h),this cs h⟩
theorem Rh(h:c6 n r=true)(ho:∀p∈r,p.ok):eZ (du r)=r/\10∉du r/\du r≠[]:=by
 have each:∀p∈r,Pt.rd p.st=p/\32∉p.st/\10∉p.st:=by
  obtain⟨hd,ps,ks,rfl,hf,hl,hx⟩:=k9 h;intro p hp
  rcases abR.mp hp with z | z
  ·rw[z];have:∀q∈fT,32∉q.1/\10∉q.1:=by unfold fT;decide
   exact⟨kJ (G1 hf),this _ (xm hf)⟩
  ·obtain⟨k,hk⟩:=Bq hl p z;unfold fits at hx;rw[acA] at hx;exact Rg (hx _ hk) (ho p hp)
 have cT:r≠[]:=λz=>by rw[z] at h;cases h
 refine⟨?_,?_,?_⟩
 ·unfold eZ du;rw[qd 32 (r.map Pt.st) (by simpa using cT) (λx hx=>by
   obtain⟨p,hp,rfl⟩:=ach.mp hx;exact(each p hp).2.1),acz,adb (f:=Pt.rd∘Pt.st) (g:=id) λp hp=>(each p hp).1,ahq]
 ·exact AD (by decide) λx hx=>by
   obtain⟨p,hp,rfl⟩:=ach.mp hx;exact(each p hp).2.2
 ·obtain⟨hd,ps,ks,rfl,hf,hl,hx⟩:=k9 h;have:∀q∈fT,q.1≠[]:=by unfold fT;decide
  have pP:=this _ (xm hf);unfold du;cases ps with
  | nil=>exact pP
  | cons a l=>
   rw[ace,sU 32 _ (by simp)];intro z;exact pP (ahC.mp z).1
theorem Ge(hp:kH (R.map .row))(ho:∀r∈R,∀p∈r,p.ok):eF (gZ R)=R:=by
 have each:∀r∈R,eZ (du r)=r/\10∉du r/\du r≠[]:=λr hr=>by
  obtain⟨j,hj,e⟩:=adi hr;obtain⟨r',e1,h1,_⟩:=mH (hp.2 j (by rw[abI];exact hj)).1;rw[abQ,acn hj,e] at e1;cases e1;exact Rh h1 (ho r hr)
 cases R with
 | nil=>rfl
 | cons r0 R=>
  have cT:gZ (r0::R)≠[]:=by
   have:=(each r0 (by simp)).2.2;unfold gZ;cases R with
   | nil=>exact this
   | cons a l=>
    rw[ace,sU 10 _ (by simp)];intro z;exact this (ahC.mp z).1
  unfold eF;rw[if_neg cT];unfold gZ;rw[qd 10 _ (by simp) (λx hx=>by
   obtain⟨r,hr,rfl⟩:=ach.mp hx;exact(each r hr).2.1),acz,adb (f:=eZ∘du) (g:=id) λr hr=>(each r hr).1,ahq]
theorem Ri(hp:kH (R.map .row))(ho:∀r∈R,∀p∈r,p.ok):Acc (gZ R):=by
 unfold Acc;rw[Ge hp ho];exact⟨hp,rfl⟩
theorem Gf(c:Nat)(x:Nm):∀{l:List Nm},l≠[]->dD c (l++[x])=dD c l++c::x
 | [],h=>absurd rfl h
 | [p],_=>rfl
 | p::q::r,_=>by
  rw[agi,sU c p (by simp),Gf c x (l:=q::r) (by simp),dD,adM,agi]
theorem OC{hd:Nm}{ps:Rw}(hf:∀p∈Pt.s hd::ps,p.cX)(hl:(Pt.s hd::ps).length<=10)(H:PH):nZ [Rw.w (.s hd::ps)] H=.ok (.str (tx (du (.s hd::ps)))) H:=by
 have CW:∀j,(dD 32 (hd::(ps.take j).map Pt.st)).length<=300:=λj=>by
  have h1:=qe 32 (hd::(ps.take j).map Pt.st);have:=oG (λl:Nm=>↑l) (B:=20) (hd::(ps.take j).map Pt.st) λx hx=>by
   rcases abR.mp hx with z | z
   ·rw[z];exact(hf (.s hd) (by simp)).2
   ·obtain⟨p,hp,rfl⟩:=ach.mp z;exact xQ (hf p (abN _ (acH hp)))
  simp only[abP,abI,acw] at h1 this hl;omega
 obtain⟨ao,H',e,⟨o,rfl⟩,rfl⟩:=kj (chk:=λ_=>true) (g:=gN 2) (b:=Af) (λj σ K=>(∃o,σ=[O (Rw.w (.s hd::ps)),O (aq (dD 32 (hd::(ps.take j).map Pt.st))),o])/\K=H) (ps.map Pt.w) [O (Rw.w (.s hd::ps)),O (aq hd),Z] H
  (λ_ _ _ _=>rfl) (λj x σ K hj hI=>by
   obtain⟨⟨o,rfl⟩,rfl⟩:=hI;rw[abQ] at hj;obtain⟨p,hp,rfl⟩:=abU.mp hj;have M0:=hf p (abN _ (abY hp));have tk:hd::(ps.take (j+1)).map Pt.st=(hd::(ps.take j).map Pt.st)++[p.st]:=by rw[adO,hp];simp
   have l1:=CW j;have l2:=xQ M0;refine⟨_,_,rfl,_,K,?_,_,.inl rfl,⟨O p.w,rfl⟩,rfl⟩;unfold Af;refine(asg (lK (x:=dD 32 (hd::(ps.take j).map Pt.st)++[32]) (y:=p.st) (ph1:=K) (lK (y:=[32]) rfl (by rw[yl];rfl) (by simp only[abP,acS];omega)) (aj (au (w:=p.w) rfl rfl) (Kx M0 K)) (by rw[acg];simp only[abP,acS];omega))).trans ?_;rw[tk,Gf 32 _ (by simp),adM];rfl) ⟨⟨Z,rfl⟩,rfl⟩
 unfold nZ Ft;rw[dh];refine bq (σ1:=[O (Rw.w (.s hd::ps)),O (aq hd),Z]) (asg (w:=aq hd) (op (x:=Rw.w (.s hd::ps)) (y:=.int 0) (ph1:=H') rfl rfl (uW (r:=.s hd::ps) (k:=0) (p:=.s hd) rfl H'))) (bq (gf (wW (tN (a:=aq hd) rfl)) e) (br ?_));rw[abI,aeq];rfl
theorem Rj(hR:H[ri]? =O (.lst (R.map Rw.w)))(hp:kH (R.map .row))(ho:∀r∈R,∀p∈r,p.ok):∃H',mF [.ref ri] H=.ok (.str (tx (gZ R))) H'/\Ex H H':=by
 have wr:=xu hp ho;obtain⟨w,H1,e1,x1⟩:=Ia (R:=R.map .row) (H:=H) (ri:=ri) (by rw[Ih];exact hR) (λv hv=>by
  obtain⟨r,hr,rfl⟩:=ach.mp hv;exact⟨ho r hr,by have:=wr.l r hr;omega⟩) hp.1 hp.2
 obtain⟨H2,e2,x2⟩:=F5 (x1.get hR) wr;refine⟨H2,?_,x1.trans x2⟩;unfold mF Bi;rw[dh];exact bq (aj (aj (au rfl rfl) e1) rfl) (br (aj (au rfl rfl) e2))
theorem Uc{w:W}(e:ib [w] H=.ex x H1):mF [w] H=.ex x H1:=by
 unfold mF Bi;rw[dh];exact rW (bx (aj (au rfl rfl) e))
noncomputable def C1(v:Rv):Prop:=∀n,n<=60->match v with
 | .row r=>c6 n r=false
 | .pO _=>True
theorem Xj{P:List Row}{q:Nat}{o:Rv}(nk:∀a∈NS,dH a)(jF:NS.length<=12)(hP:∀r∈P,jh NS r/\r.to=[])(hl:↑P<=50)(hq:q<=↑P)(hb:C1 o):(∀j,j<q->gO ((P.take q).map (λr=>Rv.row r.p)++[o]++(P.drop q).map λr=>Rv.row r.p) j)/\¬gO ((P.take q).map (λr=>Rv.row r.p)++[o]++(P.drop q).map λr=>Rv.row r.p) q/\((P.take q).map (λr=>Rv.row r.p)++[o]++(P.drop q).map λr=>Rv.row r.p).length<=60:=by
 obtain⟨R,eR⟩:∃R,R=(P.take q).map (λr=>Rv.row r.p)++[o]++(P.drop q).map λr=>Rv.row r.p:=⟨_,rfl⟩
 have tl:(P.take q).length=q:=by rw[acw];omega
 have len:↑R=↑P+1:=by rw[eR];simp;omega
 have at_:∀{j:Nat},j<q->∃r,r∈P/\R[j]? =O (.row r.p):=λ{j} hj=>by
  obtain⟨r,hr⟩:=iM (l:=P.take q) (j:=j) ∅;refine⟨r,acH (abY hr),?_⟩;rw[eR,adM,ado (by rw[abI];omega),abQ,hr];rfl
 have atq:R[q]? =O o:=by
  rw[eR,adM,agD (by rw[abI];omega),abI,tl];simp
 rw[<- eR];refine⟨λj hj=>⟨?_,?_⟩,?_,∅⟩
 ·obtain⟨r,hr,e⟩:=at_ hj;obtain⟨ok,to⟩:=hP r hr;obtain⟨p1,p2,_⟩:=ym nk ok (n:=↑R) (λk hk=>by rw[to] at hk;cases hk) ∅;unfold kc jb;rw[e];simp only[p1,p2,to];rfl
 ·refine abX (Ir (NS:=NS) λv hv a ha=>?_) jF;obtain⟨i,hi,ev⟩:=adi hv;rw[acw] at hi;obtain⟨r,hr,e⟩:=at_ (j:=i) ∅;rw[List.getElem_take] at ev;rw[acn ∅,ev] at e;cases e;obtain⟨ok,to⟩:=hP r hr;obtain⟨_,_,p3⟩:=ym nk ok (n:=↑R) (λk hk=>by rw[to] at hk;cases hk) ∅;have ha:a∈cA r.p:=ha;rw[p3] at ha;exact ok.1 a ha
 ·intro z;have hbn:=hb ↑R ∅;obtain⟨r,e,h1,_⟩:=mH z.1;rw[atq] at e;cases e;rw[show c6 ↑R r=false from hbn] at h1;cases h1
theorem Y9(r:Row):hW r.p= !r.to.isEmpty:=by cases r <;> rfl
theorem OD{R:List Row}{o:Rv}{c:Int}(nk:∀a∈NS,dH a)(jF:NS.length<=12)(aA:∀r∈R,jh NS r)(hl:↑R<=50)(hR:H[ri]? =O (.lst (R.map Row.w)))(ho:o.ok H)(hb:C1 o):∃H',sj [.ref ri,o.w,.int c] H=.ok (.bl true) H'/\Ex H H':=by
 obtain⟨st,aF⟩:∃st:dO->Option W->Option W->aG,st=λo3 o4 o5=>[⇑ri,O o.w,↥c,o3,o4,o5]:=⟨_,rfl⟩
 obtain⟨P,eP⟩:∃P,P=R.filter λr=> !hW r.p:=⟨_,rfl⟩
 have hP:∀r∈P,jh NS r/\r.to=[]:=λr hr=>by
  rw[eP] at hr;obtain⟨h1,h2⟩:=afK.mp hr;refine⟨aA r h1,?_⟩;rw[Y9,agO] at h2
  simpa using h2
 have lP:↑P<=50:=by rw[eP];exact abX (ahN _ _) hl
 obtain⟨H1,e1,x1⟩:=ie R Row.w (im:=cf (af 0)) (cap:=[Z]) (g:=gN 0) (c:=eT (ah fc (ah aE (af 0) {0}) (cw (ag {"if"} (ag {"go"} ai))))) (e:=af 0) (σ:=st Z Z Z) (ph0:=H) (i5 (by rw[aF];rfl) hR) (λK x=>aL (x.get hR)) (small ∅) (λr=>if(!hW r.p)=true then O r.w else Z) (λσ=>∃o,σ=[o]) ⟨Z,by rw[aF];rfl⟩
  (λr hr σ K hS _=>by
   obtain⟨o',rfl⟩:=hS;obtain⟨hd,ps,ep⟩:∃hd ps,r.p=.s hd::ps:=by cases r <;> exact⟨_,_,rfl⟩
   have CV:bg hd:=(BP nk (aA r hr) (.s hd) (by rw[ep];simp)).1;have hj:hW r.p=decide (hd∈[gV,gW]):=by rw[ep];rfl
   refine⟨[O r.w],rfl,⟨_,rfl⟩,!hW r.p,K,?_,Ex.refl _,?_⟩
   ·rw[hj];refine tB (op (x:=aq hd) (y:=.tup ([gV,gW].map aq)) (ph1:=K) (ph2:=K) (op rfl rfl (by rw[xR];exact uW (k:=0) (p:=.s hd) (by rw[ep];rfl) K)) ?_ (Ky (l:=[gV,gW]) (λb hb=>by
     have:∀b∈[gV,gW],(b.all λc=>decide (c<128))=true:=by decide
     exact gv (this b hb)) CV K))
    have hw:[gV,gW].map aq=[.str (abH "if"),.str (abH "go")]:=⋯;rw[hw];rfl
   ·cases hW r.p with
    | true=>exact .inl ⟨rfl,rfl⟩
    | false=>exact .inr ⟨rfl,_,K,rfl,Ex.refl _,rfl⟩)
 rw[wR (λr:Row=> !hW r.p),<- eP] at x1;have g1:=x1.get (bp _ _);have y1:Ex H H1:=(Ex.one _ _).trans x1;obtain⟨q,hq,eq⟩:=d0 (a:=c) (n:=(↑P:Int)+1) ∅;have a1:aM (b6 (cf (af 0)) [Z] (gN 0) (eT (ah fc (ah aE (af 0) {0}) (cw (ag {"if"} (ag {"go"} ai))))) (af 0)) (gN 3) (st Z Z Z) H=.ok (.nx (st ⇑↑H Z Z)) H1:=by
  rw[asg e1,aF];rfl
 have a2:aM (ah aV (af 2) (ah addW (aR bz (ag (af 3) ai)) {1})) (gN 4) (st ⇑↑H Z Z) H1=.ok (.nx (st ⇑↑H (↥q) Z)) H1:=by
  have bj:aR bz (ag (af 3) ai) (st ⇑↑H Z Z) H1=.ok (.int (↑P:Int)) H1:=aj (au (w:=.ref ↑H) (by rw[aF];rfl) rfl) ((jL g1).trans (by rw[abI]));have e:=md (a:=af 2) (i:=c) (by rw[aF];rfl) (ad (b:=eC (.int 1)) bj rfl) ∅;rw[eq] at e;rw[asg e,aF];rfl
 obtain⟨σ,aU⟩:∃σ,σ=st ⇑↑H (↥q) none:=⟨_,rfl⟩
 rw[<- aU] at a2;obtain⟨H2,dR⟩:∃H2,H2=H1++[PO.lst ((P.take q).map Row.w)]:=⟨_,rfl⟩
 have x2:Ex H1 H2:=dR▸Ex.one _ _;have g2:H2[↑H1]? =O (.lst ((P.take q).map Row.w)):=by rw[dR];exact bp _ _
 have c1:cm (af 3) bJ (bA (af 4)) σ H1=.ok (.ref ↑H1) H2:=by
  rw[dR,afq];exact rS (i:=↑H) (by rw[aU,aF];rfl) g1 (by rw[aU,aF];rfl)
 have c2:bP (ag (af 1) ai) σ H2=.ok (.ref ↑H2) (H2++[.lst [o.w]]):=aj (au (w:=o.w) (by rw[aU,aF];rfl) rfl) (k7 [o.w] H2 (show 1<=acd by decide));have tq:(P.take q).length<=50:=by rw[acw];omega
 have dq:(P.drop q).length<=50:=by rw[adC];omega
 have c3:=op (f:=addW) c1 c2 (oo ((Ex.one _ _).get g2) (bp _ _) (small (by rw[abI];simp only[abP,acS];omega)));obtain⟨H4,jE⟩:∃H4,H4=H2++[PO.lst [o.w]]++[PO.lst ((P.take q).map Row.w++[o.w])]:=⟨_,rfl⟩
 obtain⟨r4,we⟩:∃r4,r4=(H2++[PO.lst [o.w]]).length:=⟨_,rfl⟩
 have g4:H4[r4]? =O (.lst ((P.take q).map Row.w++[o.w])):=by rw[jE,we];exact bp _ _
 have x4:Ex H2 H4:=by rw[jE];exact(Ex.one _ _).trans (Ex.one _ _)
 rw[<- jE,<- we] at c3;have c4:cm (af 3) (bA (af 4)) bJ σ H4=.ok (.ref ↑H4) (H4++[.lst ((P.drop q).map Row.w)]):=by
  rw[ahp];exact zI (i:=↑H) (by rw[aU,aF];rfl) (x4.get (x2.get g1)) (by rw[aU,aF];rfl)
 have c5:=op (f:=addW) c3 c4 (oo ((Ex.one _ _).get g4) (bp _ _) (small (by rw[abI,acg,abI];simp only[abP,acS];omega)));obtain⟨H5,ia⟩:∃H5,H5=H4++[PO.lst ((P.drop q).map Row.w)]++[PO.lst ((P.take q).map Row.w++[o.w]++(P.drop q).map Row.w)]:=⟨_,rfl⟩
 obtain⟨r5,mf⟩:∃r5,r5=(H4++[PO.lst ((P.drop q).map Row.w)]).length:=⟨_,rfl⟩
 have x5:Ex H4 H5:=by rw[ia];exact(Ex.one _ _).trans (Ex.one _ _)
 rw[<- ia,<- mf] at c5;have mp:∀l:List Row,(l.map λr=>Rv.row r.p).map Rv.w=l.map Row.w:=λl=>by
  rw[acz];exact adb λr _=>(xR r).symm
 have g5:H5[r5]? =O (.lst (((P.take q).map (λr=>Rv.row r.p)++[o]++(P.drop q).map λr=>Rv.row r.p).map Rv.w)):=by
  rw[adk,adk,mp,mp,ia,mf];exact bp _ _
 have yA:Ex H H5:=((y1.trans x2).trans x4).trans x5;obtain⟨b1,b2,b3⟩:=Xj nk jF hP lP (q:=q) ∅ hb;have tl:(P.take q).length=q:=by rw[acw];omega
 obtain⟨H6,e6,x6⟩:=GV g5 (λw hw=>by
  have Lq:∀r∈P,Rv.ok H5 (.row r.p):=λr hr=>⟨BP nk (hP r hr).1,by cases r <;> exact acR rfl⟩
  rcases acG.mp hw with z | z
  ·rcases acG.mp z with z | z
   ·obtain⟨r,hr,rfl⟩:=ach.mp z;exact Lq r (acH hr)
   ·rw[ack.mp z];exact ho.mono yA
  ·obtain⟨r,hr,rfl⟩:=ach.mp z;exact Lq r (adK hr)) b3 (m:=q) (by simp;omega) b1 b2
 have body:d3 (aP mF (ag (ah addW (ah addW (cm (af 3) bJ (bA (af 4))) (bP (ag (af 1) ai))) (cm (af 3) (bA (af 4)) bJ)) ai)) σ H1=.ex (XB (.int q)) H6:=bx (aj (au c5 rfl) (Uc e6));refine⟨H6,?_,yA.trans x6⟩;unfold sj EL;rw[yE];have s0:(O (W.ref ri)::O o.w::O (W.int c)::abS (6-3) Z)=st Z Z none:=by rw[aF];rfl
 rw[s0];refine bq a1 (bq a2 (bT ?_));unfold tH;rw[show σ[4]? =O (↥q) by rw[aU,aF];rfl];simp only[];rw[body];show(if adN (abH "BadProgram") [(abH "BadProgram",true)]=O true then _ else _)=_;rw[if_pos ⋯];unfold rM;rw[cc (a:=.rt (.bl true)) (ph':=H6) ?_]
 ·rfl
 rw[show((uo 4 (W.int q) σ).set 5 (O (.exc (XB (.int q)).cls ((XB (.int q)).fs.map (·.1)) ((XB (.int q)).fs.map (·.2)))))=[Z,Z,Z,Z,↥q,O (.exc (abH "BadProgram") [abH "at"] [.int q])] from by rw[aU,aF];rfl];refine retS (pN (op (x:=.int q) (y:=.int q) (ph1:=H6) (aj (a:=.exc (abH "BadProgram") [abH "at"] [.int q]) (ph':=H6) rfl (aal H6)) rfl ?_) (aj (a:=.exc (abH "BadProgram") [abH "at"] [.int q]) (ph':=H6) rfl ?_))
 ·show Out.ok (W.bl (decide ((q:Int)=(q:Int)))) H6=_;rw[aL rfl]
 ·unfold lift zj;simp only[show adN (abH "BadProgram") [(abH "BadProgram",true)]=O true from ⋯];rfl
theorem Za{a0:Nm}(nk:dH a0){n:Int}{NW:aw}(hn:af 6 σ=aD (.int n))(h1:af 1 σ=aD (.ref ni))(hN:H[ni]? =O (.lst (aq a0::NW))):∃(o:Rv) (H':PH),ah aE (bP (ag (bP (ag {"end"} ai)) (ag (cw (ag {"tell"} (ag {"A"} ai))) (ag (cw (ag {"set"} (ag (ah aE (af 1) {0}) (ag (eC (.bl true)) ai)))) (ag (cw (ag {"go"} (ag {90} ai))) ai))))) (ah aV (af 6) {4}) σ H=.ok o.w H'/\Ex H H'/\o.ok H'/\C1 o:=by
 obtain⟨q,hq,eq⟩:=d0 (a:=n) (n:=4) (by decide);obtain⟨H1,eW⟩:∃H1,H1=H++[PO.lst [.str "end"]]:=⟨_,rfl⟩
 have x1:Ex H H1:=eW▸Ex.one _ _;have g1:H1[↑H]? =O (.lst [.str "end"]):=by rw[eW];exact bp _ _
 obtain⟨vs,Eb⟩:∃vs:List Rv,vs=[.pO ↑H,.row [.s [116,101,108,108],.s [65]],.row [.s [115,101,116],.s a0,.t],.row [.s [103,111],.n 90]]:=⟨_,rfl⟩
 have ew:vs.map Rv.w=[.ref ↑H,.tup [.str (abH "tell"),.str (abH "A")],.tup [.str (abH "set"),aq a0,.bl true],.tup [.str (abH "go"),.int 90]]:=by
  rw[Eb,show abH "tell"=tx [116,101,108,108] from ⋯,show abH "A"=tx [65] from ⋯,show abH "set"=tx [115,101,116] from ⋯,show abH "go"=tx [103,111] from ⋯];rfl
 have hl:bP (ag (bP (ag {"end"} ai)) (ag (cw (ag {"tell"} (ag {"A"} ai))) (ag (cw (ag {"set"} (ag (ah aE (af 1) {0}) (ag (eC (.bl true)) ai)))) (ag (cw (ag {"go"} (ag {90} ai))) ai)))) σ H=.ok (.ref ↑H1) (H1++[.lst (vs.map Rv.w)]):=by
  rw[ew];exact aj (au (ph1:=H1) (w:=.ref ↑H) (by rw[eW];exact aj (au rfl rfl) (k7 _ H (show 1<=acd by decide))) (au (tp (au rfl (au rfl rfl)) rfl) (au (tp (au rfl (au (w:=aq a0) (op (x:=.ref ni) (by rw[h1];rfl) rfl (iG (x1.get hN) (fq _ 0 (by simp)))) (au rfl rfl))) rfl) (au (tp (au rfl (au rfl rfl)) rfl) rfl)))) (k7 _ H1 (show 4<=acd by decide))
 obtain⟨o,ho⟩:=iM (l:=vs) (j:=q) (by rw[Eb];show q<4;omega);have zV:=abY ho;rw[Eb] at zV;refine⟨o,H1++[.lst (vs.map Rv.w)],?_,x1.trans (Ex.one _ _),?_,?_⟩
 ·refine op hl (y:=.int q) (ph2:=H1++[.lst (vs.map Rv.w)]) ?_ (iG (bp _ _) (Cf ho));rw[<- eq];exact md (by rw[hn];rfl) rfl (by decide)
 all_goals simp only[abR,acY,or_false] at zV
 ·rcases zV with rfl | rfl | rfl | rfl
  ·exact⟨_,(Ex.one _ _).get g1⟩
  ·exact⟨λp hp=>by
    simp only[abR,acY,or_false] at hp
    rcases hp with rfl | rfl <;> exact⟨gv (by decide),by decide⟩,by decide⟩
  ·exact⟨λp hp=>by
    simp only[abR,acY,or_false] at hp
    rcases hp with rfl | rfl | rfl
    ·exact⟨gv (by decide),by decide⟩
    ·exact⟨λc hc=>by have:=(nk.ab c hc).2;omega,by have:=nk.hi;omega⟩
    ·exact trivial,show 3<=1000000 by decide⟩
  ·exact⟨λp hp=>by
    simp only[abR,acY,or_false] at hp
    rcases hp with rfl | rfl
    ·exact⟨gv (by decide),by decide⟩
    ·exact trivial,by decide⟩
 ·rcases zV with rfl | rfl | rfl | rfl <;> intro n hn
  ·exact trivial
  ·show c6 n [.s [116,101,108,108],.s [65]]=false;rw[tu (h:=[116,101,108,108]) (ks:=[.bM]) (by decide)];rfl
  ·show c6 n [.s [115,101,116],.s a0,.t]=false;rw[tu (h:=[115,101,116]) (ks:=[.bM,.num]) (by decide)];show(true&&(isNm a0&&(false&&true)))=false;cases isNm a0 <;> rfl
  ·show c6 n [.s [103,111],.n 90]=false;rw[tu (h:=[103,111]) (ks:=[.dj]) (by decide)];show(true&&(((Pt.n 90).num&&(decide ((0:Int)<=90)&&decide ((90:Int)<=(n:Int))))&&true))=false;rw[show decide ((90:Int)<=(n:Int))=false from aX ∅];rfl
abbrev s8(ns:gM)(o1 o2 o3 o4 o5 o6 o7:dO):aG:=[~~~ns,o1,o2,o3,o4,o5,o6,o7]
theorem good(ns:gM)(cG:↑ns<=63):∃ph',qL [.fl (ns.map W.int)] []=.ok (.bl true) ph':=by
 obtain⟨m,hm,em⟩:=d0 (a:=ns.getD 1 0) (n:=12) (by decide);obtain⟨NS,H1,e1,x1,g1,l1,nk⟩:=TF (ns.getD 0 0) (m+1) ∅ [];have jF:NS.length<=12:=by omega
 obtain⟨a0,NT,eN⟩:=aft (show NS≠[] from λz=>by rw[z] at l1;simp at l1);have zW:dH a0:=nk a0 (by rw[eN];simp);obtain⟨q,hq,eq⟩:=d0 (a:=(ns.getD 1 0).fdiv 12) (n:=25) (by decide);obtain⟨q2,hq2,eq2⟩:=d0 (a:=(ns.getD 1 0).fdiv 2400) (n:=36) (by decide);have c1:∀{o1 o2:dO},aP fK (ag (af 0) (ag {1} ai)) (s8 ns o1 o2 Z Z Z Z Z) H1=.ok (.int (ns.getD 1 0)) H1:=λ{o1 o2}=>cl (i:=1) rfl rfl (by decide)
 obtain⟨n,hn,h3⟩:∃n:Nat,n<=60/\bi (eT (ah bo (ah aV (ah bv (aP fK (ag (af 0) (ag {1} ai))) {300}) {8}) {1})) (aM (ah addW {25} (ah aV (ah bv (aP fK (ag (af 0) (ag {1} ai))) {2400}) {36})) (gN 2)) bt (s8 ns ⇑0 (↥q) Z Z Z Z Z) H1=.ok (.nx (s8 ns ⇑0 (↥n) Z Z Z Z Z)) H1:=by
  by_cases h:((ns.getD 1 0).fdiv 300).fmod 8=1
  ·refine⟨25+q2,∅,bh (eI (md (dv c1 rfl (by decide) (by decide)) rfl (by decide)) (aL h)) ?_⟩;rw[show((25+q2:Nat):Int)=25+(q2:Int) by omega,<- eq2];exact asg (ad rfl (md (dv c1 rfl (by decide) (by decide)) rfl (by decide)))
  ·exact⟨q,∅,aK (eI (md (dv c1 rfl (by decide) (by decide)) rfl (by decide)) (aX h)) rfl⟩
 obtain⟨R,H2,e2,x2,g2,l2,ok⟩:=WP ns (ni:=0) (n:=n) g1 (by rw[eN];simp) nk hn;subst l2;have hp:=OB nk jF hn ok;have mw:R.map Row.w=(R.map Row.p).map Rw.w:=by rw[acz];exact adb λr _=>xR r
 have ho:∀r∈R.map Row.p,∀p∈r,p.ok:=λr hr=>by
  obtain⟨y,hy,rfl⟩:=ach.mp hr;exact BP nk (ok.ok y hy)
 have wr:=xu hp ho;obtain⟨H3,ke⟩:∃H3,H3=H2++[PO.lst (R.map Row.w)]:=⟨_,rfl⟩
 have x3:Ex H2 H3:=ke▸Ex.one _ _;have g3:H3[↑H2]? =O (.lst (R.map Row.w)):=by rw[ke];exact bp _ _
 obtain⟨H4,e4,x4⟩:=Rj (H:=H3) (ri:=↑H2) (by rw[g3,mw]) hp ho;obtain⟨T,rZ⟩:∃T,T=gZ (R.map Row.p):=⟨_,rfl⟩
 rw[<- rZ] at e4;have uY:bg T:=rZ▸F4 wr;have abE:↑T<=30000:=rZ▸PN wr;have wg:H4[↑H1]? =O (.lst (R.map Row.w)):=x4.get (x3.get g2);have gh4:H4[↑H2]? =O (.lst (R.map Row.w)):=x4.get g3;obtain⟨st,aF⟩:∃st:dO->Option W->aG,st=λo6 o7=>s8 ns ⇑0 (↥(↑R:Int)) ⇑↑H1 ⇑↑H2 (O (.str (tx T))) o6 o7:=⟨_,rfl⟩
 obtain⟨H5,e5,x5⟩:=ie R Row.w (im:=cf (af 3)) (cap:=[Z]) (g:=gN 0) (c:=cu) (e:=aP nZ (ag (af 0) ai)) (σ:=st Z Z) (ph0:=H4) (i5 (by rw[aF];rfl) wg) (λK x=>aL (x.get wg)) (small ∅) (λr=>O (aq (du r.p))) (λσ=>∃o,σ=[o]) ⟨Z,by rw[aF];rfl⟩
  (λr hr σ K hS _=>by
   obtain⟨o',rfl⟩:=hS;obtain⟨hd,ps,ep⟩:∃hd ps,r.p=.s hd::ps:=by cases r <;> exact⟨_,_,rfl⟩
   have hm:r.p∈R.map Row.p:=ach.mpr ⟨r,hr,rfl⟩;have hf:=wr.f r.p hm;have hl:=wr.l r.p hm;refine⟨[O r.w],rfl,⟨_,rfl⟩,true,K,rfl,Ex.refl _,.inr ⟨rfl,_,K,aj (au (w:=r.w) rfl rfl) ?_,Ex.refl _,rfl⟩⟩;rw[xR,ep] at *;exact OC hf hl K)
 rw[lc] at x5;have hm5:R.map (λr=>aq (du r.p))=((R.map Row.p).map du).map aq:=by rw[acz,acz];rfl
 rw[hm5] at x5;have jn5:bL cy dn (eC (.str "\n")) (ag (b6 (cf (af 3)) [Z] (gN 0) cu (aP nZ (ag (af 0) ai))) ai) (st Z Z) H4=.ok (.str (tx T)) H5:=by
  rw[rZ];exact vV oR e5 (x5.get (bp _ _)) (abX (AB wr) (by decide))
 have y5:Ex H4 H5:=(Ex.one _ _).trans x5;have i7:cF (de (bW (cN "str" (af 5)))) (cF (eT (ah ck (af 5) (bL cy dn (eC (.str "\n")) (ag (b6 (cf (af 3)) [Z] (gN 0) cu (aP nZ (ag (af 0) ai))) ai)))) (eT (ah ck (af 4) (af 3)))) (st Z Z) H4=.ok false H5:=by
  refine oF (cL (c:=true) (eB (aj (a:=.str (tx T)) (ph':=H4) (by rw[aF];rfl) rfl))) (oF (tB ((op (x:=.str (tx T)) (by rw[aF];rfl) jn5 (yk uY uY H5)).trans (by rw[aL rfl];rfl))) (tB (op (x:=.ref ↑H2) (y:=.ref ↑H1) (ph1:=H5) (by rw[aF];rfl) (by rw[aF];rfl) (qJ (b:=true) (Bt (by rw[y5.get gh4,mw]) (by rw[y5.get wg,mw]) wr.f)))))
 obtain⟨c,ec⟩:∃c,c=(ns.getD 2 0*48271).fmod 2147483647:=⟨_,rfl⟩
 have a8:aM (ah aV (ah fB (aP fK (ag (af 0) (ag {2} ai))) {48271}) {2147483647}) (gN 6) (st Z Z) H5=.ok (.nx (st ↥c Z)) H5:=by
  rw[aF,ec];exact asg (md (ml (cl (i:=2) rfl rfl (by decide)) rfl (BH (by decide) (by decide))) rfl (by decide))
 obtain⟨H6,pR⟩:∃H6,H6=H5++[PO.lst ((R.map Row.w).take 50)]:=⟨_,rfl⟩
 have x6:Ex H5 H6:=pR▸Ex.one _ _;have g6:H6[↑H5]? =O (.lst ((R.take 50).map Row.w)):=by rw[pR,afq];exact bp _ _
 have sl6:cm (af 3) bJ (bA {50}) (st ↥c Z) H5=.ok (.ref ↑H5) H6:=by
  rw[pR];exact rS (k:=50) (i:=↑H1) (by rw[aF];rfl) (y5.get wg) rfl
 have gn:∀{K:PH},Ex H1 K->K[0]? =O (.lst (aq a0::NT.map aq)):=λ{K} x=>by
  have:=x.get g1;rw[eN] at this;exact this
 have z5:Ex H1 H5:=((x2.trans x3).trans x4).trans y5;obtain⟨o,H7,e7,x7,o7,b7⟩:=Za zW (n:=c) (ni:=0) (σ:=st ↥c Z) (H:=H6) (by rw[aF];rfl) (by rw[aF];rfl) (gn (z5.trans x6));obtain⟨H8,e8,x8⟩:=OD (c:=c.fdiv 4) nk jF (R:=R.take 50) (λr hr=>ok.ok r (acH hr)) (by rw[acw];omega) (x7.get g6) o7 b7;have i9:de (bW (aP sj (ag (cm (af 3) bJ (bA {50})) (ag (ah aE (bP (ag (bP (ag {"end"} ai)) (ag (cw (ag {"tell"} (ag {"A"} ai))) (ag (cw (ag {"set"} (ag (ah aE (af 1) {0}) (ag (eC (.bl true)) ai)))) (ag (cw (ag {"go"} (ag {90} ai))) ai))))) (ah aV (af 6) {4})) (ag (ah bv (af 6) {4}) ai))))) (st ↥c Z) H5=.ok false H8:=cL (c:=true) (eB (aj (au sl6 (au e7 (au (dv (by rw[aF];rfl) rfl (by decide) (by decide)) rfl))) e8));have z8:Ex H5 H8:=(x6.trans x7).trans x8;obtain⟨k,H9,e9,x9,g9⟩:∃i H',iE [.str (tx T)] H8=.ok (.ref i) H'/\Ex H8 H'/\H'[i]? =O (.lst ((R.map Row.p).map Rw.w)):=by
  rcases Br uY ∅ H8 with⟨_,i,H',a,b,d⟩ | ⟨h,_⟩
  ·rw[rZ,Ge hp ho] at d;exact⟨i,H',a,b,d⟩
  ·exact absurd (rZ▸Ri hp ho) h
 have i10:eT (ah ck (aP iE (ag (af 5) ai)) (af 3)) (st ↥c Z) H8=.ok false H9:=tB (op (x:=.ref k) (y:=.ref ↑H1) (aj (au (w:=.str (tx T)) (by rw[aF];rfl) rfl) e9) (by rw[aF];rfl) (qJ (b:=true) (Bt g9 (by rw[x9.get (z8.get (y5.get wg)),mw]) wr.f)));have z9:Ex H1 H9:=(z5.trans z8).trans x9;obtain⟨ao,HA,eA,⟨oA,rfl⟩,xA⟩:=kj (chk:=λ_=>true) (g:=gN 7) (b:=AV) (λ_ σ K=>(∃o,σ=st ↥c o)/\Ex H9 K) (fv 0 5) (st ↥c Z) H9
  (λ_ _ _ _=>rfl) (λj x σ K hj hI=>by
   obtain⟨⟨o,rfl⟩,y⟩:=hI;obtain⟨_,rfl⟩:=xi hj;refine⟨st ↥c (↥(0+(j:Int))),K,by rw[aF];rfl,?_⟩;obtain⟨w,K1,f1,y1,hw⟩:=Xi (a:=a0) uY ∅ (λx hx=>by have:=(zW.ab x hx).2;omega) (by have:=zW.lo;omega) zW.hi (c+100003*(0+(j:Int))) K;obtain⟨K2,f2,y2⟩:∃K2,mn [w] K1=.ok (.bl true) K2/\Ex K1 K2:=by
    rcases hw with⟨l,rfl,la,ll⟩ | hw
    ·exact Gd la ll K1
    ·exact P0 hw
   refine⟨.nx (st ↥c (↥(0+(j:Int)))),K2,?_,_,.inl rfl,⟨_,rfl⟩,(y.trans y1).trans y2⟩;unfold AV;refine aK (cL (c:=true) (eB (aj (au (aj (au (w:=.str (tx T)) (by rw[aF];rfl) (au (w:=aq a0) (op (x:=.ref 0) (by rw[aF];rfl) rfl (iG (gn (z9.trans y)) (fq _ 0 (by simp)))) (au (ad (i:=c) (by rw[aF];rfl) (ml (by rw[aF];rfl) (by rw[aF];rfl) (xN (by decide) (by decide)))) rfl))) f1) rfl) f2))) rfl) ⟨⟨Z,rfl⟩,Ex.refl _⟩
 obtain⟨HB,eB,xB⟩:=Gd uY ∅ HA;refine⟨HB,?_⟩;unfold qL oP;rw[dh];refine bq (ph1:=H1) (σ1:=s8 ns ⇑0 Z Z Z Z Z Z) ?_ (bq (ph1:=H1) (σ1:=s8 ns ⇑0 (↥q) Z Z Z Z Z) ?_ (bq h3 (bq (ph1:=H2) (σ1:=s8 ns ⇑0 (↥(↑R:Int)) ⇑↑H1 Z Z Z Z) (asg (aj (au rfl (au rfl (au rfl (au rfl rfl)))) e2)) (bq (ph1:=H3) (σ1:=s8 ns ⇑0 (↥(↑R:Int)) ⇑↑H1 ⇑↑H2 Z Z Z) (by rw[ke];exact asg (aj (au rfl rfl) (F1 g2))) (bq (ph1:=H4) (σ1:=st Z Z) (by rw[aF];exact asg (aj (au rfl rfl) e4)) (bq (aK i7 rfl) (bq a8 (bq (aK i9 rfl) (bq (aK i10 rfl) (bq (gf (xI (j:=5) rfl (by decide) (by decide)) eA) (br (aj (au (w:=.str (tx T)) (by rw[aF];rfl) rfl) eB))))))))))))
 ·refine asg (aj (au (cl (i:=0) rfl rfl (by decide)) (au (w:=.int ((m+1:Nat):Int)) ?_ rfl)) e1);rw[show((m+1:Nat):Int)=1+(m:Int) by omega,<- em];exact ad rfl (md (cl (i:=1) rfl rfl (by decide)) rfl (by decide))
 ·rw[<- eq];exact asg (md (dv (cl (i:=1) rfl rfl (by decide)) rfl (by decide) (by decide)) rfl (by decide))
end IL.K30
open PySem PySem.W PyProof.Rows
namespace PySem.W.Fast
open Lean in
local macro_rules|`(command|#check $s:str)=>do
 let c:=s.getString.toList
 return mkNullNode (←((List.range (c.length/11)).toArray.mapM fun i=>`(def $(mkIdent (.mkSimple s!"tw{((c.drop (11*i)).take 11).foldl (fun n d=>n*57+(d.toNat-35)) 0}")):ident:=0)))
#check "6W,WB/9[T;S'PSU/2=M'.D2F>A?R;4YXL?K,W7EV4:>UUQ2J(G..:4ON?>6#%KSH?HN$V'?K9V>3DT:P[<C76:GSE3&*4$0'3[*@A*0$2YD,04S8;#I.3=A&@Q$K18D[TO&T20YP-23<4B4C116?+-2=;A2IR*U55Y3MO'8;8CP[2#'$(A&:%F3=KZU&1)L#1D+1E8+SE=T7D<IRX@5>L&L6F%$?./.*UFBJ$0*T&0E$=H0$FUN62-VEE7#D@J=+P)*G(DWR5ERQI=?D=R?&OU9F*D4#.&%8-Z(T+H;)T6AA#)J/GFJF/8P2Q[V6):+PYTIEQ;WYT-(V9U>)6NU38#H<D2A/V@Q?-OK%<=6CR)SCL9PJ(6/WMYF1D5*YHJ>JJ-QT*BIIPP[&'YD@K20#8/@H,NV)6'N&$?K@<A8,9G8=:(/V(/1Z?:XV(4LYWC#6$0MI$(&[(T,QO?(;U*HBQJ67>JC+ID.EQY4J&AX@I<:.-'-R%F[T3,$G(58J$G'A#$IX[UENKAZ7+,E)';.)T;,=%P(=UENL0<6H2;>-(SO+GZV99A3#?;NOQ5[5<L/EL/+N?$'GFFCK#CA,?3?O-'BVI+YETR[<9%BA/VA3A<5V'C5U63.D'%5=@:DY9%->3/CH2>=A<OXAR6GYGT0X-7>O'/PNZX$K9K'>V,LK<F5BPVXJ7-3V,%@ZS=NKN0U%L53J#5:4<%1;Z#NW+-E1'5BY'D%V=U6)L5DYTO&-6;M*-9O;U=::(#,0*R</AL/,[.DQBAH604[>L-*.*>F2MB,3?J/:WEFS0>>OR5>6.T([B.+MWOGMBD:6KEN5Z.+K=Q11&0/'TF,0H59R2X5N%'7V+BOLLH[,PV[C/1F4XD0S$&IS9SZOO'12*6L96-?R>?=NR'$[2SS:(HL;(=XX,OL1W;=WHX7OFTA/DPDM(C;#%-/LEX7IF#,7S3Q12Q,'WA2,FZFYU>C3T@,PL.-Q001:?%2IA:;U661S5%4%+,SC05)YOA24R'CWP#3##:93F%4%%->AV-+KATE554D#'=LP%ZT[(S=*TU,PQYL?F2W8U*=2':AHK;*:QV571TZA/TJEO7JA/81/9N-6;8AY?[[G75WT8-SACXAG#4E?L*IJ&)0+A@SE28EIP[J;L?T<&[<O(-1),>IV-ILGK&*Y;/;/Q0Y4%53Z($@C4=%U6;V/A'RK:1ZF'X:NEQIU&?Q+EN1%.D%7'331HN>:Q4Z<XM;J58(US4QIM8K=3??'DD0TAR[VRU(/@OD=76(I,ZV:=&L#EA9A9@N(#Q>84(7V%Q;Z[6(,MKP42CFF)<#W<%'B71$>7@*E.[N;KCL4YS*(T:VV-U-X$(UFI@8+59NHB&V>J=5E:WE'7#[PQ(CQ[IQA$)(N3WE-XO'I9-W(-&4/7,1C8#9%N<)G1GEMS'M3TNG(EK)7EDX'4#;>88G&K%8E'.&+;C'C-+G=>>C-'F38=M'Q7SD$)N-W+.6#A117%8TFLUGP+&-$<=49E9:M8)(.BCJ4O0G0%(R7B&AC/I9LPA$H?;V7=7E0V=-@3:G(AFST:1?VBDAM7)'IHC@F<)XFS0SP&X6/-PN)LIJJ33(:<M7%8&D4HLO0*R(K$T>T2QTP:=)G&5U0[-VX%L%OU@-/(GO*8C.8&JGW;5I.BJ?%35&'(:+S')K+*Q<$,7F5[U,=B/%HZ,3N57L)STG)$O3>XMRT6$L>LX9+D:)M<(GU>)W;=X(6.W'Z:,=NB/ML<74&YI5O(%PJ#LRQ,URL=Y/PW#:C6Z?:[)-(D+;X7*P)LU0QGZYMV:)1:2GV%-Q<Q1#%4QZK$K@R&=$OTHKB,YBY*RDQ&%=1V*U>6D4=I<0O8+57&TROJ<SXE3IR-X'1,,K(Q#><946:%:?M2+@9ZDH9TLS:O?BN)W9N<T?FT@25*YPG@RSN5NH)HTU.L24R8DY5ZN%:)[8K$+#-(&JS7)8JPAAY,>:(DIV0XH?R4D>32JVJUO8/*D+YBO@ZU'%=U*T)Z2O;?L74Q.,7'ST9=T[G;FS>YHKH<&YK.YP.%G#1F$*E[36,WN5HROX/R;ZK1M7S-<07<KI%K,,+=+$[:P6#E[-2NDMU6'#*U-DE4D:W?PGZUQ24XH@3AF[=R=ZLC[0K<2S1GH,.J1I>8E>)AQT-(P*5OH(=80>IP>74H3%'*'>PK'?LF<;<C<2Z-NBHI>9)/2)TF>?:JAL/TZ)ZF0?6.;B9&EW[$[')..L5XLW#3P4DFZ339T&JWFJN6L5>):>6G0P*2F.S$(/:J;'L4/6V-*%B,=T.MI&9M5D&4XT?+#0&>X6N4N(X=N.OZ8M>NP+6RL7[D?VDYKPZ9[*P;J$/#G<$+:E.POF1F*D>3S6V#>NM[S(VMN$?K5>S**8*MW,-DILH*[FV9K&H49:7T6E@/T:IG+0?SQPFGWHOMU5?;1)<FLN5,BJ:0+F,LQ-F#N*FUZJK1<V)>9(R$5=+[:8HO%G.EG:PJ3J**SEW=I@?B=#/P1>:5858-A+D?,ZM;%E:6*1WP$E:LX2J/R98GH;O&U;VQSLLH:N$)V'S2CVHLB4-XZ59V?GW(J5(L?Q>:I7U8KP(HTJ0LD*DI<357(>RTO38J0.#M-$QJ2<8M)&BZZ$3/62QKOPO6A7YI/+&%1@XY3+N;B(&6,G-G11ZT4(3OTJ.F3F0$?C.H/M&TGV=+PGZ-G3H7G7Q4MQAJP=UG7BL;**+BS'%6.>#6SD.*=9EOJ2U.R37PX4WDJL(IC-$:2/:O0U)*E@/LL-9.A(<TI:3PHR6T&6JI-)UX5H'7:MIFC1$JFVCTM*/8$MIE2UHA+P%LIJC1IEEM7NLJX)MS&FHJ7N0P=[-OG@4F:0;-6>F4F<$-C9<D86<+/[)NL>(1#3NMT>4WLC>U/?WG>JH$J)68P#REOHTW/VFB7UXK>OPC9;W@4-94>JN#BNYJ,.<%-K=>OC;,)9ZL>C9H;LA11K&.6/;=G5NCF#=KR$DJ6H+A;LB(N?RM>.3$;IFCH5NDWDLFCS'L[&JZR;F@6,KH/=5$9?0#QO?6=UQH1[A:?B2R$G&LNK>'.A=LO573U6:<:&:WJEQ(<7UKM*HRHQ&Y$&V88M6-&;NO+$;F/F)9)?RA.68R.H/JWZL4TYWH>#U3P:4.+$),T-4<S1Q71&%(&;=.Z0;7:JGFG#62=%ZG1B4OL:#V[:H2G8I4Q@2S*GWBHKE<;ZQUW([%FP&W;9(J<6OJ@IK97<)'$3RT(<U-W<O4NQZ%=4)$1L->B+';QAG;S21<?&79KFPFV%%.QJI@OMN@-+Z:EW((V98(2EI5HWZD;YR5V&>JPU.33C'(Z<J%VZX5L-FPM45D@&*9ZPFP$#6I+A=D0-.G2<*2[#T/X&,K3'DYS-OR9.3P?ZBS3K3JHYZ.&XT/8,%'#J(NN)))PO>?.F@C4WO1&KT2#'H8I?@238/BAZD)T0&F)ZF&B,Q8I/UJ*3KN"
end PySem.W.Fast
set_option maxHeartbeats 0 in
theorem PySem.Challenge.cw_boxwright_k30_texts_there_and_back_holds : PySem.Challenge.rw_boxwright_k30_texts_there_and_back.Holds := by
 w_on
 o_law
 k_head
 (case hw=>w_witness2)
 k_fill
 refine IL.K30.QO (l:=PySem.Challenge.rw_boxwright_k30_texts_there_and_back) (λns hn=>IL.K30.good ns hn) rfl rfl (λw h Y=>PySem.W.kIn_of Y) ?K ?T ?F
 case K=>intro w;kernel_rfl
 case T=>
  intro w h Y;refine IL.SU ?_
  kernel_rfl
 case F=>
  intro w mg fa h KX G hmg;refine' IL.K30.all_mk KX G hmg ?J_0 ?J_1 ?J_2 ?J_3 ?J_4 ?J_5 ?J_6 ?J_7 ?J_8 ?J_9 ?J_10 ?J_11 ?J_12 ?J_13 ?J_14 ?J_15 ?J_16 ?J_17 ?J_18 ?J_19 ?J_20 ?J_21 ?J_22 ?J_23 ?J_24 ?J_25 ?J_26 ?J_27 ?J_28 ?J_29 ?J_30 ?J_31 ?J_32 ?J_33 ?J_34 ?J_35 ?J_36 ?J_37 ?J_38 ?J_39 ?J_40 ?J_41 ?J_42 ?J_43 ?J_44 ?J_45 ?J_46 ?J_47 ?J_48 ?J_49 ?J_50 ?J_51 ?J_52 ?J_53 ?J_54 ?J_55 ?J_56 ?J_57 ?J_58 ?J_59 ?J_60 ?hf ?hz
  (case J_15=>k_is)
  (case J_33=>k_is)
  (case J_39=>k_is)
  (case J_42=>k_is)
  (case J_43=>k_is)
  (case J_44=>k_is)
  (case J_0=>k_is)
  (case J_1=>k_is)
  (case J_2=>k_is)
  (case J_3=>k_is)
  (case J_4=>k_is)
  (case J_5=>k_is)
  (case J_6=>kernel_rfl)
  (case J_7=>k_is)
  (case J_8=>k_is)
  (case J_9=>k_is)
  (case J_10=>k_is)
  (case J_11=>k_is)
  (case J_12=>k_is)
  (case J_13=>k_is)
  (case J_14=>kernel_rfl)
  (case J_16=>kernel_rfl)
  (case J_17=>k_is)
  (case J_18=>k_is)
  (case J_19=>k_is)
  (case J_20=>k_is)
  (case J_21=>k_is)
  (case J_22=>exact rfl)
  (case J_23=>kernel_rfl)
  (case J_24=>k_is)
  (case J_25=>k_is)
  (case J_26=>k_is)
  (case J_27=>exact rfl)
  (case J_28=>exact rfl)
  (case J_29=>kernel_rfl)
  (case J_30=>k_is)
  (case J_31=>k_is)
  (case J_32=>k_is)
  (case J_34=>kernel_rfl)
  (case J_35=>kernel_rfl)
  (case J_36=>kernel_rfl)
  (case J_37=>kernel_rfl)
  (case J_38=>k_is)
  (case J_40=>kernel_rfl)
  (case J_41=>k_exc)
  (case J_45=>k_is)
  (case J_46=>kernel_rfl)
  (case J_47=>k_is)
  (case J_48=>k_is)
  (case J_49=>kernel_rfl)
  (case J_50=>kernel_rfl)
  (case J_51=>kernel_rfl)
  (case J_52=>kernel_rfl)
  (case J_53=>kernel_rfl)
  (case J_54=>kernel_rfl)
  (case J_55=>kernel_rfl)
  (case J_56=>kernel_rfl)
  (case J_57=>kernel_rfl)
  (case J_58=>kernel_rfl)
  (case J_59=>kernel_rfl)
  (case J_60=>kernel_rfl)
  (case hf=>(repeat (refine' IL.K30.aai ⟨_,_,IL.K30.WA ?a ?l ?c ?k⟩ ?_;(case a=>k_is);(case l=>k_is);(case c=>k_is);(case k=>k_is)));exact trivial)
  (case hz=>(repeat (refine' IL.K30.aaj ?a ?_;(case a=>k_is)));exact trivial)
