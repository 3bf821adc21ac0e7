import PyProof.Rows.All
import PyProof.TupleKey
import PyProof.DictKinds
import Wide.All
import OpenK.AllK
import Wide.FinOn
import Lean
import PyProof.EqAt
import PyProof.EqKinds
import PyProof.TupleCall
import PyProof.StationsW
import KE.KLam
import PyProof.P3Eq
import PyProof.NeData
import PyProof.AttrMissHeap
import KE.KDictOf
import PyProof.DictItems
import PyProof.Rows.Range3
import KE.KEqDict
import PyProof.FactsAll.NoneType_1
import PyProof.FactsAll.bool_1
import KE.KDictSum
import KE.KSorted
import PyProof.ListRange
import PyProof.DictTruth
import PyProof.DictWalks
import PyProof.NeKinds
import KE.KTab
import KE.KTabLook
import PyProof.ExcClass3
import PyProof.FString2
import PyProof.SliceStr2
import PyProof.StrBlock
import PyProof.StrLaws
import PyProof.StrOps2
import PyProof.DictValues
import KE.KDictList
import PyProof.PureStr
import KE.KSortTup
import PyProof.SetScanFacts
import PyProof.SetRoads
import PyProof.SetKind
import PyProof.Rows.SetFrom
import PySem.Challenge.RW_boxwright_k25_whole_threaded
set_option Elab.async false
set_option linter.all false
set_option maxRecDepth 100000
set_option maxHeartbeats 8000000
noncomputable section
local macro_rules | `(tactic| omega) => `(tactic| lia)
local macro_rules | `(↑$x) => `(($x).length)
local macro_rules | `(∅) => `(by omega)
theorem a6{p:Prop}[Decidable p](h:p):decide p=true:=_root_.decide_eq_true h
theorem bU{p:Prop}[Decidable p](h:¬p):decide p=false:=_root_.decide_eq_false h
open Array renaming getD_eq_getD_getElem?->abK,length_toList->acj,getElem?_eq_some_iff->acs,getElem?_eq_getElem->aeu,forIn_toList->aeJ,getElem?_setIfInBounds_ne->aeX,append_assoc->afM,toList_filterMap->agF,getElem?_toList->agM,toList->ahS
open Bool renaming and_eq_true->aaZ,false_ne_true->abg,false_eq_true->abD,eq_iff_iff->acH,or_eq_true->adp,not_true->aej,false_and->afa,and_false->ahk,or_false->ahA,and_self->ahD,true_and->ahG
open Classical renaming byContradiction->aga
open Decidable renaming isFalse->aaW,isTrue->abC
open False renaming elim->ael
open ForInStep renaming yield->ads
open Function renaming comp->aeO,comp_def->agh
open Int renaming fmod_eq_emod_of_nonneg->afJ
open List renaming getElem?_eq_some_iff->aaG,length_map->aaI,getElem?_map->aaK,mem_of_getElem?->aaL,length_append->aaQ,mem_singleton->aaT,size_toArray->aaV,mem_map->aaX,replicate->aaY,mem_cons_of_mem->aba,mem_iff_getElem?->abb,lookup_cons->abf,mem_cons->abk,getElem?_append_left->abm,mem_cons_self->abo,range->abp,length_cons->abq,map_cons->abt,mem_range->abv,length_set->aby,length_range->abz,mem_append->abF,mem_append_right->abJ,getElem?_set_self->abL,filterMap_cons->abM,getElem?_eq_getElem->abP,mem_append_left->abQ,all_eq_true->abR,map_map->abU,mem_filter->abW,nodup_cons->abY,map_append->abZ,mem_map_of_mem->acb,getElem?_set_ne->ace,append_nil->aci,replicate_succ->ack,getElem?_eq_none->acl,any_eq_true->acB,take_length->acC,getD_eq_getElem?_getD->acK,append_assoc->acO,any_cons->acU,find?_cons->acW,length_filter_le->acX,mem_filterMap->acY,filter_cons->ada,eq_nil_of_length_eq_zero->adb,nodup_append->adm,flatMap_cons->adn,idxOf_lt_length_of_mem->adt,length_take->adx,all_cons->ady,flatten_cons->adJ,ext_getElem?->adO,getElem?_inj->adR,getElem?_replicate->adS,map_congr_left->adV,of_mem_zip->aee,lookup->aeh,getElem?_append_right->aen,nodup_nil->aet,nodup_range->aex,map_nil->aeD,length_erase_of_mem->aeH,nil_append->aeK,length_nil->aeL,length_pos_of_mem->aeR,length_replicate->afe,mem_nil_iff->afl,not_mem_nil->afn,mem_flatMap->afo,getElem?_range->afB,getElem?_concat_length->afE,flatMap_append->afF,perm_ext_iff_of_nodup->afK,getElem_range->afP,pairwise_cons->afQ,filter_append->afS,filterMap_cons_some->agg,find?_isSome->agm,getElem?_cons_succ->agw,getElem?_cons_zero->agx,range_succ_eq_map->agG,zipWith_map_right->agH,set_append_right->agT,any_map->agU,length_zip->agX,zipWith_map_left->agY,filterMap_eq_map->agZ,filterMap_filter->aha,mem_erase_of_ne->ahe,mem_of_mem_drop->ahf,mem_of_mem_take->ahg,mem_of_getLast?->ahh,drop_drop->ahl,length->ahp,length_zipWith->ahr,set_set->ahT,zipWith->ahU
open List.Pairwise renaming filter->adF,map->agn
open List.cons renaming inj->ahB,injEq->aia
open Nat renaming le_refl->aaN,lt_of_lt_of_le->aaS,ne_of_lt->abu,le_trans->abw,zero_le->aca,zero_add->acf,lt_succ_self->acA,ne_of_gt->acD,lt_irrefl->acR,le_of_ble_eq_true->adA,add_right_comm->aec,lt_succ_of_lt->aem,le_of_lt->aeB,le_succ->aeY,add_assoc->afs,strongRecOn->afD,lt_trans->afO,le_succ_of_le->agl,min_le_right->agz,add_comm->agN
open Nat.succ renaming inj->agV
open Ne renaming symm->adh
open Option renaming map_eq_some_iff->aaP,map_some->abH,isSome_iff_exists->ach,bind_some->acn,some->adE,isSome_map->adM,getD_some->aew,getD_none->agA
open Option.some renaming inj->abE
open PyProof.Rows renaming callWith_type1->ado,boot_list->adu,slot_tuple_getitem->adH,envOfC->aeC,AllBare->ago,boot_tuple->agv,IntsAre->agL,boot_int->agW
open PyProof.Rows.F renaming plain_set_update_loop->aeP,entry_set_update_loop->agu
open PyProof.Rows.IntsAre renaming length->ahn
open PySem renaming wpAny_bind->aaH,wpAny_pure->aaM,Shared->aaR,Addr->abc,sizeLine->abd,Value->abh,wpAny->abj,mainGlobals->abr,starEach->abB,model->abG,Program->abI,wpAny_holding->abS,foldedSetIterable->abX,World->acg,wpAny_call_entry->acm,Paired->aco,wpAny_mono->acp,wpAny_newObj_type->acq,compareOp->acr,tupleKeyHash->acu,bootBuiltins->acv,sysModules->acx,wpAny_specialOf->acz,Around->acF,FuncData->acG,Expr->acJ,wpAny_truthy_bool->acL,assignEach->acM,mem_of_lookup->acN,wpAny_callSpecialIfBoundUnlessNone?_slot->acQ,behindInMarks->acS,DictEntry->acV,wpAny_typeNameOfWhole_keyiter->acZ,Heap->ade,wpAny_callSpecial?_slot->adi,placesWithHash->adl,wpAny_forIn_list->adw,SetTable->adz,Scope->adB,wpAny_passesOwn->adG,codeAny_builtin->adN,wpAny_dictEpoch->adP,wpAny_dictEntries->adQ,attributeBase->adT,callSpecialIfBoundUnlessNone?->adX,wpAny_Call_Name_kw->aea,codeAny_mono->aef,TriplesOk->aeg,NameKind->aek,wpAny_newFunctionEnv_cells->aeo,cLine->aep,swapsWith->aeq,binaryOp->aev,eval->aez,closureFor->aeF,pyHashByItsType->aeI,tupleKind_room_in1->aeM,PyData->aeN,wpAny_rule->aeS,intKind->aeT,wpAny_pyIter_list->aeU,wpAny_field->aeV,sliceBounds->aeW,wpAny_setState_of->aeZ,wpAny_setField->afb,backTo->afd,codeAny_call_function->aff,wpAny_notOrdered_dict->afh,beq_builtin_none->afj,wpAny_execs_cons->afk,rawInt->afp,lookup_relabel_local->afq,builtinsNs->afv,PlainAttrs->afw,wpAny_ret_mkInt->afx,wpAny_execs_nil->afy,holding->afz,letOwnedTupleGo->afA,wpAny_ite_split->afC,wpAny_pyHash_tuple->afL,slot_dict_contains->afR,wpAny_seqItems->afT,leaving->afV,boot_len->afZ,IsTupleKey->agb,call_meets->agf,sizeLine_eq->agp,plainId_quiet->ags,wpAny_isInstance->agy,assign->agJ,cellsFrom->agK,codeAmong->agO,carriedByValue->ahi,pyNext->ahj,eqIsQuiet->aht,tupleKind->ahx,PassesOwn->ahz,Stmt->ahH,codeAny->ahJ,valueAt->ahK,wpAny_call->ahL,defaultsOf->ahQ,IsPart->ahY
open PySem.Around renaming under_plainId->adf,frames_deeper->ahd
open PySem.Builtin.Dict renaming updateFrom->agt,pairItems->agE,showsAll->agS
open PySem.Builtin.Dict_items renaming ownsTuple->aft
open PySem.Builtin.List renaming listTooLong->adK
open PySem.Builtin.Slice renaming slicePlaces->adD,sliceAdjust->aer,sliceApplied->afI
open PySem.Builtin.Tuple renaming tupleHashOf->acd,tupleExact->adI,tupleItemsOf->afG
open PySem.Calls renaming Name_function_global->afH,call_function_entry->afY,callWith_builtin->agD
open PySem.EntryCells renaming newEntry->ahq
open PySem.F renaming slot_dict_keyiterator_next->acE,called_set->acI,slot_NoneType_hash->adv,plainAttrs_list->adW,slot_bool_hash->adZ,slot_tuple_hash->aei,slot_list_getattribute->aeG,args_dict_keyiterator_next_1->afi,entry_dict_keyiterator_next->afm,args_tuple_add_2->age,slot_list_extend->agj,type_list_extend->agk,entry_tuple_add->agq,slot_tuple_add->agC
open PySem.Heap renaming get?_push_of_some->aaO,lt_size->aaU,get?_push_size->abl,get?_update_self->abT,get?_update_other->acy,SameBut->aed,get?_none_of_le->ahc
open PySem.Heap.DictOf renaming new->ahZ
open PySem.Heap.SameBut renaming update->acP
open PySem.NameKind renaming free->abx,cell->adj,globalImplicit->agr
open PySem.Obj renaming mapFields->adU,data_mapFields->aeb,isFreed_of_dict->aeA,isFreed_of_fields->afg,data_mapDictKeys->afr,putSet->agi,data_mapDict->agB,mapSeq->ahb
open PySem.Paired renaming length->adg,right->agR
open PySem.PassesOwn renaming never->agP,leaving->ahP
open PySem.PyData renaming eqv->abe,eqvAll->abn,strOk->aeE,canLay0->afX,canLayAll0->ahN,int->ahR
open PySem.SeqAt renaming EqAt->ahO
open PySem.SeqAt.EqAt renaming int_str->ahv,str_int->ahw
open PySem.SetTable renaming fill->ahF
open PySem.Str renaming ofString->abA,ofString_eq_toList->aeQ
open PySem.Value renaming ref->abi,none->abN,int->afc,bool->agc,builtin->ahs,str->ahu,type->ahI,isInt->ahX
open PySem.W renaming Frag->aaJ,nsIn->abO,mg_none_of->abV,fnOf->acw,keepIn->acT,tabObj->adk,kia_one->adq,codeIn->adC,cellsFrom_some->adY,CodeHd->aes,hideAll_get->aey,mg_of->afu,codeRec_of->afN,kla_fn->afW,methodObj->agd,hideAll->agI,OpenLaw->agQ,noTabs->ahm,of_hideAll->ahy,callWith_K->ahC,hashAt->ahE,kitx_dict->ahM,kdl_dict->ahV,km_in_of->ahW
open Sum renaming inl->afU,inr->aho
open True renaming intro->adL
open Option renaming some->O,none->Z
namespace L2
open PySem
section
variable{prog:abI}{w:acg}{K:Type}[DecidableEq K](knd:KeyKind prog w K)
abbrev _root_.aT:=List abh
inductive nG(h:ade):List (List K)->List abh->Prop
 | nil:nG h [] []
 | cons {k:List K} {a:abc} {ks:List (List K)} {vs:aT}:agb knd h k a->nG h ks vs->nG h (k::ks) (.ref a::vs)
noncomputable def sk(h:ade)(ks:List (List K))(a:abc):Prop:=∃o items n,h.get? a=O o/\o.cls=.type "tuple"/\o.data=.seq items n/\nG knd h ks items.toList
variable{knd}
variable{a:abc}
theorem sk.typeIs{s:aaR}{ks:List (List K)}(x:sk knd s.heap ks a):s.TypeIs (.ref a) "tuple":=let ⟨o,_,_,ho,hc,_⟩:=x;⟨o,ho,hc⟩
noncomputable def rP(knd:KeyKind prog w K)(ks:List (List K)):Int:=reduceHash (acd (ks.map (acu knd)))
noncomputable def rG(ks:List (List K)):Nat:=(ks.map λk=>↑k+1).sum
abbrev _root_.bR:=abh->aaR->Prop
variable{A:acF}{E:bR}{s:aaR}
theorem ND{ks:List (List K)}{Q:Int->aaR->Prop}(hu:A.units+8<aep)(hk:sk knd s.heap ks a)(h:Q (rP knd ks) { s with toks:=s.toks+(rG ks+1) }) :
  abj (abG prog w) A (pyHash (.ref a)) Q E s:=by
 have hT:=hk.typeIs;obtain⟨o,items,n,ho,_,hd,hi⟩:=hk;unfold pyHash
 first | unfold aeI | skip
 first | refine aaH (wpAny_cRoomFor_or (.inr ∅) ?_) | skip
 refine aaH (acz hT aei.lookup ?_);show abj _ _ (if(O (ahs "tuple.__hash__")==O abN)=true then _ else _) Q E s;rw[if_neg (by rw[afj];exact abg)];refine aaH (acz hT aei.lookup ?_);show abj _ _ (adX (.ref a) "__hash__" _ >>= _) Q E s;refine aaH (acQ hT aei (acm aei hT F.entry_tuple_hash ?_ (F.args_tuple_hash_1 _)));show abj _ _ (afG (.ref a) >>= _) _ _ s;refine aaH (wpAny_tupleItemsOf ho hd ?_);refine aaH ?_;rw[<- aeJ];refine adw _
  (λrest (b:Array Int) s'=>∃done left,ks=done++left/\nG knd s.heap left rest/\b.toList=done.map (acu knd)/\s'={ s with toks:=s.toks+rG done })
  _ ?_ ?_ _ _ ⟨[],ks,rfl,hi,rfl,rfl⟩
 ·rintro x rest b s' ⟨done,left,rfl,hl,hb,rfl⟩;cases hl with
  | @cons k _ kC _ h1 Kd=>
   refine aaH (afL (knd:=knd) (s:={ s with toks:=s.toks+rG done }) (by rw[Around.in1_units];omega) h1 ?_)
   first
    | exact aaM ⟨done++[k],kC,by simp,Kd,by simp[hb],by simp[rG,afs]⟩
    | exact aaH (aaM (aaM ⟨done++[k],kC,by simp,Kd,by simp[hb],by simp[rG,afs]⟩))
 ·rintro b s' ⟨done,left,rfl,hl,hb,rfl⟩;cases hl;rw[aci] at h;show abj _ _ (retInt (acd b.toList)) _ _ _;rw[hb];refine afx ?_;show abj _ _ (if(decide (-(2:Int) ^ 63<=acd (done.map (acu knd)))&&decide (acd (done.map (acu knd))<2 ^ 63))=true then _ else _) Q E _;unfold rP reduceHash at h;by_cases hr:(decide (-(2:Int) ^ 63<=acd (done.map (acu knd)))&&decide (acd (done.map (acu knd))<2 ^ 63))=true
  ·rw[if_pos hr];rw[if_pos hr] at h;exact aaM (by simpa[afs] using h)
  ·rw[if_neg hr];rw[if_neg hr] at h;exact aaH (aeS (aaM (by simpa[afs] using h)))
theorem Oa(m:Nat){ks:List K}{Q:Bool->aaR->Prop}(hk:agb knd s.heap ks a)(h:Q true s):abj (abG prog w) A (aht (m+1) (.ref a)) Q E s:=by
 have hT:=hk.typeIs;obtain⟨o,items,n,ho,_,hd,hi⟩:=hk;unfold aht;refine aaH (acz hT F.slot_tuple_eq.lookup ?_);show abj _ _ (isInstance (.ref a) (.type "tuple") >>= _) _ _ s;refine aaH (agy hT isSubtype_tuple_tuple ?_);simp only[aej,abD,if_false];refine aaH (afT ho hd ?_);refine aaH ?_;show abj _ _ (forIn items _ _) _ _ s;rw[<- aeJ];refine adw _ (λrest r s'=>r.1=Z/\s'=s/\∀v∈rest,ahi v=true) _ ?_ ?_ _ _ ⟨rfl,rfl,hi.byValue⟩
 ·rintro v rest r s' ⟨hr,rfl,gg⟩;rw[eqIsQuiet_byValue _ (gg v abo)];refine aaH (aaM ?_);simp only[aej,abD,if_false];exact aaM ⟨rfl,rfl,λu ub=>gg u (aba _ ub)⟩
 ·rintro⟨r1,r2⟩ s' ⟨hr,rfl,_⟩;simp only at hr;subst hr;exact aaM h
theorem Ob{ks:List (List K)}{Q:Bool->aaR->Prop}(hk:sk knd s.heap ks a)(h:Q true s):abj (abG prog w) A (aht 8 (.ref a)) Q E s:=by
 have hT:=hk.typeIs;obtain⟨o,items,n,ho,_,hd,hi⟩:=hk;unfold aht;refine aaH (acz hT F.slot_tuple_eq.lookup ?_);show abj _ _ (isInstance (.ref a) (.type "tuple") >>= _) _ _ s;refine aaH (agy hT isSubtype_tuple_tuple ?_);simp only[aej,abD,if_false];refine aaH (afT ho hd ?_);refine aaH ?_;show abj _ _ (forIn items _ _) _ _ s;rw[<- aeJ];refine adw _ (λrest r s'=>r.1=Z/\s'=s/\∃kC,nG knd s.heap kC rest) _ ?_ ?_ _ _ ⟨rfl,rfl,_,hi⟩
 ·rintro v rest r s' ⟨hr,rfl,kC,gg⟩;cases gg with
  | cons h1 h2=>
   refine aaH (Oa 6 h1 ?_);simp only[aej,abD,if_false];exact aaM ⟨rfl,rfl,_,h2⟩
 ·rintro⟨r1,r2⟩ s' ⟨hr,rfl,_⟩;simp only at hr;subst hr;exact aaM h
end
open PySem PySem.Spec PyProof.Rows
abbrev Key:=Sum Int Str
noncomputable def nM:Key->abh->Bool
 | .inl k,v=>ahX k v
 | .inr x,v=>Value.isStrOf x v
noncomputable def xV(w:acg):Key->Int
 | .inl k=>hashInt k
 | .inr x=>hashStr w x
theorem iU:∀{k:Key} {v:abh},nM k v=true->(∃i t,k=afU i/\v=afc i t)\/(∃x t,k=aho x/\v=ahu x t)
 | .inl i,v,h=>by
  obtain⟨t,e⟩:=Value.isInt_shape (k:=i) (v:=v) h;exact .inl ⟨i,t,rfl,e⟩
 | .inr x,v,h=>by
  obtain⟨t,e⟩:=Value.isStrOf_shape (x:=x) (v:=v) h;exact .inr ⟨x,t,rfl,e⟩
theorem EN(i:Int)(t:Tok):nM (.inl i) (.int i t)=true:=by simp[nM,ahX]
theorem EO(x:Str)(t:Tok):nM (.inr x) (.str x t)=true:=by simp[nM,Value.isStrOf]
theorem xn(a b:Int):decide ((afU a:Key)=afU b)=(a==b):=by
 by_cases e:a=b
 ·subst e;simp
 ·have h:¬(afU a:Key)=afU b:=λq=>e (Sum.inl.inj q)
  rw[bU h];exact(beq_eq_false_iff_ne.mpr e).symm
theorem Hi(a b:Str):decide ((aho a:Key)=aho b)=decide (a=b):=by
 by_cases e:a=b
 ·subst e;simp
 ·have h:¬(aho a:Key)=aho b:=λq=>e (Sum.inr.inj q)
  rw[bU h,bU e]
theorem A8(a:Int)(b:Str):decide ((afU a:Key)=aho b)=false:=bU (λq=>nomatch q)
theorem A9(a:Str)(b:Int):decide ((aho a:Key)=afU b)=false:=bU (λq=>nomatch q)
noncomputable def dD(prog:abI)(w:acg):PySem.KeyKind prog w Key where
 is:=nM
 hash:=xV w
 inj:=λv a b ha hb=>by
  rcases iU ha with⟨i,t,rfl,rfl⟩ | ⟨x,t,rfl,rfl⟩
  ·rcases iU hb with⟨j,u,rfl,e⟩ | ⟨y,u,rfl,e⟩
   ·injection e with e1 _;rw[e1]
   ·exact nomatch e
  ·rcases iU hb with⟨j,u,rfl,e⟩ | ⟨y,u,rfl,e⟩
   ·exact nomatch e
   ·injection e with e1 _;rw[e1]
 byValue:=λk v h=>by
  rcases iU h with⟨i,t,rfl,rfl⟩ | ⟨x,t,rfl,rfl⟩ <;> rfl
 pyHash:=λhv h=>by
  rcases iU hv with⟨i,t,rfl,rfl⟩ | ⟨x,t,rfl,rfl⟩
  ·exact wpAny_pyHash_int h
  ·exact wpAny_pyHash_str h
 eqBool:=λhu hv h=>by
  rcases iU hu with⟨i,t,rfl,rfl⟩ | ⟨x,t,rfl,rfl⟩
  ·rcases iU hv with⟨j,u,rfl,rfl⟩ | ⟨y,u,rfl,rfl⟩
   ·rw[xn] at h;exact wpAny_eqBool_int h
   ·rw[A8] at h;exact ahv i t y u _ _ _ _ h
  ·rcases iU hv with⟨j,u,rfl,rfl⟩ | ⟨y,u,rfl,rfl⟩
   ·rw[A9] at h;exact ahw x t j u _ _ _ _ h
   ·rw[Hi] at h;exact wpAny_eqBool_str h
 «strs»:=λk x t v h=>by
  rcases iU h with⟨i,u,rfl,e⟩ | ⟨y,u,rfl,e⟩
  ·exact nomatch e
  ·injection e with e1 _
   subst e1;cases v <;> rfl
theorem NE(prog:abI)(w:acg)(i:Int)(t:Tok):(dD prog w).is (.inl i) (.int i t)=true:=EN i t
theorem NG(prog:abI)(w:acg)(x:Str)(t:Tok):(dD prog w).is (.inr x) (.str x t)=true:=EO x t
inductive V where
 | aH | bl (b:Bool) | int (i:Int) | str (x:Str) | ud (b:Array UInt8) | Cw (b:UInt64) | ref (a:abc) | ty (n:String)
 deriving DecidableEq
noncomputable def RelV:V->abh->Prop
 | .aH,u=>u=abN
 | .bl b,u=>u=agc b
 | .int i,u=>∃t,u=afc i t
 | .str x,u=>∃t,u=ahu x t
 | .ud b,u=>∃t,u=Value.bytes b t
 | .Cw b,u=>∃t,u=Value.float b t
 | .ref a,u=>u=abi a
 | .ty n,u=>u=ahI n
abbrev _root_.aE:=List V
abbrev Vals:aE->List abh->Prop:=aco RelV
theorem Vals.length{xs:aE}{us:aT}(r:Vals xs us):↑xs=↑us:=adg r
theorem Vals.get:∀{xs:aE} {us:aT} {i:Nat} {x:V},Vals xs us->xs[i]? =O x->∃u,us[i]? =O u/\RelV x u
 | _,_,_,_,.nil,e=>by simp at e
 | _,_,0,_,.cons r _,e=>by simp at e;subst e;exact⟨_,rfl,r⟩
 | _,_,i+1,x,.cons _ t,e=>by
  obtain⟨u,h1,h2⟩:=Vals.get (i:=i) (x:=x) t (by simpa using e);exact⟨u,by simpa using h1,h2⟩
theorem Vals.set{x:V}{u:abh}(r:RelV x u):∀{xs:aE} {us:aT} (i:Nat),Vals xs us->Vals (xs.set i x) (us.set i u)
 | _,_,_,.nil=>.nil
 | _,_,0,.cons _ t=>.cons r t
 | _,_,i+1,.cons q t=>.cons q (Vals.set r i t)
theorem Vals.append:∀{xs ys:aE} {us ws:aT},Vals xs us->Vals ys ws->Vals (xs++ys) (us++ws)
 | _,_,_,_,.nil,s=>s
 | _,_,_,_,.cons r t,s=>.cons r (Vals.append t s)
theorem Vals.take:∀{xs:aE} {us:aT} (n:Nat),Vals xs us->Vals (xs.take n) (us.take n)
 | _,_,0,_=>.nil
 | _,_,_+1,.nil=>.nil
 | _,_,n+1,.cons r t=>.cons r (Vals.take n t)
theorem Vals.drop:∀{xs:aE} {us:aT} (n:Nat),Vals xs us->Vals (xs.drop n) (us.drop n)
 | _,_,0,r=>r
 | _,_,_+1,.nil=>.nil
 | _,_,n+1,.cons _ t=>Vals.drop n t
noncomputable def jD:Option V->Option abh->Prop
 | some v,O u=>RelV v u
 | none,Z=>True
 | _,_=>False
noncomputable def KV{κ:Type}:List (κ×V)->List (κ×abh)->Prop:=aco λ(p:κ×V) (q:κ×abh)=>p.1=q.1/\RelV p.2 q.2
noncomputable def kV:Key->V
 | .inl i=>.int i
 | .inr x=>.str x
noncomputable def uA:V->Option Key
 | .int i=>O (.inl i)
 | .bl b=>O (.inl (if b then 1 else 0))
 | .str x=>O (.inr x)
 | _=>Z
abbrev _root_.bz:=List Key
noncomputable def jO:aE->Option bz
 | []=>O []
 | v::vs=>match uA v,jO vs with
  | some k,O ks=>O (k::ks)
  | _,_=>Z
abbrev _root_.eM:=Array abh
abbrev _root_.f9:=List (bz×V)
abbrev _root_.fD:=List (Key×V)
inductive HO where
  | lst (xs:aE)
  | tup (xs:aE)
  | dK (kvs:fD) | dT (kvs:f9)
  | dU (kvs:List (V×V))
  | set (S:Int->Bool) (n:Nat)
  | ins (C dx:abc) (fs:List (Str×V))
  | own (x:abc)
  | xd (fs:List (Str×V))
  | met (f x:abc)
  | Cy (lo hi:Int)
  | aL (o:Obj) (u:HO)
  | cW (ps:eM)
  | ext (φ:ade->Prop)
abbrev Hp:=abc->Option HO
noncomputable def upd(H:Hp)(a:abc)(o:HO):Hp:=λb=>if b=a then O o else H b
variable{H:Hp}{a:abc}{o:HO}
theorem bX:upd H a o a=O o:=by unfold upd;rw[if_pos rfl]
variable{b:abc}
theorem aI(h:b≠a):upd H a o b=H b:=by unfold upd;rw[if_neg h]
variable{u:HO}
theorem rX:upd (upd H a o) a u=upd H a u:=by
 funext b;unfold upd;split <;> rfl
theorem fb(h:H a=O o)(h':H b=O u)(d:o≠u):a≠b:=by
 intro e;subst e;rw[h] at h';exact d (abE h')
theorem cC(h:H a=O o)(h':H b=Z):a≠b:=by
 intro e;subst e;rw[h] at h';cases h'
section
variable(P:abI)(w:acg)
noncomputable def iF(H:Hp):aE->List bz->Prop:=aco λv ks=>∃c us,v=.ref c/\H c=O (.tup us)/\jO us=O ks
noncomputable def jE(P:abI)(w:acg)(H:Hp)(v:V)(h:Int):Prop:=(∃k,uA v=O k/\h=xV w k)\/(∃b ts ks,v=.ref b/\H b=O (.tup ts)/\jO ts=O ks/\h=acu (dD P w) ks) \/
 ∃b ts bG,v=.ref b/\H b=O (.tup ts)/\iF H ts bG/\h=rP (dD P w) bG
noncomputable def cY(H:Hp)(h:ade)(a:abc):HO->Prop
 | .lst xs=>↑xs<=abd/\∃(its:aT) (n:Nat),Vals xs its/\h.get? a=O { cls:=.type "list",data:=.seq its.toArray n }
 | .tup xs=>↑xs<=abd/\∃its:aT,Vals xs its/\IsTup h a its.toArray
 | .dK kvs=>↑kvs<=abd/\(a==acx)=false/\∃vs,KV kvs vs/\h.DictOf (dD P w) a vs
 | .dT kvs=>↑kvs<=abd/\(a==acx)=false/\∃xs:List (bz×abc×abh),
   aco (λ(p:bz×V) (q:bz×abc×abh)=>p.1=q.1/\H q.2.1=O (.tup (p.1.map kV))/\RelV p.2 q.2.2) kvs xs /\
   ∃o es ep,h.get? a=O o/\o.ExactDict/\o.data=.dict es ep/\es.toList=xs.map (entryOfKey (ahx (dD P w)))/\(xs.map (·.1)).Nodup
 | .dU kvs=>↑kvs<=abd/\(a==acx)=false/\∃o es ep,h.get? a=O o/\o.ExactDict/\o.data=.dict es ep/\aco (λ(p:V×V) (e:acV)=>RelV p.1 e.key/\RelV p.2 e.val/\jE P w H p.1 e.hash) kvs es.toList
 | .set S n=>h.SetOf (aeT P w) a S n
 | .ins C dx fs=>H dx=O (.own a)/\↑fs<=1000/\dx≠a/\h.get? a=O (PySem.W.instObj C dx) /\
   ∃mA,h.Ns1 dx mA/\(∀f,jD (fs.lookup f) (mA f))/\PySem.Within mA (fs.map (·.1))
 | .own _=>∃o,h.get? a=O o
 | .xd fs=>∃mA,h.Ns1 a mA/\∀f,jD (fs.lookup f) (mA f)
 | .Cy lo hi=>∃t u v,h.get? a=O { cls:=.type "range",data:=.fields #[.int lo t,.int hi u,.int 1 v] }
 | .aL o u=>h.get? a=O o/\cY H h a u
 | .cW ps=>h.get? a=O { cls:=.none,data:=.fields ps }
 | .met f x=>h.get? a=O (agd (.ref f) (.ref x))
 | .ext φ=>φ h/\(∃o,h.get? a=O o)/\∀h1 h2:ade,φ h1->(∀o,h1.get? a=O o->h2.get? a=O o)->φ h2
noncomputable def cS(H:Hp)(h:ade):Prop:=∀a o,H a=O o->cY P w H h a o
end
section
variable{P:abI}{w:acg}{H H':Hp}{h h':ade}{a:abc}{o:HO}
theorem cY.lt(x:cY P w H h a o):a<h.objs.size:=by
 cases o with
 | lst xs=>obtain⟨_,_,_,_,e⟩:=x;exact aaU e
 | tup xs=>obtain⟨_,_,_,p⟩:=x;exact p.lt
 | dK kvs=>obtain⟨_,_,_,_,o,_,_,e,_⟩:=x;exact aaU e
 | dT kvs=>obtain⟨_,_,_,_,o,_,_,e,_⟩:=x;exact aaU e
 | dU kvs=>obtain⟨_,_,o,_,_,e,_⟩:=x;exact aaU e
 | set S n=>obtain⟨o,_,_,_,e,_⟩:=x;exact aaU e
 | ins C dx fs=>obtain⟨_,_,_,e,_⟩:=x;exact aaU e
 | own y=>obtain⟨_,e⟩:=x;exact aaU e
 | xd fs=>obtain⟨_,⟨_,_,_,e,_⟩,_⟩:=x;exact aaU e
 | Cy lo hi=>obtain⟨_,_,_,e⟩:=x;exact aaU e
 | aL ob u=>obtain⟨e,_⟩:=x;exact aaU e
 | cW ps=>exact aaU (show h.get? a=O _ from x)
 | met f y=>exact aaU (show h.get? a=O _ from x)
 | ext φ=>obtain⟨_,⟨_,e⟩,_⟩:=x;exact aaU e
theorem aco.jF{α β:Type}{F G:α->β->Prop}:∀{LZ:List α} {L1:List β},aco F LZ L1->(∀a b,F a b->G a b)->aco G LZ L1
 | _,_,.nil,_=>.nil
 | _,_,.cons r t,f=>.cons (f _ _ r) (aco.jF t f)
theorem iF.keep{H H':Hp}{ts:aE}{bG:List bz}(r:iF H ts bG)(ht:∀b xs,H b=O (.tup xs)->H' b=O (.tup xs)):iF H' ts bG:=aco.jF r λv ks z=>by
 obtain⟨c,us,h1,h2,h3⟩:=z;exact⟨c,us,h1,ht _ _ h2,h3⟩
theorem jE.keep{H H':Hp}{v:V}{hh:Int}(z:jE P w H v hh)(ht:∀b xs,H b=O (.tup xs)->H' b=O (.tup xs)):jE P w H' v hh:=by
 rcases z with z | ⟨b,ts,ks,h1,h2,h3⟩ | ⟨b,ts,ks,h1,h2,h3,h4⟩
 ·exact .inl z
 ·exact .inr (.inl ⟨b,ts,ks,h1,ht _ _ h2,h3⟩)
 ·exact .inr (.inr ⟨b,ts,ks,h1,ht _ _ h2,h3.keep ht,h4⟩)
theorem cY.gL(x:cY P w H h a o)(k:∀b u,(b=a\/H b=O (.own a))->h.get? b=O u->h'.get? b=O u)(ho:∀b,H b=O (.own a)->H' b=O (.own a))(ht:∀b xs,H b=O (.tup xs)->H' b=O (.tup xs)):cY P w H' h' a o:=by
 induction o with
 | lst xs=>obtain⟨z,its,n,r,e⟩:=x;exact⟨z,its,n,r,k _ _ (.inl rfl) e⟩
 | tup xs=>obtain⟨z,its,r,ob,e,c⟩:=x;exact⟨z,its,r,ob,k _ _ (.inl rfl) e,c⟩
 | dK kvs=>obtain⟨z,y,vs,r,ob,es,ep,e,c⟩:=x;exact⟨z,y,vs,r,ob,es,ep,k _ _ (.inl rfl) e,c⟩
 | dT kvs=>
  obtain⟨z,y,xs,r,ob,es,ep,e,c⟩:=x;exact⟨z,y,xs,aco.jF r λp q z=>⟨z.1,ht _ _ z.2.1,z.2.2⟩,ob,es,ep,k _ _ (.inl rfl) e,c⟩
 | dU kvs=>
  obtain⟨z,y,ob,es,ep,e,c1,c2,r⟩:=x;exact⟨z,y,ob,es,ep,k _ _ (.inl rfl) e,c1,c2,aco.jF r λp q z=>⟨z.1,z.2.1,jE.keep z.2.2 ht⟩⟩
 | set S n=>obtain⟨ob,es,ep,t,e,c⟩:=x;exact⟨ob,es,ep,t,k _ _ (.inl rfl) e,c⟩
 | ins C dx fs=>
  obtain⟨d,z,ne,e,mA,⟨od,es,ep,e2,c⟩,r⟩:=x;exact⟨ho _ d,z,ne,k _ _ (.inl rfl) e,mA,⟨od,es,ep,k _ _ (.inr d) e2,c⟩,r⟩
 | own y=>obtain⟨ob,e⟩:=x;exact⟨ob,k _ _ (.inl rfl) e⟩
 | xd fs=>obtain⟨mA,⟨od,es,ep,e,c⟩,r⟩:=x;exact⟨mA,⟨od,es,ep,k _ _ (.inl rfl) e,c⟩,r⟩
 | Cy lo hi=>obtain⟨t,u,v,e⟩:=x;exact⟨t,u,v,k _ _ (.inl rfl) e⟩
 | aL ob u ih=>obtain⟨e,q⟩:=x;exact⟨k _ _ (.inl rfl) e,ih q⟩
 | cW ps=>
  have e:h.get? a=O { cls:=.none,data:=.fields ps }:=x;show h'.get? a=O { cls:=.none,data:=.fields ps };exact k a _ (.inl rfl) e
 | met f y=>
  have e:h.get? a=O (agd (.ref f) (.ref y)):=x;show h'.get? a=O (agd (.ref f) (.ref y));exact k a _ (.inl rfl) e
 | ext φ=>obtain⟨p,⟨o,e⟩,st⟩:=x;exact⟨st _ _ p λo q=>k _ _ (.inl rfl) q,⟨o,k _ _ (.inl rfl) e⟩,st⟩
theorem cS.lt(x:cS P w H h)(e:H a=O o):a<h.objs.size:=(x a o e).lt
theorem cS.fresh(x:cS P w H h)(e:h.objs.size<=a):H a=none:=by
 cases q:H a with
 | none=>rfl
 | some u=>exact absurd (aaS (x.lt q) e) (acR _)
theorem cS.kept(x:cS P w H h)(k:∀b u,h.get? b=O u->h'.get? b=O u):cS P w H h':=λa o e=>
 (x a o e).gL (λb u _ q=>k b u q) (λ_ q=>q) λ_ _ q=>q
theorem cS.laid(x:cS P w H h)(k:∀b u,h.get? b=O u->h'.get? b=O u)(hp:h.objs.size<=a)(new:cY P w (upd H a o) h' a o):cS P w (upd H a o) h':=λb u e=>by
 have hn:=x.fresh hp;by_cases hb:b=a
 ·subst hb;rw[bX] at e;cases e;exact new
 ·rw[aI hb] at e;exact(x b u e).gL (λc v _ q=>k c v q) (λc q=>by rw[aI (cC q hn)];exact q) λc xs q=>by rw[aI (cC q hn)];exact q
end
noncomputable def Rd(H:Hp)(a:abc)(u:HO):Prop:=H a=O u\/∃o,H a=O (.aL o u)
variable{P:abI}{h:ade}
theorem Rd.ok{w:acg}(r:Rd H a u)(x:cS P w H h):cY P w H h a u:=by
 rcases r with r | ⟨o,r⟩
 ·exact x a u r
 ·obtain⟨_,q⟩:=x a _ r;exact q
noncomputable def kD:Option HO->Prop
 | some (.lst _)=>True
 | some (.dK _)=>True
 | some (.dT _)=>True
 | some (.dU _)=>True
 | some (.set _ _)=>True
 | some (.ins _ _ _)=>True
 | some (.ext _)=>True
 | _=>False
section
variable{P:abI}{w:acg}{H:Hp}{h h':ade}{x e:abc}{o':HO}
theorem cS.write(ok:cS P w H h)(mu:kD (H x))(he:e=x\/H e=O (.own x))(k:∀b u,b≠e->h.get? b=O u->h'.get? b=O u)(qq:∃u,h'.get? e=O u)(new:cY P w (upd H x o') h' x o'):cS P w (upd H x o') h':=λb u q=>by
 have Jv:∀c y,H c=O (.own y)->c≠x:=λc y r z=>by subst z;rw[r] at mu;exact mu
 have YI:∀c xs,H c=O (.tup xs)->c≠x:=λc xs r z=>by subst z;rw[r] at mu;exact mu
 by_cases hb:b=x
 ·subst hb;rw[bX] at q;cases q;exact new
 ·rw[aI hb] at q;by_cases gm:b=e
  ·have q':H b=O (.own x):=by
    rcases he with z | z
    ·exact absurd (gm.trans z) hb
    ·rw[gm];exact z
   rw[q] at q';cases q';obtain⟨v,hv⟩:=qq;exact⟨v,by rw[gm];exact hv⟩
  ·refine(ok b u q).gL (λc v hc r=>k c v ?_ r) (λc r=>by rw[aI (Jv c b r)];exact r) λc xs r=>by rw[aI (YI c xs r)];exact r
   rcases hc with rfl | hc
   ·exact gm
   ·rintro rfl
    rcases he with z | z
    ·exact Jv c b hc z
    ·rw[hc] at z;cases z;exact hb rfl
end
structure Un(fs ex:List abc)(H H':Hp)(h h':ade):Prop where
 keep:∀b o,h.get? b=O o->H b=Z->b∉fs->b∉ex->h'.get? b=O o
 slot:∀b o,h.get? b=O o->H b=Z->b∈fs->b∉ex->∃sl,h'.get? b=O { o with slots:=sl }
 free:∀b o,h.get? b=O o->H b=Z->b∉ex->H' b=Z
 there:∀b o,h.get? b=O o->b∉ex->∃o',h'.get? b=O o'
 fU:∀b xs,H b=O (.tup xs)->H' b=O (.tup xs)
 ee:∀b o u,H b=O (.aL o u)->H' b=O (.aL o u)
 fV:∀b ps,H b=O (.cW ps)->∃more,H' b=O (.cW (ps++more))
section
variable{fs fs' ex ex':List abc}{H H1 H2:Hp}{h h1 h2 h':ade}{a x e:abc}{o:HO}
theorem Un.any(u:Un fs ex H H1 h h1){b:abc}{ob:Obj}(q:h.get? b=O ob)(n:H b=Z)(hx:b∉ex):∃sl,h1.get? b=O { ob with slots:=sl }:=by
 by_cases hb:b∈fs
 ·exact u.slot b ob q n hb hx
 ·exact⟨ob.slots,u.keep b ob q n hb hx⟩
theorem Un.kept(k:∀b u,h.get? b=O u->h'.get? b=O u):Un fs ex H H h h':=
 ⟨λb ob q _ _ _=>k b ob q,λb ob q _ _ _=>⟨ob.slots,k b ob q⟩,λ_ _ _ n _=>n,λb ob q _=>⟨ob,k b ob q⟩,λ_ _ q=>q,λ_ _ _ q=>q,λ_ ps q=>⟨#[],by rw[q];simp⟩⟩
theorem Un.refl:Un fs ex H H h h:=Un.kept λ_ _ q=>q
theorem Un.laid(k:∀b u,h.get? b=O u->h'.get? b=O u)(hp:h.objs.size<=a)(hn:H a=Z):Un fs ex H (upd H a o) h h' where
 keep:=λb u q _ _ _=>k b u q
 slot:=λb u q _ _ _=>⟨u.slots,k b u q⟩
 free:=λb u q n _=>by rw[aI (abu (aaS (aaU q) hp))];exact n
 there:=λb u q _=>⟨u,k b u q⟩
 fU:=λb xs q=>by rw[aI (cC q hn)];exact q
 ee:=λb u xs q=>by rw[aI (cC q hn)];exact q
 fV:=λb ps q=>⟨#[],by rw[aI (cC q hn),q];simp⟩
theorem Un.write(mu:kD (H x))(he:e=x\/H e=O (.own x))(k:∀b u,b≠e->h.get? b=O u->h'.get? b=O u)(qq:∃u,h'.get? e=O u):Un fs ex H (upd H x o) h h':=by
 have hx:∀b,H b=Z->b≠x:=λb n z=>by subst z;rw[n] at mu;exact mu
 have hb:∀b,H b=Z->b≠e:=λb n z=>by
  subst z
  rcases he with r | r
  ·exact hx b n r
  ·rw[n] at r;cases r
 have hm:∀b u,H b=O u->¬kD (O u)->b≠x:=λb u q nm z=>by subst z;rw[q] at mu;exact nm mu
 refine⟨λb u q n _ _=>k b u (hb b n) q,λb u q n _ _=>⟨u.slots,k b u (hb b n) q⟩,λb u q n _=>by rw[aI (hx b n)];exact n,λb u q _=>?_,
  λb xs q=>by rw[aI (hm b _ q λz=>z)];exact q,λb u xs q=>by rw[aI (hm b _ q λz=>z)];exact q,λb ps q=>⟨#[],by rw[aI (hm b _ q λz=>z),q];simp⟩⟩
 by_cases gm:b=e
 ·subst gm;exact qq
 ·exact⟨u,k b u gm q⟩
end
noncomputable def yu(h:ade)(H:Hp):List Addr:=(abp h.objs.size).filter λa=>(H a).isSome
noncomputable def lx(h:ade)(H:Hp):Heap:=agI h (yu h H)
theorem OF(h:ade)(H:Hp):(lx h H).objs.size=h.objs.size:=PySem.W.hideAll_size _ _
theorem PR{o:Obj}(e:h.get? b=O o)(n:H b=Z):(lx h H).get? b=O o:=
 aey _ e λhm=>by
  have q:(H b).isSome=true:=(abW.mp hm).2;rw[n] at q;simp at q
theorem Q3{o:Obj}(e:(lx h H).get? b=O o):h.get? b=O o/\H b=none:=by
 have e':h.get? b=O o:=ahy (yu h H) e;refine⟨e',?_⟩;cases q:H b with
 | none=>rfl
 | some x=>
  have hm:b∈yu h H:=abW.mpr ⟨abv.mpr (aaU e'),by simp[q]⟩;have z:(lx h H).get? b=none:=PySem.W.hideAll_none (yu h H) hm;rw[z] at e;cases e
noncomputable def Q4(g h:ade)(L:abc):List (abc×Obj):=(abp h.objs.size).filterMap λa=>if a=L\/(g.get? a).isSome=true then Z else(h.get? a).map λo=>(a,o)
noncomputable def rest(g h:ade)(L d:abc):List (abc×Obj):=(Q4 g h L).filter λp=>decide (p.1≠d)
abbrev _root_.dE:=Str->Option abh
structure Mod(K:aaJ)(mg:dE)(base:ade):Prop where
 qr:K.In base
 glob:base.Ns abr mg
 blt:∃mb,base.Ns afv mb/\∀x:Str,x≠"__name__"->mb x=acv x
 nolimit:base.NoLimit
 bm:∃bm ob,mg "__builtins__"=O (.ref bm)/\bm≠afv/\base.get? bm=O ob/\ob.cls=.type "module"/\ob.dict=O afv/\ob.data=.plain
abbrev _root_.a8:=List Str
structure Cx where
 prog:abI
 w:acg
 K:aaJ
 mg:Str->Option abh
 base:ade
 A:acF
 N:a8
 aD:aaR
 aM:Hp
 env:Env
 outer:List Env
 stack:List Env
 ex:List abc
 fn:Str->Bool
 calm:Bool
 pn:List (abc×Obj)
 xe:abh->aaR->Prop
 kp:List (Option V)->Prop
noncomputable def eR(l:List Env):List Addr:=l.filterMap (·.frame)
abbrev Cx.fs(X:Cx):List Addr:=eR X.outer
noncomputable def jP(sc:adB)(x:Str):Prop:=sc.names.lookup x=O .local\/sc.names.lookup x=O .cell\/sc.names.lookup x=O .free
noncomputable def Loc(sc:adB)(x:Str):Prop:=sc.names.lookup x=O .local\/sc.names.lookup x=O .cell
noncomputable def Look(env:Env)(h:ade)(m:dE)(x:Str)(u:abh):Prop:=
 (env.kindOf x=O .local/\m x=O u)\/((env.kindOf x=O .cell\/env.kindOf x=O .free)/\∃c,env.cells.lookup x=O c/\h.IsCell c (O u))
structure Cx.Ok(X:Cx):Prop where
 mod:Mod X.K X.mg X.base
 kind:X.env.scope.kind=.function
 glob:X.env.globals=abr
 blt:X.env.builtins=afv
 above:X.aD.heap.objs.size<=X.env.locals
 inj:∀x y c,X.env.cells.lookup x=O c->X.env.cells.lookup y=O c->x=y
 has:∀x,(X.env.kindOf x=O .cell\/X.env.kindOf x=O .free)->∃c,X.env.cells.lookup x=O c
 qt:∀x c,X.fn x=true->X.env.cells.lookup x=O c->X.aD.heap.objs.size<=c
 hd:X.calm=true->X.A.handled=Z
 frames:X.A.frames=O X.stack
 ue:X.stack=X.outer\/(X.stack=X.env::X.outer/\X.env.frame=O X.env.locals)
 Cz:∀b∈X.ex,b≠X.env.locals/\∀x c,X.env.cells.lookup x=O c->c≠b
 bs:∀b o,X.base.get? b=O o->X.aD.heap.get? b=O o/\X.aM b=Z
 kE:X.base.objs.size<=X.aD.heap.objs.size
 pV:∀b o,X.base.get? b=O o->b∉X.ex
 pW:∀b∈X.ex,b∉X.fs
 gx:X.aD.heap.FunFrames X.base X.outer
 mI:∀b∈X.fs,X.aM b=Z
structure Inv(X:Cx)(pins:List (abc×Obj))(σ:List (Option V))(H:Hp)(s:aaR):Prop where
 ok:X.Ok
 os:s.os=X.aD.os
 bare:ago s.gens
 base:Un X.fs X.ex X.aM H X.aD.heap s.heap
 loc:∃m,s.heap.Ns X.env.locals m/\∀(i:Nat) (x:Str) (v:V),X.N[i]? =O x->σ[i]? =O (O v)->jP X.env.scope x->∃u,RelV v u/\Look X.env s.heap m x u
 cell:∀x c,X.env.cells.lookup x=O c->∃v,s.heap.IsCell c v
 free:H X.env.locals=Z
 gH:∀x c,X.env.cells.lookup x=O c->(X.fn x=true->H c=Z)/\(H c=Z\/∃o,H c=O (.aL o (.ext λ_=>True)))
 pin:∀p∈X.pn++pins,s.heap.get? p.1=O p.2/\H p.1=Z/\p.1≠X.env.locals/\p.1∉X.fs/\∀v,p.2.data≠.cell v
 aB:cS X.prog X.w H s.heap
 lk:σ.length=X.N.length/\X.kp σ
variable{X:Cx}
theorem Inv.len{pins:List (abc×Obj)}{σ:List (Option V)}{s:aaR}(I:Inv X pins σ H s):σ.length=X.N.length:=I.lk.1
noncomputable def jG(X:Cx)(x:Str):Prop:=∀i,X.N[i]? =O x->∀(σ:List (Option V)) (o:Option V),X.kp σ->X.kp (σ.set i o)
section
variable{X:Cx}{pins:List (abc×Obj)}{σ:List (Option V)}{H H':Hp}{s:aaR}{h':ade}
theorem Cx.Ok.YJ(ok:X.Ok){b:abc}{o:Obj}(e:X.base.get? b=O o):b∉X.fs:=λhb=>by
 have:=(ok.gx.mem hb).1;rw[e] at this;cases this
theorem Inv.bs(I:Inv X pins σ H s):∀b o,X.base.get? b=O o->s.heap.get? b=O o/\H b=none:=λb o e=>
 ⟨I.base.keep b o (I.ok.bs b o e).1 (I.ok.bs b o e).2 (I.ok.YJ e) (I.ok.pV b o e),I.base.free b o (I.ok.bs b o e).1 (I.ok.bs b o e).2 (I.ok.pV b o e)⟩
theorem Inv.bk(I:Inv X pins σ H s):∀b o,X.base.get? b=O o->s.heap.get? b=O o:=λb o e=>(I.bs b o e).1
theorem Inv.mod(I:Inv X pins σ H s):Mod X.K X.mg X.base:=I.ok.mod
theorem Inv.gn(I:Inv X pins σ H s):X.K.In s.heap:=I.ok.mod.qr.keeps I.bk
theorem Inv.nolimit(I:Inv X pins σ H s):s.heap.NoLimit:=I.ok.mod.nolimit.keeps I.bk
theorem Inv.lt(I:Inv X pins σ H s):X.env.locals<s.heap.objs.size:=let ⟨_,hn,_⟩:=I.loc;hn.lt
theorem Inv.sz(I:Inv X pins σ H s):X.aD.heap.objs.size<=s.heap.objs.size:=abw I.ok.above (aeB I.lt)
theorem Inv.YK(I:Inv X pins σ H s){a:abc}(h:s.heap.objs.size<=a):a∉X.fs:=λhb=>by
 obtain⟨_,o,ho,_⟩:=I.ok.gx.mem hb;exact absurd (aaS (aaU ho) (abw I.sz h)) (acR _)
theorem Inv.lG(I:Inv X pins σ H s):∀x c,X.env.cells.lookup x=O c->c≠X.env.locals:=λx c e z=>by
 obtain⟨v,o,ho,hd⟩:=I.cell x c e;obtain⟨m,⟨o',es,ep,fk,gp,_⟩,_⟩:=I.loc;rw[z,fk] at ho;cases ho;rw[gp] at hd;cases hd
theorem Inv.gx(I:Inv X pins σ H s):s.heap.FunFrames X.base X.outer:=by
 have all:∀(l:List Env),(∀b∈eR l,b∈X.fs)->X.aD.heap.FunFrames X.base l->s.heap.FunFrames X.base l:=by
  intro l
  induction l with
  | nil=>intro _ _;trivial
  | cons env r ih=>
   intro hs hl;obtain⟨hk,⟨L,o,hf,hn,ho,hd⟩,hr⟩:=hl;have hL:L∈X.fs:=hs L (by unfold eR;rw[abM,hf];exact abo);obtain⟨sl,e⟩:=I.base.slot L o ho (I.ok.mI L hL) hL λz=>I.ok.pW L z hL
   exact⟨hk,⟨L,_,hf,hn,e,hd⟩,ih (λb hb=>hs b (by unfold eR;rw[abM,hf];exact aba _ hb)) hr⟩
 exact all X.outer (λ_ hb=>hb) I.ok.gx
theorem Inv.stack(I:Inv X pins σ H s):s.heap.FunFrames X.base X.stack:=by
 rcases I.ok.ue with e | ⟨e,hf⟩
 ·rw[e];exact I.gx
 ·rw[e];obtain⟨m,hn,_⟩:=I.loc;refine .cons (by rw[I.ok.kind];decide) hf hn ?_ I.gx;exact ahc (abw I.ok.kE I.ok.above)
theorem Inv.sr(I:Inv X pins σ H s):∀b∈eR X.stack,b∈X.env.locals::X.fs:=λb hb=>by
 rcases I.ok.ue with e | ⟨e,hf⟩
 ·rw[e] at hb;exact aba _ hb
 ·rw[e] at hb;unfold eR at hb;rw[abM,hf] at hb;exact hb
theorem Inv.wZ(I:Inv X pins σ H s):∀b∈eR X.stack,H b=none:=λb hb=>by
 rcases abk.mp (I.sr b hb) with e | hb
 ·rw[e];exact I.free
 ·obtain⟨_,o,ho,_⟩:=I.ok.gx.mem hb;exact I.base.free b o ho (I.ok.mI b hb) λz=>I.ok.pW b z hb
variable{t':Nat}{ch:List abc}
theorem Inv.step{g':Array GenState}{d':Drawn}(I:Inv X pins σ H s)(kF:∀b∈ch,(b∈X.ex\/X.aD.heap.objs.size<=b)/\b≠X.env.locals/\(∀x c,X.env.cells.lookup x=O c->c≠b)/\∀p∈X.pn++pins,p.1≠b)(keep:∀b o,b≠X.env.locals->b∉X.fs->b∉ch->s.heap.get? b=O o->H b=Z->h'.get? b=O o)(slot:∀b o,b≠X.env.locals->b∈X.fs->b∉ch->s.heap.get? b=O o->H b=Z->∃sl,h'.get? b=O { o with slots:=sl })(free:∀b o,b∉ch->s.heap.get? b=O o->H b=Z->H' b=Z)
  (there:∀b o,b∉ch->s.heap.get? b=O o->∃o',h'.get? b=O o')
  (fU:∀b xs,H b=O (.tup xs)->H' b=O (.tup xs)) (ee:∀b o u,H b=O (.aL o u)->H' b=O (.aL o u)) (fV:∀b ps,H b=O (.cW ps)->∃more,H' b=O (.cW (ps++more)))
  (ns:∀m,s.heap.Ns X.env.locals m->h'.Ns X.env.locals m) (aB:cS X.prog X.w H' h') (hg:ago g') :
  Inv X pins σ H' { s with heap:=h',gens:=g',drawn:=d',toks:=t' }:=by
 have ug:∀b o,X.aD.heap.get? b=O o->b≠X.env.locals:=λb o e=>abu (aaS (aaU e) I.ok.above)
 have oA:∀b o,X.aD.heap.get? b=O o->b∉X.ex->b∉ch:=λb o e hx hb=>by
  rcases(kF b hb).1 with z | z
  ·exact hx z
  ·exact absurd (aaS (aaU e) z) (acR _)
 have cellK:∀x c,X.env.cells.lookup x=O c->∀v,s.heap.IsCell c v->h'.IsCell c v:=λx c e v ⟨o,ho,hd⟩=>by
  have mJ:c∉ch:=λz=>(kF c z).2.2.1 x c e rfl
  rcases(I.gH x c e).2 with fr | ⟨ob,fr⟩
  ·by_cases hc:c∈X.fs
   ·obtain⟨sl,q⟩:=slot c o (I.lG x c e) hc mJ ho fr;exact⟨_,q,hd⟩
   ·exact⟨o,keep c o (I.lG x c e) hc mJ ho fr,hd⟩
  ·have e1:s.heap.get? c=O ob:=(I.aB c _ fr).1;have e2:h'.get? c=O ob:=(aB c _ (ee c _ _ fr)).1;rw[ho] at e1;cases e1;exact⟨o,e2,hd⟩
 refine⟨I.ok,I.os,hg,⟨λb o e n hb hx=>?_,λb o e n hb hx=>?_,λb o e n hx=>?_,λb o e hx=>?_,λb xs e=>fU b xs (I.base.fU b xs e),λb o xs e=>ee b o xs (I.base.ee b o xs e),λb ps e=>?_⟩,?_,λx c e=>?_,?_,λx c e=>?_,λp hp=>?_,aB,I.lk⟩
 ·exact keep b o (ug b o e) hb (oA b o e hx) (I.base.keep b o e n hb hx) (I.base.free b o e n hx)
 ·obtain⟨sl,e1⟩:=I.base.slot b o e n hb hx;obtain⟨sl',e2⟩:=slot b _ (ug b o e) hb (oA b o e hx) e1 (I.base.free b o e n hx);exact⟨sl',e2⟩
 ·obtain⟨o',e1⟩:=I.base.there b o e hx;exact free b o' (oA b o e hx) e1 (I.base.free b o e n hx)
 ·obtain⟨o',e1⟩:=I.base.there b o e hx;exact there b o' (oA b o e hx) e1
 ·obtain⟨m1,e1⟩:=I.base.fV b ps e;obtain⟨m2,e2⟩:=fV b _ e1;exact⟨m1++m2,by rw[e2,afM]⟩
 ·obtain⟨m,hn,hl⟩:=I.loc;refine⟨m,ns m hn,λi x v e1 e2 e3=>?_⟩;obtain⟨u,r,l⟩:=hl i x v e1 e2 e3;refine⟨u,r,?_⟩
  rcases l with l | ⟨k,c,e,z⟩
  ·exact .inl l
  ·exact .inr ⟨k,c,e,cellK x c e _ z⟩
 ·obtain⟨v,z⟩:=I.cell x c e;exact⟨v,cellK x c e v z⟩
 ·obtain⟨m,⟨o,_,_,ho,_⟩,_⟩:=I.loc;exact free _ o (λz=>(kF _ z).2.1 rfl) ho I.free
 ·obtain⟨v,o,ho,hd⟩:=I.cell x c e;have mJ:c∉ch:=λz=>(kF c z).2.2.1 x c e rfl
  exact⟨λhf=>free c o mJ ho ((I.gH x c e).1 hf),(I.gH x c e).2.imp (λfr=>free c o mJ ho fr) λ⟨ob,fr⟩=>⟨ob,ee c _ _ fr⟩⟩
 ·obtain⟨e,n,ne,nf,d⟩:=I.pin p hp;have mJ:p.1∉ch:=λz=>(kF p.1 z).2.2.2 p hp rfl
  exact⟨keep p.1 p.2 ne nf mJ e n,free p.1 p.2 mJ e n,ne,nf,d⟩
theorem Inv.un(I:Inv X pins σ H s)(u:Un X.fs [] H H' s.heap h')(aB:cS X.prog X.w H' h'):Inv X pins σ H' { s with heap:=h',toks:=t' }:=by
 obtain⟨m,⟨o,es,ep,ho,r⟩,_⟩:=id I.loc;obtain⟨sl,hL⟩:=u.any ho I.free (by simp);exact I.step (g':=s.gens) (d':=s.drawn) (ch:=[]) (λ_ z=>nomatch z) (λb o _ hb _ e n=>u.keep b o e n hb (by simp)) (λb o _ hb _ e n=>u.slot b o e n hb (by simp)) (λb o _ e n=>u.free b o e n (by simp)) (λb o _ e=>u.there b o e (by simp)) u.fU u.ee u.fV (λm' hm=>by
  obtain⟨o',es',lH,fk,r'⟩:=hm;rw[ho] at fk;cases fk;exact⟨_,es',lH,hL,r'⟩) aB I.bare
theorem Inv.call{g':Array GenState}{d':Drawn}(I:Inv X pins σ H s)(u:Un (eR X.stack) ch H H' s.heap h')(aB:cS X.prog X.w H' h')(hg:ago g')(kF:∀b∈ch,(b∈X.ex\/X.aD.heap.objs.size<=b)/\b≠X.env.locals/\(∀x c,X.env.cells.lookup x=O c->c≠b)/\∀p∈X.pn++pins,p.1≠b):Inv X pins σ H' { s with heap:=h',gens:=g',drawn:=d',toks:=t' }:=by
 obtain⟨m,⟨o,es,ep,ho,r⟩,_⟩:=id I.loc;obtain⟨sl,hL⟩:=u.any ho I.free λz=>(kF _ z).2.1 rfl
 exact I.step (ch:=ch) kF (λb o hL hb hc e n=>u.keep b o e n (λz=>(abk.mp (I.sr b z)).elim hL hb) hc) (λb o _ _ hc e n=>u.any e n hc) (λb o hc e n=>u.free b o e n hc) (λb o hc e=>u.there b o e hc) u.fU u.ee u.fV (λm' hm=>by
  obtain⟨o',es',lH,fk,r'⟩:=hm;rw[ho] at fk;cases fk;exact⟨_,es',lH,hL,r'⟩) aB hg
theorem Inv.turned{it:abc}(I:Inv X pins σ H s)(k:∀b o,b≠it->s.heap.get? b=O o->h'.get? b=O o)(hn:H it=Z)(hL:it≠X.env.locals)(h1:it∈X.ex\/X.aD.heap.objs.size<=it)(h2:∀x c,X.env.cells.lookup x=O c->c≠it)(h3:∀p∈X.pn++pins,p.1≠it):Inv X pins σ H { s with heap:=h',toks:=t' }:=by
 have mK:∀b u,H b=O u->b≠it:=λb u e z=>by rw[z,hn] at e;cases e
 refine I.step (g':=s.gens) (d':=s.drawn) (ch:=[it]) (λb hb=>?_) (λb o _ _ hc e _=>k b o (λz=>hc (by simp[z])) e) (λb o _ _ hc e _=>⟨o.slots,k b o (λz=>hc (by simp[z])) e⟩) (λ_ _ _ _ n=>n)
  (λb o hc e=>⟨o,k b o (λz=>hc (by simp[z])) e⟩) (λ_ _ e=>e) (λ_ _ _ e=>e) (λb ps e=>⟨#[],by rw[e];simp⟩) (λm hm=>?_) (λb u e=>?_) I.bare
 ·have e:b=it:=by simpa using hb
  subst e;exact⟨h1,hL,h2,h3⟩
 ·obtain⟨o,es,ep,ho,r⟩:=hm;exact⟨o,es,ep,k _ o (adh hL) ho,r⟩
 ·refine(I.aB b u e).gL (λc v hc q=>k c v ?_ q) (λ_ q=>q) λ_ _ q=>q
  rcases hc with z | z
  ·rw[z];exact mK b u e
  ·exact mK c _ z
theorem Inv.tok(I:Inv X pins σ H s)(t:Nat):Inv X pins σ H { s with toks:=t }:=I.un (h':=s.heap) (t':=t) Un.refl I.aB
theorem Inv.kept{t':Nat}(I:Inv X pins σ H s)(k:∀b u,s.heap.get? b=O u->h'.get? b=O u):Inv X pins σ H { s with heap:=h',toks:=t' }:=I.un (Un.kept k) (I.aB.kept k)
theorem Inv.laid{a:abc}{o:HO}{t':Nat}(I:Inv X pins σ H s)(k:∀b u,s.heap.get? b=O u->h'.get? b=O u)(hp:s.heap.objs.size<=a)(new:cY X.prog X.w (upd H a o) h' a o):Inv X pins σ (upd H a o) { s with heap:=h',toks:=t' }:=I.un (Un.laid k hp (I.aB.fresh hp)) (I.aB.laid k hp new)
theorem Inv.write{x e:abc}{o:HO}{t':Nat}(I:Inv X pins σ H s)(mu:kD (H x))(he:e=x\/H e=O (.own x))(k:∀b u,b≠e->s.heap.get? b=O u->h'.get? b=O u)(qq:∃u,h'.get? e=O u)(new:cY X.prog X.w (upd H x o) h' x o):Inv X pins σ (upd H x o) { s with heap:=h',toks:=t' }:=I.un (Un.write mu he k qq) (I.aB.write mu he k qq new)
theorem Inv.Gr{IC:List (abc×Obj)}(I:Inv X pins σ H s)(h:∀p∈IC,s.heap.get? p.1=O p.2/\H p.1=Z/\p.1≠X.env.locals/\p.1∉X.fs/\∀v,p.2.data≠.cell v):Inv X IC σ H s:=
 ⟨I.ok,I.os,I.bare,I.base,I.loc,I.cell,I.free,I.gH,λp hp=>(abF.mp hp).elim (λz=>I.pin p (abQ _ z)) (h p),I.aB,I.lk⟩
variable{i:Nat}
theorem FD{N:a8}(hN:N.Nodup){j:Nat}{x:Str}(a:N[i]? =O x)(b:N[j]? =O x):i=j:=by
 obtain⟨h1,e1⟩:=aaG.mp a;obtain⟨h2,e2⟩:=aaG.mp b;exact(List.getElem_inj hN).mp (e1.trans e2.symm)
theorem EQ{M:Model}{A:acF}{E:bR}{x:Str}{v:V}{u:abh}{Q:Unit->aaR->Prop}(I:Inv X pins σ H s)(hN:X.N.Nodup)(hi:X.N[i]? =O x)(hx:Loc X.env.scope x)(r:RelV v u)(h:∀s',Inv X pins (σ.set i (O v)) H s'->(∃a,aed a s.heap s'.heap/\(a=X.env.locals\/X.env.cells.lookup x=O a))->Q () s')(hf:(X.fn x=true\/X.env.scope.names.lookup x=O .local)/\jG X x):abj M A (storeName X.env x u) Q E s:=by
 obtain⟨m,hn,hl⟩:=id I.loc;have B1:(X.env.scope.kind==.class||(X.env.scope.kind==.module&&X.env.locals != X.env.globals))=false:=by rw[I.ok.kind];rfl
 have Ke:i<σ.length:=by rw[I.len];exact(aaG.mp hi).1
 have lG:=I.lG;have tracked:∀{a:abc} {h':ade},(∃o,s.heap.get? a=O o/\H a=Z)->aed a s.heap h'->cS X.prog X.w H h':=λ{a h'} ha hs b ob e=>by
  obtain⟨_,_,ID⟩:=ha;refine(I.aB b ob e).gL (λc w' hc q=>(hs.2 c ?_).trans q) (λ_ q=>q) λ_ _ q=>q
  rintro rfl
  rcases hc with rfl | hc
  ·rw[ID] at e;cases e
  ·rw[ID] at hc;cases hc
 rcases hx with hk | hk
 ·refine wpAny_storeName_local hk hn (λh' hn' hs=>?_) B1;obtain⟨oL,_,_,hoL,_⟩:=id hn;refine h _ ⟨I.ok,I.os,I.bare,⟨λb o e n hb hx=>?_,λb o e n hb hx=>?_,I.base.free,λb o e hx=>?_,I.base.fU,I.base.ee,I.base.fV⟩,⟨_,hn',λj y v' e1 e2 e3=>?_⟩,λy c e=>?_,I.free,I.gH,λp hp=>?_,tracked ⟨oL,hoL,I.free⟩ hs,⟨by simpa using I.len,hf.2 i hi σ (O v) I.lk.2⟩⟩ ⟨_,hs,.inl rfl⟩
  ·exact(hs.2 b (abu (aaS (aaU e) I.ok.above))).trans (I.base.keep b o e n hb hx)
  ·obtain⟨sl,e1⟩:=I.base.slot b o e n hb hx;exact⟨sl,(hs.2 b (abu (aaS (aaU e) I.ok.above))).trans e1⟩
  ·obtain⟨o',e1⟩:=I.base.there b o e hx;exact⟨o',(hs.2 b (abu (aaS (aaU e) I.ok.above))).trans e1⟩
  ·by_cases hj:j=i
   ·subst hj;rw[hi] at e1;cases e1;rw[abL Ke] at e2;cases e2;exact⟨u,r,.inl ⟨hk,by simp⟩⟩
   ·rw[ace (adh hj)] at e2;obtain⟨u',r',q⟩:=hl j y v' e1 e2 e3;refine⟨u',r',?_⟩
    rcases q with⟨k,e⟩ | ⟨k,c,e,z⟩
    ·refine .inl ⟨k,?_⟩;have:y≠x:=λe=>hj (FD hN e1 (e▸hi))
     simp[this,e]
    ·exact .inr ⟨k,c,e,z.sameBut hs (lG y c e)⟩
  ·obtain⟨w',z⟩:=I.cell y c e;exact⟨w',z.sameBut hs (lG y c e)⟩
  ·obtain⟨e,n,ne,nf,d⟩:=I.pin p hp;exact⟨(hs.2 p.1 ne).trans e,n,ne,nf,d⟩
 ·have jg:X.fn x=true:=by
   rcases hf.1 with z | z
   ·exact z
   ·rw[z] at hk;cases hk
  obtain⟨c,hc⟩:=I.ok.has x (.inl hk);obtain⟨w',z⟩:=I.cell x c hc;refine wpAny_storeName_cell I.ok.kind hk hc z (λh' dX hs=>?_);obtain⟨oc,Kf,YL⟩:=id z;refine h { s with heap:=h' } ⟨I.ok,I.os,I.bare,⟨λb o e n hb hx=>?_,λb o e n hb hx=>?_,I.base.free,λb o e hx=>?_,I.base.fU,I.base.ee,I.base.fV⟩,⟨m,hn.sameBut hs (adh (lG x c hc)),λj y v' e1 e2 e3=>?_⟩,λy c' e=>?_,I.free,I.gH,λp hp=>?_,tracked ⟨oc,Kf,(I.gH x c hc).1 jg⟩ hs,⟨by simpa using I.len,hf.2 i hi σ (O v) I.lk.2⟩⟩ ⟨c,hs,.inr hc⟩
  ·exact(hs.2 b (abu (aaS (aaU e) (I.ok.qt x c jg hc)))).trans (I.base.keep b o e n hb hx)
  ·obtain⟨sl,e1⟩:=I.base.slot b o e n hb hx;exact⟨sl,(hs.2 b (abu (aaS (aaU e) (I.ok.qt x c jg hc)))).trans e1⟩
  ·obtain⟨o',e1⟩:=I.base.there b o e hx;exact⟨o',(hs.2 b (abu (aaS (aaU e) (I.ok.qt x c jg hc)))).trans e1⟩
  ·by_cases hj:j=i
   ·subst hj;rw[hi] at e1;cases e1;rw[abL Ke] at e2;cases e2;exact⟨u,r,.inr ⟨.inl hk,c,hc,dX⟩⟩
   ·rw[ace (adh hj)] at e2;obtain⟨u',r',q⟩:=hl j y v' e1 e2 e3;refine⟨u',r',?_⟩
    rcases q with q | ⟨k,c',e,z'⟩
    ·exact .inl q
    ·refine .inr ⟨k,c',e,z'.sameBut hs ?_⟩;rintro rfl;exact hj (FD hN e1 (I.ok.inj _ _ _ e hc▸hi))
  ·by_cases qu:c'=c
   ·subst qu;exact⟨_,dX⟩
   ·obtain⟨w2,z2⟩:=I.cell y c' e;exact⟨w2,z2.sameBut hs qu⟩
  ·obtain⟨e,n,ne,nf,d⟩:=I.pin p hp;refine⟨(hs.2 p.1 ?_).trans e,n,ne,nf,d⟩;intro q;rw[q,Kf] at e;have q':oc=p.2:=abE e;exact d w' (by rw[<- q'];exact YL)
theorem Af{M:Model}{A:acF}{E:bR}{x:Str}{v:V}{u:abh}{Q:Unit->aaR->Prop}(I:Inv X pins σ H s)(hN:X.N.Nodup)(hi:X.N[i]? =O x)(hx:Loc X.env.scope x)(r:RelV v u)(h:∀s',Inv X pins (σ.set i (O v)) H s'->Q () s')(hf:(X.fn x=true\/X.env.scope.names.lookup x=O .local)/\jG X x):abj M A (storeName X.env x u) Q E s:=
 EQ I hN hi hx r (λs' I' _=>h s' I') hf
theorem Inv.WK{s':aaR}(I:Inv X pins σ H s)(ho:s'.os=s.os)(u:Un (eR X.stack) ch H H' s.heap s'.heap)(aB:cS X.prog X.w H' s'.heap)(hg:ago s'.gens)(kF:∀b∈ch,(b∈X.ex\/X.aD.heap.objs.size<=b)/\b≠X.env.locals/\(∀x c,X.env.cells.lookup x=O c->c≠b)/\∀p∈X.pn++pins,p.1≠b):Inv X pins σ H' s':=by
 obtain⟨h',g',d',t',o'⟩:=s';have e:o'=s.os:=ho;subst e;exact I.call (g':=g') (t':=t') (d':=d') u aB hg kF
end
abbrev XK:=abh->Option abc->Hp->Prop
abbrev St:=List (Option V)
abbrev VK:=V->Hp->Prop
abbrev TE:=St->Hp->VK->Prop
abbrev TT:=St->Hp->(Bool->Hp->Prop)->Prop
abbrev TA:=St->Hp->(aE->Hp->Prop)->Prop
structure Ends where
 nx:St->Hp->Prop
 rt:VK
 bk:St->Hp->Prop:=λ_ _=>False
 ct:St->Hp->Prop:=λ_ _=>False
abbrev TS:=Ends->St->Hp->Prop
noncomputable def EP(X:Cx)(pins:List (abc×Obj))(σ:St)(Q:VK)(u:abh)(s':aaR):Prop:=∃v H',Inv X pins σ H' s'/\RelV v u/\Q v H'
noncomputable def TP(X:Cx)(pins:List (abc×Obj))(σ:St)(Q:Bool->Hp->Prop)(b:Bool)(s':aaR):Prop:=∃H',Inv X pins σ H' s'/\Q b H'
noncomputable def AP(X:Cx)(pins:List (abc×Obj))(σ:St)(Q:aE->Hp->Prop)(us:aT)(s':aaR):Prop:=∃vs H',Inv X pins σ H' s'/\Vals vs us/\Q vs H'
noncomputable def SP(X:Cx)(pins:List (abc×Obj))(D:Ends)(f:Flow)(s':aaR):Prop:=
 match f with
 | .next=>∃aj H',Inv X pins aj H' s'/\D.nx aj H'
 | .brk=>∃aj H',Inv X pins aj H' s'/\D.bk aj H'
 | .cont=>∃aj H',Inv X pins aj H' s'/\D.ct aj H'
 | .ret u=>∃v aj H',Inv X pins aj H' s'/\RelV v u/\D.rt v H'
noncomputable def PE(X:Cx)(e:acJ)(t:TE):Prop:=
 ∀(pins:List (abc×Obj)) (s:aaR) (σ:St) (H:Hp) (Q:VK),Inv X pins σ H s->t σ H Q->abj (abG X.prog X.w) X.A (aez e X.env) (EP X pins σ Q) X.xe s
noncomputable def PT(X:Cx)(e:acJ)(t:TT):Prop:=
 ∀(pins:List (abc×Obj)) (s:aaR) (σ:St) (H:Hp) (Q:Bool->Hp->Prop),Inv X pins σ H s->t σ H Q->abj (abG X.prog X.w) X.A (isTrue e X.env (aez e X.env)) (TP X pins σ Q) X.xe s
noncomputable def PW(X:Cx)(e:acJ)(t:TT):Prop:=
 ∀(whole:Sem abh) (pins:List (abc×Obj)) (s:aaR) (σ:St) (H:Hp) (Q:Bool->Hp->Prop),Inv X pins σ H s->t σ H Q->abj (abG X.prog X.w) X.A (isTrue e X.env whole) (TP X pins σ Q) X.xe s
theorem PW.pt{e:acJ}{t:TT}(h:PW X e t):PT X e t:=h _
abbrev _root_.cc:=List acJ
noncomputable def PA(X:Cx)(es:cc)(t:TA):Prop:=
 ∀(pos:Pos) (pins:List (abc×Obj)) (s:aaR) (σ:St) (H:Hp) (Q:aE->Hp->Prop),Inv X pins σ H s->t σ H Q->abj (abG X.prog X.w) X.A (spliced (afd pos (abB es X.env))) (AP X pins σ Q) X.xe s
noncomputable def PS(X:Cx)(st:ahH)(t:TS):Prop:=
 ∀(pins:List (abc×Obj)) (s:aaR) (σ:St) (H:Hp) (D:Ends),Inv X pins σ H s->t D σ H->abj (abG X.prog X.w) X.A (exec st X.env) (SP X pins D) X.xe s
abbrev _root_.eN:=List ahH
noncomputable def gO(X:Cx)(st:eN)(t:TS):Prop:=
 ∀(pins:List (abc×Obj)) (s:aaR) (σ:St) (H:Hp) (D:Ends),Inv X pins σ H s->t D σ H->abj (abG X.prog X.w) X.A (execs st X.env) (SP X pins D) X.xe s
variable{A:acF}
theorem aY{α:Type}{t:Sem α}{Q Q':α->aaR->Prop}{M:Model}{E:bR}{s:aaR}(h:abj M A t Q E s)(hQ:∀a s,Q a s->Q' a s):abj M A t Q' E s:=acp h hQ λ_ _ x=>x
section
variable{X:Cx}
variable{σ:St}{H:Hp}
theorem bin{a b:acJ}{ta tb:TE}(ha:PE X a ta)(hb:PE X b tb){pins:List (abc×Obj)}{s:aaR}{R:V->V->Hp->Prop}(I:Inv X pins σ H s)(h:ta σ H λx H1=>tb σ H1 λy H2=>R x y H2){α:Type}{Q:α->aaR->Prop}{f:abh->abh->Sem α}(hf:∀v u s2 x y H2,Inv X pins σ H2 s2->RelV x v->RelV y u->R x y H2->abj (abG X.prog X.w) X.A (f v u) Q X.xe s2):abj (abG X.prog X.w) X.A (aez a X.env) (λv bT=>abj (abG X.prog X.w) X.A (aez b X.env) (λu kX=>abj (abG X.prog X.w) X.A (f v u) Q X.xe kX) X.xe bT) X.xe s:=by
 refine aY (ha pins s σ H _ I h) λv s1 ⟨x,H1,I1,r1,q1⟩=>?_
 refine aY (hb pins s1 σ H1 _ I1 q1) λu s2 ⟨y,H2,I2,r2,q2⟩=>?_
 exact hf v u s2 x y H2 I2 r1 r2 q2
noncomputable def YM(i:Nat):TE:=λσ H Q=>∃v,σ[i]? =O (O v)/\Q v H
noncomputable def tC(v:V):TE:=λ_ H Q=>Q v H
theorem Hj{i:Nat}{x:Str}{pos:Pos}(hN:X.N[i]? =O x)(hv:jP X.env.scope x)(hd:(x==("__debug__":Str))=false:=by decide)(hcd:(x==("__classdict__":Str))=false:=by decide):PE X (.Name x pos) (YM i):=by
 intro pins s σ H Q I h;obtain⟨v,e,h⟩:=h;obtain⟨m,hn,hl⟩:=I.loc;obtain⟨u,r,l⟩:=hl i x v hN e hv;have fin:EP X pins σ Q u s:=⟨v,H,I,r,h⟩
 rcases l with⟨hk,hm⟩ | ⟨hk,c,hc,kh⟩
 ·exact wpAny_Name (wpAny_loadName_local I.ok.kind hk hn hm fin) hd
 ·rcases hk with hk | hk
  ·exact wpAny_Name (wpAny_loadName_cell I.ok.kind hk hc kh fin) hd
  ·exact wpAny_Name (wpAny_loadName_free I.ok.kind hk hc kh fin hcd) hd
theorem Tv{i j pos}:PE X (.Constant (.int i) j pos) (tC (.int i)):=λ_ _ _ H _ I h=>wpAny_Constant_int ⟨.int i,H,I.tok _,⟨_,rfl⟩,h⟩
theorem WL{b j pos}:PE X (.Constant (.bool b) j pos) (tC (.bl b)):=λ_ _ _ H _ I h=>Constant_bool ⟨.bl b,H,I,rfl,h⟩
theorem Tw{j pos}:PE X (.Constant .none j pos) (tC .aH):=λ_ _ _ H _ I h=>Constant_none ⟨.aH,H,I,rfl,h⟩
theorem Tz{x j pos}:PE X (.Constant (.str x) j pos) (tC (.str x)):=λ_ _ _ H _ I h=>Calls.Constant_str ⟨.str x,H,I.tok _,⟨_,rfl⟩,h⟩
noncomputable def Gl(X:Cx)(x:Str):Prop:=X.env.kindOf x=O .globalImplicit
variable{u:abh}
theorem Gs{E:bR}{pins:List (abc×Obj)}{s:aaR}{x:Str}{pos:Pos}{Q:bR}(I:Inv X pins σ H s)(hg:Gl X x)(hm:X.mg x=O u)(h:Q u s)(hd:(x==("__debug__":Str))=false:=by decide):abj (abG X.prog X.w) X.A (aez (.Name x pos) X.env) Q E s:=
 afH I.ok.kind hg (Calls.loadGlobal_global (by rw[I.ok.glob];exact I.mod.glob.keeps I.bk) hm h) hd
theorem pC{E:bR}{pins:List (abc×Obj)}{s:aaR}{x:Str}{pos:Pos}{Q:bR}(I:Inv X pins σ H s)(hg:Gl X x)(hm:X.mg x=Z)(hv:acv x=O u)(h:Q u s)(hn:x≠"__name__":=by decide)(hd:(x==("__debug__":Str))=false:=by decide):abj (abG X.prog X.w) X.A (aez (.Name x pos) X.env) Q E s:=by
 obtain⟨mb,h1,h2⟩:=I.mod.blt;exact afH I.ok.kind hg (Calls.loadGlobal_builtin (by rw[I.ok.glob];exact I.mod.glob.keeps I.bk) hm (by rw[I.ok.blt];exact h1.keeps I.bk) ((h2 x hn).trans hv) h) hd
theorem Q5{x:Str}{v:V}{pos:Pos}(hg:Gl X x)(hm:X.mg x=Z)(hv:acv x=O u)(r:RelV v u)(hn:x≠"__name__":=by decide)(hd:(x==("__debug__":Str))=false:=by decide):PE X (.Name x pos) (tC v):=
 λ_ _ _ H _ I h=>pC I hg hm hv ⟨v,H,I,r,h⟩ hn hd
variable{a b:acJ}{ta tb:TE}{pos:Pos}
noncomputable def tB(t:TE):TT:=λσ H Q=>t σ H λx H1=>∃c,x=.bl c/\Q c H1
variable{tA yv:TT}{rest:cc}
noncomputable def xW(t u:TT):TT:=λσ H Q=>t σ H λc H1=>if c=true then u σ H1 Q else Q false H1
noncomputable def kG(t u:TT):TT:=λσ H Q=>t σ H λc H1=>if c=true then Q true H1 else u σ H1 Q
noncomputable def YN(t:TT):TT:=λσ H Q=>t σ H λc H1=>Q (!c) H1
theorem Q6(ha:PT X a tA):PW X (.BoolOp .And [a] pos) tA:=by
 intro wh pins s σ H Q I h;refine isTrue_and (aY (ha pins s σ H Q I h) λc s1 e=>?_);cases c with
 | true=>exact isTrue_and_nil e
 | false=>exact e
theorem TB(ha:PT X a tA):PW X (.BoolOp .Or [a] pos) tA:=by
 intro wh pins s σ H Q I h;refine isTrue_or (aY (ha pins s σ H Q I h) λc s1 e=>?_);cases c with
 | false=>exact isTrue_or_nil e
 | true=>exact e
theorem TC(ha:PT X a tA)(hb:PW X (.BoolOp .And (b::rest) pos) yv):PW X (.BoolOp .And (a::b::rest) pos) (xW tA yv):=by
 intro wh pins s σ H Q I h;refine isTrue_and (aY (ha pins s σ H _ I h) λc s1 ⟨H1,I1,q1⟩=>?_);cases c with
 | true=>exact hb wh pins s1 σ H1 Q I1 q1
 | false=>exact⟨H1,I1,q1⟩
theorem WM(ha:PT X a tA)(hb:PW X (.BoolOp .Or (b::rest) pos) yv):PW X (.BoolOp .Or (a::b::rest) pos) (kG tA yv):=by
 intro wh pins s σ H Q I h;refine isTrue_or (aY (ha pins s σ H _ I h) λc s1 ⟨H1,I1,q1⟩=>?_);cases c with
 | true=>exact⟨H1,I1,q1⟩
 | false=>exact hb wh pins s1 σ H1 Q I1 q1
theorem TF(ha:PT X a tA):PT X (.UnaryOp .Not a pos) (YN tA):=by
 intro pins s σ H Q I h;exact isTrue_not (ha pins s σ H (λc H1=>Q (!c) H1) I h)
noncomputable def WN(ta tb:TE):TE:=λσ H Q=>ta σ H λx H1=>∃c,x=.bl c/\if c=true then tb σ H1 Q else Q (.bl false) H1
theorem TH{op}{t:TE}(h:PE X a t):PE X (.BoolOp op [a] pos) t:=λpins s σ H Q I hw=>BoolOp_one (h pins s σ H Q I hw)
theorem TJ(ha:PE X a ta)(hb:PE X (.BoolOp .And (b::rest) pos) tb):PE X (.BoolOp .And (a::b::rest) pos) (WN ta tb):=by
 intro pins s σ H Q I h;refine BoolOp_and (aY (ha pins s σ H _ I h) λv s1 ⟨x,H1,I1,r1,q1⟩=>?_);obtain⟨c,rfl,q1⟩:=q1;cases r1;refine acL ?_;cases c with
 | true=>exact hb pins s1 σ H1 Q I1 q1
 | false=>exact⟨.bl false,H1,I1,rfl,q1⟩
end
noncomputable def bH(K:aaJ)(H:Hp)(a:abc)(xs:aE):Prop:=
 Rd H a (.lst xs) \/
  ∃(o:Obj) (its:eM) (n:Nat),K.lookup a=O o/\o.cls=.type "list"/\o.dict=Z/\o.data=.seq its n/\its.size<=abd/\Vals xs its.toList
noncomputable def cI(K:aaJ)(H:Hp)(a:abc)(xs:aE):Prop:=
 Rd H a (.tup xs) \/
  ∃(o:Obj) (its:eM) (n:Nat),K.lookup a=O o/\o.cls=.type "tuple"/\o.data=.seq its n/\its.size<=abd/\Vals xs its.toList
noncomputable def YO:abh->Option V
 | .none=>O .aH
 | .bool b=>O (.bl b)
 | .int i _=>O (.int i)
 | .str x _=>O (.str x)
 | .bytes b _=>O (.ud b)
 | .float b _=>O (.Cw b)
 | .ref a=>O (.ref a)
 | .type n=>O (.ty n)
 | _=>Z
theorem RelV.abs{x:V}{u:abh}(r:RelV x u):YO u=O x:=by
 cases x with
 | aH=>cases r;rfl
 | bl _=>cases r;rfl
 | int _=>obtain⟨t,rfl⟩:=r;rfl
 | str _=>obtain⟨t,rfl⟩:=r;rfl
 | ud _=>obtain⟨t,rfl⟩:=r;rfl
 | Cw _=>obtain⟨t,rfl⟩:=r;rfl
 | ref _=>cases r;rfl
 | ty _=>cases r;rfl
theorem RelV.inj{x y:V}{u:abh}(r:RelV x u)(q:RelV y u):x=y:=abE (r.abs.symm.trans q.abs)
theorem Vals.inj:∀{xs ys:aE} {us:aT},Vals xs us->Vals ys us->xs=ys
 | _,_,_,.nil,.nil=>rfl
 | _,_,_,.cons r t,.cons r' t'=>by rw[r.inj r',Vals.inj t t']
section
variable{X:Cx}{pins:List (abc×Obj)}{σ:St}{H:Hp}{s:aaR}{a:abc}{xs ys:aE}
theorem bH.of{K:aaJ}(h:H a=O (.lst xs)):bH K H a xs:=.inl (.inl h)
theorem cI.of{K:aaJ}(h:H a=O (.tup xs)):cI K H a xs:=.inl (.inl h)
theorem Inv.list(I:Inv X pins σ H s)(h:bH X.K H a xs):∃its:aT,Vals xs its/\PlainL s.heap a its.toArray/\↑xs<=sizeLine:=by
 rcases h with h | ⟨o,its,n,hk,hc,hd,hs,hz,r⟩
 ·obtain⟨z,its,n,r,e⟩:=h.ok I.aB;exact⟨its,r,⟨_,n,e,rfl,rfl,rfl⟩,z⟩
 ·refine⟨its.toList,r,⟨o,n,I.gn a o hk,hc,hd,by simpa using hs⟩,?_⟩;have e:=↑r;simp only[acj] at e;omega
theorem Inv.tuple(I:Inv X pins σ H s)(h:cI X.K H a xs):∃its:aT,Vals xs its/\IsTup s.heap a its.toArray/\↑xs<=sizeLine:=by
 rcases h with h | ⟨o,its,n,hk,hc,hs,hz,r⟩
 ·obtain⟨z,its,r,p⟩:=h.ok I.aB;exact⟨its,r,p,z⟩
 ·refine⟨its.toList,r,⟨o,I.gn a o hk,hc,n,by simpa using hs⟩,?_⟩;have e:=↑r;simp only[acj] at e;omega
theorem Inv.FE(I:Inv X pins σ H s)(h:bH X.K H a xs)(h':bH X.K H a ys):xs=ys:=by
 obtain⟨its,r,⟨o,n,e,_,_,d⟩,_⟩:=I.list h;obtain⟨its',r',⟨o',n',e',_,_,d'⟩,_⟩:=I.list h';rw[e] at e';cases e';rw[d] at d';injection d' with d1 _
 have:its=its':=by simpa using congrArg ahS d1
 subst this;exact r.inj r'
theorem Inv.OG(I:Inv X pins σ H s)(h:cI X.K H a xs)(h':cI X.K H a ys):xs=ys:=by
 obtain⟨its,r,⟨o,e,_,n,d⟩,_⟩:=I.tuple h;obtain⟨its',r',⟨o',e',_,n',d'⟩,_⟩:=I.tuple h';rw[e] at e';cases e';rw[d] at d';injection d' with d1 _
 have:its=its':=by simpa using congrArg ahS d1
 subst this;exact r.inj r'
end
section
variable{X:Cx}{st:ahH}{rest:eN}{t u:TS}{e:acJ}{te:TE}{pos:Pos}
noncomputable def WO:TS:=λD σ H=>D.nx σ H
noncomputable def Jw(t u:TS):TS:=λD σ H=>t { D with nx:=u D } σ H
theorem Q7:gO X [] WO:=λ_ _ σ H _ I h=>afy ⟨σ,H,I,h⟩
theorem PU(h1:PS X st t)(h2:gO X rest u):gO X (st::rest) (Jw t u):=by
 intro pins s σ H D I h;refine afk (aY (h1 pins s σ H { D with nx:=u D } I h) λf s1 q=>?_);cases f with
 | next=>
  obtain⟨aj,H',I',q⟩:=q;exact h2 pins s1 aj H' D I' q
 | ret v=>exact q
 | brk=>exact q
 | cont=>exact q
theorem Q8(h1:PS X st t):gO X [st] t:=by
 intro pins s σ H D I h;refine afk (aY (h1 pins s σ H D I h) λf s1 q=>?_);cases f with
 | next=>exact afy q
 | ret v=>exact q
 | brk=>exact q
 | cont=>exact q
theorem Inv.quiet{pins:List (abc×Obj)}{σ:St}{H:Hp}{s:aaR}(I:Inv X pins σ H s):interactive X.env=false:=by simp[interactive,I.ok.kind]
noncomputable def WP(te:TE):TS:=λD σ H=>te σ H λ_ H1=>D.nx σ H1
theorem Q9(he:PE X e te)(hs:aeq e Z pos.line X.env=pure false:=by rfl):PS X (.Expr e pos) (WP te):=by
 intro pins s σ H D I h;exact wpAny_Expr_any (aY (he pins s σ H _ I h) λv s1 ⟨x,H1,I1,r1,q1⟩=>⟨σ,H1,I1,q1⟩) I.quiet hs
noncomputable def YQ(te:TE):TS:=λD σ H=>te σ H D.rt
theorem TK(he:PE X e te):PS X (.Return (O e) pos) (YQ te):=by
 intro pins s σ H D I h;exact wpAny_Return_some (aY (he pins s σ H _ I h) λv s1 ⟨x,H1,I1,r1,q1⟩=>⟨x,σ,H1,I1,r1,q1⟩)
noncomputable def YR(c:TT)(t u:TS):TS:=λD σ H=>c σ H λb H1=>if b=true then t D σ H1 else u D σ H1
theorem WQ{c:acJ}{a b:eN}{tc:TT}(hc:PT X c tc)(ha:gO X a t)(hb:gO X b u):PS X (.If c a b pos) (YR tc t u):=by
 intro pins s σ H D I h;refine wpAny_If (aY (hc pins s σ H _ I h) λd s1 ⟨H1,I1,q1⟩=>?_);cases d with
 | true=>exact ha pins s1 σ H1 D I1 q1
 | false=>exact hb pins s1 σ H1 D I1 q1
end
abbrev TG:=V->St->Hp->(St->Hp->Prop)->Prop
abbrev lI:=aE->St->Hp->(St->Hp->Prop)->Prop
noncomputable def PG(X:Cx)(target:acJ)(t:TG):Prop:=
 ∀(pins:List (abc×Obj)) (s:aaR) (σ:St) (H:Hp) (v:V) (u:abh) (Q:St->Hp->Prop),Inv X pins σ H s->RelV v u->t v σ H Q →
  abj (abG X.prog X.w) X.A (agJ target X.env u) (λ_ s'=>∃aj H',Inv X pins aj H' s'/\Q aj H') X.xe s
noncomputable def ib(X:Cx)(ts:cc)(t:lI):Prop:=
 ∀(pins:List (abc×Obj)) (s:aaR) (σ:St) (H:Hp) (vs:aE) (us:aT) (Q:St->Hp->Prop),Inv X pins σ H s->Vals vs us->t vs σ H Q →
  abj (abG X.prog X.w) X.A (assignInOrder ((acM ts X.env).map (·.2)) us) (λ_ s'=>∃aj H',Inv X pins aj H' s'/\Q aj H') X.xe s
abbrev tq:=V->V->V->Hp->(Hp->Prop)->Prop
noncomputable def ly(X:Cx)(t:tq):Prop:=
 ∀(pins:List (abc×Obj)) (s:aaR) (σ:St) (H:Hp) (o i v:V) (ov iv u:abh) (Q:Hp->Prop),Inv X pins σ H s->RelV o ov->RelV i iv->RelV v u->t o i v H Q →
  abj (abG X.prog X.w) X.A (setItem ov iv u) (λ_ s'=>∃H',Inv X pins σ H' s'/\Q H') X.xe s
abbrev yw:=V->V->Hp->VK->Prop
noncomputable def Kg(X:Cx)(op:Operator)(t:yw):Prop:=
 ∀(pins:List (abc×Obj)) (s:aaR) (σ:St) (H:Hp) (x y:V) (v u:abh) (Q:VK),Inv X pins σ H s->RelV x v->RelV y u->t x y H Q →
  abj (abG X.prog X.w) X.A (inplaceOp op v u) (EP X pins σ Q) X.xe s
section
variable{X:Cx}{pos:Pos}
noncomputable def BB(i:Nat):TG:=λv σ H Q=>Q (σ.set i (O v)) H
variable{i:Nat}
theorem Ra{x:Str}(hN:X.N.Nodup)(hi:X.N[i]? =O x)(hx:Loc X.env.scope x)(hf:(X.fn x=true\/X.env.scope.names.lookup x=O .local)/\jG X x):PG X (.Name x pos) (BB i):=by
 intro pins s σ H v u Q I r h;exact wpAny_assign_Name (Af I hN hi hx r (λs' I'=>⟨_,H,I',h⟩) hf)
noncomputable def YS:lI:=λvs σ H Q=>vs=[]/\Q σ H
noncomputable def WR(t:TG)(u:lI):lI:=λvs σ H Q=>∃v r,vs=v::r/\t v σ H λaj H'=>u r aj H' Q
theorem Rb:ib X [] YS:=by
 intro pins s σ H vs us Q I r h;obtain⟨e,h⟩:=h;subst e;cases r;exact assignInOrder_nil ⟨σ,H,I,h⟩
theorem PV{e:acJ}{es:cc}{t:TG}{u:lI}(h1:PG X e t)(h2:ib X es u)(hs:(acM (e::es) X.env).map (·.2)=agJ e X.env::(acM es X.env).map (·.2):=by rfl):ib X (e::es) (WR t u):=by
 intro pins s σ H vs us Q I r h;obtain⟨v,vr,e1,h⟩:=h;subst e1;cases r with
 | cons r rr=>
  rw[hs];refine assignInOrder_cons (aY (h1 pins s σ H _ _ _ I r h) λ_ s1 ⟨σ1,H1,I1,q1⟩=>?_);exact h2 pins s1 σ1 H1 _ _ Q I1 rr q1
noncomputable def YT(K:aaJ)(n:Nat)(t:lI):TG:=λv σ H Q=>∃a xs,v=.ref a/\cI K H a xs/\↑xs=n/\t xs σ H Q
theorem TN{es:cc}{k:Nat}{t:lI}{n:Nat}(hc:X.calm=true)(h:ib X es t)(hn:(acM es X.env).length=n:=by rfl)(dM:(acM es X.env).findIdx? (·.1)=none:=by rfl):PG X (.Tuple es k pos) (YT X.K n t):=by
 intro pins s σ H v u Q I r hw;obtain⟨a,xs,e1,hq,hl,hw⟩:=hw;subst e1;cases r;obtain⟨its,rv,ht,hz⟩:=I.tuple hq;refine assign_Tuple_tuple (I.ok.hd hc) ht (by simp[hn,<- hl,rv.length]) dM λh' hx=>?_
 have I1:Inv X pins σ H { s with heap:=h' }:=I.kept (t':=s.toks) λb o e=>hx b o (abu (aaU e)) e
 exact h pins _ σ H xs _ Q I1 (by simpa using rv) hw
noncomputable def YU(to ti:TE)(t:tq):TG:=λv σ H Q=>to σ H λo H1=>ti σ H1 λi H2=>t o i v H2 λH3=>Q σ H3
theorem Hk{o i:acJ}{to ti:TE}{t:tq}(ho:PE X o to)(hi:PE X i ti)(hs:ly X t)
  (ha:∀v,agJ (.Subscript o i pos) X.env v=(do
   let ov <- afz [v] (aez o X.env)
   let iv <- afz [v,ov] (aez i X.env)
   standAt pos
   afz [v,ov,iv] (setItem ov iv v)
   release [v,ov,iv] []):=by intro _;rfl):PG X (.Subscript o i pos) (YU to ti t):=by
 intro pins s σ H v u Q I r h;rw[ha];refine aaH (abS (aY (ho pins s σ H _ I h) λov s1 ⟨x,H1,I1,r1,q1⟩=>?_));refine aaH (abS (aY (hi pins s1 σ H1 _ I1 q1) λiv s2 ⟨y,H2,I2,r2,q2⟩=>?_));refine aaH (wpAny_standAt (aaH (abS (aY (hs pins s2 σ H2 x y v ov iv u _ I2 r1 r2 r q2) λ_ s3 ⟨H3,I3,q3⟩=>?_))));exact wpAny_release ⟨σ,H3,I3,q3⟩
noncomputable def xX(te:TE)(g:TG):TS:=λD σ H=>te σ H λx H1=>g x σ H1 D.nx
variable{te:TE}
theorem TQ{tg e:acJ}{g:TG}(he:PE X e te)(hg:PG X tg g)(hs:swapsWithSole [tg] e pos.line X.env=pure false:=by rfl)(hw:swappedStores [tg] e X.env=pure none:=by rfl)
  (h1:(acM [tg] X.env).map (·.2)=[agJ tg X.env]:=by rfl):PS X (.Assign [tg] e pos) (xX te g):=by
 intro pins s σ H D I h;refine wpAny_Assign_stores (aY (he pins s σ H _ I h) λv s1 ⟨x,H1,I1,r1,q1⟩=>?_) hs hw;rw[h1];exact aY (hg pins s1 σ H1 x v _ I1 r1 q1) λ_ s2 q=>q
theorem TR{x:Str}{e:acJ}{pos':Pos}(hN:X.N.Nodup)(hi:X.N[i]? =O x)(hx:Loc X.env.scope x)(he:PE X e te)(hs:aeq e (O (.Name x pos')) pos.line X.env=pure false:=by rfl)(hf:(X.fn x=true\/X.env.scope.names.lookup x=O .local)/\jG X x) :
  PS X (.Assign [.Name x pos'] e pos) (xX te (BB i)):=by
 intro pins s σ H D I h;refine wpAny_Assign_Name (aY (he pins s σ H _ I h) λv s1 ⟨y,H1,I1,r1,q1⟩=>?_) hs;exact Af I1 hN hi hx r1 (λs2 I2=>⟨_,H1,I2,q1⟩) hf
noncomputable def Jx(i:Nat)(te:TE)(ti:yw):TS:=λD σ H=>∃x,σ[i]? =O (O x)/\te σ H λy H1=>ti x y H1 λz H2=>D.nx (σ.set i (O z)) H2
theorem TU{x:Str}{e:acJ}{op:Operator}{ti:yw}{pos':Pos}(hN:X.N.Nodup)(hi:X.N[i]? =O x)(hx:Loc X.env.scope x)(he:PE X e te)(ho:Kg X op ti)(hf:(X.fn x=true\/X.env.scope.names.lookup x=O .local)/\jG X x):PS X (.AugAssign (.Name x pos') op e pos) (Jx i te ti):=by
 intro pins s σ H D I h;obtain⟨v,e1,h⟩:=h;obtain⟨m,hn,hl⟩:=I.loc;have kH:jP X.env.scope x:=by rcases hx with k | k;exact .inl k;exact .inr (.inl k)
 obtain⟨u,r,l⟩:=hl i x v hi e1 kH;refine wpAny_AugAssign_Name ?_;have go:abj (abG X.prog X.w) X.A (aez e X.env) (λw kX=>abj (abG X.prog X.w) X.A (inplaceOp op u w) (λr D9=>abj (abG X.prog X.w) X.A (storeName X.env x r) (λ_=>SP X pins D .next) X.xe D9) X.xe kX) X.xe s:=by
  refine aY (he pins s σ H _ I h) λw s1 ⟨y,H1,I1,r1,q1⟩=>?_
  refine aY (ho pins s1 σ H1 v y u w _ I1 r r1 q1) λz s2 ⟨zv,H2,I2,r2,q2⟩=>?_
  exact Af I2 hN hi hx r2 (λs3 I3=>⟨_,H2,I3,q2⟩) hf
 rcases l with⟨hk,hm⟩ | ⟨hk,c,hc,kh⟩
 ·exact wpAny_loadName_local I.ok.kind hk hn hm go
 ·rcases hk with hk | hk
  ·exact wpAny_loadName_cell I.ok.kind hk hc kh go
  ·rcases hx with k | k
   ·have:X.env.scope.names.lookup x=O .free:=hk;rw[k] at this;cases this
   ·have:X.env.scope.names.lookup x=O .free:=hk;rw[k] at this;cases this
noncomputable def Kh(f:Int->Int->Int):yw:=λx y H Q=>∃i j,x=.int i/\y=.int j/\Q (.int (f i j)) H
theorem TV:Kg X .Add (Kh λi j=>i+j):=by
 intro pins s σ H x y v u Q I r1 r2 h;obtain⟨i,j,e1,e2,q⟩:=h;subst e1;subst e2;obtain⟨t,rfl⟩:=r1;obtain⟨t',rfl⟩:=r2;exact iadd_int ⟨.int _,H,I.tok _,⟨_,rfl⟩,q⟩
end
section
variable{X:Cx}{pos:Pos}
noncomputable def Hl(c:TT)(tb:TS):TS:=λD σ H=>∃W:Nat->St->Hp->Prop,(∃m,W m σ H)/\∀m σ H,W m σ H →
 c σ H λb H1=>if b=true then ∃N:St->Hp->Prop,(∀aj H',N aj H'->∃m',m'<m/\W m' aj H')/\tb { D with nx:=N,ct:=N,bk:=D.nx } σ H1 else D.nx σ H1
theorem PX{c:acJ}{body:eN}{tc:TT}{tb:TS}(hp:ahz (abG X.prog X.w) X.A X.env X.xe)(hc:PT X c tc)(hb:gO X body tb):PS X (.While c body [] pos) (Hl tc tb):=by
 intro pins s σ H D I h;obtain⟨W,⟨m0,w0⟩,turn⟩:=h;refine wpAny_While (codeAny_whileLoop (λn s'=>∃aj H',Inv X pins aj H' s'/\W n aj H') ?_ m0 ⟨σ,H,I,w0⟩);rintro n s1 ⟨σ1,H1,I1,w1⟩;refine adG hp (aY (hc pins s1 σ1 H1 _ I1 (turn n σ1 H1 w1)) λb s2 ⟨H2,I2,q2⟩=>?_);cases b with
 | true=>
  obtain⟨N,hN,q2⟩:=q2;rw[if_pos rfl];refine adG hp (aY (hb pins s2 σ1 H2 _ I2 q2) λf s3 q3=>?_);cases f with
  | next=>
   obtain⟨j8,H3,I3,n3⟩:=q3;obtain⟨m',hm,w3⟩:=hN j8 H3 n3;exact⟨m',hm,j8,H3,I3,w3⟩
  | cont=>
   obtain⟨j8,H3,I3,n3⟩:=q3;obtain⟨m',hm,w3⟩:=hN j8 H3 n3;exact⟨m',hm,j8,H3,I3,w3⟩
  | brk=>exact q3
  | ret v=>exact q3
 | false=>
  rw[if_neg abg];exact afy ⟨σ1,H2,I2,q2⟩
end
structure It where
 go:Nat->Hp->Prop
 uh:Nat->Hp->V->Hp->Prop
 stop:Nat->Hp->Prop
noncomputable def hZ(X:Cx)(pins:List (abc×Obj))(H:Hp)(b:abc):Prop:=
 H b=Z/\b≠X.env.locals/\b∉X.fs/\(b∈X.ex\/X.aD.heap.objs.size<=b)/\(∀x c,X.env.cells.lookup x=O c->c≠b)/\∀p∈X.pn++pins,p.1≠b
theorem Inv.pX{pins:List (abc×Obj)}{σ:St}{H':Hp}{s:aaR}(I:Inv X pins σ H s)(hb:s.heap.objs.size<=b)(hn:H' b=Z):hZ X pins H' b:=by
 refine⟨hn,acD (aaS I.lt hb),I.YK hb,.inr (abw I.sz hb),λx c e z=>?_,λp hp z=>?_⟩
 ·obtain⟨v,q⟩:=I.cell x c e;exact absurd (aaS q.lt (by rw[z];exact hb)) (acR _)
 ·exact absurd (aaS (aaU (I.pin p hp).1) (by rw[z];exact hb)) (acR _)
structure Turn(P:abI)(w:acg)(K:aaJ)(tg:acJ)(J:It)(fp:List abc)(it:abc)(tn:Nat->ade->Prop):Prop where
 mem:it∈fp
 obj:∀i h,tn i h->∀b∈fp,∃o,h.get? b=O o/\∀v,o.data≠.cell v
 keep:∀i h h',tn i h->(∀b∈fp,∀o,h.get? b=O o->h'.get? b=O o)->tn i h'
 item:∀(X:Cx),X.prog=P->X.w=w->X.K=K->X.calm=true->∀(i:Nat) (pins:List (abc×Obj)) (s:aaR) (σ:St) (H:Hp) (E:bR),Inv X pins σ H s->(∀b∈fp,hZ X pins H b)->tn i s.heap->J.go i H →
  abj (abG P w) X.A (ahj (.ref it)) (λr s1=>∃u,r=O u /\
   abj (abG P w) X.A (afA tg (.ref it) u) (λ_ s2=>∃x H',Inv X pins σ H' s2/\RelV x u/\J.uh i H x H'/\tn (i+1) s2.heap/\∀b∈fp,H' b=Z) E s1) E s
 done:∀(X:Cx),X.prog=P->X.w=w->X.K=K->X.calm=true->∀(i:Nat) (pins:List (abc×Obj)) (s:aaR) (σ:St) (H:Hp) (E:bR),Inv X pins σ H s->(∀b∈fp,hZ X pins H b)->tn i s.heap->J.stop i H →
  abj (abG P w) X.A (ahj (.ref it)) (λr s1=>r=Z/\Inv X pins σ H s1) E s
 self:∀(A:acF) (i:Nat) (s:aaR) (Q:bR) (E:bR),tn i s.heap->Q (.ref it) s->abj (abG P w) A (pyIter (.ref it)) Q E s
abbrev TI:=St->Hp->(It->Hp->Prop)->Prop
noncomputable def Ki(X:Cx)(pins:List (abc×Obj))(σ:St)(tg:acJ)(R:It->Hp->Prop)(CA:abh)(s2:aaR):Prop:=
 ∃(it:abc) (fp:List abc) (tn:Nat->ade->Prop) (J:It) (H':Hp),CA=.ref it/\Inv X pins σ H' s2/\Turn X.prog X.w X.K tg J fp it tn/\tn 0 s2.heap/\(∀b∈fp,hZ X pins H' b)/\R J H'
noncomputable def PI(X:Cx)(tg iter:acJ)(wi:TI):Prop:=
 ∀(pins:List (abc×Obj)) (s:aaR) (σ:St) (H:Hp) (R:It->Hp->Prop),Inv X pins σ H s->wi σ H R →
  abj (abG X.prog X.w) X.A (aez iter X.env) (λv s1=>abj (abG X.prog X.w) X.A (pyIter v) (Ki X pins σ tg R) X.xe s1) X.xe s
variable{tg:acJ}
theorem xB {M : Model} {E : bR} {s : aaR} {it : abc} {u : abh} {o : Obj} {n : String} {vs : eM} {Q : Unit -> aaR -> Prop} (ho : s.heap.get? it = some o) (hc : o.cls = .type n) (hd : o.data = .fields vs) (hn : ["enumerate", "zip", "dict_itemiterator", "dict_reverseitemiterator", "odict_iterator", "itertools.zip_longest", "itertools.pairwise"].contains n = false) (hQ : Q () s) : abj M A (afA tg (.ref it) u) Q E s := by
  unfold afA;cases tg <;> first
    | exact aaM hQ
    | (cases u <;> first
        | exact aaM hQ
        | (refine aaH (wpAny_load ho ?_)
           rw [hc, hd];show abj M A (if (["enumerate", "zip", "dict_itemiterator", "dict_reverseitemiterator", "odict_iterator", "itertools.zip_longest", "itertools.pairwise"].contains n && vs[0]? == some (afp _)) = true then _ else _) Q E s;rw [if_neg (by intro h; rw [hn, afa] at h; cases h)];exact aaM hQ))
noncomputable def Kj(K:aaJ)(a:abc):It:=
 ⟨λi H=>∃xs x,bH K H a xs/\xs[i]? =O x,λi H x H'=>H'=H/\∀xs,bH K H a xs->xs[i]? =O x,λi H=>∃xs,bH K H a xs/\↑xs<=i⟩
noncomputable def Kk(K:aaJ)(a:abc):It:=
 ⟨λi H=>∃xs x,cI K H a xs/\xs[i]? =O x,λi H x H'=>H'=H/\∀xs,cI K H a xs->xs[i]? =O x,λi H=>∃xs,cI K H a xs/\↑xs<=i⟩
noncomputable def ui(lo:Int)(n:Nat):It:=⟨λi _=>i<n,λi H x H'=>H'=H/\x=.int (lo+i),λi _=>n<=i⟩
variable{K:aaJ}
theorem OH{w:acg}(a it:abc):Turn P w K tg (Kj K a) [it] it (λi h=>h.IsListIter it a i) where
 mem:=by simp
 obj:=λi h st b hb=>by
  have e:b=it:=by simpa using hb
  subst e;obtain⟨o,e,c,d⟩:=st;exact⟨o,e,λv z=>by rw[d] at z;cases z⟩
 keep:=λi h h' st k=>st.at λo e=>k it (by simp) o e
 item:=by
  intro X hP hw hK hc i pins s σ H E I hf st hg;subst hP hw hK;obtain⟨xs,x,hq,hx⟩:=hg;obtain⟨its,rv,p,hz⟩:=I.list hq;obtain⟨u,hu,ru⟩:=rv.get hx;obtain⟨f0,f1,f2,f3,f4,f5⟩:=hf it (by simp);refine wpAny_pyNext_list_item st p.isList (x:=u) (by simpa using hu) λh' dn sb=>?_
  have I1:Inv X pins σ H { s with heap:=h' }:=I.turned (t':=s.toks) (λb o hb e=>(sb.2 b hb).trans e) f0 f1 f3 f4 f5;obtain⟨o,e,c,d⟩:=id dn;exact⟨u,rfl,xB (s:={ s with heap:=h' }) e c d (by decide) ⟨x,H,I1,ru,⟨rfl,λys hy=>by rw[I.FE hy hq];exact hx⟩,dn,λb hb=>(hf b hb).1⟩⟩
 done:=by
  intro X hP hw hK hc i pins s σ H E I hf st hg;subst hP hw hK;obtain⟨xs,hq,hx⟩:=hg;obtain⟨its,rv,p,hz⟩:=I.list hq;obtain⟨f0,f1,f2,f3,f4,f5⟩:=hf it (by simp);have hl:=↑rv;exact wpAny_pyNext_list_end (I.ok.hd hc) st p.isList (by simp;omega) λh' eb=>⟨rfl,I.turned (t':=s.toks) (λb o hb e=>eb b o hb e) f0 f1 f3 f4 f5⟩
 self:=λ_ _ _ _ _ st h=>wpAny_pyIter_listiter st h
theorem Oc{w:acg}(a it:abc):Turn P w K tg (Kk K a) [it] it (λi h=>h.IsTupleIter it a i) where
 mem:=by simp
 obj:=λi h st b hb=>by
  have e:b=it:=by simpa using hb
  subst e;obtain⟨o,e,c,d⟩:=st;exact⟨o,e,λv z=>by rw[d] at z;cases z⟩
 keep:=λi h h' st k=>st.at λo e=>k it (by simp) o e
 item:=by
  intro X hP hw hK hc i pins s σ H E I hf st hg;subst hP hw hK;obtain⟨xs,x,hq,hx⟩:=hg;obtain⟨its,rv,p,hz⟩:=I.tuple hq;obtain⟨u,hu,ru⟩:=rv.get hx;obtain⟨f0,f1,f2,f3,f4,f5⟩:=hf it (by simp);refine wpAny_pyNext_tuple_item st (show s.heap.IsTuple a its.toArray from p) (x:=u) (by simpa using hu) λh' dn sb=>?_
  have I1:Inv X pins σ H { s with heap:=h' }:=I.turned (t':=s.toks) (λb o hb e=>(sb.2 b hb).trans e) f0 f1 f3 f4 f5;obtain⟨o,e,c,d⟩:=id dn;exact⟨u,rfl,xB (s:={ s with heap:=h' }) e c d (by decide) ⟨x,H,I1,ru,⟨rfl,λys hy=>by rw[I.OG hy hq];exact hx⟩,dn,λb hb=>(hf b hb).1⟩⟩
 done:=by
  intro X hP hw hK hc i pins s σ H E I hf st hg;subst hP hw hK;obtain⟨xs,hq,hx⟩:=hg;obtain⟨its,rv,p,hz⟩:=I.tuple hq;obtain⟨f0,f1,f2,f3,f4,f5⟩:=hf it (by simp);have hl:=↑rv;exact wpAny_pyNext_tuple_end (I.ok.hd hc) st (show s.heap.IsTuple a its.toArray from p) (by simp;omega) λh' eb=>⟨rfl,I.turned (t':=s.toks) (λb o hb e=>eb b o hb e) f0 f1 f3 f4 f5⟩
 self:=λ_ _ _ _ _ st h=>wpAny_pyIter_tupleiter st h
theorem Od{w:acg}(it:abc)(lo:Int)(n:Nat):Turn P w K tg (ui lo n) [it] it (λi h=>IsRangeIter h it (lo+(i:Nat)*1) ((n:Int)-(i:Nat)) 1) where
 mem:=by simp
 obj:=λi h st b hb=>by
  have e:b=it:=by simpa using hb
  subst e;exact⟨_,st,λv z=>by
   have z':Data.fields _=Data.cell v:=z;cases z'⟩
 keep:=λi h h' st k=>k it (by simp) _ st
 item:=by
  intro X hP hw hK hc i pins s σ H E I hf st hg;subst hP hw hK;obtain⟨f0,f1,f2,f3,f4,f5⟩:=hf it (by simp);have W:=Walks.range (prog:=X.prog) (w:=X.w) (I.ok.hd hc) it lo 1 n;refine W.item i s _ _ hg st λv h' tk hv dn kk=>?_
  obtain⟨t,rfl⟩:=hv;have I1:Inv X pins σ H { s with heap:=h',toks:=tk }:=I.turned (λb o hb e=>kk b o (by simpa using hb) e) f0 f1 f3 f4 f5;refine⟨_,rfl,xB (s:={ s with heap:=h',toks:=tk }) (n:="range_iterator") dn rfl rfl (by decide) ⟨.int (lo+i),H,I1,⟨t,?_⟩,⟨rfl,rfl⟩,dn,λb hb=>(hf b hb).1⟩⟩;rw[Int.mul_one]
 done:=by
  intro X hP hw hK hc i pins s σ H E I hf st hg;subst hP hw hK;obtain⟨f0,f1,f2,f3,f4,f5⟩:=hf it (by simp);exact wpAny_pyNext_range_end (I.ok.hd hc) st (by have:n<=i:=hg;omega) λh' eb=>⟨rfl,I.turned (t':=s.toks) (λb o hb e=>eb b o hb e) f0 f1 f3 f4 f5⟩
 self:=λ_ _ _ _ _ st h=>wpAny_pyIter_rangeiter st h
section
variable{X:Cx}{tg:acJ}
noncomputable def WS(K:aaJ)(tl:TE):TI:=λσ H R=>tl σ H λx H1=>∃a,x=.ref a/\(∃xs,bH K H1 a xs)/\R (Kj K a) H1
noncomputable def YV(K:aaJ)(tl:TE):TI:=λσ H R=>tl σ H λx H1=>∃a,x=.ref a/\(∃xs,cI K H1 a xs)/\R (Kk K a) H1
theorem Rc{l:acJ}{tl:TE}(hl:PE X l tl):PI X tg l (WS X.K tl):=by
 intro pins s σ H R I h;refine aY (hl pins s σ H _ I h) λv s1 ⟨x,H1,I1,r1,q1⟩=>?_
 obtain⟨a,e,⟨xs,hq⟩,q⟩:=q1;subst e;cases r1;obtain⟨its,rv,p,hz⟩:=I1.list hq;refine aeU p.isList ?_;refine⟨s1.heap.objs.size,[s1.heap.objs.size],_,_,H1,rfl,I1.kept (t':=s1.toks) λb o e=>aaO _ e,OH a _,⟨_,abl _ rfl,rfl,rfl⟩,λb hb=>?_,q⟩;have e:b=s1.heap.objs.size:=by simpa using hb
 subst e;exact I1.pX (aaN _) (I1.aB.fresh (aaN _))
theorem TX{l:acJ}{tl:TE}(hl:PE X l tl):PI X tg l (YV X.K tl):=by
 intro pins s σ H R I h;refine aY (hl pins s σ H _ I h) λv s1 ⟨x,H1,I1,r1,q1⟩=>?_
 obtain⟨a,e,⟨xs,hq⟩,q⟩:=q1;subst e;cases r1;obtain⟨its,rv,p,hz⟩:=I1.tuple hq;refine wpAny_pyIter_tuple (show s1.heap.IsTuple a its.toArray from p) ?_;refine⟨s1.heap.objs.size,[s1.heap.objs.size],_,_,H1,rfl,I1.kept (t':=s1.toks) λb o e=>aaO _ e,Oc a _,⟨_,abl _ rfl,rfl,rfl⟩,λb hb=>?_,q⟩;have e:b=s1.heap.objs.size:=by simpa using hb
 subst e;exact I1.pX (aaN _) (I1.aB.fresh (aaN _))
variable{σ:St}{H:Hp}
theorem FF{pins:List (abc×Obj)}{s:aaR}{R:It->Hp->Prop}{E:bR}{lo hi:Int}{t u v:Tok}{tk:Nat}(I:Inv X pins σ H s)(h1: -(2 ^ 62)<=lo)(h2:lo<2 ^ 62)(h3: -(2 ^ 62)<=hi)(h4:hi<2 ^ 62)(q:R (ui lo (hi-lo).toNat) H):abj (abG X.prog X.w) X.A (pyIter (.ref s.heap.objs.size)) (Ki X pins σ tg R) E { s with heap:=s.heap.push { cls:=.type "range",data:=.fields #[.int lo t,.int hi u,.int 1 v] },toks:=tk }:=by
 refine wpAny_pyIter_range (IsRange.new ..) (small_one h1 h2 h3 h4) ?_;have I1:Inv X pins σ H { s with heap:=s.heap.push { cls:=.type "range",data:=.fields #[.int lo t,.int hi u,.int 1 v] },toks:=tk }:=I.kept λb o e=>aaO _ e
 refine⟨(s.heap.push { cls:=.type "range",data:=.fields #[.int lo t,.int hi u,.int 1 v] }).objs.size,[(s.heap.push { cls:=.type "range",data:=.fields #[.int lo t,.int hi u,.int 1 v] }).objs.size],_,_,H,rfl,
  I1.kept (t':=tk) λb o e=>aaO _ e,Od _ lo (hi-lo).toNat,?_,λb hb=>?_,q⟩
 ·have e1:lo+((0:Nat):Int)*1=lo:=by simp
  have e2:(((hi-lo).toNat:Nat):Int)-((0:Nat):Int)=Builtin.Range.rangeSize lo hi 1:=by rw[rangeSize_one];split <;> omega
  show IsRangeIter _ _ (lo+((0:Nat):Int)*1) ((((hi-lo).toNat:Nat):Int)-((0:Nat):Int)) 1;rw[e1,e2];exact abl _ rfl
 ·have e:b=(s.heap.push { cls:=.type "range",data:=.fields #[.int lo t,.int hi u,.int 1 v] }).objs.size:=by simpa using hb
  subst e;exact I1.pX (aaN _) (I1.aB.fresh (aaN _))
noncomputable def WT(ta:TA):TI:=λσ H R=>ta σ H λvs H1=>∃j:Int,vs=[.int j]/\ -(2 ^ 62)<=j/\j<2 ^ 62/\R (ui 0 j.toNat) H1
noncomputable def WU(ta:TA):TI:=λσ H R=>ta σ H λvs H1=>∃i j:Int,vs=[.int i,.int j]/\(-(2 ^ 62)<=i/\i<2 ^ 62/\ -(2 ^ 62)<=j/\j<2 ^ 62)/\R (ui i (j-i).toNat) H1
variable{pos:Pos}
theorem OI{a:acJ}{ta:TA}{p:Pos}(hg:Gl X "range")(hm:X.mg "range"=Z)(ha:PA X [a] ta)(hs:abB [a] X.env=[(false,aez a X.env)]:=by rfl):PI X tg (.Call (.Name "range" p) [a] [] pos) (WT ta):=by
 intro pins s σ H R I h;refine Call_ (pC I hg hm boot_range (ado (aY (ha pos pins s σ H _ I h) λus s1 ⟨vs,H1,I1,r1,q1⟩=>?_) hs rfl));obtain⟨j,e,q1,q2,q⟩:=q1;subst e;cases r1 with
 | cons r rr=>
  cases rr;obtain⟨t,rfl⟩:=r;exact call_range_1 (FF I1 ∅ ∅ q1 q2 (by simpa using q))
theorem OJ{a b:acJ}{ta:TA}{p:Pos}(hg:Gl X "range")(hm:X.mg "range"=Z)(ha:PA X [a,b] ta)(hs:abB [a,b] X.env=[(false,aez a X.env),(false,aez b X.env)]:=by rfl)(ic:abB [b] X.env=[(false,aez b X.env)]:=by rfl) :
  PI X tg (.Call (.Name "range" p) [a,b] [] pos) (WU ta):=by
 intro pins s σ H R I h;refine Call_ (pC I hg hm boot_range (ado (aY (ha pos pins s σ H _ I h) λus s1 ⟨vs,H1,I1,r1,q1⟩=>?_) (by rw[hs,ic]) (by rw[ic];rfl)));obtain⟨i,j,e,⟨q1,q2,q3,q4⟩,q⟩:=q1;subst e;cases r1 with
 | cons r rr=>
  cases rr with
  | cons r' rr=>
   cases rr;obtain⟨t,rfl⟩:=r;obtain⟨t',rfl⟩:=r';exact call_range_2 (FF I1 q1 q2 q3 q4 q)
noncomputable def Jy(wi:TI)(g:TG)(tb:TS):TS:=λD σ H=>wi σ H λJ H1=>∃W:Nat->Nat->St->Hp->Prop,(∃m,W 0 m σ H1)/\∀i m σ H,W i m σ H →
 (J.stop i H/\D.nx σ H)\/(J.go i H/\∃N:St->Hp->Prop,(∀aj H',N aj H'->∃m',m'<m/\W (i+1) m' aj H')/\∀x H',J.uh i H x H'->g x σ H' λcy H2=>tb { D with nx:=N,ct:=N,bk:=D.nx } cy H2)
noncomputable def su(fp:List abc)(h:ade):List (abc×Obj):=fp.filterMap λb=>(h.get? b).map λo=>(b,o)
variable{fp:List abc}
theorem vZ{h:ade}{b:abc}{o:Obj}(hb:b∈fp)(e:h.get? b=O o):(b,o)∈su fp h:=acY.mpr ⟨b,hb,by rw[e];rfl⟩
theorem OL{h:ade}{p:abc×Obj}(hp:p∈su fp h):p.1∈fp/\h.get? p.1=O p.2:=by
 obtain⟨b,hb,e⟩:=acY.mp hp;cases q:h.get? b with
 | none=>rw[q] at e;cases e
 | some o=>
  rw[q] at e;have e':(b,o)=p:=abE e;subst e';exact⟨hb,q⟩
theorem Inv.pinned{pins:List (abc×Obj)}{s:aaR}(I:Inv X pins σ H s)(hf:∀b∈fp,hZ X pins H b)(ho:∀b∈fp,∃o,s.heap.get? b=O o/\∀v,o.data≠.cell v):Inv X (pins++su fp s.heap) σ H s:=
 I.Gr λp hp=>(abF.mp hp).elim (λz=>I.pin p (abJ _ z)) λz=>by
  obtain⟨hb,e⟩:=OL z;obtain⟨f0,f1,f2,_⟩:=hf p.1 hb;obtain⟨o,e',d⟩:=ho p.1 hb;rw[e] at e';cases e';exact⟨e,f0,f1,f2,d⟩
theorem Inv.wI{pins pl:List (abc×Obj)}{s:aaR}(I:Inv X (pins++pl) σ H s):Inv X pins σ H s:=I.Gr λp hp=>I.pin p (abJ _ (abQ _ hp))
theorem TY{iter:acJ}{body:eN}{wi:TI}{g:TG}{tb:TS}(hp:ahz (abG X.prog X.w) X.A X.env X.xe)(hc:X.calm=true)(hi:PI X tg iter wi)(hg:PG X tg g)(hb:gO X body tb)(hs:∀x,abX iter X.env x=pure x:=by intro _;rfl):PS X (.For tg iter body [] pos) (Jy wi g tb):=by
 intro pins s σ H D I h;refine wpAny_For (aY (hi pins s σ H _ I h) λv s1 h1=>aY h1 λCA s2 h2=>?_) hs;obtain⟨it,fp,tn,J,H2,e,I2,T,dF,f2,W,⟨m0,w0⟩,turn⟩:=h2;subst e;have B2:∀{H':Hp},(∀b∈fp,H' b=Z)->∀b∈fp,hZ X pins H' b:=λhn b hb=>⟨hn b hb,(f2 b hb).2⟩
 refine codeAny_forLoop_any (λn s'=>∃i aj H',Inv X pins aj H' s'/\tn i s'.heap/\(∀b∈fp,H' b=Z)/\W i n aj H') ?_ m0 ⟨0,σ,H2,I2,dF,λb hb=>(f2 b hb).1,w0⟩;rintro n s3 ⟨i,j8,H3,I3,gP,Kl,w3⟩
 rcases turn i n j8 H3 w3 with⟨stop,qn⟩ | ⟨go,N,hN,step⟩
 ·refine adG hp (aY (T.done X rfl rfl rfl hc i pins s3 j8 H3 X.xe I3 (B2 Kl) gP stop) λr s4 ⟨hr,I4⟩=>?_);subst hr;exact afy ⟨j8,H3,I4,qn⟩
 ·refine adG hp (aY (T.item X rfl rfl rfl hc i pins s3 j8 H3 X.xe I3 (B2 Kl) gP go) λr s4 ⟨u,hr,h4⟩=>?_);subst hr;refine adG hp (aY h4 λ_ s5 ⟨x,H5,I5,r5,y5,qv,yx⟩=>?_);have I5':=I5.pinned (B2 yx) (T.obj _ _ qv);refine adG hp (aY (hg _ s5 j8 H5 x u _ I5' r5 (step x H5 y5)) λ_ s6 ⟨u5,H6,I6,q6⟩=>?_);refine adG hp (aY (hb _ s6 u5 H6 _ I6 q6) λf s7 q7=>?_);have again:∀{j9:St} {H7:Hp},Inv X (pins++su fp s5.heap) j9 H7 s7->N j9 H7->∃m,m<n/\∃i aj H',Inv X pins aj H' s7/\tn i s7.heap/\(∀b∈fp,H' b=Z)/\W i m aj H':=λ{j9 H7} I7 n7=>by
   obtain⟨m',hm,w7⟩:=hN j9 H7 n7;refine⟨m',hm,i+1,j9,H7,I7.wI,T.keep _ _ _ qv λb hb o e=>(I7.pin (b,o) (abJ _ (abJ _ (vZ hb e)))).1,λb hb=>?_,w7⟩;obtain⟨o,e,d⟩:=T.obj _ _ qv b hb;exact(I7.pin (b,o) (abJ _ (abJ _ (vZ hb e)))).2.1
  cases f with
  | next=>obtain⟨j9,H7,I7,n7⟩:=q7;exact again I7 n7
  | cont=>obtain⟨j9,H7,I7,n7⟩:=q7;exact again I7 n7
  | brk=>obtain⟨j9,H7,I7,q7⟩:=q7;exact⟨j9,H7,I7.wI,q7⟩
  | ret v=>obtain⟨x7,j9,H7,I7,r7,q7⟩:=q7;exact⟨x7,j9,H7,I7.wI,r7,q7⟩
end
abbrev R2:=V->V->Hp->VK->Prop
noncomputable def bS(X:Cx)(f:abh->abh->Sem abh)(r:R2):Prop:=
 ∀(pins:List (abc×Obj)) (s:aaR) (σ:St) (H:Hp) (x y:V) (v u:abh) (Q:VK),Inv X pins σ H s->RelV x v->RelV y u->r x y H Q →
  abj (abG X.prog X.w) X.A (f v u) (EP X pins σ Q) X.xe s
noncomputable def yz(X:Cx)(f:abh->Sem abh)(r:V->Hp->VK->Prop):Prop:=
 ∀(pins:List (abc×Obj)) (s:aaR) (σ:St) (H:Hp) (x:V) (v:abh) (Q:VK),Inv X pins σ H s->RelV x v->r x H Q →
  abj (abG X.prog X.w) X.A (f v) (EP X pins σ Q) X.xe s
noncomputable def c4(X:Cx)(f:abh)(r:aE->Hp->VK->Prop):Prop:=
 ∀(pins:List (abc×Obj)) (s:aaR) (σ:St) (H:Hp) (xs:aE) (us:aT) (Q:VK),Inv X pins σ H s->Vals xs us->r xs H Q →
  abj (abG X.prog X.w) X.A (call f us) (EP X pins σ Q) X.xe s
noncomputable def YW(X:Cx)(r:V->Hp->(Bool->Hp->Prop)->Prop):Prop:=
 ∀(pins:List (abc×Obj)) (s:aaR) (σ:St) (H:Hp) (x:V) (v:abh) (Q:Bool->Hp->Prop),Inv X pins σ H s->RelV x v->r x H Q →
  abj (abG X.prog X.w) X.A (truthy v) (TP X pins σ Q) X.xe s
noncomputable def uj(r:R2)(ta tb:TE):TE:=λσ H Q=>ta σ H λx H1=>tb σ H1 λy H2=>r x y H2 Q
noncomputable def tUn(r:V->Hp->VK->Prop)(ta:TE):TE:=λσ H Q=>ta σ H λx H1=>r x H1 Q
noncomputable def rI(C:Int->Int->Prop)(g:Int->Int->V):R2:=λx y H Q=>∃i j,x=.int i/\y=.int j/\C i j/\Q (g i j) H
noncomputable def jQ(g:Int->Int->V):R2:=λx y H Q=>∃i j,x=.int i/\y=.int j/\Q (g i j) H
noncomputable def rU(g:Int->V):V->Hp->VK->Prop:=λx H Q=>∃i,x=.int i/\Q (g i) H
section
variable{X:Cx}{a b c:acJ}{ta tb tc:TE}{pos:Pos}
variable{f:abh->abh->Sem abh}
theorem B3(ha:PE X a ta)(hb:PE X b tb){pins:List (abc×Obj)}{s:aaR}{σ:St}{H:Hp}{R:V->V->Hp->Prop}(I:Inv X pins σ H s)(h:ta σ H λx H1=>tb σ H1 λy H2=>R x y H2){Q:bR}(hf:∀v u s2 x y H2,Inv X pins σ H2 s2->RelV x v->RelV y u->R x y H2->abj (abG X.prog X.w) X.A (f v u) Q X.xe s2):abj (abG X.prog X.w) X.A (aez a X.env) (λv bT=>abj (abG X.prog X.w) X.A (aez b X.env) (λu kX=>abj (abG X.prog X.w) X.A (f v u) Q X.xe kX) X.xe bT) X.xe s:=by
 refine aY (ha pins s σ H _ I h) λv s1 ⟨x,H1,I1,r1,q1⟩=>?_
 refine aY (hb pins s1 σ H1 _ I1 q1) λu s2 ⟨y,H2,I2,r2,q2⟩=>?_
 exact hf v u s2 x y H2 I2 r1 r2 q2
theorem WV{op:Operator}{r:R2}(ho:bS X (aev op) r)(ha:PE X a ta)(hb:PE X b tb):PE X (.BinOp a op b pos) (uj r ta tb):=by
 intro pins s σ H Q I h;exact wpAny_BinOp (B3 ha hb I h λv u s2 x y H2 I2 rx ry q=>ho pins s2 σ H2 x y v u Q I2 rx ry q)
theorem WW{op:UnaryOp}{r:V->Hp->VK->Prop}(ho:yz X (unaryOp op) r)(ha:PE X a ta):PE X (.UnaryOp op a pos) (tUn r ta):=by
 intro pins s σ H Q I h;exact UnaryOp_ (aY (ha pins s σ H _ I h) λv s1 ⟨x,H1,I1,r1,q1⟩=>ho pins s1 σ H1 x v Q I1 r1 q1)
theorem CB{C:Int->Int->Prop}{g:Int->Int->Int}(rule:∀(i j:Int) (t u:Tok) (s:aaR) (Q:bR) (E:bR),C i j->Q (.int (g i j) s.toks) { s with toks:=s.toks+1 }->abj (abG X.prog X.w) X.A (f (.int i t) (.int j u)) Q E s) :
  bS X f (rI C λi j=>.int (g i j)):=by
 intro pins s σ H x y v u Q I rx ry h;obtain⟨i,j,rfl,rfl,hc,q⟩:=h;obtain⟨t,rfl⟩:=rx;obtain⟨t',rfl⟩:=ry;exact rule i j t t' s _ _ hc ⟨.int (g i j),H,I.tok _,⟨_,rfl⟩,q⟩
theorem Jz{g:Int->Int->Int}(rule:∀(i j:Int) (t u:Tok) (s:aaR) (Q:bR) (E:bR),Q (.int (g i j) s.toks) { s with toks:=s.toks+1 }->abj (abG X.prog X.w) X.A (f (.int i t) (.int j u)) Q E s) :
  bS X f (jQ λi j=>.int (g i j)):=by
 intro pins s σ H x y v u Q I rx ry h;obtain⟨i,j,rfl,rfl,q⟩:=h;obtain⟨t,rfl⟩:=rx;obtain⟨t',rfl⟩:=ry;exact rule i j t t' s _ _ ⟨.int (g i j),H,I.tok _,⟨_,rfl⟩,q⟩
theorem B4{g:Int->Int->Bool}(rule:∀(i j:Int) (t u:Tok) (s:aaR) (Q:bR) (E:bR),Q (.bool (g i j)) s->abj (abG X.prog X.w) X.A (f (.int i t) (.int j u)) Q E s):bS X f (jQ λi j=>.bl (g i j)):=by
 intro pins s σ H x y v u Q I rx ry h;obtain⟨i,j,rfl,rfl,q⟩:=h;obtain⟨t,rfl⟩:=rx;obtain⟨t',rfl⟩:=ry;exact rule i j t t' s _ _ ⟨.bl (g i j),H,I,rfl,q⟩
noncomputable def tu(i j:Int):Prop:=(-(2 ^ 64)<i/\i<2 ^ 64)\/(-(2 ^ 64)<j/\j<2 ^ 64)
theorem tu.ok{i j:Int}(h:tu i j):IntMulOk i j:=by
 rcases h with⟨h1,h2⟩ | ⟨h1,h2⟩
 ·exact .of_left (intBits_le_64 h1 h2)
 ·exact .of_right (intBits_le_64 h1 h2)
theorem TZ:bS X (aev .Add) (jQ λi j=>.int (i+j)):=Jz λ_ _ _ _ _ _ _ q=>add_int q
theorem T1:bS X (aev .Sub) (jQ λi j=>.int (i-j)):=Jz λ_ _ _ _ _ _ _ q=>sub_int q
theorem T2:bS X (aev .Mult) (rI tu λi j=>.int (i*j)):=CB λ_ _ _ _ _ _ _ hc q=>mul_int q hc.ok
theorem Rf:bS X (aev .Mod) (rI (λ_ j=>j≠0) λi j=>.int (i.fmod j)):=CB λ_ _ _ _ _ _ _ hc q=>mod_int' hc q
theorem unI{f:abh->Sem abh}{g:Int->Int}(rule:∀(i:Int) (t:Tok) (s:aaR) (Q:bR) (E:bR),Q (.int (g i) s.toks) { s with toks:=s.toks+1 }->abj (abG X.prog X.w) X.A (f (.int i t)) Q E s) :
  yz X f (rU λi=>.int (g i)):=by
 intro pins s σ H x v Q I rx h;obtain⟨i,rfl,q⟩:=h;obtain⟨t,rfl⟩:=rx;exact rule i t s _ _ ⟨.int (g i),H,I.tok _,⟨_,rfl⟩,q⟩
theorem T3:yz X (unaryOp .USub) (rU λi=>.int (-i)):=unI λ_ _ _ _ _ q=>neg_int q
end
section
variable{X:Cx}{a b c:acJ}{ta tb tc:TE}{pos:Pos}
theorem T4{pins:List (abc×Obj)}{σ:St}{H:Hp}{s:aaR}{Q:VK}{k k':Bool}(I:Inv X pins σ H s)(q:Q (.bl k) H)(e:k=k'):EP X pins σ Q (.bool k') s:=by
 subst e;exact⟨.bl k,H,I,rfl,q⟩
theorem WX:bS X (acr .Lt) (jQ λi j=>.bl (decide (i<j))):=B4 λ_ _ _ _ _ _ _ q=>lt_int q
theorem WY:bS X (acr .LtE) (jQ λi j=>.bl (decide (i<=j))):=B4 λ_ _ _ _ _ _ _ q=>le_int q
theorem WZ:bS X (acr .Gt) (jQ λi j=>.bl (decide (j<i))):=B4 λ_ _ _ _ _ _ _ q=>gt_int q
theorem T5:bS X (acr .Is) (λx y H Q=>y=.aH/\Q (.bl (decide (x=.aH))) H):=by
 intro pins s σ H x y v u Q I rx ry h;obtain⟨rfl,q⟩:=h;cases ry;refine is_none_gen (T4 I q ?_);cases x <;> first
  | (cases rx;rfl)
  | (obtain⟨t,rfl⟩:=rx;rfl)
variable{r:R2}
theorem bS.or{f:abh->abh->Sem abh}{r':R2}(h:bS X f r)(h':bS X f r'):bS X f (λx y H Q=>r x y H Q\/r' x y H Q):=by
 intro pins s σ H x y v u Q I rx ry q
 rcases q with q | q
 ·exact h pins s σ H x y v u Q I rx ry q
 ·exact h' pins s σ H x y v u Q I rx ry q
theorem pD(b:acJ){op:CmpOp}(h:op≠.In:=by decide)(h2:op≠.NotIn:=by decide):acS op b=false:=by
 have e1:(op==CmpOp.In)=false:=by cases op <;> first | rfl | exact absurd rfl h
 have e2:(op==CmpOp.NotIn)=false:=by cases op <;> first | rfl | exact absurd rfl h2
 cases b <;> simp[acS,e1,e2]
theorem Rg{op:CmpOp}(ho:bS X (acr op) r)(ha:PE X a ta)(hb:PE X b tb)(hm:acS op b=false):PE X (.Compare a [op] [b] pos) (uj r ta tb):=by
 intro pins s σ H Q I h;exact wpAny_Compare1 (B3 ha hb I h λv u s2 x y H2 I2 rx ry q=>ho pins s2 σ H2 x y v u Q I2 rx ry q) hm
noncomputable def IF(t:TE):TT:=λσ H Q=>t σ H λx H'=>∃k,x=.bl k/\Q k H'
theorem Rh{op:CmpOp}(ho:bS X (acr op) r)(ha:PE X a ta)(hb:PE X b tb)(hm:acS op b=false):PT X (.Compare a [op] [b] pos) (IF (uj r ta tb)):=by
 intro pins s σ H Q I h;refine wpAny_isTrue_Compare1 (aY (ha pins s σ H _ I h) λv s1 ⟨x,H1,I1,r1,q1⟩=>aY (hb pins s1 σ H1 _ I1 q1) λu s2 ⟨y,H2,I2,r2,q2⟩=>
  aY (ho pins s2 σ H2 x y v u _ I2 r1 r2 q2) λc s3 ⟨z,H3,I3,r3,k,e,q3⟩=>?_) hm
 subst e;cases r3;exact acL ⟨H3,I3,q3⟩
noncomputable def Hm(r r':R2)(ta tb tc:TE):TE:=λσ H Q=>ta σ H λx H1=>tb σ H1 λy H2=>r x y H2 λz H3=>∃k,z=.bl k /\
 (if k=true then tc σ H3 λw' H4=>r' y w' H4 Q else Q (.bl false) H3)
theorem PY{op jR:CmpOp}{r':R2}(ho:bS X (acr op) r)(fk:bS X (acr jR) r')(ha:PE X a ta)(hb:PE X b tb)(hc:PE X c tc)(hm:lastMarks [op,jR] [b,c]=false:=by with_unfolding_all rfl):PT X (.Compare a [op,jR] [b,c] pos) (IF (Hm r r' ta tb tc)):=by
 intro pins s σ H Q I h;refine isTrue_chain (aY (ha pins s σ H _ I h) λv s1 ⟨x,H1,I1,r1,q1⟩=>test_link (aY (hb pins s1 σ H1 _ I1 q1) λu s2 ⟨y,H2,I2,r2,q2⟩=>
  aY (ho pins s2 σ H2 x y v u _ I2 r1 r2 q2) λd s3 ⟨z,H3,I3,r3,k,e,q3⟩=>?_)) hm
 subst e;cases r3;refine acL ?_;cases k with
 | false=>
  obtain⟨k',e',q'⟩:=q3;cases e';exact ite_ff ⟨H3,I3,q'⟩
 | true=>
  refine ite_tt (test_last (aY (hc pins s3 σ H3 _ I3 q3) λw' s4 ⟨z',H4,I4,r4,q4⟩=>aY (fk pins s4 σ H4 y z' u w' _ I4 r2 r4 q4) λd' s5 ⟨z2,H5,I5,r5,k2,e2,q5⟩=>?_));subst e2;cases r5;exact acL ⟨H5,I5,q5⟩
noncomputable def JH(K:aaJ)(x:V)(H:Hp)(k:Bool):Prop:=
 match x with
 | .aH=>k=false
 | .bl b=>k=b
 | .int i=>k=(i != 0)
 | .str y=>↑y<=abd/\k=((↑y:Int) != 0)
 | .ud y=>y.size<=abd/\k=((y.size:Int) != 0)
 | .ref p=>(∃xs,bH K H p xs/\k= !xs.isEmpty)\/(∃xs,cI K H p xs/\k= !xs.isEmpty)\/∃kvs,H p=O (.dK kvs)/\k= !kvs.isEmpty
 | _=>False
theorem Oe{κ:Type}{kvs:List (κ×V)}{vs:List (κ×abh)}(r:KV kvs vs):(!vs.isEmpty)= !kvs.isEmpty:=by
 cases r <;> rfl
theorem Ez{xs:aE}{its:aT}(r:Vals xs its):(!its.toArray.isEmpty)= !xs.isEmpty:=by
 cases r <;> simp
theorem nH:(abd:Nat)<2 ^ 63:=by rw[agp];decide
theorem T6:YW X (λx H Q=>∃k,JH X.K x H k/\Q k H):=by
 intro pins s σ H x v Q I rx h;obtain⟨k,e,q⟩:=h;have hl:=nH;have hs:abd=16777216:=agp;cases x with
 | aH=>
  cases rx;have e':k=false:=e;subst e';exact truthy_none ⟨H,I,q⟩
 | bl b=>
  cases rx;have e':k=b:=e;subst e';exact acL ⟨H,I,q⟩
 | int i=>
  obtain⟨t,rfl⟩:=rx;have e':k=(i != 0):=e;subst e';exact PySem.P.truthy_int ⟨H,I,q⟩
 | str y=>
  obtain⟨t,rfl⟩:=rx;obtain⟨hy,e'⟩:↑y<=abd/\k=((↑y:Int) != 0):=e;subst e';exact PySem.P.truthy_str ∅ ⟨H,I.tok _,q⟩
 | ud y=>
  obtain⟨t,rfl⟩:=rx;obtain⟨hy,e'⟩:y.size<=abd/\k=((y.size:Int) != 0):=e;subst e';exact PySem.W.truthy_bytes ∅ ⟨H,I.tok _,q⟩
 | ref p=>
  cases rx;have e':(∃xs,bH X.K H p xs/\k= !xs.isEmpty)\/(∃xs,cI X.K H p xs/\k= !xs.isEmpty)\/∃kvs,H p=O (.dK kvs)/\k= !kvs.isEmpty:=e
  rcases e' with⟨xs,hx,e'⟩ | ⟨xs,hx,e'⟩ | ⟨kvs,hx,e'⟩
  ·subst e';obtain⟨its,r,pl,hz⟩:=I.list hx;have bV:=↑r;exact wpAny_truthy_list pl.isList (by simp only[aaV];omega) ⟨H,I.tok _,by rw[Ez r];exact q⟩
  ·subst e';obtain⟨its,r,pl,hz⟩:=I.tuple hx;have bV:=↑r;exact truthy_tuple pl (by simp only[aaV];omega) ⟨H,I.tok _,by rw[Ez r];exact q⟩
  ·subst e';obtain⟨hz,hS,vs,r,m⟩:↑kvs<=abd/\(p==acx)=false/\∃vs,KV kvs vs/\s.heap.DictOf (dD X.prog X.w) p vs:=I.aB p _ hx;have bV:↑kvs=↑vs:=adg r;exact wpAny_truthy_dict hS m ∅ ⟨H,I.tok _,by rw[Oe r];exact q⟩
 | _=>exact(show False from e).elim
theorem PZ(ha:PE X a ta)(he:∀whole,isTrue a X.env whole=(do let v <- whole;standAt a.pos;afz [v] (truthy v))) :
  PT X a (λσ H Q=>ta σ H λx H'=>∃k,JH X.K x H' k/\Q k H'):=by
 intro pins s σ H Q I h;exact isTrue_plain (aY (ha pins s σ H _ I h) λv s1 ⟨x,H1,I1,r1,q1⟩=>T6 pins s1 σ H1 x v Q I1 r1 q1) (he _)
theorem Of:bS X (aev .Add) (λx y H Q=>∃i j,x=.str i/\y=.str j/\↑i+↑j<=abd/\Q (.str (i++j)) H):=by
 intro pins s σ H x y v u Q I rx ry h;obtain⟨i,j,rfl,rfl,hz,q⟩:=h;obtain⟨t,rfl⟩:=rx;obtain⟨t',rfl⟩:=ry;exact add_str (λt' tk=>⟨.str (i++j),H,I.tok _,⟨_,rfl⟩,q⟩) hz
theorem vals1{x:V}{us:aT}(r:Vals [x] us):∃u,us=[u]/\RelV x u:=by
 cases r with
 | cons r1 r2=>cases r2;exact⟨_,rfl,r1⟩
theorem ON:c4 X (.type "int") (λxs H Q=>(∃i,xs=[.int i]/\Q (.int i) H)\/∃k,xs=[.bl k]/\Q (.int (if k then 1 else 0)) H):=by
 intro pins s σ H xs us Q I r h
 rcases h with⟨i,rfl,q⟩ | ⟨k,rfl,q⟩
 ·obtain⟨u,rfl,t,rfl⟩:=vals1 r;exact call_int_int ⟨.int i,H,I,⟨_,rfl⟩,q⟩
 ·obtain⟨u,rfl,r1⟩:=vals1 r;cases r1;exact call_int_bool ⟨.int (if k then 1 else 0),H,I.tok _,⟨_,rfl⟩,q⟩
end
abbrev _root_.hV:=Option abh
theorem jD.some_of{v:V}{o:hV}(r:jD (O v) o):∃u,o=O u/\RelV v u:=by
 cases o with
 | none=>exact(show False from r).elim
 | some u=>exact⟨u,rfl,r⟩
structure df(k:Nat)(A:acF):Prop where
 hd:A.handled=Z
 dp:A.depth+3*k+5<recursionLimit
 un:A.units+16*k+200<aep
theorem df.mono{j k:Nat}(r:df k A)(h:j<=k):df j A:=⟨r.hd,by have:=r.dp;omega,by have:=r.un;omega⟩
theorem df.deeper{k:Nat}{A:acF}(r:df (k+1) A)(env:Env):df k (A.deeper env):=
 ⟨r.hd,by have:=r.dp;show A.depth+1+3*k+5<_;omega,by have:=r.un;show A.units+3+16*k+200<_;omega⟩
theorem df.depth{k:Nat}{A:acF}(r:df k A):A.depth<recursionLimit:=by have:=r.dp;omega
theorem df.units{k:Nat}{A:acF}(r:df k A):A.units+64<cLine:=by have:=r.un;omega
noncomputable def YX:TA:=λ_ H Q=>Q [] H
noncomputable def W2(ta:TE)(tr:TA):TA:=λσ H Q=>ta σ H λx H1=>tr σ H1 λxs H2=>Q (x::xs) H2
section
variable{X:Cx}{e:acJ}{es:cc}{te:TE}{t:TA}{pos:Pos}
theorem sx:PA X [] YX:=λ_ _ _ _ H Q I h=>Calls.spliced_nil ⟨[],H,I,.nil,h⟩
theorem nz(ha:PE X e te)(hr:PA X es t)(hs:abB (e::es) X.env=(false,aez e X.env)::abB es X.env:=by rfl):PA X (e::es) (W2 te t):=by
 intro pos pins s σ H Q I h;rw[hs];show abj _ _ (spliced ((false,aez e X.env)::afd pos (abB es X.env))) _ _ s;refine Calls.spliced_cons (aY (ha pins s σ H _ I h) λu s1 ⟨x,H1,I1,r1,q1⟩=>?_);exact aY (hr pos pins s1 σ H1 _ I1 q1) λus s2 ⟨xs,H2,I2,r2,q2⟩=>⟨x::xs,H2,I2,.cons r1 r2,q2⟩
noncomputable def YY(t:TA):TE:=λσ H Q=>t σ H λxs H1=>↑xs<=abd/\∀p,H1 p=Z->Q (.ref p) (upd H1 p (.tup xs))
noncomputable def YZ(t:TA):TE:=λσ H Q=>t σ H λxs H1=>↑xs<=abd/\∀p,H1 p=Z->Q (.ref p) (upd H1 p (.lst xs))
theorem T7{x1}(h:PA X es t):PE X (.Tuple es x1 pos) (YY t):=by
 intro pins s σ H Q I hq;refine wpAny_Tuple_spliced (aY (h pos pins s σ H _ I hq) λus s1 ⟨xs,H1,I1,r,z,q⟩=>⟨by rw[<- ↑r];exact z,?_⟩);have hf:H1 s1.heap.objs.size=none:=I1.aB.fresh (aaN _);refine⟨.ref s1.heap.objs.size,upd H1 s1.heap.objs.size (.tup xs),I1.laid (t':=s1.toks) (λb u e=>aaO _ e) (aaN _) ?_,rfl,q _ hf⟩;exact⟨z,us,r,⟨_,abl _ rfl,rfl,_,rfl⟩⟩
theorem T8(h:PA X es t):PE X (.List es pos) (YZ t):=by
 intro pins s σ H Q I hq;refine wpAny_List_spliced (aY (h pos pins s σ H _ I hq) λus s1 ⟨xs,H1,I1,r,z,q⟩=>⟨by rw[<- ↑r];exact z,?_⟩);have hf:H1 s1.heap.objs.size=none:=I1.aB.fresh (aaN _);refine⟨.ref s1.heap.objs.size,upd H1 s1.heap.objs.size (.lst xs),I1.laid (t':=s1.toks) (λb u e=>aaO _ e) (aaN _) ?_,rfl,q _ hf⟩;exact⟨z,us,0,r,abl _ rfl⟩
end
abbrev Sp:=aE->Hp->VK->XK->Prop
abbrev mL:=List Env->Hp->aaR->XK->abh->aaR->Prop
structure tv(P:abI)(w:acg)(K:aaJ)(mg:dE)(base:ade)(A:acF)(outer:List Env)(s:aaR)(H:Hp):Prop where
 frames:A.frames=O outer
 mod:Mod K mg base
 bs:∀b o,base.get? b=O o->s.heap.get? b=O o/\H b=Z
 kE:base.objs.size<=s.heap.objs.size
 gx:s.heap.FunFrames base outer
 mI:∀b∈eR outer,H b=Z
 aB:cS P w H s.heap
 bare:ago s.gens
noncomputable def CE(outer:List Env)(P:abI)(w:acg)(H:Hp)(s:aaR)(Q:VK)(u:abh)(s':aaR):Prop:=
 ∃v H',s'.os=s.os/\ago s'.gens/\Un (eR outer) [] H H' s.heap s'.heap/\cS P w H' s'.heap/\RelV v u/\Q v H'
noncomputable def CR(CX:mL)(outer:List Env)(P:abI)(w:acg)(H:Hp)(s:aaR)(Q:VK)(E:XK)(r:Result)(s':aaR):Prop:=
 match r with
 | .ok (.ret u)=>CE outer P w H s Q u s'
 | .ok _=>False
 | .error e=>CX outer H s E e s'
structure ck(P:abI)(w:acg)(K:aaJ)(mg:dE)(base:ade)(CX:mL)(k:Nat)(f:abc)(fd:acG)(ps:a8)(sp:Sp):Prop where
 len:∀vs H Q E,sp vs H Q E->↑vs=↑ps
 run:∀(A:acF) (outer:List Env) (s:aaR) (H:Hp) (args:Args) (us:aT) (vs:aE) (Q:VK) (E:XK),df k A->tv P w K mg base A outer s H->BindsTo s fd args (ps.zip us)->Vals vs us->sp vs H Q E →
  ahJ (abG P w) A (.call (.ref f) args) (CR CX outer P w H s Q E) s
section
variable{X:Cx}{pins:List (abc×Obj)}{σ:St}{H:Hp}{s s':aaR}
theorem Inv.JJ(I:Inv X pins σ H s):tv X.prog X.w X.K X.mg X.base X.A X.stack s H:=
 ⟨I.ok.frames,I.ok.mod,I.bs,abw I.ok.kE I.sz,I.stack,I.wZ,I.aB,I.bare⟩
theorem Inv.after{Q:VK}{u:abh}(I:Inv X pins σ H s)(h:CE X.stack X.prog X.w H s Q u s'):EP X pins σ Q u s':=by
 obtain⟨v,H',os,bare,un,aB,r,q⟩:=h;obtain⟨hh,g,d,t,CC⟩:=s';obtain rfl:CC=s.os:=os;exact⟨v,H',I.call (h':=hh) (g':=g) (d':=d) (t':=t) (ch:=[]) un aB bare (λb z=>absurd z (by simp)),r,q⟩
end
noncomputable def Binds(K:aaJ)(fd:acG)(ps:a8)(ds:aT):Prop:=
 ∀(s:aaR) (us:aT),K.In s.heap->(us++ds).length=↑ps->BindsTo s fd ⟨us,[]⟩ (ps.zip (us++ds))
variable{ps:a8}
theorem Binds.all{fd:acG}(h:∀us:aT,↑us=↑ps->bindArgs fd ⟨us,[]⟩=pure (ps.zip us)):Binds K fd ps []:=λs us _ hl=>by
 rw[aci] at hl ⊢;exact .of_eq (h us hl)
structure cZ(N P:a8)(sc:adB):Prop where
 kind:sc.kind=.function
 co:sc.isCoroutine=false
 gen:sc.isGenerator=false
 nd:N.Nodup
 pre:N.take ↑P=P
 ie:∀x∈P,sc.names.lookup x=O .local\/sc.names.lookup x=O .cell
 T9:∀y∈sc.names,y.2≠.free
theorem ER{kindOf:Str->Option aek}{x:Str}:∀{binds:List (Str×abh)} {m:dE},(∀v,(x,v)∉binds)->bindL kindOf binds m x=m x
 | [],_,_=>rfl
 | (n,v)::r,m,h=>by
  unfold bindL;rw[ER λw hw=>h w (aba _ hw)];split
  ·have:x≠n:=by rintro rfl;exact h v abo
   simp[this]
  ·rfl
theorem ES{kindOf:Str->Option aek}{x:Str}:∀{binds:List (Str×abh)} {m:dE},(∀v,(x,v)∉binds)->bindC kindOf binds m x=m x
 | [],_,_=>rfl
 | (n,v)::r,m,h=>by
  unfold bindC;rw[ES λw hw=>h w (aba _ hw)];split
  ·rfl
  ·have:x≠n:=by rintro rfl;exact h v abo
   simp[this]
theorem ET{kindOf:Str->Option aek}{x:Str}{v:abh}:∀{P:a8} {vs:aT} {i:Nat} {m:dE},P.Nodup->P[i]? =O x->vs[i]? =O v->kindOf x=O .local →
  bindL kindOf (P.zip vs) m x=O v
 | [],_,_,_,_,h,_,_=>by simp at h
 | _::_,[],_,_,_,_,h,_=>by simp at h
 | p::P,w::vs,0,m,nd,h1,h2,hk=>by
  simp at h1 h2;subst h1;subst h2
  show bindL kindOf ((p,w)::P.zip vs) m p=_;unfold bindL;rw[ER λv hv=>(abY.mp nd).1 (aee hv).1,if_pos hk];simp
 | p::P,w::vs,i+1,m,nd,h1,h2,hk=>by
  show bindL kindOf ((p,w)::P.zip vs) m x=_;unfold bindL;exact ET (i:=i) (abY.mp nd).2 (by simpa using h1) (by simpa using h2) hk
theorem EU{kindOf:Str->Option aek}{x:Str}{v:abh}:∀{P:a8} {vs:aT} {i:Nat} {m:dE},P.Nodup->P[i]? =O x->vs[i]? =O v->kindOf x≠O .local →
  bindC kindOf (P.zip vs) m x=O v
 | [],_,_,_,_,h,_,_=>by simp at h
 | _::_,[],_,_,_,_,h,_=>by simp at h
 | p::P,w::vs,0,m,nd,h1,h2,hk=>by
  simp at h1 h2;subst h1;subst h2
  show bindC kindOf ((p,w)::P.zip vs) m p=_;unfold bindC;rw[ES λv hv=>(abY.mp nd).1 (aee hv).1,if_neg hk];simp
 | p::P,w::vs,i+1,m,nd,h1,h2,hk=>by
  show bindC kindOf ((p,w)::P.zip vs) m x=_;unfold bindC;exact EU (i:=i) (abY.mp nd).2 (by simpa using h1) (by simpa using h2) hk
noncomputable def start(N:a8)(vs:aE):St:=vs.map O++aaY (↑N-↑vs) Z
noncomputable def eh(CX:mL)(P:abI)(w:acg)(K:aaJ)(mg:dE)(base:ade)(N:a8)(qual:Str)(scope:adB)(f:abc)(cd:abh)(A:acF)(outer:List Env)(s:aaR)(H:Hp)(E:XK):Cx where
 prog:=P
 w:=w
 K:=K
 mg:=mg
 base:=base
 A:=A.deeper (aeC qual scope s.heap.objs.size f cd)
 N:=N
 aD:=s
 aM:=H
 env:=aeC qual scope s.heap.objs.size f cd
 outer:=outer
 stack:=aeC qual scope s.heap.objs.size f cd::outer
 ex:=[]
 calm:=true
 fn:=λ_=>true
 pn:=[]
 kp:=λ_=>True
 xe:=λe s'=>abj (abG P w) (A.deeper (aeC qual scope s.heap.objs.size f cd)) (afV (aeC qual scope s.heap.objs.size f cd) e) (λ_ fE=>CX outer H s E e fE) (λe' fE=>CX outer H s E e' fE) s'
theorem FG{sc:adB}{n:Nat}{x:Str}(h:sc.names.lookup x=O .cell):∃c,(agK n sc.names []).lookup x=O c:=by
 have q:=adY sc.names n [] (.inl h);exact ach.mp q
theorem z7{CX:mL}{w:acg}{mg:dE}{base:ade}{N:a8}{qual:Str}{scope:adB}{f:abc}{cd:abh}{outer:List Env}{s s1:aaR}{E:XK}{us:aT}{vs:aE}(S:cZ N ps scope)(hd:A.handled=Z)(e0:tv P w K mg base A outer s H)(hl:↑vs=↑ps)(r:Vals vs us)(x:InCallC s s.heap.objs.size (bindL (aeC qual scope s.heap.objs.size f cd).kindOf (ps.zip us) λ_=>Z) (agK (s.heap.objs.size+1) scope.names []) (bindC (aeC qual scope s.heap.objs.size f cd).kindOf (ps.zip us) λ_=>Z) s1):Inv (eh CX P w K mg base N qual scope f cd A outer s H E) [] (start N vs) H s1:=by
 have hpl:↑ps<=↑N:=by have:=congrArg ahp S.pre;rw[adx] at this;omega
 obtain⟨h1,tk,rfl,hk⟩:=x.done;have CD:∀b:abc,b∉(eh CX P w K mg base N qual scope f cd A outer s H E).ex:=λb z=>absurd (show b∈([]:List abc) from z) (by simp)
 refine⟨⟨e0.mod,S.kind,rfl,rfl,aaN _,λy z c h1 h2=>?_,λy hy=>?_,λy c _ h=>?_,λ_=>hd,ahd e0.frames,.inr ⟨rfl,rfl⟩,λb z=>absurd z (CD b),e0.bs,e0.kE,λb _ _=>CD b,λb z=>absurd z (CD b),e0.gx,e0.mI⟩,
  rfl,e0.bare,Un.kept hk,⟨_,x.toInCall.ns,λi y v h1 h2 h3=>?_⟩,λy c h=>⟨_,x.cell y c h⟩,e0.aB.fresh (aaN _),λy c h=>?_,λp hp=>absurd (show p∈([]:List (abc×Obj)) from hp) (by simp),e0.aB.kept hk,⟨?_,trivial⟩⟩
 ·exact name_of_addr x.apart (acN h1) (acN h2)
 ·have hy:scope.names.lookup y=O .cell\/scope.names.lookup y=O .free:=hy
  rcases hy with hy | hy
  ·exact FG hy
  ·exact absurd rfl (S.T9 _ (acN hy))
 ·exact aeB (x.above y c (acN h))
 ·have hi:i<↑vs:=by
   unfold start at h2;by_cases hi:i<↑vs
   ·exact hi
   ·rw[aen (by simpa using hi)] at h2;rw[adS] at h2;split at h2 <;> cases h2
  have ha:vs[i]? =O v:=by
   unfold start at h2;rw[abm (by simpa using hi),aaK] at h2;cases e:vs[i]? with
   | none=>rw[e] at h2;cases h2
   | some a=>rw[e] at h2;cases h2;rfl
  obtain⟨u,hu,rv⟩:=r.get ha;have hp:ps[i]? =O y:=by
   rw[<- S.pre,List.getElem?_take_of_lt ∅];exact h1
  have Km:ps.Nodup:=by rw[<- S.pre];exact S.nd.sublist (List.take_sublist _ _)
  refine⟨u,rv,?_⟩
  rcases S.ie y (aaL hp) with k | k
  ·exact .inl ⟨k,ET Km hp hu k⟩
  ·obtain⟨c,e⟩:=FG (n:=s.heap.objs.size+1) k;refine .inr ⟨.inl k,c,e,?_⟩;have q:=x.cell y c e;rw[EU Km hp hu (by show scope.names.lookup y≠_;rw[k];decide)] at q;exact q
 ·have z:=e0.aB.fresh (aeB (x.above y c (acN h)));exact⟨λ_=>z,.inl z⟩
 ·unfold start;show _=↑N;rw[aaQ,aaI,afe];omega
abbrev _root_.d7:=Option abc
theorem W3{CX:mL}{w:acg}{mg:dE}{base:ade}{k:Nat}{f:abc}{name qual:Str}{params:Arguments}{body:eN}{scope:adB}{dV kV doc pm bC ct oc:abh}{an od:d7}{gQ:Array hV}{N:a8}{sp:Sp}(lk:K.lookup f=O ⟨oc,od,.func (acw name qual params body scope dV kV doc pm an bC ct),gQ⟩)(hcd:adC K bC qual=true)(S:cZ N ps scope)(len:∀vs H Q E,sp vs H Q E->↑vs=↑ps)(ll:∀(A:acF) (outer:List Env) (s:aaR) (H:Hp) (vs:aE) (Q:VK) (E:XK),df k (A.deeper (aeC qual scope s.heap.objs.size f bC))->sp vs H Q E → ∃t,gO (eh CX P w K mg base N qual scope f bC A outer s H E) body t/\t { nx:=λ_ H'=>Q .aH H',rt:=Q } (start N vs) H) :
  ck P w K mg base CX (k+1) f (acw name qual params body scope dV kV doc pm an bC ct) ps sp:=by
 refine⟨len,λA outer s H args us vs Q E hr e0 hb r oB=>?_⟩;have hl:=len _ _ _ _ oB;have KX:K.In s.heap:=e0.mod.qr.keeps λb o e=>(e0.bs b o e).1
 have lim:s.heap.NoLimit:=e0.mod.nolimit.keeps λb o e=>(e0.bs b o e).1
 have sF:∀y∈ps.zip us,scope.names.lookup y.1=O .local\/(scope.names.lookup y.1=O .cell/\((agK (s.heap.objs.size+1) scope.names []).lookup y.1).isSome=true):=λ⟨n,v⟩ hy=>by
  rcases S.ie n (aee hy).1 with q | q
  ·exact .inl q
  ·exact .inr ⟨q,adY _ _ _ (.inl q)⟩
 refine aff hr.depth (KX _ _ lk) rfl S.co S.gen rfl (afN KX hcd) (hb _ _ _ _ ?_);refine aeo S.kind sF λenv he s1 x=>?_
 subst he;refine⟨lim.keeps x.toInCall.keep,codeAny_func ?_⟩;obtain⟨t,ht,hq⟩:=ll A outer s H vs Q E (hr.deeper _) oB;have I:Inv (eh CX P w K mg base N qual scope f bC A outer s H E) [] (start N vs) H s1:=z7 S hr.hd e0 hl r x;refine acp (ht [] s1 (start N vs) H _ I hq) (λfl s' hs=>?_) λe s' hs=>hs
 have fin:∀{aj:St} {H':Hp} {v:V} {u:abh},Inv (eh CX P w K mg base N qual scope f bC A outer s H E) [] aj H' s'->RelV v u->Q v H'->CE outer P w H s Q u s':=
  λ{aj H' v u} J rv q=>⟨v,H',J.os,J.bare,J.base,J.aB,rv,q⟩
 cases fl with
 | ret u=>
  obtain⟨v,aj,H',J,rv,q⟩:=hs;exact fin J rv q
 | next=>
  obtain⟨aj,H',J,q⟩:=hs;exact fin (v:=V.aH) (u:=abN) J rfl q
 | brk=>
  obtain⟨_,_,_,q⟩:=hs;exact ael q
 | cont=>
  obtain⟨_,_,_,q⟩:=hs;exact ael q
section
variable{X:Cx}{x:Str}{p pos:Pos}{e:acJ}{es:cc}{t:TA}{id T:String}{r:aE->Hp->VK->Prop}
noncomputable def CF(r:aE->Hp->VK->Prop)(t:TA):TE:=λσ H Q=>t σ H λvs H1=>r vs H1 Q
theorem Ag(hc:c4 X (.builtin id) r)(hg:Gl X x)(hm:X.mg x=Z)(hv:acv x=O (.builtin id))(ha:PA X (e::es) t)(hn:x≠"__name__":=by decide)(dq:(x==("__debug__":Str))=false:=by decide)
  (he:abB (e::es) X.env=(false,aez e X.env)::abB es X.env:=by rfl) (hpl:(afd pos (abB es X.env)).any (·.1)=false:=by rfl):PE X (.Call (.Name x p) (e::es) [] pos) (CF r t):=by
 intro pins s σ H Q I h;refine aea (pC I hg hm hv ?_ hn dq);exact PyProof.Rows.callWith_builtin1 (aY (ha pos pins s σ H _ I h) λus s1 ⟨vs,H1,I1,r1,q1⟩=>hc pins s1 σ H1 vs us Q I1 r1 q1) he hpl
theorem EV(hc:c4 X (.type T) r)(hg:Gl X x)(hm:X.mg x=Z)(hv:acv x=O (.type T))(ha:PA X (e::es) t)(hn:x≠"__name__":=by decide)(dq:(x==("__debug__":Str))=false:=by decide)
  (he:abB (e::es) X.env=(false,aez e X.env)::abB es X.env:=by rfl) (hpl:(afd pos (abB es X.env)).any (·.1)=false:=by rfl):PE X (.Call (.Name x p) (e::es) [] pos) (CF r t):=by
 intro pins s σ H Q I h;refine aea (pC I hg hm hv ?_ hn dq);exact ado (aY (ha pos pins s σ H _ I h) λus s1 ⟨vs,H1,I1,r1,q1⟩=>hc pins s1 σ H1 vs us Q I1 r1 q1) he hpl
end
end L2
namespace HT
open PySem PyProof.Rows
section
open PySem.SeqAt
open PySem.AutoSeq1 (wpAny_loadPart')
open PySem.MeetsSeq PySem.MeetsSeq2 PySem.MeetsSeq3
end
section
variable{prog:abI}{w:acg}{A:acF}{E:bR}{s:aaR}
theorem Ri{t b:abc}{vs ws:aT}{Q:bR}(ht:IsTup s.heap t vs.toArray)(hb:IsTup s.heap b ws.toArray)(hv:vs≠[])(h1:ws=[]->Q (.ref t) s)(h2:ws≠[]->Q (.ref s.heap.objs.size) { s with heap:=s.heap.push { cls:=.type "tuple",data:=.seq (vs++ws).toArray } })
  (hsz:↑vs+↑ws<=abd):abj (abG prog w) A (aev .Add (.ref t) (.ref b)) Q E s:=by
 obtain⟨⟨cls,dd,data,sl⟩,ho,hc,n,hd⟩:=id ht;obtain⟨⟨aau,Kn,data2,oC⟩,yA,ul,n2,hd2⟩:=id hb;simp only at hc hd ul hd2;subst hc hd ul hd2;have e:vs.toArray++ws.toArray=(vs++ws).toArray:=by simp
 by_cases hw:ws=[]
 ·exact concat_meets ⟨_,ho,rfl⟩ ⟨_,yA,rfl⟩ noFill_tuple_add seq_tuple_add agC agq (age _ _)
   (tuple_addW1 t b vs.toArray ws.toArray n n2 dd Kn sl oC (by simpa using hv) (by simp[hw])) ⟨ho,yA,h1 hw⟩
 ·refine concat_meets ⟨_,ho,rfl⟩ ⟨_,yA,rfl⟩ noFill_tuple_add seq_tuple_add agC agq (age _ _)
   (tuple_addW2 t b vs.toArray ws.toArray n n2 dd Kn sl oC (by simpa using hv) (by simpa using hw) (by rw[aaV,aaV];exact hsz)) ⟨ho,yA,?_⟩
  rw[e];exact h2 hw
noncomputable def bE(n d:Nat):Option Int->Nat
 | none=>d
 | some v=>if v<0 then(v+(n:Int)).toNat else min v.toNat n
theorem Ua(n d:Nat)(hd:d<=n)(o:Option Int):bE n d o<=n:=by
 cases o with
 | none=>exact hd
 | some v=>
  show(if v<0 then(v+(n:Int)).toNat else min v.toNat n)<=n;by_cases hv:v<0
  ·rw[if_pos hv];omega
  ·rw[if_neg hv];exact agz _ _
theorem Gu(v:Int)(n d:Nat):(if v<0 then max (v+(n:Int)) 0 else min v (n:Int))=((bE n d (O v):Nat):Int):=by
 show(if v<0 then max (v+(n:Int)) 0 else min v (n:Int))=(((if v<0 then(v+(n:Int)).toNat else min v.toNat n):Nat):Int);by_cases hv:v<0
 ·simp only[if_pos hv];omega
 ·simp only[if_neg hv];omega
theorem Og(lo hi:Option Int)(n:Nat):aer lo hi 1 (n:Int)=(((bE n 0 lo:Nat):Int),((bE n n hi:Nat):Int)):=by
 have h1:¬((1:Int)<0):=by omega
 unfold aer;simp only[h1,if_false];refine Prod.ext ?_ ?_
 ·cases lo with
  | none=>rfl
  | some v=>exact Gu v n 0
 ·cases hi with
  | none=>rfl
  | some v=>exact Gu v n n
theorem Oh(i j:Nat):adD (i:Int) (j:Int) 1=j-i:=by
 unfold adD;have h1:(1:Int)>0:=by omega
 simp only[h1,if_true,Int.ediv_one];split <;> omega
theorem EA{v:abh}{o:Option Int}{Q:Option Int->aaR->Prop}(p:ahY v o)(h:Q o s):abj (abG prog w) A (Builtin.Slice.slicePartIndex v) Q E s:=by
 cases p with
 | none=>exact slicePart_none h
 | int i t=>exact slicePart_int h
theorem Mk{sl:abc}{vl vu:abh}{lo hi:Option Int}{n:Nat}{Q:Int×Int×Nat->aaR->Prop}(hs:s.heap.IsSliceOf sl vl vu .none)(pl:ahY vl lo)(pu:ahY vu hi)(h:Q (((bE n 0 lo:Nat):Int),1,bE n n hi-bE n 0 lo) s):abj (abG prog w) A (afI (.ref sl) (pure (n:Int))) Q E s:=by
 obtain⟨os,um,yB,yC⟩:=id hs;unfold afI Builtin.Slice.sliceFields;refine aaH (aaH (aeV um yC (x:=vl) rfl (aaH (aeV um yC (x:=vu) rfl (aaH (aeV um yC (x:=.none) rfl (aaM ?_)))))));refine aaH (slicePart_none ?_);show abj _ _ (if((1:Int)==0)=true then _ else _) _ _ s;rw[if_neg (by decide)];refine aaH (EA pl (aaH (EA pu (aaH (aaM ?_)))));show abj _ _ (match aer lo hi 1 (n:Int) with | (lo,hi)=>pure (lo,(1:Int),adD lo hi 1)) _ _ s;rw[Og lo hi n];show abj _ _ (pure (((bE n 0 lo:Nat):Int),(1:Int),adD ((bE n 0 lo:Nat):Int) ((bE n n hi:Nat):Int) 1)) _ _ s;rw[Oh];exact aaM h
theorem P0(xs:eM)(i k:Nat):((abp k).filterMap λ(m:Nat)=>xs[((i:Int)+(m:Int)*1).toNat]?).toArray=((xs.toList.drop i).take k).toArray:=by
 have e:(λ(m:Nat)=>xs[((i:Int)+(m:Int)*1).toNat]?)=λm=>xs[i+m]? :=by
  funext m
  have:((i:Int)+(m:Int)*1).toNat=i+m:=by omega
  rw[this]
 rw[e];have:=pick_run xs i k;rw[List.filterMap_map] at this;have e2:((λx=>xs[x]?)∘λx=>i+x)=λm=>xs[i+m]? :=rfl
 rw[e2] at this;rw[this]
theorem Mf{t sl:abc}{items:eM}{vl vu:abh}{lo hi:Option Int}{Q:bR}(ht:IsTup s.heap t items)(hs:s.heap.IsSliceOf sl vl vu .none)(pl:ahY vl lo)(pu:ahY vu hi)(hw:¬(bE items.size 0 lo=0/\bE items.size items.size hi=items.size))(h:Q (.ref s.heap.objs.size) { s with heap:=s.heap.push { cls:=.type "tuple",data:=.seq ((items.toList.drop (bE items.size 0 lo)).take (bE items.size items.size hi-bE items.size 0 lo)).toArray } })
  (hsz:items.size<=abd):abj (abG prog w) A (getItem (.ref t) (.ref sl)) Q E s:=by
 have xC:sizeOk (.seq ((items.toList.drop (bE items.size 0 lo)).take (bE items.size items.size hi-bE items.size 0 lo)).toArray):=by
  show((items.toList.drop (bE items.size 0 lo)).take (bE items.size items.size hi-bE items.size 0 lo)).toArray.size<=abd;rw[aaV,adx,List.length_drop,acj];omega
 have hj:bE items.size items.size hi<=items.size:=Ua _ _ (aaN _) hi;obtain⟨os,um,yB,yC⟩:=id hs;have hTs:s.TypeIs (.ref sl) "slice":=⟨os,um,yB⟩
 unfold getItem
 try with_reducible refine abS ?_
 first | refine aaH (aaM ?_) | skip
 refine aaH (wpAny_sequenceKey ht.typeIs (by decide) ?_);refine aaH (adi (name:=abA "__getitem__") ht.typeIs adH
  (acm adH ht.typeIs entry_tuple_getitem ?_ (args_tuple_getitem _ _)))
 show abj _ _ (afG (.ref t) >>= _) _ _ s;refine aaH (tupleItemsOf_ ht ?_);refine aaH (wpAny_typeOf hTs ?_);rw[if_pos (by decide)];refine aaH (Mk hs pl pu ?_);have CG:¬((((bE items.size 0 lo:Nat):Int)==0&&(1:Int)==1&&(bE items.size items.size hi-bE items.size 0 lo)==items.size)=true):=by
  intro q;rw[aaZ,aaZ] at q;have q1:((bE items.size 0 lo:Nat):Int)=0:=eq_of_beq q.1.1;have q2:bE items.size items.size hi-bE items.size 0 lo=items.size:=eq_of_beq q.2;exact hw ⟨∅,∅⟩
 show abj _ _ (if(((bE items.size 0 lo:Nat):Int)==0&&(1:Int)==1&&(bE items.size items.size hi-bE items.size 0 lo)==items.size)=true then _ else _) _ _ s;rw[if_neg CG,P0]
 first
  | exact aaH (m:=adI _) (acq (aaM ⟨_,rfl,aaM h⟩) xC)
  | exact aaH (m:=adI _) (acq (aaH (aaM (aaM ⟨_,rfl,aaM h⟩))) xC)
  | exact aaH (aaH (m:=adI _) (acq (aaM (aaM ⟨_,rfl,aaM h⟩)) xC))
  | exact aaH (aaH (m:=adI _) (acq (aaM ⟨_,rfl,aaM h⟩) xC))
end
end HT
namespace L2
open PySem PySem.Spec PyProof.Rows
abbrev TO:=St->Hp->(Option Int->Hp->Prop)->Prop
noncomputable def PO(X:Cx)(e:Option acJ)(t:TO):Prop:=
 ∀(pins:List (abc×Obj)) (s:aaR) (σ:St) (H:Hp) (Q:Option Int->Hp->Prop),Inv X pins σ H s->t σ H Q →
  abj (abG X.prog X.w) X.A (evalPart e X.env) (λu s'=>∃o H',Inv X pins σ H' s'/\ahY u o/\Q o H') X.xe s
noncomputable def Rj:TO:=λ_ H Q=>Q Z H
noncomputable def W4(t:TE):TO:=λσ H Q=>t σ H λx H1=>∃i,x=.int i/\Q (O i) H1
abbrev _root_.bI:=List Int
theorem intsAre_of{ns:bI}:∀{us:aT},Vals (ns.map V.int) us->agL us ns:=by
 induction ns with
 | nil=>intro us r;rw[aeD] at r;cases r;exact .nil
 | cons n ns ih=>
  intro us r;rw[abt] at r;cases r with
  | cons r1 r2=>
   obtain⟨t,e⟩:=r1;subst e;exact .cons n t (ih r2)
section
variable{X:Cx}{e:acJ}{te:TE}{lo hi:Option acJ}{tl th:TO}{pos p2:Pos}
theorem Rk:PO X Z Rj:=by
 intro pins s σ H Q I h;rw[evalPart_none];exact aaM ⟨Z,H,I,.none,h⟩
theorem Rl(h:PE X e te):PO X (O e) (W4 te):=by
 intro pins s σ H Q I hw;rw[evalPart_some];refine aY (h pins s σ H _ I hw) λu s1 ⟨x,H1,I1,r1,q1⟩=>?_
 obtain⟨i,rfl,q⟩:=q1;obtain⟨t,rfl⟩:=r1;exact⟨O i,H1,I1,.int i t,q⟩
noncomputable def mM(X:Cx)(r:V->Option Int->Option Int->Hp->VK->Prop):Prop:=
 ∀(pins:List (abc×Obj)) (s:aaR) (σ:St) (H:Hp) (x:V) (v vl vu:abh) (lo hi:Option Int) (sl:abc) (Q:VK),Inv X pins σ H s->RelV x v->s.heap.IsSliceOf sl vl vu .none->ahY vl lo->ahY vu hi->r x lo hi H Q →
  ∃T id,typeLookup (.type T) "__getitem__"=pure (O (.builtin id))/\s.TypeIs v T/\abj (abG X.prog X.w) X.A (getItem v (.ref sl)) (EP X pins σ Q) X.xe s
theorem mM.or{r r':V->Option Int->Option Int->Hp->VK->Prop}(h:mM X r)(h':mM X r'):mM X (λx lo hi H Q=>r x lo hi H Q\/r' x lo hi H Q):=by
 intro pins s σ H x v vl vu lo hi sl Q I rx hs pl pu q
 rcases q with q | q
 ·exact h pins s σ H x v vl vu lo hi sl Q I rx hs pl pu q
 ·exact h' pins s σ H x v vl vu lo hi sl Q I rx hs pl pu q
noncomputable def tSl(r:V->Option Int->Option Int->Hp->VK->Prop)(te:TE)(tl th:TO):TE:=λσ H Q=>te σ H λx H1=>tl σ H1 λl H2=>th σ H2 λu H3=>r x l u H3 Q
theorem P1{r:V->Option Int->Option Int->Hp->VK->Prop}(hr:mM X r)(he:PE X e te)(hl:PO X lo tl)(hu:PO X hi th):PE X (.Subscript e (.Slice lo hi Z p2) pos) (tSl r te tl th):=by
 intro pins s σ H Q I h;refine Subscript_ (aY (he pins s σ H _ I h) λv s1 ⟨x,H1,I1,r1,q1⟩=>?_);refine wpAny_Slice (aY (hl pins s1 σ H1 _ I1 q1) λvl s2 ⟨l,H2,I2,pl,q2⟩=>aY (hu pins s2 σ H2 _ I2 q2) λvu s3 ⟨u,H3,I3,pu,q3⟩=>?_);rw[evalPart_none];refine aaM ?_;have I4:Inv X pins σ H3 { s3 with heap:=s3.heap.push { cls:=.type "slice",data:=.fields #[vl,vu,.none] } }:=I3.kept (t':=s3.toks) λb ob q=>aaO _ q
 obtain⟨T,id,hT,ht,hg⟩:=hr pins { s3 with heap:=s3.heap.push { cls:=.type "slice",data:=.fields #[vl,vu,.none] } } σ H3 x v vl vu l u s3.heap.objs.size Q I4 r1 (Heap.IsSliceOf.new ..) pl pu q3;show abj (abG X.prog X.w) X.A (subscriptTail e (.Slice lo hi Z p2) v (.ref s3.heap.objs.size)) (EP X pins σ Q) X.xe { s3 with heap:=s3.heap.push { cls:=.type "slice",data:=.fields #[vl,vu,.none] } };exact tail_any (ops:=[.ref s3.heap.objs.size,v]) ht hT hg (by with_unfolding_all rfl)
noncomputable def mr(xs:aE)(lo hi:Option Int):aE:=(xs.drop (HT.bE ↑xs 0 lo)).take (HT.bE ↑xs ↑xs hi-HT.bE ↑xs 0 lo)
theorem Ek(xs:aE)(lo hi:Option Int):(mr xs lo hi).length<=↑xs:=by
 unfold mr;rw[adx,List.length_drop];omega
noncomputable def Y0(K:aaJ):V->Option Int->Option Int->Hp->VK->Prop:=λx lo hi H Q=>∃a xs,x=.ref a/\cI K H a xs /\
 ¬(HT.bE ↑xs 0 lo=0/\HT.bE ↑xs ↑xs hi=↑xs)/\∀p,H p=Z->Q (.ref p) (upd H p (.tup (mr xs lo hi)))
theorem Ub:mM X (Y0 X.K):=by
 intro pins s σ H x v vl vu lo hi sl Q I rx hs pl pu h;obtain⟨a,xs,rfl,hx,hw,q⟩:=h;cases rx;obtain⟨its,r,ht,hz⟩:=I.tuple hx;have bV:its.toArray.size=↑xs:=by rw[aaV];exact r.length.symm
 refine⟨"tuple",_,adH.lookup,ht.typeIs,?_⟩;refine HT.Mf ht hs pl pu (by rw[bV];exact hw) ?_ (by rw[bV];exact hz);rw[bV];refine⟨.ref s.heap.objs.size,_,I.laid (t':=s.toks) (o:=.tup (mr xs lo hi)) (λb ob q=>aaO _ q) (aaN _) ?_,rfl,q _ (I.aB.fresh (aaN _))⟩;exact⟨abw (Ek xs lo hi) hz,_,(r.drop (HT.bE ↑xs 0 lo)).take (HT.bE ↑xs ↑xs hi-HT.bE ↑xs 0 lo),IsTup.new _ _⟩
noncomputable def IH(K:aaJ):R2:=λx y H Q=>∃a b xs ys,x=.ref a/\y=.ref b/\cI K H a xs/\cI K H b ys/\xs≠[]/\↑xs+↑ys<=abd /\
 (ys=[]->Q (.ref a) H)/\(ys≠[]->∀p,H p=Z->Q (.ref p) (upd H p (.tup (xs++ys))))
theorem Vals.Ay{xs:aE}{us:aT}(r:Vals xs us):us=[]↔xs=[]:=by
 cases r with
 | nil=>simp
 | cons _ _=>simp
theorem Rm:bS X (aev .Add) (IH X.K):=by
 intro pins s σ H x y v u Q I rx ry h;obtain⟨a,b,xs,ys,rfl,rfl,ha,hb,hx,hz,q1,q2⟩:=h;cases rx;cases ry;obtain⟨its,r1,p1,_⟩:=I.tuple ha;obtain⟨ku,r2,p2,_⟩:=I.tuple hb;refine HT.Ri p1 p2 (λz=>hx (r1.Ay.mp z)) (λz=>⟨.ref a,H,I,rfl,q1 (r2.Ay.mp z)⟩) (λz=>?_) (by rw[<- ↑r1,<- ↑r2];exact hz);refine⟨.ref s.heap.objs.size,_,I.laid (t':=s.toks) (o:=.tup (xs++ys)) (λb ob q=>aaO _ q) (aaN _) ?_,rfl,q2 (λw=>z (r2.Ay.mpr w)) _ (I.aB.fresh (aaN _))⟩;exact⟨by rw[aaQ];exact hz,_,r1.append r2,IsTup.new _ _⟩
end
noncomputable def iG(n:Nat)(i:Int):Option Nat:=if 0<=i then(if i<n then O i.toNat else Z) else if -(n:Int)<=i then O (i+n).toNat else Z
variable{α:Type}
noncomputable def da(xs:List α)(i:Int):Option α:=(iG ↑xs i).bind λj=>xs[j]?
theorem Gv{n:Nat}{i:Int}{j:Nat}(h:iG n i=O j):seqIndex? i n=O j/\j<n/\ -(n:Int)<=i/\i<n:=by
 unfold iG at h;by_cases h0:0<=i
 ·rw[if_pos h0] at h;by_cases h1:i<n
  ·rw[if_pos h1] at h;have e:i.toNat=j:=abE h;exact⟨by rw[seqIndex_of h0 h1,e],∅,∅,h1⟩
  ·rw[if_neg h1] at h;cases h
 ·rw[if_neg h0] at h;by_cases h1: -(n:Int)<=i
  ·rw[if_pos h1] at h;have e:(i+n).toNat=j:=abE h;exact⟨by rw[seqIndex_neg ∅ h1,e],∅,h1,∅⟩
  ·rw[if_neg h1] at h;cases h
theorem Az{xs:List α}{i:Int}{v:α}(h:da xs i=O v):∃j,seqIndex? i ↑xs=O j/\xs[j]? =O v/\j<↑xs/\ -(↑xs:Int)<=i/\i<↑xs:=by
 unfold da at h;cases e:iG ↑xs i with
 | none=>rw[e] at h;cases h
 | some j=>
  rw[e] at h;obtain⟨h1,h2,h3,h4⟩:=Gv e;exact⟨j,h1,h,h2,h3,h4⟩
noncomputable def AA(b:acJ):Prop:=∀o i,subscripted b false o i=operate [o,i] (getItem o i)
noncomputable def jS(X:Cx)(r:R2):Prop:=
 ∀(value slice:acJ) (pins:List (abc×Obj)) (s:aaR) (σ:St) (H:Hp) (x y:V) (v u:abh) (Q:VK),Inv X pins σ H s->RelV x v->RelV y u->r x y H Q →
  subscripted slice false v u=operate [v,u] (getItem v u)->abj (abG X.prog X.w) X.A (subscriptTail value slice v u) (EP X pins σ Q) X.xe s
noncomputable def oD(X:Cx)(id:String)(r:V->List V->Hp->VK->Prop):Prop:=
 ∀(pins:List (abc×Obj)) (s:aaR) (σ:St) (H:Hp) (x:V) (xs:aE) (v:abh) (us:aT) (Q:VK),Inv X pins σ H s->RelV x v->Vals xs us->r x xs H Q →
  abj (abG X.prog X.w) X.A (call (.builtin id) (v::us)) (EP X pins σ Q) X.xe s
section
variable{X:Cx}{a b:acJ}{ta tb:TE}{pos:Pos}
theorem jS.or{r r':R2}(h:jS X r)(h':jS X r'):jS X (λx y H Q=>r x y H Q\/r' x y H Q):=by
 intro value slice pins s σ H x y v u Q I rx ry q hs
 rcases q with q | q
 ·exact h value slice pins s σ H x y v u Q I rx ry q hs
 ·exact h' value slice pins s σ H x y v u Q I rx ry q hs
theorem W5{r:R2}(hr:jS X r)(ha:PE X a ta)(hb:PE X b tb)(hs:AA b):PE X (.Subscript a b pos) (uj r ta tb):=by
 intro pins s σ H Q I h;exact Subscript_ (B3 ha hb I h λv u s2 x y H2 I2 rx ry q=>hr a b pins s2 σ H2 x y v u Q I2 rx ry q (hs _ _))
noncomputable def JK(K:aaJ):R2:=λx y H Q=>∃p xs i v,x=.ref p/\y=.int i/\bH K H p xs/\da xs i=O v/\Q v H
noncomputable def JL(K:aaJ):R2:=λx y H Q=>∃p xs i v,x=.ref p/\y=.int i/\cI K H p xs/\da xs i=O v/\Q v H
noncomputable def JM:R2:=λx y H Q=>∃z i c,x=.str z/\y=.int i/\↑z<=abd/\da z.cps.toList i=O c/\Q (.str ⟨#[c]⟩) H
theorem Rn:jS X (JK X.K):=by
 intro value slice pins s σ H x y v u Q I rx ry h hs;obtain⟨p,xs,i,z,rfl,rfl,hq,he,q⟩:=h;cases rx;obtain⟨t,rfl⟩:=ry;obtain⟨its,r,pl,hz⟩:=I.list hq;obtain⟨j,h1,h2,h3,h4,h5⟩:=Az he;obtain⟨w,ew,fq⟩:=r.get h2;have hl:=↑r;have hn:=nH;have fin:EP X pins σ Q w s:=⟨z,H,I,fq,q⟩
 by_cases h0:0<=i
 ·have hj:i.toNat=j:=by
   rw[seqIndex_of h0 h5] at h1;exact abE h1
  exact item_listR pl.isList h0 ∅ (by rw[hj];simpa using ew) fin hs
 ·have hj:(i+(its.toArray.size:Int)).toNat=j:=by
   rw[seqIndex_neg ∅ h4] at h1;rw[aaV,<- hl];exact abE h1
  exact subscriptTail_builtinR (x:=w) pl.isList.typeIs slot_list_getitem.lookup
   (wpAny_getItem_list_neg (Q:=λr s'=>r=w/\EP X pins σ Q r s') pl.isList ∅ (by rw[aaV] <;> omega) ∅ (by rw[hj];simpa using ew) ⟨rfl,fin⟩) hs
theorem Uc:jS X (JL X.K):=by
 intro value slice pins s σ H x y v u Q I rx ry h hs;obtain⟨p,xs,i,z,rfl,rfl,hq,he,q⟩:=h;cases rx;obtain⟨t,rfl⟩:=ry;obtain⟨its,r,pl,hz⟩:=I.tuple hq;obtain⟨j,h1,h2,h3,h4,h5⟩:=Az he;obtain⟨w,ew,fq⟩:=r.get h2;have hl:=↑r;have hn:=nH;have fin:EP X pins σ Q w s:=⟨z,H,I,fq,q⟩
 exact subscriptTail_builtinR (x:=w) pl.typeIs slot_tuple_getitem.lookup
  (getItem_tuple (j:=j) (Q:=λr s'=>r=w/\EP X pins σ Q r s') pl ∅ ∅ (by rw[aaV,<- hl];exact h1) (by simpa using ew) ⟨rfl,fin⟩) hs
theorem Ud:jS X JM:=by
 intro value slice pins s σ H x y v u Q I rx ry h hs;obtain⟨z,i,c,rfl,rfl,hz,he,q⟩:=h;obtain⟨t,rfl⟩:=rx;obtain⟨t',rfl⟩:=ry;obtain⟨j,h1,h2,h3,h4,h5⟩:=Az he;have hl:z.cps.toList.length=↑z:=by simp[Str.length]
 rw[hl] at h1 h4 h5;have hn:=nH;exact tail_any (typeIs_str s z t) slot_str_getitem.lookup (getItem_str (c:=c) (by
  have e1:decide (i< -(2 ^ 63:Int))=false:=bU ∅;have e2:decide (i >= 2 ^ 63)=false:=bU ∅;rw[e1,e2,ahA]) (by rw[h1];simpa using h2) ⟨.str ⟨#[c]⟩,H,I.tok _,⟨_,rfl⟩,q⟩) hs
noncomputable def CH(K:aaJ):R2:=λx y H Q=>JK K x y H Q\/JL K x y H Q\/JM x y H Q
theorem Ue:jS X (CH X.K):=Rn.or (Uc.or Ud)
theorem Oi(its:aT)(n j:Nat)(u:abh):ahb (·.setIfInBounds j u) { cls:=.type "list",data:=.seq its.toArray n }={ cls:=.type "list",data:=.seq (its.set j u).toArray n }:=by
 simp[ahb]
variable{σ:St}{H:Hp}
theorem Inv.lst{pins:List (abc×Obj)}{s:aaR}{p:abc}{xs:aE}(I:Inv X pins σ H s)(h:H p=O (.lst xs)):∃(its:aT) (n:Nat),Vals xs its/\s.heap.get? p=O { cls:=.type "list",data:=.seq its.toArray n }/\↑xs<=sizeLine:=by
 obtain⟨z,its,n,r,e⟩:=I.aB p _ h;exact⟨its,n,r,e,z⟩
theorem Inv.Ug{pins:List (abc×Obj)}{s:aaR}{p:abc}{xs ys:aE}{its its':aT}{n n':Nat}{f:Obj->Obj}(I:Inv X pins σ H s)(h:H p=O (.lst xs))(ho:s.heap.get? p=O { cls:=.type "list",data:=.seq its.toArray n })(hf:f { cls:=.type "list",data:=.seq its.toArray n }={ cls:=.type "list",data:=.seq its'.toArray n' })(r:Vals ys its')(hz:↑ys<=abd)(t:Nat) :
  Inv X pins σ (upd H p (.lst ys)) { s with heap:=s.heap.update p f,toks:=t }:=by
 have e:(s.heap.update p f).get? p=O { cls:=.type "list",data:=.seq its'.toArray n' }:=by
  rw[abT f ho (by rw[hf] <;> rfl),hf]
 refine I.write (x:=p) (e:=p) (by rw[h];trivial) (.inl rfl) (λb u hb q=>(acy _ _ (adh hb)).trans q) ⟨_,e⟩ ?_;exact⟨hz,its',n',r,e⟩
noncomputable def W6:V->V->V->Hp->(Hp->Prop)->Prop:=λo i v H Q=>∃p xs k j,o=.ref p/\i=.int k/\H p=O (.lst xs)/\iG ↑xs k=O j/\Q (upd H p (.lst (xs.set j v)))
theorem set_list:ly X W6:=by
 intro pins s σ H o i v ov iv u Q I ro ri rv h;obtain⟨p,xs,k,j,rfl,rfl,hp,hj,q⟩:=h;cases ro;obtain⟨t,rfl⟩:=ri;obtain⟨its,n,r,ho,hz⟩:=I.lst hp;obtain⟨h1,h2,h3,h4⟩:=Gv hj;have hl:=↑r;have hn:=nH;have I':Inv X pins σ (upd H p (.lst (xs.set j v))) { s with heap:=s.heap.update p (ahb (·.setIfInBounds j u)) }:=
  I.Ug hp ho (Oi its n j u) (r.set rv j) (by rw[aby];exact hz) s.toks
 by_cases h0:0<=k
 ·have hk:k.toNat=j:=by
   rw[seqIndex_of h0 h4] at h1;exact abE h1
  exact PySem.W.ki_setAt ho h0 ∅ (by rw[aaV,<- hl];exact h4) (by rw[hk];exact⟨_,I',q⟩)
 ·have hk:(k+(its.toArray.size:Int)).toNat=j:=by
   rw[seqIndex_neg ∅ h3] at h1;rw[aaV,<- hl];exact abE h1
  exact PySem.W.ki_setBack ho ∅ (by rw[aaV,<- hl];exact h3) ∅ (by rw[hk];exact⟨_,I',q⟩)
theorem Nl(lo hi:Option Int)(n:Nat):(aeW lo hi Z n).1=((HT.bE n 0 lo:Nat):Int)/\(aeW lo hi Z n).2.1=((HT.bE n n hi:Nat):Int)/\(aeW lo hi Z n).2.2=1:=by
 refine⟨?_,?_,rfl⟩
 ·cases lo with
  | none=>simp[aeW,HT.bE]
  | some i=>
   simp only[aeW,HT.bE,agA,show(1:Int)>0 by decide,if_true];by_cases h:i<0
   ·simp only[h,if_true] <;> omega
   ·simp only[h,if_false] <;> omega
 ·cases hi with
  | none=>simp[aeW,HT.bE]
  | some i=>
   simp only[aeW,HT.bE,agA,show(1:Int)>0 by decide,if_true];by_cases h:i<0
   ·simp only[h,if_true] <;> omega
   ·simp only[h,if_false] <;> omega
theorem M1(its:aT)(lo hi:Option Int):slicePick its.toArray lo hi Z=((its.drop (HT.bE ↑its 0 lo)).take (HT.bE ↑its ↑its hi-HT.bE ↑its 0 lo)).toArray:=by
 obtain⟨h1,h2,h3⟩:=Nl lo hi its.toArray.size;unfold slicePick;rw[h1,h2,h3];simp only[sliceRange_one,pick_run,aaV] <;> rfl
noncomputable def Y1(K:aaJ):V->Option Int->Option Int->Hp->VK->Prop:=λx lo hi H Q=>∃a xs,x=.ref a/\bH K H a xs/\∀p,H p=Z->Q (.ref p) (upd H p (.lst (mr xs lo hi)))
theorem Ro:mM X (Y1 X.K):=by
 intro pins s σ H x v vl vu lo hi sl Q I rx hs pl pu h;obtain⟨a,xs,rfl,hx,q⟩:=h;cases rx;obtain⟨its,r,ht,hz⟩:=I.list hx;have bV:=↑r;refine⟨"list",_,slot_list_getitem.lookup,ht.isList.typeIs,?_⟩;refine wpAny_getItem_list_slice ht.isList hs pl pu .none (by simp) ?_ (by rw[aaV] <;> omega);rw[M1,<- bV];refine⟨.ref s.heap.objs.size,_,I.laid (t':=s.toks) (o:=.lst (mr xs lo hi)) (λb ob q=>aaO _ q) (aaN _) ?_,rfl,q _ (I.aB.fresh (aaN _))⟩;exact⟨abw (Ek xs lo hi) hz,_,0,(r.drop (HT.bE ↑xs 0 lo)).take (HT.bE ↑xs ↑xs hi-HT.bE ↑xs 0 lo),abl _ rfl⟩
theorem Nm:c4 X (.builtin "len") (λxs H Q=>∃p ys,xs=[.ref p]/\(bH X.K H p ys\/cI X.K H p ys)/\Q (.int ↑ys) H):=by
 intro pins s σ H xs us Q I r h;obtain⟨p,ys,rfl,hq,q⟩:=h;obtain⟨u,rfl,rx⟩:=vals1 r;cases rx;have hn:=nH
 rcases hq with hq | hq
 ·obtain⟨its,r',pl,hz⟩:=I.list hq;have bV:=↑r';exact Calls.call_len_list pl.isList (by simp only[aaV] <;> omega) ⟨.int ↑ys,H,I.tok _,⟨s.toks+1,by rw[aaV,bV]⟩,q⟩
 ·obtain⟨its,r',pl,hz⟩:=I.tuple hq;have bV:=↑r';exact len_tuple pl (by simp only[aaV] <;> omega) ⟨.int ↑ys,H,I.tok _,⟨s.toks+1,by rw[aaV,bV]⟩,q⟩
theorem Nn:c4 X (.builtin "len") (λxs H Q=>∃z,xs=[.str z]/\↑z<=abd/\Q (.int ↑z) H):=by
 intro pins s σ H xs us Q I r h;obtain⟨z,rfl,hz,q⟩:=h;obtain⟨u,rfl,t,rfl⟩:=vals1 r;have hn:=nH;exact len_str ∅ ⟨.int ↑z,H,I.tok _,⟨_,rfl⟩,q⟩
theorem c4.or{f:abh}{r r':aE->Hp->VK->Prop}(h:c4 X f r)(h':c4 X f r'):c4 X f (λxs H Q=>r xs H Q\/r' xs H Q):=by
 intro pins s σ H xs us Q I rs q
 rcases q with q | q
 ·exact h pins s σ H xs us Q I rs q
 ·exact h' pins s σ H xs us Q I rs q
theorem Np:c4 X (.type "list") (λxs H Q=>∃p ys,xs=[.ref p]/\(bH X.K H p ys\/cI X.K H p ys)/\∀l,H l=Z->Q (.ref l) (upd H l (.lst ys))):=by
 intro pins s σ H xs us Q I r h;obtain⟨p,ys,rfl,hq,q⟩:=h;obtain⟨u,rfl,rx⟩:=vals1 r;cases rx;have fin:∀(its:aT),Vals ys its->↑ys<=abd->∀(h':ade) (c':Nat),(∀b o',s.heap.get? b=O o'->h'.get? b=O o') →
   h'.get? s.heap.objs.size=O { cls:=.type "list",dict:=Z,data:=.seq its.toArray c',slots:= #[] }->EP X pins σ Q (.ref s.heap.objs.size) { s with heap:=h' }:=λits r' hz h' c' kp e=>
  ⟨.ref s.heap.objs.size,_,I.laid (t':=s.toks) kp (aaN _) (show cY X.prog X.w _ h' _ (.lst ys) from⟨hz,its,c',r',e⟩),rfl,q _ (I.aB.fresh (aaN _))⟩
 rcases hq with hq | hq
 ·obtain⟨its,r',pl,hz⟩:=I.list hq;have bV:=↑r';obtain⟨o,ho,hc,n,hd⟩:=pl.isList;exact call_list_seq p (.inl rfl) ho hc hd (λh' c' kp e=>fin its r' hz h' c' kp e) (by simp only[aaV] <;> omega)
 ·obtain⟨its,r',pl,hz⟩:=I.tuple hq;have bV:=↑r';obtain⟨o,ho,hc,n,hd⟩:=pl;exact call_list_seq p (.inr rfl) ho hc hd (λh' c' kp e=>fin its r' hz h' c' kp e) (by simp only[aaV] <;> omega)
noncomputable def yD(K:aaJ)(T:String)(x:V)(H:Hp):Prop:=match x with
 | .str _=>T="str"
 | .int _=>T="int"
 | .ref p=>(T="list"/\∃xs,bH K H p xs)\/(T="tuple"/\∃o,K.lookup p=O o/\o.cls=.type "tuple"/\o.dict=Z) \/
   (T="dict"/\((∃kvs,H p=O (.dK kvs))\/∃kvs,H p=O (.dT kvs)))\/(T="set"/\∃S n,H p=O (.set S n))\/(T="dict"/\∃kvs,H p=O (.dU kvs))
 | _=>False
theorem Hn{pins:List (abc×Obj)}{s:aaR}{T:String}{x:V}{v:abh}(I:Inv X pins σ H s)(r:RelV x v)(ty:yD X.K T x H):s.TypeIs v T/\∀a,v=.ref a->∃ob,s.heap.get? a=O ob/\ob.dict=none:=by
 cases x with
 | str z=>
  obtain⟨t,rfl⟩:=r;cases(show T="str" from ty);exact⟨typeIs_str s z t,λ_ e=>nomatch e⟩
 | int i=>
  obtain⟨t,rfl⟩:=r;cases(show T="int" from ty);exact⟨typeIs_int s i t,λ_ e=>nomatch e⟩
 | ref p=>
  cases r
  rcases ty with⟨rfl,xs,hq⟩ | ⟨rfl,o,hk,hc,hd⟩ | ⟨rfl,hk⟩ | ⟨rfl,S,n,hk⟩ | ⟨rfl,kvs,hk⟩
  ·obtain⟨its,_,pl,_⟩:=I.list hq;refine⟨pl.isList.typeIs,λa e=>?_⟩;cases e;obtain⟨o,n,e,c,hd,_⟩:=pl;exact⟨o,e,hd⟩
  ·refine⟨⟨o,I.gn p o hk,hc⟩,λa e=>?_⟩;cases e;exact⟨o,I.gn _ o hk,hd⟩
  ·have z:∃o,s.heap.get? p=O o/\o.ExactDict:=by
    rcases hk with⟨kvs,hk⟩ | ⟨kvs,hk⟩
    ·obtain⟨_,_,_,_,o,_,_,e,ex,_⟩:=I.aB p _ hk;exact⟨o,e,ex⟩
    ·obtain⟨_,_,_,_,o,_,_,e,ex,_⟩:=I.aB p _ hk;exact⟨o,e,ex⟩
   obtain⟨o,e,ex⟩:=z;refine⟨⟨o,e,ex.1⟩,λa e2=>?_⟩;cases e2;exact⟨o,e,ex.2.1⟩
  ·obtain⟨o,_,_,_,e,ex,_⟩:=I.aB p _ hk;refine⟨⟨o,e,ex.1⟩,λa e2=>?_⟩;cases e2;exact⟨o,e,ex.2.1⟩
  ·obtain⟨_,_,o,_,_,e,ex,_⟩:=I.aB p _ hk;refine⟨⟨o,e,ex.1⟩,λa e2=>?_⟩;cases e2;exact⟨o,e,ex.2.1⟩
 | _=>exact ael ty
noncomputable def Y2(K:aaJ)(T:String)(r:V->List V->Hp->VK->Prop)(to:TE):TE:=λσ H Q=>to σ H λx H1=>yD K T x H1/\r x [] H1 Q
noncomputable def Ko(K:aaJ)(T:String)(r:V->List V->Hp->VK->Prop)(to:TE)(t:TA):TE:=λσ H Q=>to σ H λx H1=>yD K T x H1/\t σ H1 λxs H2=>r x xs H2 Q
variable{o e:acJ}{es:cc}{to:TE}{t:TA}{name:Str}{apos d8:Pos}{T id:String}{r:V->List V->Hp->VK->Prop}
theorem Uh(pa:afw T)(slot:Slot T name id)(iH:typeOf (.builtin id)=pure (.type "method_descriptor"))(hm:oD X id r)(ho:PE X o to)(gI:adT o name X.env (aez o X.env)=aez o X.env:=by rfl)(gJ:(apos.endLine==d8.line)=true:=by rfl):PE X (.Call (.Attribute o name apos) [] [] d8) (Y2 X.K T r to):=by
 intro pins s σ H Q I h;refine wpAny_Call_method0_late gI gJ (aY (ho pins s σ H _ I h) λv s1 ⟨x,H1,I1,r1,ty,q1⟩=>?_);obtain⟨h1,h2⟩:=Hn I1 r1 ty;exact⟨T,id,pa,slot,iH,h1,h2,agD rfl (PySem.evalArgs_none (hm pins s1 σ H1 x [] v [] Q I1 r1 .nil q1))⟩
theorem W7(pa:afw T)(slot:Slot T name id)(iH:typeOf (.builtin id)=pure (.type "method_descriptor"))(hm:oD X id r)(ho:PE X o to)(ha:PA X (e::es) t)(gI:adT o name X.env (aez o X.env)=aez o X.env:=by rfl)
  (B5:((afd d8 (abB (e::es) X.env)).all (λx=> !x.1)&&(backToKw d8 (keywordEach [] X.env)).all (λx=>x.1.isSome)
   && decide ((e::es).length+([]:List Keyword).length+(if([]:List Keyword).isEmpty then 0 else 1)<30))=true:=by rfl)
  (gJ:(apos.endLine==d8.line)=true:=by rfl) (hs:abB (e::es) X.env=(false,aez e X.env)::abB es X.env:=by rfl) (Bb:(afd d8 (abB es X.env)).any (·.1)=false:=by rfl) :
  PE X (.Call (.Attribute o name apos) (e::es) [] d8) (Ko X.K T r to t):=by
 intro pins s σ H Q I h;refine wpAny_Call_method_late gI B5 gJ rfl (aY (ho pins s σ H _ I h) λv s1 ⟨x,H1,I1,r1,ty,q1⟩=>?_);obtain⟨h1,h2⟩:=Hn I1 r1 ty;refine⟨T,id,pa,slot,iH,h1,h2,?_⟩;have hA:=ha d8 pins s1 σ H1 _ I1 q1;rw[hs] at hA ⊢;refine agD (by show(false||(afd d8 (abB es X.env)).any (·.1))=false;rw[Bb] <;> rfl) (Calls.evalArgs_plain ?_);exact aY hA λus s2 ⟨vs,H2,I2,r2,q2⟩=>hm pins s2 σ H2 x vs v us Q I2 r1 r2 q2
end
noncomputable def CI(X:Cx)(id:String)(r:V->List V->Hp->VK->Prop):Prop:=
 ∀(pins:List (abc×Obj)) (s:aaR) (σ:St) (H:Hp) (x:V) (xs:aE) (v:abh) (us:aT) (Q:VK),Inv X pins σ H s->RelV x v->Vals xs us->r x xs H Q →
  abj (abG X.prog X.w) X.A (call (.builtin id) (v::us)) (EP X pins σ Q) X.xe s
theorem Vals.one{x:V}{us:aT}(h:Vals [x] us):∃u,us=[u]/\RelV x u:=by
 cases h with
 | cons r t=>cases t;exact⟨_,rfl,r⟩
theorem Vals.two{x y:V}{us:aT}(h:Vals [x,y] us):∃u v,us=[u,v]/\RelV x u/\RelV y v:=by
 cases h with
 | cons r t=>
  obtain⟨v,e,q⟩:=Vals.one t;subst e;exact⟨_,_,rfl,r,q⟩
theorem Vals.zero:∀{us:aT},Vals [] us->us=[]
 | _,.nil=>rfl
theorem Vals.dropLast{xs:aE}{us:aT}(h:Vals xs us):Vals xs.dropLast us.dropLast:=by
 induction h with
 | nil=>exact .nil
 | cons r t ih=>
  cases t with
  | nil=>exact .nil
  | cons q t'=>exact .cons r ih
theorem Vals.rep{xs:aE}{us:aT}(h:Vals xs us):∀k:Nat,Vals (aaY k xs).flatten (aaY k us).flatten
 | 0=>.nil
 | k+1=>by
  rw[ack,ack,adJ,adJ];exact Vals.append h (Vals.rep h k)
theorem Oj(l:List α):l.eraseIdx (↑l-1)=l.dropLast:=by
 induction l with
 | nil=>rfl
 | cons a r ih=>
  cases r with
  | nil=>rfl
  | cons b r=>
   have e:(a::b::r).length-1=((b::r).length-1)+1:=by
    have h1:(a::b::r).length=↑r+2:=rfl;have h2:(b::r).length=↑r+1:=rfl;omega
   rw[e,List.eraseIdx_cons_succ,ih]
   all_goals rfl
theorem foldl_rep(its:aT):∀(k:Nat) (acc:aT),
  List.foldl (λx1 x2=>x1++x2) acc.toArray (aaY k its.toArray)=(acc++(aaY k its).flatten).toArray
 | 0,acc=>by simp
 | k+1,acc=>by
  have e:acc.toArray++its.toArray=(acc++its).toArray:=by simp
  have e2:(acc++its)++(aaY k its).flatten=acc++(aaY (k+1) its).flatten:=by
   rw[ack,adJ,acO]
  rw[<- e2,<- foldl_rep its k (acc++its),<- e,ack,List.foldl_cons]
section
variable{X:Cx}{pins:List (abc×Obj)}{σ:St}{H:Hp}{s:aaR}{l b:abc}{xs ys zs:aE}
theorem Inv.B6{its its':aT}{n:Nat}{f:eM->Array abh}{t':Nat}(I:Inv X pins σ H s)(hH:H l=O (.lst xs))(e:s.heap.get? l=O { cls:=.type "list",data:=.seq its.toArray n })(hf:f its.toArray=its'.toArray)(hv:Vals ys its')(hz:↑ys<=abd) :
  Inv X pins σ (upd H l (.lst ys)) { s with heap:=s.heap.update l (ahb f),toks:=t' }:=by
 have q:=PySem.IsL.update e f;rw[hf] at q;refine I.write (x:=l) (e:=l) (by rw[hH];exact trivial) (.inl rfl) (λb' u hb hu=>(acy s.heap (ahb f) (adh hb)).trans hu) ⟨_,q⟩ ?_;exact⟨hz,its',_,hv,q⟩
theorem Inv.B7{its:aT}{t':Nat}(I:Inv X pins σ H s)(hv:Vals ys its)(hz:↑ys<=abd):Inv X pins σ (upd H s.heap.objs.size (.lst ys)) { s with heap:=s.heap.push { cls:=.type "list",data:=.seq its.toArray },toks:=t' }:=
 I.laid (λ_ _ q=>aaO _ q) (aaN _) ⟨hz,its,0,hv,abl _ rfl⟩
theorem Inv.fresh(I:Inv X pins σ H s):H s.heap.objs.size=none:=I.aB.fresh (aaN _)
theorem Inv.nX(I:Inv X pins σ H s)(hH:H l=O (.lst xs)):↑xs<=abd/\∃(its:aT) (n:Nat),Vals xs its/\↑xs=↑its/\s.heap.get? l=O { cls:=.type "list",data:=.seq its.toArray n }:=by
 obtain⟨z,its,n,r,e⟩:=I.aB l _ hH;exact⟨z,its,n,r,↑r,e⟩
theorem FH{n:Nat}(h:n<=abd):adK n=false:=by
 unfold adK;exact bU ∅
end
section
variable{X:Cx}
noncomputable def Gw:V->List V->Hp->VK->Prop:=λx vs H Q=>∃l xs y,x=.ref l/\vs=[y]/\H l=O (.lst xs)/\↑xs<abd/\Q .aH (upd H l (.lst (xs++[y])))
theorem EW:CI X "list.append" Gw:=by
 intro pins s σ H x vs v us Q I rx rv h;obtain⟨l,xs,y,rfl,rfl,hH,hz,q⟩:=h;cases rx;obtain⟨u,rfl,ru⟩:=rv.one;obtain⟨z,its,n,r,hl,e⟩:=I.nX hH;refine agf F.slot_list_append ⟨_,e,rfl⟩ F.entry_list_append (F.args_list_append_2 _ _) (PySem.list_append l its.toArray n u (by rw[aaV];omega)) ⟨e,?_⟩;refine⟨.aH,_,I.B6 (its':=its++[u]) hH e (by simp) (r.append (.cons ru .nil)) ?_,rfl,q⟩;rw[aaQ,List.length_singleton];omega
noncomputable def Gx:V->List V->Hp->VK->Prop:=λx vs H Q=>∃l b xs zs,x=.ref l/\vs=[.ref b]/\H l=O (.lst xs)/\H b=O (.lst zs)/\↑xs+↑zs<=abd/\Q .aH (upd H l (.lst (xs++zs)))
theorem EX:CI X "list.extend" Gx:=by
 intro pins s σ H x vs v us Q I rx rv h;obtain⟨l,b,xs,zs,rfl,rfl,hH,hB,hz,q⟩:=h;cases rx;obtain⟨u,rfl,ru⟩:=rv.one;cases ru;obtain⟨z,its,n,r,hl,e⟩:=I.nX hH;obtain⟨z2,ku,n2,r2,fF,e2⟩:=I.nX hB;have hsz:its.toArray.size+ku.toArray.size<=sizeLine:=by rw[aaV,aaV];omega
 have BC:¬(!its.toArray.isEmpty&&adK (its.toArray.size+ku.toArray.size))=true:=by
  rw[FH hsz,ahk];exact abg
 refine agf F.slot_list_extend ⟨_,e,rfl⟩ F.entry_list_extend (F.args_list_extend_2 _ _)
  (AutoSeq1.list_extend_list_list_0 l its.toArray n b ku.toArray n2 BC (by rw[aaV];omega) ∅) ⟨e,e2,?_⟩
 refine⟨.aH,_,I.B6 (its':=its++ku) hH e (by simp) (r.append r2) ?_,rfl,q⟩;rw[aaQ];omega
noncomputable def JN:V->List V->Hp->VK->Prop:=λx vs H Q=>∃l xs y,x=.ref l/\vs=[]/\H l=O (.lst xs)/\xs[↑xs-1]? =O y/\Q y (upd H l (.lst xs.dropLast))
theorem Ui:CI X "list.pop" JN:=by
 intro pins s σ H x vs v us Q I rx rv h;obtain⟨l,xs,y,rfl,rfl,hH,hy,q⟩:=h;cases rx;have hus:=rv.zero;subst hus;obtain⟨z,its,n,r,hl,e⟩:=I.nX hH;obtain⟨u,hu,ru⟩:=r.get hy;have oE:its.toArray[its.toArray.size-1]? =O u:=by
  show its.toArray[↑its-1]? =O u;rw[<- agM,<- hl];exact hu
 refine agf F.slot_list_pop ⟨_,e,rfl⟩ F.entry_list_pop (F.args_list_pop_1 _) (MeetsSeq.list_pop_last l its.toArray n u oE (by rw[aaV];omega)) ⟨e,?_⟩;refine⟨y,_,I.B6 (its':=its.dropLast) hH e ?_ r.dropLast ?_,ru,q⟩
 ·show its.toArray.eraseIdxIfInBounds (its.toArray.size-1)=its.dropLast.toArray;rw[aaV,List.eraseIdxIfInBounds_toArray,Oj]
 ·rw[List.length_dropLast];omega
noncomputable def JP:R2:=λx y H Q=>∃l b xs zs,x=.ref l/\y=.ref b/\H l=O (.lst xs)/\H b=O (.lst zs)/\↑xs+↑zs<=abd/\∀p,H p=Z->Q (.ref p) (upd H p (.lst (xs++zs)))
theorem Uj:bS X (aev .Add) JP:=by
 intro pins s σ H x y v u Q I rx ry h;obtain⟨l,b,xs,zs,rfl,rfl,hH,hB,hz,q⟩:=h;cases rx;cases ry;obtain⟨z,its,n,r,hl,e⟩:=I.nX hH;obtain⟨z2,ku,n2,r2,fF,e2⟩:=I.nX hB;refine PySem.P.add_list e e2 ?_ (by rw[aaV,aaV];omega);have ea:its.toArray++ku.toArray=(its++ku).toArray:=by simp
 rw[ea];exact⟨.ref _,_,I.B7 (t':=s.toks) (r.append r2) (by rw[aaQ];omega),rfl,q _ I.fresh⟩
noncomputable def JQ:R2:=λx y H Q=>∃l k xs,x=.ref l/\y=.int k/\H l=O (.lst xs)/\ -(2 ^ 63)<=k/\k<2 ^ 63/\↑xs*k.toNat<=abd /\
 ∀p,H p=Z->Q (.ref p) (upd H p (.lst (aaY k.toNat xs).flatten))
theorem len_rep{α:Type}(xs:List α)(k:Nat):(aaY k xs).flatten.length=k*↑xs:=by
 induction k with
 | zero=>simp
 | succ k ih=>rw[ack,adJ,aaQ,ih,Nat.succ_mul,agN]
theorem Uk:bS X (aev .Mult) JQ:=by
 intro pins s σ H x y v u Q I rx ry h;obtain⟨l,k,xs,rfl,rfl,hH,h1,h2,hz,q⟩:=h;cases rx;obtain⟨t,rfl⟩:=ry;obtain⟨z,its,n,r,hl,e⟩:=I.nX hH;have bV:its.toArray.size*k.toNat<=sizeLine:=by rw[aaV,<- hl];exact hz
 have Y3:¬its.toArray.size*k.toNat>(2 ^ 63-1) / 8:=by
  have:(abd:Nat)<=(2 ^ 63-1) / 8:=by decide
  omega
 have B8:¬(!Builtin.List.listFitsIndex k)=true:=by
  rw[fitsIndex_both h1 h2];exact abg
 have BC:¬adK (its.toArray.size*k.toNat)=true:=by
  rw[FH bV];exact abg
 have iD:List.foldl (λx1 x2=>x1++x2) #[] (aaY (if its.toArray.isEmpty=true then 0 else k.toNat) its.toArray)=(aaY k.toNat its).flatten.toArray:=by
  have f0:∀m:Nat,List.foldl (λx1 x2=>x1++x2) #[] (aaY m its.toArray)=(aaY m its).flatten.toArray:=λm=>by
   have:=foldl_rep its m [];rw[aeK] at this;exact this
  rw[f0];cases its with
  | nil=>simp
  | cons a r'=>rw[if_neg (by simp)]
 refine wpAny_binaryOp_repeat_ref (T:="list") (U:="int") (by decide) ⟨_,e,rfl⟩ (λs'=>typeIs_int s' k t) noFill_list_mul F.fills_int_mul F.slot_int_rmul repeat_list F.slot_int_index.lookup
  (agf F.slot_int_rmul (typeIs_int s k t) F.entry_int_rmul (F.args_int_rmul_2 _ _) (int___rmul___int_list k t l its.toArray n)
   ⟨e,rfl,⟨_,e,rfl⟩,agf F.slot_list_mul ⟨_,e,rfl⟩ F.entry_list_mul (F.args_list_mul_2 _ _) (AutoListH.list___mul___list_int_3 l its.toArray n k t B8 Y3 BC) ⟨e,?_⟩⟩)
 rw[iD];exact⟨.ref _,_,I.B7 (t':=s.toks) (r.rep k.toNat) (by rw[len_rep,Nat.mul_comm];exact hz),rfl,q _ I.fresh⟩
end
end L2
namespace Kp
open PySem PySem.W PySem.Calls PyProof.Rows
theorem MC{P:Params}{h:ade}:∀(ns:bI) (vs:aT),WellAll P h vs (ns.map WData.int)->agL vs ns:=by
 intro ns
 induction ns with
 | nil=>
  intro vs w;rw[aeD] at w;cases w;exact .nil
 | cons n ns ih=>
  intro vs w;rw[abt] at w;cases w with
  | cons a b=>
   cases a;exact .cons _ _ (ih _ b)
theorem OO{l:OpenLaw}{n:Nat}(hn:l.most=O n){P:Params}{h:ade}{args:List WData}{vals:aT}(xY:l.row.toRowW.claim.pre args=true)(jT:WellAll P h vals args):∃a vs ns,vals=[abi a]/\args=[WData.list (ns.map WData.int)]/\h.get? a=O { cls:=.type "list",data:=.seq vs.toArray }/\agL vs ns/\↑ns<=n:=by
 have hsh:WShape.hasAll [] args [.list .int]=true:=(pre_splitW xY).1;have hc:l.pre.holds [] { args:=args }=true:=(pre_splitW xY).2;obtain⟨d,r,rfl,h1,h2⟩:=hasAllW_cons hsh;obtain rfl:=hasAllW_nil h2;obtain⟨xs,rfl,h3⟩:=hasW_list h1;obtain⟨ns,rfl⟩:=items_int h3;have bV:↑ns<=n:=by
  unfold OpenLaw.pre at hc;have h4:(WTm.not (.lt (.lit (.int n)) (.len (.arg 0)))).holds [] { args:=[.list (ns.map .int)] }=true:=by
   have h4:=(holds_andW hc).1;rw[hn] at h4;exact h4
  have h5:=condW_of h4 (w_not (w_lt w_lit (w_len_list (w_arg rfl))));rw[aaI] at h5;refine Nat.le_of_not_lt λq=>?_
  have q':(n:Int)<((↑ns:Nat):Int):=by omega
  first
   | (rw[a6 q'] at h5;exact absurd h5 (by decide))
   | (simp at h5;omega)
 cases jT with
 | cons w1 w2=>
  cases w2;cases w1 with
  | list ho gg=>exact⟨_,_,ns,rfl,rfl,ho,MC ns _ gg,bV⟩
theorem OP(l:OpenLaw)(args:List WData):l.row.toRowW.claim.post args (.bool true) args=true:=
 postW_of (r:=l.row.toRowW) (X:=(true==true))
  (show WShape.has [] (.bool true) .bool=true by first | rfl | decide | simp[WShape.has,WShape.arms,WShape.armsAll])
  (show(WTm.eq .res (.lit (.bool true))).value [] { args:=args,res:=O (.bool true),after:=args }=O (.bool (true==true)) from w_eq_bool (w_res rfl) w_lit) rfl
theorem NH{l:OpenLaw}{n:Nat}{q:abI}{loose:a8}{XP:(Str->Option abh)->ade->Prop}{YP:acg->ade->Prop}{d:DefRec}(hn:l.most=O n)(uo:d.params.defaults=[])(call:∀(w:acg) (aD bT:aaR) (mg mb:dE) (fa:abc) (o:Obj) (pm cd doc:abh) (a:abc) (vs:aT) (ns:bI),Ground q loose [] XP w aD mg mb bT.heap->YP w bT.heap → bT.heap.get? fa=O o->o.data=.func (docDef d.name d.params d.body d.scope pm cd doc)->bT.heap.CodeRec cd d.name->mg d.name=O (.ref fa) → bT.heap.get? a=O { cls:=.type "list",data:=.seq vs.toArray }->agL vs ns->↑ns<=n->bT.gens= #[] → ahJ (abG l.prog w) callerA (.call (.ref fa) ⟨[.ref a],[]⟩) (λr s'=>r=.ok (.ret (.bool true))/\OldK bT.heap s'.heap/\s'.os=bT.os/\ago s'.gens) bT):WalkO q loose XP YP l.row.toRowW d [] (λf vs=>PySem.call f vs):=by
 intro w aD bT mg mb G Y fa o pm cd doc dV kV ho hd hcd hD hmg hg args vals as xY aav CJ jT kI;obtain rfl:dV=.none:=Dflts.none hD uo;obtain rfl:kV=.none:=Dflts.noKw hD;obtain⟨a,vs,ns,rfl,rfl,B9,BD,bV⟩:=OO hn xY jT;refine enter_call (aef (call w aD bT mg mb fa o pm cd doc a vs ns G Y ho (fd_plain hd) hcd hmg B9 BD bV hg) λr s' hq=>?_);obtain⟨rfl,h2,h3,h4⟩:=hq;exact⟨.inl ⟨.bool true,.bool true,[],rfl,λ_=>rfl,.bool true,OP l _,λ_=>⟨List.Pairwise.nil,λ_ hm=>(nomatch hm)⟩⟩,h2,h3,h4⟩
end Kp
namespace L2
open PySem PySem.Spec PyProof.Rows
theorem EY:∀{vs:aT} {ns:bI},agL vs ns->Vals (ns.map V.int) vs
 | _,_,.nil=>.nil
 | _,_,.cons n t h=>.cons ⟨t,rfl⟩ (EY h)
noncomputable def iX(s:ahH):Arguments:=match s with
 | .FunctionDef _ a _ _ _ _ _ _ _ _=>a
 | _=>{ posonlyargs:=[],args:=[],vararg:=Z,kwonlyargs:=[],kw_defaults:=[],kwarg:=Z,defaults:=[] }
noncomputable def eE(s:ahH):eN:=match s with
 | .FunctionDef _ _ b _ _ _ _ _ _ _=>b
 | _=>[]
noncomputable def aQ(s:ahH):Scope:=match s with
 | .FunctionDef _ _ _ _ _ _ sc _ _ _=>sc
 | _=>{ kind:=.function,names:=[],isGenerator:=false,isCoroutine:=false }
structure iI(K:aaJ)(x qual:Str)(st:ahH)(f:abc)(fd:acG):Prop where
 ex:∃(oc:abh) (od:d7) (kV doc pm:abh) (an:d7) (bC ct:abh) (gQ:Array hV),
  fd=acw x qual (iX st) (eE st) (aQ st) .none kV doc pm an bC ct/\K.lookup f=O ⟨oc,od,.func fd,gQ⟩/\adC K bC qual=true
 kp:acT K (.ref f)=true
section
variable{P:abI}{w:acg}{K:aaJ}{mg:dE}{base:ade}
theorem iI.binds{x qual:Str}{st:ahH}{f:abc}{fd:acG}{ps:a8}(F:iI K x qual st f fd)(h:∀(kV doc pm:abh) (an:d7) (bC ct:abh) (us:aT),↑us=↑ps->bindArgs (acw x qual (iX st) (eE st) (aQ st) .none kV doc pm an bC ct) ⟨us,[]⟩=pure (ps.zip us)):Binds K fd ps []:=by
 obtain⟨oc,od,kV,doc,pm,an,bC,ct,gQ,rfl,lk,hcd⟩:=F.ex;exact .all (h kV doc pm an bC ct)
theorem xo{x qual:Str}{st:ahH}{f:abc}{oc:abh}{od an:d7}{gQ:Array hV}{kV doc pm bC ct:abh}(l:K.lookup f=O ⟨oc,od,.func (acw x qual (iX st) (eE st) (aQ st) .none kV doc pm an bC ct),gQ⟩)(c:adC K bC qual=true)(k:acT K (.ref f)=true):iI K x qual st f (acw x qual (iX st) (eE st) (aQ st) .none kV doc pm an bC ct):=⟨⟨oc,od,kV,doc,pm,an,bC,ct,gQ,rfl,l,c⟩,k⟩
end
theorem xD{A:acF}{k:Nat}(hr:df k A):A.units+1<cLine:=Nat.lt_of_le_of_lt (Nat.add_le_add_left (by decide:1<=64) _) hr.units
theorem nY{A B:Prop}(h:B):if false=true then A else B:=by
 rw[if_neg abg];exact h
theorem nZ{A B:Prop}(h:A):if true=true then A else B:=by
 rw[if_pos rfl];exact h
section
variable{κ:Type}[DecidableEq κ]
noncomputable def jd(kvs:List (κ×V))(k:κ):Option V:=(kvs.find? λkv=>decide (kv.1=k)).map (·.2)
noncomputable def putK(kvs:List (κ×V))(k:κ)(v:V):List (κ×V):=
 if(kvs.any λkv=>decide (kv.1=k))=true then kvs.map (λkv=>if kv.1=k then(kv.1,v) else kv) else kvs++[(k,v)]
theorem rQ{p:κ×V}{r:List (κ×V)}{k:κ}(e:p.1=k):jd (p::r) k=O p.2:=by simp[jd,acW,e]
theorem rR{p:κ×V}{r:List (κ×V)}{k:κ}(e:¬p.1=k):jd (p::r) k=jd r k:=by simp[jd,acW,e]
theorem FI(k:κ):∀kvs:List (κ×V),(kvs.any λkv=>decide (kv.1=k))=(jd kvs k).isSome
 | []=>rfl
 | p::r=>by
  rw[acU];by_cases e:p.1=k
  ·simp only[rQ e,a6 e,Bool.true_or,Option.isSome_some]
  ·rw[rR e,bU e,Bool.false_or];exact FI k r
theorem vT(kvs:List (κ×V))(k:κ)(v:V):(putK kvs k v).length<=↑kvs+1:=by
 unfold putK;split
 ·rw[aaI];omega
 ·rw[aaQ,abq,aeL];omega
theorem jD.rH{o:Option V}{u:hV}(r:jD o u):o.isSome=u.isSome:=by
 cases o with
 | none=>cases u with
  | none=>rfl
  | some _=>exact(show False from r).elim
 | some _=>cases u with
  | none=>exact(show False from r).elim
  | some _=>rfl
theorem KV.val{kvs:List (κ×V)}{vs:List (κ×abh)}(r:KV kvs vs)(k:κ):jD (jd kvs k) (ahK vs k):=by
 unfold KV at r
 induction r with
 | nil=>exact adL
 | @cons p q ps qs h t ih=>
  obtain⟨h1,h2⟩:=h;by_cases e:p.1=k
  ·have e':q.1=k:=h1.symm.trans e;have b:ahK (q::qs) k=O q.2:=by simp[ahK,acW,e']
   rw[rQ e,b];exact h2
  ·have e':¬q.1=k:=λz=>e (h1.trans z)
   have b:ahK (q::qs) k=ahK qs k:=by simp[ahK,acW,e']
   rw[rR e,b];exact ih
theorem KV.any{kvs:List (κ×V)}{vs:List (κ×abh)}(r:KV kvs vs)(k:κ):(kvs.any λkv=>decide (kv.1=k))=vs.any λkv=>decide (kv.1=k):=by
 unfold KV at r
 induction r with
 | nil=>rfl
 | cons h t ih=>rw[acU,acU,ih,h.1]
theorem KV.jH{kvs:List (κ×V)}{vs:List (κ×abh)}(r:KV kvs vs)(k:κ){y:V}{u:abh}(ry:RelV y u):KV (kvs.map λkv=>if kv.1=k then(kv.1,y) else kv) (vs.map λkv=>if kv.1=k then(kv.1,u) else kv):=by
 unfold KV at r ⊢
 induction r with
 | nil=>exact .nil
 | @cons p q ps qs h t ih=>
  rw[abt,abt];refine .cons ?_ ih;obtain⟨h1,h2⟩:=h;by_cases e:p.1=k
  ·rw[if_pos e,if_pos (h1.symm.trans e)];exact⟨h1,ry⟩
  ·rw[if_neg e,if_neg (λz=>e (h1.trans z))];exact⟨h1,h2⟩
theorem KV.put{kvs:List (κ×V)}{vs:List (κ×abh)}(r:KV kvs vs)(k:κ){y:V}{u:abh}(ry:RelV y u):KV (putK kvs k y) (stored vs k u):=by
 unfold putK stored;rw[r.any k];by_cases e:(vs.any λkv=>decide (kv.1=k))=true
 ·rw[if_pos e,if_pos e];exact r.jH k ry
 ·rw[if_neg e,if_neg e];exact Paired.snoc r ⟨rfl,ry⟩
theorem KV.keys{kvs:List (κ×V)}{vs:List (κ×abh)}(r:KV kvs vs):kvs.map (·.1)=vs.map (·.1):=by
 unfold KV at r
 induction r with
 | nil=>rfl
 | cons h t ih=>rw[abt,abt,ih,h.1]
theorem KV.length{kvs:List (κ×V)}{vs:List (κ×abh)}(r:KV kvs vs):↑kvs=↑vs:=adg r
end
variable{u:abh}
theorem pI{P:abI}{w:acg}{k:Key}(r:RelV (kV k) u):(dD P w).is k u=true:=by
 cases k with
 | inl i=>obtain⟨t,e⟩:=(show ∃t,u=afc i t from r);subst e;exact NE P w i t
 | inr x=>obtain⟨t,e⟩:=(show ∃t,u=ahu x t from r);subst e;exact NG P w x t
theorem EZ{P:abI}{w:acg}:∀{ks:bz} {us:aT},Vals (ks.map kV) us->ItemsAre (dD P w) ks us
 | [],_,r=>by rw[aeD] at r;cases r;exact .nil
 | k::ks,_,r=>by
  rw[abt] at r;cases r with
  | cons h t=>exact .cons (pI h) (EZ t)
abbrev KT(H:Hp):f9->List (bz×abc×abh)->Prop:=aco λp q=>p.1=q.1/\H q.2.1=O (.tup (p.1.map kV))/\RelV p.2 q.2.2
variable{H:Hp}{kvs:f9}{xs:List (bz×abc×abh)}
theorem KT.val(r:KT H kvs xs)(k:bz):jD (jd kvs k) ((atKey xs k).map (·.2)):=by
 induction r with
 | nil=>exact adL
 | @cons p q ps qs h t ih=>
  obtain⟨h1,_,h2⟩:=h;by_cases e:p.1=k
  ·have e':q.1=k:=h1.symm.trans e;have b:atKey (q::qs) k=O q.2:=by simp[atKey,acW,e']
   rw[rQ e,b];exact h2
  ·have e':¬q.1=k:=λz=>e (h1.trans z)
   have b:atKey (q::qs) k=atKey qs k:=by simp[atKey,acW,e']
   rw[rR e,b];exact ih
variable{y:V}
theorem KT.jH(r:KT H kvs xs)(k:bz)(ry:RelV y u):KT H (kvs.map λkv=>if kv.1=k then(kv.1,y) else kv) (xs.map (putAt k u)):=by
 induction r with
 | nil=>exact .nil
 | @cons p q ps qs h t ih=>
  rw[abt,abt];refine .cons ?_ ih;obtain⟨h1,h2,h3⟩:=h;unfold putAt;by_cases e:p.1=k
  ·rw[if_pos e,if_pos (h1.symm.trans e)];exact⟨h1,h2,ry⟩
  ·rw[if_neg e,if_neg (λz=>e (h1.trans z))];exact⟨h1,h2,h3⟩
theorem KT.put(r:KT H kvs xs)(k:bz){b:abc}(hb:H b=O (.tup (k.map kV)))(ry:RelV y u):KT H (putK kvs k y) (storedH xs k b u):=by
 have e:(kvs.any λkv=>decide (kv.1=k))=(atKey xs k).isSome:=by
  rw[FI,(r.val k).rH,adM]
 unfold putK storedH;rw[e];by_cases q:(atKey xs k).isSome=true
 ·rw[if_pos q,if_pos q];exact r.jH k ry
 ·rw[if_neg q,if_neg q];exact Paired.snoc r ⟨rfl,hb,ry⟩
theorem KT.keeps{H':Hp}(r:KT H kvs xs)(ht:∀b ys,H b=O (.tup ys)->H' b=O (.tup ys)):KT H' kvs xs:=
 aco.jF r λ_ _ z=>⟨z.1,ht _ _ z.2.1,z.2.2⟩
section
variable{P:abI}{w:acg}{H:Hp}{h:ade}{a:abc}
theorem IJ{u:HO}(ok:cS P w H h)(e:Rd H a u):cY P w H h a u:=e.ok ok
theorem sG{kvs:fD}(ok:cS P w H h)(e:Rd H a (.dK kvs)):↑kvs<=abd/\(a==acx)=false/\∃vs,KV kvs vs/\h.DictOf (dD P w) a vs:=
 show cY P w H h a (.dK kvs) from IJ ok e
theorem pJ{kvs:fD}(ok:cS P w H h)(e:H a=O (.dK kvs)):↑kvs<=abd/\(a==acx)=false/\∃vs,KV kvs vs/\h.DictOf (dD P w) a vs:=sG ok (.inl e)
theorem pE{ks:bz}(ok:cS P w H h)(e:H a=O (.tup (ks.map kV))):(ahx (dD P w)).is h ks a:=by
 obtain⟨_,its,r,o,h1,h2,n,h3⟩:=(show cY P w H h a (.tup (ks.map kV)) from ok a _ e)
 exact⟨o,its.toArray,n,h1,h2,h3,by simpa using EZ r⟩
theorem sH{kvs:f9}(ok:cS P w H h)(e:Rd H a (.dT kvs)):↑kvs<=abd/\(a==acx)=false/\∃xs,KT H kvs xs/\h.DictOfH (ahx (dD P w)) a xs:=by
 obtain⟨z,y,xs,r,o,es,ep,h1,h2,h3,h4,h5⟩:=(show cY P w H h a (.dT kvs) from IJ ok e)
 refine⟨z,y,xs,r,o,es,ep,h1,h2,h3,h4,λx hx=>?_,h5⟩;have all:∀{l:f9} {m:List (bz×abc×abh)},KT H l m->∀x∈m,(ahx (dD P w)).is h x.1 x.2.1:=by
  intro l m q
  induction q with
  | nil=>intro x hx;exact nomatch hx
  | @cons p q ps qs hq t ih=>
   intro x hx
   rcases abk.mp hx with e | hx
   ·subst e;exact pE ok (by rw[<- hq.1];exact hq.2.1)
   ·exact ih x hx
 exact all r x hx
theorem xE{kvs:f9}(ok:cS P w H h)(e:H a=O (.dT kvs)):↑kvs<=abd/\(a==acx)=false/\∃xs,KT H kvs xs/\h.DictOfH (ahx (dD P w)) a xs:=sH ok (.inl e)
end
noncomputable def jI(H:Hp)(a:abc)(y:V)(r:Option V):Prop:=
 (∃kvs k,Rd H a (.dK kvs)/\y=kV k/\r=jd kvs k)\/∃kvs k b,Rd H a (.dT kvs)/\y=.ref b/\H b=O (.tup (k.map kV))/\r=jd kvs k
noncomputable def n4(H:Hp)(a:abc)(y v:V)(H':Hp):Prop:=
 (∃kvs k,H a=O (.dK kvs)/\y=kV k/\↑kvs<abd/\H'=upd H a (.dK (putK kvs k v))) \/
 ∃kvs k b,H a=O (.dT kvs)/\y=.ref b/\H b=O (.tup (k.map kV))/\↑kvs<abd/\H'=upd H a (.dT (putK kvs k v))
section
variable{X:Cx}{pins:List (abc×Obj)}{σ:St}{H:Hp}{s:aaR}{a:abc}{y v:V}{u r:abh}{o:Option V}{A:acF}{E:bR}
theorem Inv.big(I:Inv X pins σ H s):acx<s.heap.objs.size:=by
 have h:abr<s.heap.objs.size:=(I.mod.glob.keeps I.bk).lt;exact afO (by decide) h
variable{Q:bR}
theorem OQ(hu:A.units+1<aep)(I:Inv X pins σ H s)(g:jI H a y (O v))(ry:RelV y u)(h:∀w' s',Inv X pins σ H s'->RelV v w'->Q w' s'):abj (abG X.prog X.w) A (getItem (.ref a) u) Q E s:=by
 rcases g with⟨kvs,k,e,ey,l⟩ | ⟨kvs,k,b,e,ey,eb,l⟩
 ·subst ey;obtain⟨z,hd,vs,rel,dd⟩:=sG I.aB e;obtain⟨w',hw,fq⟩:=jD.some_of (v:=v) (o:=ahK vs k) (by rw[l];exact rel.val k);exact wpAny_getItem_of (pI ry) dd.mapOf hw (h w' _ (I.tok _) fq)
 ·subst ey;cases(show u=abi b from ry);obtain⟨z,hd,xs,rel,dd⟩:=sH I.aB e;obtain⟨w',hw,fq⟩:=jD.some_of (v:=v) (o:=(atKey xs k).map (·.2)) (by rw[l];exact rel.val k);obtain⟨p,hp,fG⟩:=aaP.mp hw;refine wpAny_getItem_heap (aeM hu) (pE I.aB eb) dd hp ?_;rw[fG];exact h w' _ (I.tok _) fq
theorem Ca(hu:A.units+1<aep)(I:Inv X pins σ H s)(g:jI H a y o)(ry:RelV y u)(h:∀s',Inv X pins σ H s'->Q (.bool o.isSome) s'):abj (abG X.prog X.w) A (acr .In u (.ref a)) Q E s:=by
 rcases g with⟨kvs,k,e,ey,l⟩ | ⟨kvs,k,b,e,ey,eb,l⟩
 ·subst ey;obtain⟨z,hd,vs,rel,dd⟩:=sG I.aB e;refine wpAny_in_of (pI ry) hd dd.mapOf ?_;rw[<- (rel.val k).rH,<- l];exact h _ (I.tok _)
 ·subst ey;cases(show u=abi b from ry);obtain⟨z,hd,xs,rel,dd⟩:=sH I.aB e;refine wpAny_in_heap (aeM hu) (pE I.aB eb) hd dd ?_;have q:=(rel.val k).rH;rw[adM] at q;rw[<- q,<- l];exact h _ (I.tok _)
theorem AB(hu:A.units+1<aep)(I:Inv X pins σ H s)(g:jI H a y o)(ry:RelV y u)(h:∀s',Inv X pins σ H s'->Q (.bool (!o.isSome)) s'):abj (abG X.prog X.w) A (acr .NotIn u (.ref a)) Q E s:=by
 rcases g with⟨kvs,k,e,ey,l⟩ | ⟨kvs,k,b,e,ey,eb,l⟩
 ·subst ey;obtain⟨z,hd,vs,rel,dd⟩:=sG I.aB e;refine wpAny_notIn_of (pI ry) hd dd.mapOf ?_;rw[<- (rel.val k).rH,<- l];exact h _ (I.tok _)
 ·subst ey;cases(show u=abi b from ry);obtain⟨z,hd,xs,rel,dd⟩:=sH I.aB e;refine wpAny_notIn_heap (aeM hu) (pE I.aB eb) hd dd ?_;have q:=(rel.val k).rH;rw[adM] at q;rw[<- q,<- l];exact h _ (I.tok _)
theorem pA{h':ade}{t':Nat}{ob:HO}(I:Inv X pins σ H s)(mu:kD (H a))(hs:aed a s.heap h')(he:∃q,h'.get? a=O q)(new:cY X.prog X.w (upd H a ob) h' a ob):Inv X pins σ (upd H a ob) { s with heap:=h',toks:=t' }:=
 I.write (x:=a) (e:=a) mu (.inl rfl) (λb q hb z=>(hs.2 b hb).trans z) he new
theorem Ho{P:abI}{w:acg}{H':Hp}{h':ade}{kvs:fD}{vs:List (Key×abh)}(z:↑kvs<=abd)(hd:(a==acx)=false)(rel:KV kvs vs)(dd:h'.DictOf (dD P w) a vs):cY P w H' h' a (.dK kvs):=⟨z,hd,vs,rel,dd⟩
theorem z8{H':Hp}{Q:Unit->aaR->Prop}(hu:A.units+1<aep)(I:Inv X pins σ H s)(g:n4 H a y v H')(ry:RelV y u)(rv:RelV v r)(h:∀s',Inv X pins σ H' s'->Q () s'):abj (abG X.prog X.w) A (setItem (.ref a) u r) Q E s:=by
 rcases g with⟨kvs,k,e,ey,l,eH⟩ | ⟨kvs,k,b,e,ey,eb,l,eH⟩
 ·subst ey eH;obtain⟨z,hd,vs,rel,dd⟩:=pJ I.aB e;have hz:↑vs<=sizeLine:=by rw[<- ↑rel];exact z
  have hl:(putK kvs k v).length<=sizeLine:=by have:=vT kvs k v;omega
  refine wpAny_setItem_pairs (hsz:=hz) (pI ry) dd λh' lJ hs=>h _ ?_
  have he:∃q,h'.get? a=O q:=let ⟨q,_,_,hq,_⟩:=lJ;⟨q,hq⟩
  exact pA I (by rw[e];exact adL) hs he (Ho hl hd (rel.put k rv) lJ)
 ·subst ey eH;cases(show u=abi b from ry);obtain⟨z,hd,xs,rel,dd⟩:=xE I.aB e;have hz:↑xs<=sizeLine:=by rw[<- adg rel];exact z
  have hl:(putK kvs k v).length<=sizeLine:=by have:=vT kvs k v;omega
  refine wpAny_setItem_heap (hsz:=hz) (aeM hu) (pE I.aB eb) dd λh' lJ hs=>h _ ?_
  obtain⟨q,es,ep,hq,h2,h3,h4,_,h5⟩:=lJ;refine pA I (by rw[e];exact adL) hs ⟨q,hq⟩ ⟨hl,hd,_,(rel.put k eb rv).keeps λc ys ec=>?_,q,es,ep,hq,h2,h3,h4,h5⟩;rw[aI (fb ec e (λz=>nomatch z))];exact ec
end
theorem NI{X:Cx}{pins:List (abc×Obj)}{σ:St}{s:aaR}{a:abc}{o:Option V}(I:Inv X pins σ H s)(g:jI H a y o):s.TypeIs (.ref a) "dict":=by
 rcases g with⟨kvs,k,e,_,_⟩ | ⟨kvs,k,b,e,_,_,_⟩
 ·obtain⟨_,_,vs,_,dd⟩:=sG I.aB e;exact dd.typeIs
 ·obtain⟨_,_,xs,_,dd⟩:=sH I.aB e;exact dd.typeIs
theorem P2{P:abI}{w:acg}(h:ade)(hb:acx<h.objs.size):cY P w H (h.push { cls:=.type "dict",data:=.dict #[] }) h.objs.size (.dK []):=
 ⟨aca _,beq_eq_false_iff_ne.mpr (adh (abu hb)),[],.nil,ahZ h⟩
noncomputable def Ul:TE:=λ_ H Q=>∀p,H p=Z->Q (.ref p) (upd H p (.dK []))
section
variable{X:Cx}{pos:Pos}
theorem P4:PE X (.Dict [] [] pos) Ul:=λpins s σ H Q I h=>
 wpAny_Dict_empty ⟨.ref s.heap.objs.size,_,I.laid (a:=s.heap.objs.size) (o:=.dK []) (t':=s.toks) (λ_ _ q=>aaO _ q) (aaN _) (P2 s.heap I.big),rfl,h _ (I.aB.fresh (aaN _))⟩
end
end L2
namespace PySem
open Sem (wp)
noncomputable def kk(o:Obj):abh×d7:=(o.cls,o.dict)
theorem Um(o:Obj)(f:eM->Array abh):kk (adU f o)=kk o:=by
 obtain⟨c,d,dt,sl⟩:=o;cases dt <;> rfl
namespace Heap
noncomputable def AD(h base:ade)(e:abc)(cls:abh×d7)(a0:abh):Prop:=
 ∃oe vs T oT ts,h.get? e=O oe/\(kk oe=cls/\vs[0]? =O a0)/\oe.data=.fields vs/\vs[1]? =O (.ref T)/\base.get? T=Z/\T≠e/\h.get? T=O oT/\oT.data=.fields ts/\ts[3]? =O .none
end Heap
section
variable{M:Model}{A:acF}{E:bR}{s:aaR}
noncomputable def ade.BE(base:ade)(l:List Env)(e:abc)(cls:abh×d7)(a0:abh)(h h':ade):Prop:=
 base.StaysIn h'/\h'.FunFrames base l/\h'.AD base e cls a0 /\
  ∀b o,h.get? b=O o->(∀vs,o.data≠.fields vs)->∃sl,h'.get? b=O { o with slots:=sl }
variable{env:Env}{L:abc}{a0:abh}{Q:Unit->aaR->Prop}
theorem Ed {base : ade} {outer : List Env} {e : abc} {oe : Obj} {vs : eM} {head : abh} {Rp : Bool} (fX : A.frames = some (env :: outer)) (hl : s.heap.FunFrames base (env :: outer)) (hf : env.frame = some L) (he : s.heap.get? e = some oe) (iJ : base.StaysIn s.heap) (uq : base.get? e = none) (hd : oe.data = .fields vs) (hsz : 1 < vs.size) (h0 : vs[0]? = some a0) (h : ∀ h', ade.BE base (env :: outer) e (kk oe) a0 s.heap h' -> Q () { s with heap := h' }) :
    abj M A (do let a <- frameOf env; let pl <- entryPlaceOf L Rp; let b <- ahq head a .none (afp L) .none pl; setField (.ref e) 1 b) (fun _ s' => abj M A (setFlight (.ref e) none) Q E s') E s := by
  have Y4 : e ∉ (env :: outer).filterMap (·.frame) := fun hm => by
    obtain ⟨_, o, ho, ig⟩ := hl.mem hm;rw [he] at ho; injection ho with ho; subst ho; exact ig vs hd
  refine aaH (wpAny_frameOf_fun fX hl hf fun c8 yE => ?_);refine aaH (wpAny_entryPlaceOf fun pl hpl => ?_);unfold ahq newFields;refine aaH (acq ?_ (hpl.sizeOk5 _ _ _ _ _));have Kq : c8.get? e = some oe := (yE.2.1 e Y4).trans he;have Kr : base.StaysIn c8 := fun b o jU => (yE.2.1 b fun hm => by rw [(hl.mem hm).1] at jU; cases jU).trans (iJ b o jU)
  have Ks := aaO (h := c8) { cls := .type "traceback", dict := none, data := .fields ([head, .ref L, .none, afp L, .none] ++ (if pl.isEmpty then aaY 6 abN else pl)).toArray } Kq;refine afb Ks hd hsz ?_;have mN : c8.objs.size ≠ e := acD (aaU Kq);have CK := aeb hd (·.setIfInBounds 1 (abi c8.objs.size));have Kt := abT (adU (·.setIfInBounds 1 (abi c8.objs.size))) Ks (afg CK);have Ku := (acy (c8.push { cls := .type "traceback", dict := none, data := .fields ([head, .ref L, .none, afp L, .none] ++ (if pl.isEmpty then aaY 6 abN else pl)).toArray })
    (adU (·.setIfInBounds 1 (abi c8.objs.size))) (adh mN)).trans (abl c8 rfl)
  unfold setFlight;refine aaH (aeV Kt CK (x := .ref c8.objs.size) (by simp [hsz]) ?_);rw [if_pos (show (abi c8.objs.size != abN) = true from by simp)];refine afb Ku rfl (by simp only [aaV, aaQ, abq, aeL] <;> omega) (h _ ?_);have keep : ∀ b o, b ≠ e -> c8.get? b = some o →
      (((c8.push { cls := .type "traceback", dict := none, data := .fields ([head, .ref L, .none, afp L, .none] ++ (if pl.isEmpty then aaY 6 abN else pl)).toArray }).update e (adU (·.setIfInBounds 1 (abi c8.objs.size)))).update c8.objs.size
        (adU (·.setIfInBounds 3 ((none : d7).elim abN fun f => afp f)))).get? b = some o := fun b o gm hb => by
    have hbT : c8.objs.size ≠ b := acD (aaU hb);rw [acy _ _ hbT, acy _ _ (adh gm)];exact aaO _ hb
  have rS : ∀ b o, s.heap.get? b = some o -> (∀ vs, o.data ≠ .fields vs) -> b ≠ e := fun b o hb ig q => by
    rw [q, he] at hb; injection hb with hb; subst hb; exact ig vs hd
  refine ⟨fun b o jU => keep b o (fun q => by rw [q, uq] at jU; cases jU) (Kr b o jU), hl.of_keeps fun b o hb ig => ?_, ?_, fun b o hb ig => ?_⟩
  · obtain ⟨sl, hs⟩ := yE.2.2 b o hb
    exact ⟨_, keep b _ (rS b o hb ig) hs, rfl⟩
  · refine ⟨_, _, c8.objs.size, _, _, ?_, ⟨Um _ _, by rw [aeX (by decide)]; exact h0⟩, CK, by simp [hsz], Kr.fresh, mN, abT _ Ku (afg (aeb rfl _)), aeb rfl _, by first | (simp; done) | (rcases hpl with rfl | ⟨_, _, _, _, _, _, _, rfl⟩ <;> simp)⟩
    rw [acy _ _ mN]; exact Kt
  · obtain ⟨sl, hs⟩ := yE.2.2 b o hb
    exact ⟨sl, keep b _ (rS b o hb ig) hs⟩
theorem L5{base:ade}{outer:List Env}{e:abc}{oe:Obj}{vs:eM}(fX:A.frames=O (env::outer))(hl:s.heap.FunFrames base (env::outer))(hf:env.frame=O L)(he:s.heap.get? e=O oe)(iJ:base.StaysIn s.heap)(uq:base.get? e=Z)(hd:oe.data=.fields vs)(h1:vs[1]? =O .none)(h0:vs[0]? =O a0)(h:∀h',ade.BE base (env::outer) e (kk oe) a0 s.heap h'->Q () { s with heap:=h' }):abj M A (afV env (.ref e)) Q E s:=by
 unfold afV noteFrame;simp only[hf];refine aaH (aaH (aeV he hd h1 ?_));rw[if_neg (by decide)];exact Ed fX hl hf he iJ uq hd (acs.mp h1).1 h0 h
theorem L7{base:ade}{outer:List Env}{e:abc}{cls:abh×d7}(fX:A.frames=O (env::outer))(hl:s.heap.FunFrames base (env::outer))(hf:env.frame=O L)(ht:s.heap.AD base e cls a0)(iJ:base.StaysIn s.heap)(uq:base.get? e=Z)(h:∀h',ade.BE base (env::outer) e cls a0 s.heap h'->Q () { s with heap:=h' }):abj M A (afV env (.ref e)) Q E s:=by
 obtain⟨oe,vs,T,oT,ts,he,⟨B1,h0⟩,hd,h1,hnT,mN,hT,gq,h3⟩:=ht;subst B1;unfold afV noteFrame;simp only[hf];refine aaH (aaH (aeV he hd h1 ?_));rw[if_pos (show(abi T != abN)=true from by simp)];refine aaH (aeV hT gq h3 ?_);rw[if_neg (show ¬((abN==afp L)=true) from by simp[afp])];refine aaH (afb hT gq (acs.mp h3).1 ?_);have other:∀b,b≠T->(s.heap.update T (adU (·.setIfInBounds 3 abN))).get? b=s.heap.get? b:=λb hb=>acy _ _ (adh hb)
 have rS:∀b o,s.heap.get? b=O o->(∀vs,o.data≠.fields vs)->b≠T:=λb o hb ig q=>by
  rw[q,hT] at hb;injection hb with hb;subst hb;exact ig ts gq
 refine Ed fX (hl.of_keeps λb o hb ig=>⟨o,(other b (rS b o hb ig)).trans hb,rfl⟩) hf ((other e (adh mN)).trans he)
  (λb o jU=>(other b λq=>by rw[q,hnT] at jU;cases jU).trans (iJ b o jU)) uq hd (acs.mp h1).1 h0
  λh' ⟨x1,x2,x3,x4⟩=>h h' ⟨x1,x2,x3,λb o hb ig=>x4 b o ((other b (rS b o hb ig)).trans hb) ig⟩
noncomputable def ade.w4(base:ade)(l:List Env)(e:abc)(cls:abh×d7)(a0:abh)(h:ade):Prop:=
 base.StaysIn h/\base.get? e=Z/\h.FunFrames base l/\h.AD base e cls a0
theorem Ml{base:ade}{outer:List Env}{e:abc}{cls:abh×d7}(fX:A.frames=O (env::outer))(hf:env.frame=O L)(lK:ade.w4 base (env::outer) e cls a0 s.heap)(hQ:∀h',ade.w4 base outer e cls a0 h'->s.heap.UpToSlots h'->Q () { s with heap:=h' }):abj M A (afV env (.ref e)) Q E s:=by
 obtain⟨f1,f2,f3,f4⟩:=lK;refine L7 fX f3 hf f4 f1 f2 λh' hL=>?_
 obtain⟨k1,⟨_,_,k2⟩,k3,k4⟩:=hL;exact hQ h' ⟨k1,f2,k2,k3⟩ k4
end
end PySem
namespace IL
open PySem PySem.Spec PyProof.Rows L2
inductive W where
 | aH | bl (b:Bool) | int (i:Int) | str (x:Str) | tup (ws:List W) | fl (ws:List W) | ref (i:Nat) | exc (c:Str) (ns:a8) (ws:List W) | fn (x:Str) (ws:List W) | kt (ws:List W)
abbrev _root_.ap:=List W
mutual
noncomputable def W.dec:(a b:W)->Decidable (a=b)
 | .aH,.aH=>abC rfl
 | .bl a,.bl b=>if h:a=b then abC (by rw[h]) else aaW (λe=>h (W.bl.inj e))
 | .int a,.int b=>if h:a=b then abC (by rw[h]) else aaW (λe=>h (W.int.inj e))
 | .str a,.str b=>if h:a=b then abC (by rw[h]) else aaW (λe=>h (W.str.inj e))
 | .tup a,.tup b=>match W.pY a b with
  | abC h=>abC (by rw[h])
  | aaW h=>aaW (λe=>h (W.tup.inj e))
 | .fl a,.fl b=>match W.pY a b with
  | abC h=>abC (by rw[h])
  | aaW h=>aaW (λe=>h (W.fl.inj e))
 | .ref a,.ref b=>if h:a=b then abC (by rw[h]) else aaW (λe=>h (W.ref.inj e))
 | .exc c ns a,.exc c' iK b=>match W.pY a b with
  | abC h=>if h1:c=c' then if h2:ns=iK then abC (by rw[h,h1,h2]) else aaW (λe=>h2 (W.exc.inj e).2.1) else aaW (λe=>h1 (W.exc.inj e).1)
  | aaW h=>aaW (λe=>h (W.exc.inj e).2.2)
 | .fn c a,.fn c' b=>match W.pY a b with
  | abC h=>if h1:c=c' then abC (by rw[h,h1]) else aaW (λe=>h1 (W.fn.inj e).1)
  | aaW h=>aaW (λe=>h (W.fn.inj e).2)
 | .kt a,.kt b=>match W.pY a b with
  | abC h=>abC (by rw[h])
  | aaW h=>aaW (λe=>h (W.kt.inj e))
 | .aH,.bl _ | .aH,.int _ | .aH,.str _ | .aH,.tup _ | .aH,.fl _ | .aH,.ref _ | .aH,.exc _ _ _=>aaW (λe=>nomatch e)
 | .bl _,.aH | .bl _,.int _ | .bl _,.str _ | .bl _,.tup _ | .bl _,.fl _ | .bl _,.ref _ | .bl _,.exc _ _ _=>aaW (λe=>nomatch e)
 | .int _,.aH | .int _,.bl _ | .int _,.str _ | .int _,.tup _ | .int _,.fl _ | .int _,.ref _ | .int _,.exc _ _ _=>aaW (λe=>nomatch e)
 | .str _,.aH | .str _,.bl _ | .str _,.int _ | .str _,.tup _ | .str _,.fl _ | .str _,.ref _ | .str _,.exc _ _ _=>aaW (λe=>nomatch e)
 | .tup _,.aH | .tup _,.bl _ | .tup _,.int _ | .tup _,.str _ | .tup _,.fl _ | .tup _,.ref _ | .tup _,.exc _ _ _=>aaW (λe=>nomatch e)
 | .fl _,.aH | .fl _,.bl _ | .fl _,.int _ | .fl _,.str _ | .fl _,.tup _ | .fl _,.ref _ | .fl _,.exc _ _ _=>aaW (λe=>nomatch e)
 | .ref _,.aH | .ref _,.bl _ | .ref _,.int _ | .ref _,.str _ | .ref _,.tup _ | .ref _,.fl _ | .ref _,.exc _ _ _=>aaW (λe=>nomatch e)
 | .exc _ _ _,.aH | .exc _ _ _,.bl _ | .exc _ _ _,.int _ | .exc _ _ _,.str _ | .exc _ _ _,.tup _ | .exc _ _ _,.fl _ | .exc _ _ _,.ref _=>aaW (λe=>nomatch e)
 | .aH,.fn _ _ | .bl _,.fn _ _ | .int _,.fn _ _ | .str _,.fn _ _ | .tup _,.fn _ _ | .fl _,.fn _ _ | .ref _,.fn _ _ | .exc _ _ _,.fn _ _=>aaW (λe=>nomatch e)
 | .fn _ _,.aH | .fn _ _,.bl _ | .fn _ _,.int _ | .fn _ _,.str _ | .fn _ _,.tup _ | .fn _ _,.fl _ | .fn _ _,.ref _ | .fn _ _,.exc _ _ _=>aaW (λe=>nomatch e)
 | .aH,.kt _ | .bl _,.kt _ | .int _,.kt _ | .str _,.kt _ | .tup _,.kt _ | .fl _,.kt _ | .ref _,.kt _ | .exc _ _ _,.kt _ | .fn _ _,.kt _=>aaW (λe=>nomatch e)
 | .kt _,.aH | .kt _,.bl _ | .kt _,.int _ | .kt _,.str _ | .kt _,.tup _ | .kt _,.fl _ | .kt _,.ref _ | .kt _,.exc _ _ _ | .kt _,.fn _ _=>aaW (λe=>nomatch e)
noncomputable def W.pY:(a b:ap)->Decidable (a=b)
 | [],[]=>abC rfl
 | a::as,b::bs=>match W.dec a b,W.pY as bs with
  | abC h,abC h'=>abC (by rw[h,h'])
  | aaW h,_=>aaW (λe=>h (ahB e).1)
  | _,aaW h=>aaW (λe=>h (ahB e).2)
 | [],_::_ | _::_,[]=>aaW (λe=>nomatch e)
end
instance:DecidableEq W:=W.dec
abbrev _root_.aZ:=List (W×W)
inductive PO where
 | lst (ws:ap)
 | aX (kvs:aZ)
 | obj (c:Str) (fs:List (Str×W))
 | mO (kvs:aZ)
 | bY (kvs:aZ)
 | ft (kvs:aZ)
 deriving DecidableEq
noncomputable def PO.fz:PO->Bool
 | .mO _=>true
 | .ft _=>true
 | _=>false
abbrev PH:=List PO
abbrev Po(α:Type):=PH->Option (α×PH)
variable{α:Type}
noncomputable def ret(a:α):Po α:=λph=>O (a,ph)
noncomputable def gh:Po α:=λ_=>Z
structure XC where
 cls:Str
 fs:List (Str×W)
inductive Out(α:Type) where
 | ok (a:α) (ph:PH)
 | ex (x:XC) (ph:PH)
 | no
noncomputable def Out.Run(r:Out α)(N:α->PH->Prop)(E:XC->PH->Prop):Prop:=match r with
 | .ok a ph=>N a ph
 | .ex x ph=>E x ph
 | .no=>False
variable{E:XC->PH->Prop}
theorem Out.Run.mono{r:Out α}{N N':α->PH->Prop}{E':XC->PH->Prop}(h:r.Run N E)(hn:∀a ph,N a ph->N' a ph)(he:∀x ph,E x ph->E' x ph):r.Run N' E':=by
 cases r with
 | ok a ph=>exact hn a ph h
 | ex x ph=>exact he x ph h
 | no=>exact h
abbrev Mo(α:Type):=PH->Out α
noncomputable def ay(a:α):Mo α:=λph=>.ok a ph
noncomputable def dY:Mo α:=λ_=>.no
noncomputable def lift(o:Po α):Mo α:=λph=>match o ph with
 | some p=>.ok p.1 p.2
 | none=>.no
noncomputable def au{β:Type}(m:Mo α)(f:α->Mo β):Mo β:=λph=>match m ph with
 | .ok a ph'=>f a ph'
 | .ex x ph'=>.ex x ph'
 | .no=>.no
variable{ph:PH}
theorem c3{β:Type}{m:Mo α}{f:α->Mo β}{N:β->PH->Prop}:(au m f ph).Run N E=(m ph).Run (λa ph1=>(f a ph1).Run N E) E:=by
 unfold au;cases m ph <;> rfl
theorem run_lift{o:Po α}{N:α->PH->Prop}(h:(lift o ph).Run N E):∃a ph',o ph=O (a,ph')/\N a ph':=by
 unfold lift at h;cases e:o ph with
 | none=>rw[e] at h;exact h.elim
 | some p=>rw[e] at h;exact⟨p.1,p.2,rfl,h⟩
abbrev _root_.dP:=Option W
abbrev aO:=List dP
abbrev EM:=aO->Mo W
abbrev TM:=aO->Mo Bool
abbrev AM:=aO->Mo ap
inductive Fl where
 | nx (σ:aO) | rt (w:W) | bk (σ:aO) | ct (σ:aO)
abbrev SM:=aO->Mo Fl
noncomputable def KL(K:aaJ)(a:abc)(xs:aE):Prop:=
 ∃(o:Obj) (its:eM) (n:Nat),K.lookup a=O o/\o.cls=.type "list"/\o.dict=Z/\o.data=.seq its n/\its.size<=abd/\Vals xs its.toList
noncomputable def xZ(K:aaJ)(H:Hp)(a:abc)(xs:aE):Prop:=(∃o,H a=O (.aL o (.lst xs)))\/KL K a xs
variable{K:aaJ}{H:Hp}{a:abc}
theorem xZ.sq{xs:aE}(h:xZ K H a xs):bH K H a xs:=by
 rcases h with⟨o,h⟩ | h
 ·exact .inl (.inr ⟨o,h⟩)
 ·exact .inr h
noncomputable def ms(H:Hp)(o:Obj)(ns:a8)(vs:aE):Prop:=(ns=[]/\vs=[])\/∃d od,o.dict=O d/\↑ns=↑vs/\H d=O (.aL od (.xd (ns.zip vs)))
abbrev de:HO:=.ext λ_=>True
structure gA where
 ar:Arguments
 bd:acJ
 sc:adB
 pos:Pos
noncomputable def xF:ahH->Option gA
 | .Return (O (.Call _ [_,.Lambda a b s p] _ _)) _=>O ⟨a,b,s,p⟩
 | .Assign _ (.Call _ [.Call _ [_,.Lambda a b s p] _ _] _ _) _=>O ⟨a,b,s,p⟩
 | .Assign _ (.Call _ [_,.Lambda a b s p] _ _) _=>O ⟨a,b,s,p⟩
 | .Assign _ (.Call _ _ [⟨_,.Lambda a b s p,_⟩] _) _=>O ⟨a,b,s,p⟩
 | _=>Z
noncomputable def IK:ahH->Option gA
 | .For _ _ b _ _=>b.findSome? xF
 | .While _ b _ _=>b.findSome? xF
 | st=>xF st
noncomputable def Y5:ahH->Option gA
 | .For _ _ b _ _=>b.findSome? IK
 | .While _ b _ _=>b.findSome? IK
 | st=>xF st
noncomputable def Cb(l:eN):Option gA:=l.findSome? Y5
noncomputable def iZ(K:aaJ)(x:Str):Option gA:=match abO K abr x with
 | some (O (.ref f))=>(match K.lookup f with
  | some ⟨_,_,.func fd,_⟩=>(match fd.body with
   | .stmts b=>Cb b
   | _=>Z)
  | _=>Z)
 | _=>Z
noncomputable def eG(K:aaJ):List (Str×abc×abc):=match K.lookup abr with
 | some ⟨_,_,.dict es _,_⟩=>es.toList.filterMap λe=>match e.key with
  | .str x _=>if(iZ K x).isSome then(PySem.W.tabIn K x).map (x,·) else Z
  | _=>Z
 | _=>[]
noncomputable def tD(x:Str):Str:=(x++".<locals>.")++"<lambda>"
noncomputable def pK(H:Hp)(v:abh)(x:Str):Prop:=∃c oc vs t,v=.ref c/\H c=O (.aL oc de)/\oc.data=.fields vs/\vs[1]? =O (.str (tD x) t)
noncomputable def jJ(H:Hp)(x:Str)(P:abc):Prop:=∃ps,H P=O (.cW ps)/\aeg ps.toList/\∀pos v,agO pos ps.toList=O v->pK H v x
noncomputable def JU(L:gA):a8:=((L.sc.names.filter λp=>p.2==.free).map (·.1)).reverse
noncomputable def n5(K:aaJ)(H:Hp)(x:Str)(o:Obj)(cl:List (Str×abc)):Prop:=∃L pm v iL,iZ K x=O L/\o={ cls:=.type "function",data:=.func (afW "<lambda>" (tD x) L.ar L.bd L.sc cl pm v iL) }/\pK H v x /\
 (↑cl=2->cl.map (·.1)=JU L)/\∀y,L.sc.names.lookup y=O .free->∃c,cl.lookup y=O c
noncomputable def kg(H:Hp):List (Str×abc)->List V->Prop
 | [],[]=>True
 | p::cl,v::vs=>(∃oc u,H p.2=O (.aL oc de)/\oc.data=.cell (O u)/\RelV v u)/\(∀z∈cl,z.2≠p.2)/\kg H cl vs
 | _,_=>False
noncomputable def Y6(K:aaJ)(a:abc)(vs:aE):Prop:=∃(o:Obj) (its:eM) (n:Nat),K.lookup a=O o/\o.cls=.type "tuple"/\o.data=.seq its n/\its.size<=abd/\Vals vs its.toList
mutual
inductive aF(K:aaJ)(φ:Nat->abc)(n:Nat)(H:Hp):W->V->Prop where
 | aH:aF K φ n H .aH .aH
 | bl (b:Bool):aF K φ n H (.bl b) (.bl b)
 | int (i:Int):aF K φ n H (.int i) (.int i)
 | str (x:Str):aF K φ n H (.str x) (.str x)
 | tup {ws:ap} {a:abc} {vs:aE} (h:H a=O (.tup vs)) (r:aN K φ n H ws vs):aF K φ n H (.tup ws) (.ref a)
 | fl {ws:ap} {a:abc} {vs:aE} (h:xZ K H a vs) (r:aN K φ n H ws vs):aF K φ n H (.fl ws) (.ref a)
 | ref {i:Nat} (h:i<n):aF K φ n H (.ref i) (.ref (φ i))
 | exc {c:Str} {ns:a8} {ws:ap} {a C:abc} {vs:aE} {o:Obj} {u:HO} (h:H a=O (.aL o u)) (hc:o.cls=.ref C) (hn:abO K abr c=O (O (.ref C))) (hk:PySem.W.notCls o=true) (hf:ms H o ns vs) (r:aN K φ n H ws vs):aF K φ n H (.exc c ns ws) (.ref a)
 | fn {x:Str} {ws:ap} {a:abc} {vs:aE} {o:Obj} {cl:List (Str×abc)} (h:H a=O (.aL o de)) (hl:n5 K H x o cl) (hc:kg H cl vs) (r:aN K φ n H ws vs):aF K φ n H (.fn x ws) (.ref a)
 | kt {ws:ap} {a:abc} {vs:aE} (h:Y6 K a vs) (r:aN K φ n H ws vs):aF K φ n H (.kt ws) (.ref a)
inductive aN(K:aaJ)(φ:Nat->abc)(n:Nat)(H:Hp):ap->List V->Prop where
 | nil:aN K φ n H [] []
 | cons {w:W} {v:V} {ws:ap} {vs:aE} (h:aF K φ n H w v) (r:aN K φ n H ws vs):aN K φ n H (w::ws) (v::vs)
end
structure Step(K:aaJ)(φ:Nat->abc)(n:Nat)(H:Hp)(ak:Nat->abc)(n':Nat)(H':Hp):Prop where
 le:n<=n'
 eq:∀i,i<n->ak i=φ i
 tup:∀a xs,H a=O (.tup xs)->H' a=O (.tup xs)
 aL:∀a o u,H a=O (.aL o u)->H' a=O (.aL o u)
section
variable{K:aaJ}{φ ak CL:Nat->abc}{n n' CM:Nat}{H H' gR:Hp}
theorem Step.refl:Step K φ n H φ n H:=⟨aaN _,λ_ _=>rfl,λ_ _ h=>h,λ_ _ _ h=>h⟩
theorem Step.trans(a:Step K φ n H ak n' H')(b:Step K ak n' H' CL CM gR):Step K φ n H CL CM gR:=
 ⟨abw a.le b.le,λi h=>(b.eq i (aaS h a.le)).trans (a.eq i h),λc xs h=>b.tup c xs (a.tup c xs h),λc o u h=>b.aL c o u (a.aL c o u h)⟩
theorem ms.mono(s:Step K φ n H ak n' H'){o:Obj}{ns:a8}{vs:aE}(h:ms H o ns vs):ms H' o ns vs:=
 h.imp_right λ⟨d,od,e1,e2,e3⟩=>⟨d,od,e1,e2,s.aL _ _ _ e3⟩
theorem pK.mono{v:abh}{x:Str}(h:pK H v x)(s:∀a o,H a=O (.aL o de)->H' a=O (.aL o de)):pK H' v x:=
 let ⟨c,oc,vs,t,e1,e2,e3⟩:=h;⟨c,oc,vs,t,e1,s _ _ e2,e3⟩
theorem n5.mono{x:Str}{o:Obj}{cl:List (Str×abc)}(h:n5 K H x o cl)(s:∀a o,H a=O (.aL o de)->H' a=O (.aL o de)):n5 K H' x o cl:=
 let ⟨L,pm,v,iL,e1,e2,e3,e4⟩:=h;⟨L,pm,v,iL,e1,e2,e3.mono s,e4⟩
theorem kg.mono(s:∀a o,H a=O (.aL o de)->H' a=O (.aL o de)):∀{cl:List (Str×abc)} {vs:aE},kg H cl vs->kg H' cl vs
 | [],[],_=>trivial
 | _::_,_::_,⟨⟨oc,u,e1,e2⟩,d,r⟩=>⟨⟨oc,u,s _ _ e1,e2⟩,d,kg.mono s r⟩
 | [],_::_,h=>h.elim
 | _::_,[],h=>h.elim
mutual
theorem aF.mono(s:Step K φ n H ak n' H'):∀{w:W} {v:V},aF K φ n H w v->aF K ak n' H' w v
 | _,_,.aH=>.aH
 | _,_,.bl b=>.bl b
 | _,_,.int i=>.int i
 | _,_,.str x=>.str x
 | _,_,.tup h r=>.tup (s.tup _ _ h) (aN.mono s r)
 | _,_,.fl h r=>.fl (h.elim (λ⟨o,e⟩=>.inl ⟨o,s.aL _ _ _ e⟩) .inr) (aN.mono s r)
 | _,_,.ref (i:=i) h=>(s.eq i h)▸.ref (aaS h s.le)
 | _,_,.exc h hc hn hk hf r=>.exc (s.aL _ _ _ h) hc hn hk (hf.mono s) (aN.mono s r)
 | _,_,.fn h hl hc r=>.fn (s.aL _ _ _ h) (hl.mono λa o z=>s.aL a o _ z) (hc.mono λa o z=>s.aL a o _ z) (aN.mono s r)
 | _,_,.kt h r=>.kt h (aN.mono s r)
theorem aN.mono(s:Step K φ n H ak n' H'):∀{ws:ap} {vs:aE},aN K φ n H ws vs->aN K ak n' H' ws vs
 | _,_,.nil=>.nil
 | _,_,.cons h r=>.cons (aF.mono s h) (aN.mono s r)
end
theorem aN.length:∀{ws:ap} {vs:aE},aN K φ n H ws vs->↑ws=↑vs
 | _,_,.nil=>rfl
 | _,_,.cons _ r=>by simp[aN.length r]
theorem aN.get:∀{ws:ap} {vs:aE} {i:Nat} {w:W},aN K φ n H ws vs->ws[i]? =O w->∃v,vs[i]? =O v/\aF K φ n H w v
 | _,_,_,_,.nil,e=>by simp at e
 | _,_,0,_,.cons h _,e=>by simp at e;subst e;exact⟨_,rfl,h⟩
 | _,_,i+1,w,.cons _ r,e=>by
  obtain⟨u,h1,h2⟩:=aN.get (i:=i) (w:=w) r (by simpa using e);exact⟨u,by simpa using h1,h2⟩
theorem aN.append:∀{ws xs:ap} {vs us:aE},aN K φ n H ws vs->aN K φ n H xs us->aN K φ n H (ws++xs) (vs++us)
 | _,_,_,_,.nil,s=>s
 | _,_,_,_,.cons h r,s=>.cons h (aN.append r s)
theorem aN.take:∀{ws:ap} {vs:aE} (k:Nat),aN K φ n H ws vs->aN K φ n H (ws.take k) (vs.take k)
 | _,_,0,_=>.nil
 | _,_,_+1,.nil=>.nil
 | _,_,k+1,.cons h r=>.cons h (aN.take k r)
theorem aN.drop:∀{ws:ap} {vs:aE} (k:Nat),aN K φ n H ws vs->aN K φ n H (ws.drop k) (vs.drop k)
 | _,_,0,r=>r
 | _,_,_+1,.nil=>.nil
 | _,_,k+1,.cons h r=>aN.drop k r
theorem aN.set{w:W}{v:V}(q:aF K φ n H w v):∀{ws:ap} {vs:aE} (i:Nat),aN K φ n H ws vs->aN K φ n H (ws.set i w) (vs.set i v)
 | _,_,_,.nil=>.nil
 | _,_,0,.cons _ r=>.cons q r
 | _,_,i+1,.cons h r=>.cons h (aN.set q i r)
end
noncomputable def cm:Key->W
 | .inl i=>.int i
 | .inr x=>.str x
inductive cD(K:aaJ)(φ:Nat->abc)(n:Nat)(H:Hp):aZ->List (Key×V)->Prop where
 | nil:cD K φ n H [] []
 | cons {k:Key} {w:W} {v:V} {kws:aZ} {kvs:fD} (h:aF K φ n H w v) (r:cD K φ n H kws kvs):cD K φ n H ((cm k,w)::kws) ((k,v)::kvs)
inductive cG(K:aaJ)(φ:Nat->abc)(n:Nat)(H:Hp):aZ->List (bz×V)->Prop where
 | nil:cG K φ n H [] []
 | cons {k:bz} {w:W} {v:V} {kws:aZ} {kvs:f9} (h:aF K φ n H w v) (r:cG K φ n H kws kvs):cG K φ n H ((.tup (k.map cm),w)::kws) ((k,v)::kvs)
theorem cD.mono{K:aaJ}{φ ak:Nat->abc}{n n':Nat}{H H':Hp}(s:Step K φ n H ak n' H'):∀{ws:aZ} {vs:fD},cD K φ n H ws vs->cD K ak n' H' ws vs
 | _,_,.nil=>.nil
 | _,_,.cons h r=>.cons (h.mono s) (cD.mono s r)
theorem cG.mono{K:aaJ}{φ ak:Nat->abc}{n n':Nat}{H H':Hp}(s:Step K φ n H ak n' H'):∀{ws:aZ} {vs:f9},cG K φ n H ws vs->cG K ak n' H' ws vs
 | _,_,.nil=>.nil
 | _,_,.cons h r=>.cons (h.mono s) (cG.mono s r)
inductive dg(K:aaJ)(φ:Nat->abc)(n:Nat)(H:Hp):aZ->List (V×V)->Prop where
 | nil:dg K φ n H [] []
 | cons {k w:W} {u v:V} {kws:aZ} {kvs:List (V×V)} (hk:aF K φ n H k u) (h:aF K φ n H w v) (r:dg K φ n H kws kvs):dg K φ n H ((k,w)::kws) ((u,v)::kvs)
theorem dg.mono{K:aaJ}{φ ak:Nat->abc}{n n':Nat}{H H':Hp}(s:Step K φ n H ak n' H'):∀{ws:aZ} {vs:List (V×V)},dg K φ n H ws vs->dg K ak n' H' ws vs
 | _,_,.nil=>.nil
 | _,_,.cons hk h r=>.cons (hk.mono s) (h.mono s) (dg.mono s r)
inductive je(K:aaJ)(φ:Nat->abc)(n:Nat)(H:Hp):List (Str×W)->List (Str×V)->Prop where
 | nil:je K φ n H [] []
 | cons {f:Str} {w:W} {v:V} {fs:List (Str×W)} {vs:List (Str×V)} (h:aF K φ n H w v) (r:je K φ n H fs vs):je K φ n H ((f,w)::fs) ((f,v)::vs)
theorem je.mono{K:aaJ}{φ ak:Nat->abc}{n n':Nat}{H H':Hp}(s:Step K φ n H ak n' H'):∀{ws:List (Str×W)} {vs:List (Str×V)},je K φ n H ws vs->je K ak n' H' ws vs
 | _,_,.nil=>.nil
 | _,_,.cons h r=>.cons (h.mono s) (je.mono s r)
noncomputable def ki(K:aaJ)(φ:Nat->abc)(n:Nat)(H:Hp)(o:PO)(a:abc):Prop:=match o with
 | .lst ws=>∃vs,H a=O (.lst vs)/\aN K φ n H ws vs
 | .aX kws=>(∃kvs,H a=O (.dK kvs)/\cD K φ n H kws kvs)\/∃kvs,H a=O (.dT kvs)/\cG K φ n H kws kvs
 | .obj c fs=>∃C dx vs,abO K abr c=O (O (.ref C))/\H a=O (.ins C dx vs)/\je K φ n H fs vs
 | .bY kws=>∃kvs,H a=O (.dU kvs)/\dg K φ n H kws kvs/\(kws.map (·.1)).Nodup
 | .mO kws=>∃o,o.cls=.type "dict"/\((∃kvs,H a=O (.aL o (.dK kvs))/\cD K φ n H kws kvs)\/∃kvs,H a=O (.aL o (.dT kvs))/\cG K φ n H kws kvs)
 | .ft kws=>∃o kvs,o.cls=.type "dict"/\H a=O (.aL o (.dU kvs))/\dg K φ n H kws kvs/\(kws.map (·.1)).Nodup
structure aC(K:aaJ)(φ:Nat->abc)(ph:PH)(H:Hp):Prop where
 hp:∀i o,ph[i]? =O o->ki K φ ↑ph H o (φ i)
 inj:∀i j,i<↑ph->j<↑ph->φ i=φ j->i=j
 tb:∀p∈eG K,jJ H p.1 p.2.2
theorem jJ.upd{H:Hp}{x:Str}{P a:abc}{o:HO}(h:jJ H x P)(n1:∀ps,H a≠O (.cW ps))(n2:∀oc,H a≠O (.aL oc de)):jJ (upd H a o) x P:=by
 obtain⟨ps,e1,e2,e3⟩:=h;refine⟨ps,?_,e2,λpos v e=>?_⟩
 ·rw[aI (λz=>n1 ps (by rw[<- z];exact e1))];exact e1
 ·obtain⟨c,oc,vs,t,f1,f2,f3⟩:=e3 pos v e;refine⟨c,oc,vs,t,f1,?_,f3⟩;rw[aI (λz=>n2 oc (by rw[<- z];exact f2))];exact f2
variable{o:HO}
theorem jJ.new{x:Str}{P:abc}(h:jJ H x P)(hn:H a=Z):jJ (L2.upd H a o) x P:=h.upd (λ_ z=>by rw[hn] at z;cases z) λ_ z=>by rw[hn] at z;cases z
inductive bv(K:aaJ)(φ:Nat->abc)(n:Nat)(H:Hp):aO->L2.St->Prop where
 | nil:bv K φ n H [] []
 | sm {w:W} {v:V} {ws:aO} {vs:L2.St} (h:aF K φ n H w v) (r:bv K φ n H ws vs):bv K φ n H (O w::ws) (O v::vs)
 | nn {v:Option V} {ws:aO} {vs:L2.St} (r:bv K φ n H ws vs):bv K φ n H (Z::ws) (v::vs)
section
variable{K:aaJ}{φ ak CL:Nat->abc}{n n' CM:Nat}{H H' gR:Hp}{ph:PH}
theorem bv.mono(s:Step K φ n H ak n' H'):∀{ws:aO} {vs:L2.St},bv K φ n H ws vs->bv K ak n' H' ws vs
 | _,_,.nil=>.nil
 | _,_,.sm h r=>.sm (h.mono s) (bv.mono s r)
 | _,_,.nn r=>.nn (bv.mono s r)
theorem bv.get:∀{ws:aO} {vs:L2.St} {i:Nat} {w:W},bv K φ n H ws vs->ws[i]? =O (O w)->∃v,vs[i]? =O (O v)/\aF K φ n H w v
 | _,_,_,_,.nil,e=>by simp at e
 | _,_,0,_,.sm h _,e=>by simp at e;subst e;exact⟨_,rfl,h⟩
 | _,_,0,_,.nn _,e=>by simp at e
 | _,_,i+1,w,.sm _ r,e=>by
  obtain⟨u,h1,h2⟩:=bv.get (i:=i) (w:=w) r (by simpa using e);exact⟨u,by simpa using h1,h2⟩
 | _,_,i+1,w,.nn r,e=>by
  obtain⟨u,h1,h2⟩:=bv.get (i:=i) (w:=w) r (by simpa using e);exact⟨u,by simpa using h1,h2⟩
theorem bv.set{w:W}{v:V}(q:aF K φ n H w v):∀{ws:aO} {vs:L2.St} (i:Nat),bv K φ n H ws vs->bv K φ n H (ws.set i (adE w)) (vs.set i (adE v))
 | _,_,_,.nil=>.nil
 | _,_,0,.sm _ r=>.sm q r
 | _,_,0,.nn r=>.sm q r
 | _,_,i+1,.sm h r=>.sm h (bv.set q i r)
 | _,_,i+1,.nn r=>.nn (bv.set q i r)
theorem bv.start:∀{ws:ap} {vs:aE} (k:Nat),aN K φ n H ws vs->bv K φ n H (ws.map adE++aaY k Option.none) (vs.map adE++aaY k Option.none)
 | _,_,0,.nil=>.nil
 | _,_,k+1,.nil=>.nn (bv.start k .nil)
 | _,_,k,.cons h r=>.sm h (bv.start k r)
theorem ki.some{o:PO}{a:abc}(h:ki K φ n H o a):∃x,H a=adE x/\(o.fz=false->kD (adE x)):=by
 cases o with
 | lst ws=>obtain⟨vs,e,_⟩:=h;exact⟨_,e,λ_=>trivial⟩
 | aX kws=>
  rcases h with⟨vs,e,_⟩ | ⟨vs,e,_⟩
  ·exact⟨_,e,λ_=>trivial⟩
  ·exact⟨_,e,λ_=>trivial⟩
 | obj c fs=>obtain⟨C,dx,vs,_,e,_⟩:=h;exact⟨_,e,λ_=>trivial⟩
 | bY kws=>obtain⟨kvs,e,_⟩:=h;exact⟨_,e,λ_=>trivial⟩
 | ft kws=>obtain⟨o,kvs,_,e,_⟩:=h;exact⟨_,e,λz=>nomatch z⟩
 | mO kws=>
  obtain⟨o,_,⟨vs,e,_⟩ | ⟨vs,e,_⟩⟩:=h
  ·exact⟨_,e,λz=>nomatch z⟩
  ·exact⟨_,e,λz=>nomatch z⟩
theorem ki.mono{o:PO}{a:abc}(s:Step K φ n H ak n' H')(e:H' a=H a)(h:ki K φ n H o a):ki K ak n' H' o a:=by
 cases o with
 | lst ws=>obtain⟨vs,q,r⟩:=h;exact⟨vs,e.trans q,r.mono s⟩
 | aX kws=>
  rcases h with⟨vs,q,r⟩ | ⟨vs,q,r⟩
  ·exact .inl ⟨vs,e.trans q,r.mono s⟩
  ·exact .inr ⟨vs,e.trans q,r.mono s⟩
 | obj c fs=>obtain⟨C,dx,vs,q1,q2,r⟩:=h;exact⟨C,dx,vs,q1,e.trans q2,r.mono s⟩
 | bY kws=>obtain⟨kvs,q,r,nd⟩:=h;exact⟨kvs,e.trans q,r.mono s,nd⟩
 | ft kws=>obtain⟨o,kvs,hc,q,r,nd⟩:=h;exact⟨o,kvs,hc,e.trans q,r.mono s,nd⟩
 | mO kws=>
  obtain⟨o,hc,⟨vs,q,r⟩ | ⟨vs,q,r⟩⟩:=h
  ·exact⟨o,hc,.inl ⟨vs,e.trans q,r.mono s⟩⟩
  ·exact⟨o,hc,.inr ⟨vs,e.trans q,r.mono s⟩⟩
variable{i:Nat}
theorem aC.at(h:aC K φ ph H)(hi:i<↑ph):∃x,H (φ i)=adE x/\(ph[i].fz=false->kD (adE x)):=(h.hp i ph[i] (by simp[hi])).some
theorem aC.mu(h:aC K φ ph H){o:PO}(hw:ph[i]? =adE o)(hz:o.fz=false):∃x,H (φ i)=adE x/\kD (adE x):=let ⟨x,e,k⟩:=(h.hp i o hw).some;⟨x,e,k hz⟩
variable{p:abc}
theorem js{xs:aE}(hp:H p=Z):Step K φ n H φ n (upd H p (.tup xs)):=by
 refine⟨aaN _,λ_ _=>rfl,λa ys h=>?_,λa o u h=>?_⟩
 ·rw[aI (cC h hp)];exact h
 ·rw[aI (cC h hp)];exact h
theorem aC.tup{p:abc}{xs:aE}(h:aC K φ ph H)(hp:H p=Z):aC K φ ph (upd H p (.tup xs)):=by
 refine⟨λi o e=>?_,h.inj,λp hm=>(h.tb p hm).new hp⟩;have hi:i<↑ph:=(aaG.mp e).1;obtain⟨x,ex,_⟩:=h.at hi;exact(h.hp i o e).mono (js hp) (aI (cC ex hp))
noncomputable def ext(φ:Nat->abc)(n:Nat)(p:abc):Nat->Addr:=λi=>if i=n then p else φ i
theorem pF(h:i<n):ext φ n p i=φ i:=by unfold ext;rw[if_neg ∅]
theorem la:ext φ n p n=p:=by unfold ext;rw[if_pos rfl]
theorem wJ{o:HO}(hp:H p=Z):Step K φ n H (ext φ n p) (n+1) (upd H p o):=by
 refine⟨aeY _,λi h=>pF h,λa ys h=>?_,λa o u h=>?_⟩
 ·rw[aI (cC h hp)];exact h
 ·rw[aI (cC h hp)];exact h
theorem aC.new{p:abc}{x:HO}{o:PO}(h:aC K φ ph H)(hp:H p=Z)(r:ki K (ext φ ↑ph p) (↑ph+1) (upd H p x) o p):aC K (ext φ ↑ph p) (ph++[o]) (upd H p x):=by
 refine⟨λi o' e=>?_,λi j hi hj e=>?_,λp hm=>(h.tb p hm).new hp⟩
 ·rw[aaQ];by_cases hi:i<↑ph
  ·rw[abm hi] at e;obtain⟨y,ey,_⟩:=h.at hi;rw[pF hi];exact(h.hp i o' e).mono (wJ hp) (aI (cC ey hp))
  ·have hl:=(aaG.mp e).1;simp at hl;have:i=↑ph:=by omega
   subst this;simp at e;subst e;rw[la];exact r
 ·simp at hi hj
  have key:∀k,k<↑ph->φ k≠p:=λk hk z=>by
   obtain⟨y,ey,_⟩:=h.at hk;rw[z,hp] at ey;cases ey
  by_cases h1:i<↑ph <;> by_cases h2:j<↑ph
  ·rw[pF h1,pF h2] at e;exact h.inj i j h1 h2 e
  ·have:j=↑ph:=by omega
   subst this;rw[pF h1,la] at e;exact(key i h1 e).elim
  ·have:i=↑ph:=by omega
   subst this;rw[pF h2,la] at e;exact(key j h2 e.symm).elim
  ·omega
theorem k6{a:abc}{x y:HO}(ha:H a=O x)(mx:kD (O x)):Step K φ n H φ n (upd H a y):=by
 refine⟨aaN _,λ_ _=>rfl,λc ys h=>?_,λc o u h=>?_⟩
 ·rw[aI (fb h ha (by rintro rfl;exact mx))];exact h
 ·rw[aI (fb h ha (by rintro rfl;exact mx))];exact h
theorem aC.put{x:HO}{o o0:PO}(h:aC K φ ph H)(hw:ph[i]? =O o0)(hz:o0.fz=false)(r:ki K φ ↑ph (upd H (φ i) x) o (φ i)):aC K φ (ph.set i o) (upd H (φ i) x):=by
 have hi:i<↑ph:=(aaG.mp hw).1;obtain⟨y,ey,my⟩:=h.mu hw hz;refine⟨λj o' e=>?_,λj k hj hk e=>?_,λp hm=>(h.tb p hm).upd (λps z=>?_) λoc z=>?_⟩
 ·rw[aby];by_cases hj:j=i
  ·subst hj;rw[abL hi] at e;cases e;exact r
  ·rw[ace (adh hj)] at e;have dc:=(aaG.mp e).1;exact(h.hp j o' e).mono (k6 ey my) (aI λz=>hj (h.inj j i dc hi z))
 ·rw[aby] at hj hk;exact h.inj j k hj hk e
 ·rw[ey] at z;cases z;exact my
 ·rw[ey] at z;cases z;exact my
end
abbrev Uo(C:abc)(dd:d7)(t:abc):Obj:={ cls:=.ref C,dict:=dd,data:=.fields #[.ref t,.none,.none,.none,.bool false,.none] }
structure IP(h h':ade)(a C:abc)(dd:d7):Prop where
 keeps:∀b o,h.get? b=O o->h'.get? b=O o
 new:h.get? a=Z
 there:∃t,h'.get? a=O (Uo C dd t)
noncomputable def Made(X:Cx)(C:abc)(dd:d7)(H':Hp)(e:abh)(s':aaR):Prop:=
 ∃pins σ s h' a,e=.ref a/\s'={ s with heap:=h' }/\Inv X pins σ H' s/\IP s.heap h' a C dd
structure UnB(fs:List abc)(H H':Hp)(h B h':ade):Prop where
 keep:∀b o,h.get? b=O o->H b=Z->b∉fs->B.get? b=O o
 slot:∀b o,h.get? b=O o->H b=Z->b∈fs->∃sl,h'.get? b=O { o with slots:=sl }
 free:∀b o,h.get? b=O o->H b=Z->H' b=Z
 there:∀b o,h.get? b=O o->b∉fs->∃o',B.get? b=O o'
 fU:∀b xs,H b=O (.tup xs)->H' b=O (.tup xs)
 ee:∀b o u,H b=O (.aL o u)->H' b=O (.aL o u)
 fV:∀b ps,H b=O (.cW ps)->∃more,H' b=O (.cW (ps++more))
noncomputable def Flew(P:abI)(w:acg)(l:List Env)(H:Hp)(s:aaR)(C:abc)(dd:d7)(H':Hp)(e:abh)(s':aaR):Prop:=
 ∃a a0 B,e=.ref a/\s'.os=s.os/\ago s'.gens/\ade.w4 B l a (.ref C,dd) a0 s'.heap/\cS P w H' B/\UnB (eR l) H H' s.heap B s'.heap
noncomputable def CN(K:aaJ)(φ:Nat->abc)(n:Nat)(H:Hp)(dd:d7)(fs:List (Str×W)):Prop:=fs=[]\/∃d od f w v,dd=O d/\fs=[(f,w)]/\H d=O (.aL od (.xd [(f,v)]))/\aF K φ n H w v
noncomputable def Thr(X:Cx)(φ:Nat->abc)(n:Nat)(x:XC)(H':Hp)(e:abh)(s':aaR):Prop:=∃C dd,X.mg x.cls=O (.ref C)/\CN X.K φ n H' dd x.fs/\(Made X C dd H' e s'\/∃pins σ H s,Inv X pins σ H s/\Flew X.prog X.w X.stack H s C dd H' e s')
noncomputable def XE(X:Cx)(φ:Nat->abc)(n:Nat)(H:Hp):XC->PH->Prop:=λx ph'=>∀ak H' e s',aC X.K ak ph' H'->Step X.K φ n H ak ↑ph' H'->Thr X ak ↑ph' x H' e s'->X.xe e s'
variable{X:Cx}{φ:Nat->abc}{ph':PH}
theorem XE.step{aq:Nat->abc}{n n1:Nat}{H1:Hp}{x:XC}(h:XE X φ n H x ph')(s:Step X.K φ n H aq n1 H1):XE X aq n1 H1 x ph':=λak H' e s' r t q=>h ak H' e s' r (s.trans t) q
noncomputable def tM(X:Cx)(m:EM):TE:=λσ H Q=>∃φ ph ws,aC X.K φ ph H/\bv X.K φ ↑ph H ws σ/\(m ws ph).Run (λw ph'=>
 ∀ak H' v,aC X.K ak ph' H'->Step X.K φ ↑ph H ak ↑ph' H'->aF X.K ak ↑ph' H' w v->Q v H') (XE X φ ↑ph H)
noncomputable def tT(X:Cx)(m:TM):TT:=λσ H Q=>∃φ ph ws,aC X.K φ ph H/\bv X.K φ ↑ph H ws σ/\(m ws ph).Run (λb ph'=>
 ∀ak H',aC X.K ak ph' H'->Step X.K φ ↑ph H ak ↑ph' H'->Q b H') (XE X φ ↑ph H)
noncomputable def tA(X:Cx)(m:AM):TA:=λσ H Q=>∃φ ph ws,aC X.K φ ph H/\bv X.K φ ↑ph H ws σ/\(m ws ph).Run (λxs ph'=>
 ∀ak H' vs,aC X.K ak ph' H'->Step X.K φ ↑ph H ak ↑ph' H'->aN X.K ak ↑ph' H' xs vs->Q vs H') (XE X φ ↑ph H)
noncomputable def n6(X:Cx)(D:Ends)(ak:Nat->abc)(ph':PH)(H':Hp)(f:Fl):Prop:=match f with
 | .nx dh=>∀aj,bv X.K ak ↑ph' H' dh aj->D.nx aj H'
 | .bk dh=>∀aj,bv X.K ak ↑ph' H' dh aj->D.bk aj H'
 | .ct dh=>∀aj,bv X.K ak ↑ph' H' dh aj->D.ct aj H'
 | .rt w=>∀v,aF X.K ak ↑ph' H' w v->D.rt v H'
noncomputable def tS(X:Cx)(m:SM):TS:=λD σ H=>∃φ ph ws,aC X.K φ ph H/\bv X.K φ ↑ph H ws σ/\(m ws ph).Run (λf ph'=>
 ∀ak H',aC X.K ak ph' H'->Step X.K φ ↑ph H ak ↑ph' H'->n6 X D ak ph' H' f) (XE X φ ↑ph H)
section
variable{X:Cx}{e:acJ}
theorem PE.imp{t t':TE}(h:PE X e t)(k:∀σ H Q,t' σ H Q->t σ H Q):PE X e t':=λpins s σ H Q I q=>h pins s σ H Q I (k σ H Q q)
theorem PT.imp{t t':TT}(h:PT X e t)(k:∀σ H Q,t' σ H Q->t σ H Q):PT X e t':=λpins s σ H Q I q=>h pins s σ H Q I (k σ H Q q)
theorem PA.imp{es:cc}{t t':TA}(h:PA X es t)(k:∀σ H Q,t' σ H Q->t σ H Q):PA X es t':=λpos pins s σ H Q I q=>h pos pins s σ H Q I (k σ H Q q)
theorem PS.imp{st:ahH}{t t':TS}(h:PS X st t)(k:∀D σ H,t' D σ H->t D σ H):PS X st t':=λpins s σ H D I q=>h pins s σ H D I (k D σ H q)
theorem gO.imp{st:eN}{t t':TS}(h:gO X st t)(k:∀D σ H,t' D σ H->t D σ H):gO X st t':=λpins s σ H D I q=>h pins s σ H D I (k D σ H q)
abbrev IE(X:Cx)(e:acJ)(m:EM):Prop:=PE X e (tM X m)
abbrev IT(X:Cx)(e:acJ)(m:TM):Prop:=PT X e (tT X m)
abbrev IA(X:Cx)(es:cc)(m:AM):Prop:=PA X es (tA X m)
abbrev IS(X:Cx)(st:ahH)(m:SM):Prop:=PS X st (tS X m)
abbrev jh(X:Cx)(st:eN)(m:SM):Prop:=gO X st (tS X m)
end
noncomputable def aa(i:Nat):EM:=λσ=>lift λph=>match σ[i]? with
 | some (O w)=>O (w,ph)
 | _=>Z
noncomputable def eC(w:W):EM:=λ_=>ay w
noncomputable def ab(f:W->W->Po W)(a b:EM):EM:=λσ=>au (a σ) λx=>au (b σ) λy=>lift (f x y)
noncomputable def mP(f:W->Po W)(a:EM):EM:=λσ=>au (a σ) λx=>lift (f x)
noncomputable def dr(K:aaJ)(r:R2)(f:W->W->Po W):Prop:=∀{φ:Nat->abc} {ph:PH} {H:Hp} {x y:W} {vx vy:V} {w:W} {ph':PH} {Q:VK},aC K φ ph H->aF K φ ↑ph H x vx->aF K φ ↑ph H y vy->f x y ph=O (w,ph') →
 (∀ak H' v,aC K ak ph' H'->Step K φ ↑ph H ak ↑ph' H'->aF K ak ↑ph' H' w v->Q v H')->r vx vy H Q
noncomputable def Kv(K:aaJ)(r:V->Hp->VK->Prop)(f:W->Po W):Prop:=∀{φ:Nat->abc} {ph:PH} {H:Hp} {x:W} {vx:V} {w:W} {ph':PH} {Q:VK},aC K φ ph H->aF K φ ↑ph H x vx->f x ph=O (w,ph') →
 (∀ak H' v,aC K ak ph' H'->Step K φ ↑ph H ak ↑ph' H'->aF K ak ↑ph' H' w v->Q v H')->r vx H Q
section
variable{X:Cx}{a b c:acJ}{ma mb mc:EM}{pos:Pos}
theorem Up(i:Nat){x:Str}(hN:X.N[i]? =O x:=by rfl)(hv:jP X.env.scope x:=by first | exact Or.inl rfl | exact Or.inr (Or.inl rfl) | exact Or.inr (Or.inr rfl))(hd:(x==("__debug__":Str))=false:=by decide)
  (hcd:(x==("__classdict__":Str))=false:=by decide):IE X (.Name x pos) (aa i):=by
 refine PE.imp (Hj hN hv hd hcd) λσ H Q h=>?_
 obtain⟨φ,ph,ws,hH,hS,h⟩:=h;obtain⟨w,ph',e,k⟩:=run_lift h;split at e
 ·rename_i w' ew;cases e;obtain⟨v,ev,rv⟩:=hS.get ew;exact⟨v,ev,k φ H v hH Step.refl rv⟩
 ·cases e
theorem ya{t:V}{w:W}(h:PE X a (tC t))(r:∀φ n H,aF X.K φ n H w t):IE X a (eC w):=by
 refine PE.imp h λσ H Q h=>?_
 obtain⟨φ,ph,ws,hH,hS,h⟩:=h;exact h φ H _ hH Step.refl (r _ _ _)
variable{j:Nat}
theorem Uq{i:Int}:IE X (.Constant (.int i) j pos) (eC (.int i)):=ya Tv λ_ _ _=>.int i
theorem Ur{x:Str}:IE X (.Constant (.str x) j pos) (eC (.str x)):=ya Tz λ_ _ _=>.str x
theorem W8{x:Bool}:IE X (.Constant (.bool x) j pos) (eC (.bl x)):=ya WL λ_ _ _=>.bl x
theorem Us:IE X (.Constant .none j pos) (eC .aH):=ya Tw λ_ _ _=>.aH
variable{β:Type}{σ:L2.St}{H:Hp}{φ:Nat->abc}{ph:PH}{ws:aO}
theorem tM.bind{m:EM}{Q:VK}{f:W->Mo β}{N:β->PH->Prop}(hH:aC X.K φ ph H)(hS:bv X.K φ ↑ph H ws σ)(h:(au (m ws) f ph).Run N (XE X φ ↑ph H))(k:∀w ph1 aq H1 v,aC X.K aq ph1 H1->Step X.K φ ↑ph H aq ↑ph1 H1->aF X.K aq ↑ph1 H1 w v->(f w ph1).Run N (XE X aq ↑ph1 H1)->Q v H1):tM X m σ H Q:=by
 rw[c3] at h;exact⟨φ,ph,ws,hH,hS,h.mono (λw ph1 h1 aq H1 v aw s1 r1=>k w ph1 aq H1 v aw s1 r1 (h1.mono (λ_ _ z=>z) λ_ _ z=>z.step s1)) λ_ _ z=>z⟩
theorem tT.bind{m:TM}{Q:Bool->Hp->Prop}{f:Bool->Mo β}{N:β->PH->Prop}(hH:aC X.K φ ph H)(hS:bv X.K φ ↑ph H ws σ)(h:(au (m ws) f ph).Run N (XE X φ ↑ph H))(k:∀b ph1 aq H1,aC X.K aq ph1 H1->Step X.K φ ↑ph H aq ↑ph1 H1->(f b ph1).Run N (XE X aq ↑ph1 H1)->Q b H1):tT X m σ H Q:=by
 rw[c3] at h;exact⟨φ,ph,ws,hH,hS,h.mono (λb ph1 h1 aq H1 aw s1=>k b ph1 aq H1 aw s1 (h1.mono (λ_ _ z=>z) λ_ _ z=>z.step s1)) λ_ _ z=>z⟩
theorem tA.bind{m:AM}{Q:aE->Hp->Prop}{f:ap->Mo β}{N:β->PH->Prop}(hH:aC X.K φ ph H)(hS:bv X.K φ ↑ph H ws σ)(h:(au (m ws) f ph).Run N (XE X φ ↑ph H))(k:∀xs ph1 aq H1 vs,aC X.K aq ph1 H1->Step X.K φ ↑ph H aq ↑ph1 H1->aN X.K aq ↑ph1 H1 xs vs->(f xs ph1).Run N (XE X aq ↑ph1 H1)->Q vs H1):tA X m σ H Q:=by
 rw[c3] at h;exact⟨φ,ph,ws,hH,hS,h.mono (λw ph1 h1 aq H1 v aw s1 r1=>k w ph1 aq H1 v aw s1 r1 (h1.mono (λ_ _ z=>z) λ_ _ z=>z.step s1)) λ_ _ z=>z⟩
variable{r:R2}{f:W->W->Po W}
theorem w8(hi:dr X.K r f){Q:VK}(h:tM X (ab f ma mb) σ H Q):uj r (tM X ma) (tM X mb) σ H Q:=by
 obtain⟨φ,ph,ws,hH,hS,h⟩:=h;refine tM.bind hH hS h λx ph1 aq H1 vx aw s1 rx h=>tM.bind aw (hS.mono s1) h λy ph2 bc H2 vy aR s2 ry h=>?_
 obtain⟨w,ph',e,k⟩:=run_lift h;exact hi aR (rx.mono s2) ry e λfO H3 v dB s3 r3=>k fO H3 v dB ((s1.trans s2).trans s3) r3
theorem sI{op:Operator}(ho:bS X (aev op) r)(hi:dr X.K r f)(ha:IE X a ma)(hb:IE X b mb):IE X (.BinOp a op b pos) (ab f ma mb):=
 PE.imp (WV ho ha hb) λ_ _ _ h=>w8 hi h
theorem W9{op:UnaryOp}{r:V->Hp->VK->Prop}{f:W->Po W}(ho:yz X (unaryOp op) r)(hi:Kv X.K r f)(ha:IE X a ma):IE X (.UnaryOp op a pos) (mP f ma):=by
 refine PE.imp (WW ho ha) λσ H Q h=>?_
 obtain⟨φ,ph,ws,hH,hS,h⟩:=h;refine tM.bind hH hS h λx ph1 aq H1 vx aw s1 rx h=>?_
 obtain⟨w,ph',e,k⟩:=run_lift h;exact hi aw rx e λfO H3 v dB s3 r3=>k fO H3 v dB (s1.trans s3) r3
theorem Ut{op:CmpOp}(ho:bS X (acr op) r)(hi:dr X.K r f)(ha:IE X a ma)(hb:IE X b mb)(hm:acS op b=false):IE X (.Compare a [op] [b] pos) (ab f ma mb):=
 PE.imp (Rg ho ha hb hm) λ_ _ _ h=>w8 hi h
noncomputable def eT(m:EM):TM:=λσ=>au (m σ) λw=>lift (match w with
 | .bl b=>ret b
 | _=>gh)
theorem Uu{op:CmpOp}(ho:bS X (acr op) r)(hi:dr X.K r f)(ha:IE X a ma)(hb:IE X b mb)(hm:acS op b=false):IT X (.Compare a [op] [b] pos) (eT (ab f ma mb)):=by
 refine PT.imp (Rh ho ha hb hm) λσ H Q h=>?_
 obtain⟨φ,ph,ws,hH,hS,h⟩:=h;refine w8 hi (tM.bind hH hS h λx ph1 aq H1 vx aw s1 rx h=>?_);obtain⟨w,ph',e,k⟩:=run_lift h;split at e
 ·cases e;cases rx;exact⟨_,rfl,k aq H1 aw s1⟩
 ·cases e
end
noncomputable def qw(g:Int->Int->Int):W->W->Po W:=λx y=>match x,y with
 | .int i,.int j=>ret (.int (g i j))
 | _,_=>gh
noncomputable def pZ(c:Int->Int->Bool)(g:Int->Int->Int):W->W->Po W:=λx y=>match x,y with
 | .int i,.int j=>if c i j=true then ret (.int (g i j)) else gh
 | _,_=>gh
noncomputable def p9(g:Int->Int->Bool):W->W->Po W:=λx y=>match x,y with
 | .int i,.int j=>ret (.bl (g i j))
 | _,_=>gh
theorem Xa{g:Int->Int->Int}:dr K (jQ λi j=>.int (g i j)) (qw g):=by
 intro φ ph H x y vx vy w ph' Q hH rx ry e k;unfold qw at e;split at e
 ·cases e;cases rx;cases ry;exact⟨_,_,rfl,rfl,k φ H _ hH Step.refl (.int _)⟩
 ·cases e
theorem Hq{C:Int->Int->Prop}{c:Int->Int->Bool}{g:Int->Int->Int}(hc:∀i j,c i j=true->C i j):dr K (rI C λi j=>.int (g i j)) (pZ c g):=by
 intro φ ph H x y vx vy w ph' Q hH rx ry e k;unfold pZ at e;split at e
 ·split at e
  ·cases e;cases rx;cases ry;exact⟨_,_,rfl,rfl,hc _ _ (by assumption),k φ H _ hH Step.refl (.int _)⟩
  ·cases e
 ·cases e
theorem Bc{g:Int->Int->Bool}:dr K (jQ λi j=>.bl (g i j)) (p9 g):=by
 intro φ ph H x y vx vy w ph' Q hH rx ry e k;unfold p9 at e;split at e
 ·cases e;cases rx;cases ry;exact⟨_,_,rfl,rfl,k φ H _ hH Step.refl (.bl _)⟩
 ·cases e
noncomputable def fc(a b:TM):TM:=λσ=>au (a σ) λc=>if c=true then b σ else ay false
noncomputable def c9(a b:TM):TM:=λσ=>au (a σ) λc=>if c=true then ay true else b σ
noncomputable def iz(a:TM):TM:=λσ=>au (a σ) λc=>ay (!c)
noncomputable def tE(a b:EM):EM:=λσ=>au (a σ) λw=>match w with
 | .bl c=>if c=true then b σ else ay (.bl false)
 | _=>dY
noncomputable def eOr(a b:EM):EM:=λσ=>au (a σ) λw=>match w with
 | .bl c=>if c=true then ay (.bl true) else b σ
 | _=>dY
noncomputable def Y7(a:EM):EM:=λσ=>au (a σ) λw=>match w with
 | .bl c=>ay (.bl (!c))
 | _=>dY
noncomputable def eIf(t:TM)(a b:EM):EM:=λσ=>au (t σ) λc=>if c=true then a σ else b σ
section
variable{X:Cx}{a b c:acJ}{rest:cc}{ma mb mc:EM}{ta tb:TM}{pos:Pos}
theorem Uv(ha:IT X a ta):IT X (.UnaryOp .Not a pos) (iz ta):=by
 refine PT.imp (TF ha) λσ H Q h=>?_
 obtain⟨φ,ph,ws,hH,hS,h⟩:=h;exact tT.bind hH hS h λx ph1 aq H1 aw s1 h=>h aq H1 aw s1
variable{H:Hp}
theorem and_imp{σ:L2.St}{Q:Bool->Hp->Prop}(h:tT X (fc ta tb) σ H Q):xW (tT X ta) (tT X tb) σ H Q:=by
 obtain⟨φ,ph,ws,hH,hS,h⟩:=h;refine tT.bind hH hS h λx ph1 aq H1 aw s1 h=>?_
 cases x with
 | true=>exact nZ ⟨aq,ph1,ws,aw,hS.mono s1,h.mono (λ_ _ k bc H2 aR s2=>k bc H2 aR (s1.trans s2)) λ_ _ z=>z⟩
 | false=>exact nY (h aq H1 aw s1)
theorem or_imp{σ:L2.St}{Q:Bool->Hp->Prop}(h:tT X (c9 ta tb) σ H Q):kG (tT X ta) (tT X tb) σ H Q:=by
 obtain⟨φ,ph,ws,hH,hS,h⟩:=h;refine tT.bind hH hS h λx ph1 aq H1 aw s1 h=>?_
 cases x with
 | false=>exact nY ⟨aq,ph1,ws,aw,hS.mono s1,h.mono (λ_ _ k bc H2 aR s2=>k bc H2 aR (s1.trans s2)) λ_ _ z=>z⟩
 | true=>exact nZ (h aq H1 aw s1)
theorem Uw{op:BoolOp}(ha:IT X a ta):PW X (.BoolOp op [a] pos) (tT X ta):=by
 cases op with
 | And=>exact Q6 ha
 | Or=>exact TB ha
theorem Ux(ha:IT X a ta)(hb:PW X (.BoolOp .And (b::rest) pos) (tT X tb)):PW X (.BoolOp .And (a::b::rest) pos) (tT X (fc ta tb)):=
 λwh pins s σ H Q I h=>TC ha hb wh pins s σ H Q I (and_imp h)
theorem Xb(ha:IT X a ta)(hb:PW X (.BoolOp .Or (b::rest) pos) (tT X tb)):PW X (.BoolOp .Or (a::b::rest) pos) (tT X (c9 ta tb)):=
 λwh pins s σ H Q I h=>WM ha hb wh pins s σ H Q I (or_imp h)
theorem Uy(ha:IE X a ma)(hb:IE X (.BoolOp .And (b::rest) pos) mb):IE X (.BoolOp .And (a::b::rest) pos) (tE ma mb):=by
 refine PE.imp (TJ ha hb) λσ H Q h=>?_
 obtain⟨φ,ph,ws,hH,hS,h⟩:=h;refine tM.bind hH hS h λx ph1 aq H1 vx aw s1 rx h=>?_
 cases rx with
 | bl c=>
  refine⟨c,rfl,?_⟩;cases c with
  | true=>exact nZ ⟨aq,ph1,ws,aw,hS.mono s1,h.mono (λ_ _ k bc H2 v aR s2 r2=>k bc H2 v aR (s1.trans s2) r2) λ_ _ z=>z⟩
  | false=>exact nY (h aq H1 _ aw s1 (.bl false))
 | _=>exact h.elim
theorem Uz{op:BoolOp}(ha:IE X a ma):IE X (.BoolOp op [a] pos) ma:=TH ha
noncomputable def qa(w:W):Po Bool:=λph=>match w with
 | .aH=>O (false,ph)
 | .bl b=>O (b,ph)
 | .int i=>O (i != 0,ph)
 | .str y=>if ↑y<=abd then O ((↑y:Int) != 0,ph) else Z
 | .tup ws=>O (!ws.isEmpty,ph)
 | .fl ws=>O (!ws.isEmpty,ph)
 | .ref i=>match ph[i]? with
  | some (.lst ws)=>O (!ws.isEmpty,ph)
  | _=>Z
 | .exc .. =>Z
 | .fn .. =>Z
 | .kt .. =>Z
noncomputable def h9(m:EM):TM:=λσ=>au (m σ) λw=>lift (qa w)
theorem Be{K:aaJ}{φ:Nat->abc}{n:Nat}{ws:ap}{vs:aE}(r:aN K φ n H ws vs):(!vs.isEmpty)= !ws.isEmpty:=by cases r <;> rfl
theorem UA(ha:IE X a ma)(he:∀whole,isTrue a X.env whole=(do let v <- whole;standAt a.pos;afz [v] (truthy v)):=by intro _;rfl):IT X a (h9 ma):=by
 refine PT.imp (PZ ha he) λσ H Q h=>?_
 obtain⟨φ,ph,ws,hH,hS,h⟩:=h;refine tM.bind hH hS h λx ph1 aq H1 vx aw s1 rx h=>?_
 obtain⟨b,ph2,e,k⟩:=run_lift h;unfold qa at e;cases rx with
 | aH=>cases e;exact⟨_,rfl,k aq H1 aw s1⟩
 | bl b=>cases e;exact⟨_,rfl,k aq H1 aw s1⟩
 | int i=>cases e;exact⟨_,rfl,k aq H1 aw s1⟩
 | str y=>
  simp only at e;split at e
  ·rename_i hy;cases e;exact⟨_,⟨hy,rfl⟩,k aq H1 aw s1⟩
  ·cases e
 | tup hq r=>cases e;exact⟨_,.inr (.inl ⟨_,cI.of hq,rfl⟩),by rw[Be r];exact k aq H1 aw s1⟩
 | fl hq r=>cases e;exact⟨_,.inl ⟨_,hq.sq,rfl⟩,by rw[Be r];exact k aq H1 aw s1⟩
 | ref hi=>
  simp only at e;split at e
  ·rename_i dh hw;cases e;obtain⟨vs,hv,r⟩:=aw.hp _ _ hw;exact⟨_,.inl ⟨vs,bH.of hv,rfl⟩,by rw[Be r];exact k aq H1 aw s1⟩
  ·cases e
 | exc=>cases e
 | fn=>cases e
 | kt _ _=>cases e
end
noncomputable def cj:SM:=λσ=>ay (.nx σ)
noncomputable def aA(a b:SM):SM:=λσ=>au (a σ) λf=>match f with
 | .nx aj=>b aj
 | f=>ay f
noncomputable def gc(e:EM):SM:=λσ=>au (e σ) λ_=>ay (.nx σ)
noncomputable def bB(e:EM):SM:=λσ=>au (e σ) λw=>ay (.rt w)
noncomputable def cb(t:TM)(a b:SM):SM:=λσ=>au (t σ) λc=>if c=true then a σ else b σ
abbrev GM:=W->aO->Mo aO
noncomputable def gN(i:Nat):GM:=λw σ=>ay (σ.set i (O w))
noncomputable def aK(e:EM)(g:GM):SM:=λσ=>au (e σ) λw=>au (g w σ) λaj=>ay (.nx aj)
noncomputable def tG(X:Cx)(g:GM):TG:=λv σ H Q=>∃φ ph ws w,aC X.K φ ph H/\bv X.K φ ↑ph H ws σ/\aF X.K φ ↑ph H w v/\(g w ws ph).Run (λdh ph'=>
 ∀ak H' aj,aC X.K ak ph' H'->Step X.K φ ↑ph H ak ↑ph' H'->bv X.K ak ↑ph' H' dh aj->Q aj H') (XE X φ ↑ph H)
abbrev IG(X:Cx)(tg:acJ)(g:GM):Prop:=PG X tg (tG X g)
section
variable{X:Cx}{e c:acJ}{m:EM}{t:TM}{a b:SM}{st:ahH}{as bs rest:eN}{pos:Pos}{tg:acJ}{g:GM}
theorem PG.imp{t t':TG}(h:PG X tg t)(k:∀v σ H Q,t' v σ H Q->t v σ H Q):PG X tg t':=λpins s σ H v u Q I r q=>h pins s σ H v u Q I r (k v σ H Q q)
theorem Rq:jh X [] cj:=gO.imp Q7 λD σ H h=>by
 obtain⟨φ,ph,ws,hH,hS,h⟩:=h;exact h φ H hH Step.refl σ hS
variable{σ:L2.St}{H:Hp}
theorem Gy{D:Ends}(h:tS X (aA a b) D σ H):Jw (tS X a) (tS X b) D σ H:=by
 obtain⟨φ,ph,ws,hH,hS,h⟩:=h;unfold aA at h;rw[c3] at h;refine⟨φ,ph,ws,hH,hS,h.mono (λf ph1 h aq H1 aw s1=>?_) λ_ _ z=>z⟩;cases f with
 | nx kJ=>exact λσ1 ij=>⟨aq,ph1,kJ,aw,ij,h.mono (λf ph2 k bc H2 aR s2=>k bc H2 aR (s1.trans s2)) λ_ _ z=>z.step s1⟩
 | bk kJ=>exact h aq H1 aw s1
 | ct kJ=>exact h aq H1 aw s1
 | rt w=>exact h aq H1 aw s1
theorem P5(h1:IS X st a)(h2:jh X rest b):jh X (st::rest) (aA a b):=gO.imp (PU h1 h2) λ_ _ _ h=>Gy h
theorem Rr(h1:IS X st a):jh X [st] a:=Q8 h1
theorem Rt(he:IE X e m)(hs:aeq e Z pos.line X.env=pure false:=by rfl):IS X (.Expr e pos) (gc m):=PS.imp (Q9 he hs) λD σ H h=>by
 obtain⟨φ,ph,ws,hH,hS,h⟩:=h;exact tM.bind hH hS h λw ph1 aq H1 v aw s1 r1 h=>h aq H1 aw s1 σ (hS.mono s1)
theorem UB(he:IE X e m):IS X (.Return (O e) pos) (bB m):=PS.imp (TK he) λD σ H h=>by
 obtain⟨φ,ph,ws,hH,hS,h⟩:=h;exact tM.bind hH hS h λw ph1 aq H1 v aw s1 r1 h=>h aq H1 aw s1 v r1
theorem Xc(hc:IT X c t)(ha:jh X as a)(hb:jh X bs b):IS X (.If c as bs pos) (cb t a b):=PS.imp (WQ hc ha hb) λD σ H h=>by
 obtain⟨φ,ph,ws,hH,hS,h⟩:=h;refine tT.bind hH hS h λx ph1 aq H1 aw s1 h=>?_
 cases x with
 | true=>exact nZ ⟨aq,ph1,ws,aw,hS.mono s1,h.mono (λ_ _ k bc H2 aR s2=>k bc H2 aR (s1.trans s2)) λ_ _ z=>z⟩
 | false=>exact nY ⟨aq,ph1,ws,aw,hS.mono s1,h.mono (λ_ _ k bc H2 aR s2=>k bc H2 aR (s1.trans s2)) λ_ _ z=>z⟩
theorem Ru{i:Nat}{x:Str}(hN:X.N.Nodup)(hi:X.N[i]? =O x)(hx:Loc X.env.scope x)(hf:(X.fn x=true\/X.env.scope.names.lookup x=O .local)/\jG X x):IG X (.Name x pos) (gN i):=
 PG.imp (Ra hN hi hx hf) λv σ H Q h=>by
  obtain⟨φ,ph,ws,w,hH,hS,fq,h⟩:=h;exact h φ H _ hH Step.refl (hS.set fq i)
theorem tG.bind{β:Type}{g:GM}{Q:L2.St->Hp->Prop}{φ:Nat->abc}{ph:PH}{ws:aO}{w:W}{v:V}{f:aO->Mo β}{N:β->PH->Prop}(hH:aC X.K φ ph H)(hS:bv X.K φ ↑ph H ws σ)(fq:aF X.K φ ↑ph H w v)(h:(au (g w ws) f ph).Run N (XE X φ ↑ph H))(k:∀kJ ph1 aq H1 σ1,aC X.K aq ph1 H1->Step X.K φ ↑ph H aq ↑ph1 H1->bv X.K aq ↑ph1 H1 kJ σ1->(f kJ ph1).Run N (XE X aq ↑ph1 H1)->Q σ1 H1):tG X g v σ H Q:=by
 rw[c3] at h;exact⟨φ,ph,ws,w,hH,hS,fq,h.mono (λkJ ph1 h1 aq H1 σ1 aw s1 r1=>k kJ ph1 aq H1 σ1 aw s1 r1 (h1.mono (λ_ _ z=>z) λ_ _ z=>z.step s1)) λ_ _ z=>z⟩
theorem Rv{D:Ends}(h:tS X (aK m g) D σ H):xX (tM X m) (tG X g) D σ H:=by
 obtain⟨φ,ph,ws,hH,hS,h⟩:=h;refine tM.bind hH hS h λw ph1 aq H1 v aw s1 r1 h=>?_
 exact tG.bind aw (hS.mono s1) r1 h λgB ph2 bc H2 cy aR s2 ji h=>h bc H2 aR (s1.trans s2) cy ji
theorem UC{i:Nat}{x:Str}{pos':Pos}(hN:X.N.Nodup)(hi:X.N[i]? =O x)(hx:Loc X.env.scope x)(he:IE X e m)(hs:aeq e (O (.Name x pos')) pos.line X.env=pure false:=by rfl)
  (hf:(X.fn x=true\/X.env.scope.names.lookup x=O .local)/\jG X x):IS X (.Assign [.Name x pos'] e pos) (aK m (gN i)):=
 PS.imp (TR hN hi hx he hs hf) λD σ H h=>by
  obtain⟨φ,ph,ws,hH,hS,h⟩:=h;exact tM.bind hH hS h λw ph1 aq H1 v aw s1 r1 h=>h aq H1 aw s1 _ ((hS.mono s1).set r1 i)
theorem UD(he:IE X e m)(hg:IG X tg g)(hs:swapsWithSole [tg] e pos.line X.env=pure false:=by rfl)(hw:swappedStores [tg] e X.env=pure none:=by rfl)
  (h1:(acM [tg] X.env).map (·.2)=[agJ tg X.env]:=by rfl):IS X (.Assign [tg] e pos) (aK m g):=PS.imp (TQ he hg hs hw h1) λ_ _ _ h=>Rv h
end
abbrev IM:=aO->Mo (ap×(PH->Bool))
noncomputable def dQ(chk:PH->Bool)(g:GM)(b:SM):ap->SM
 | [],σ=>λph=>if chk ph=true then .ok (.nx σ) ph else .no
 | x::xs,σ=>λph=>if chk ph=true then au (g x σ) (λσ1=>au (b σ1) λf=>match f with
   | .nx aj=>dQ chk g b xs aj
   | .ct aj=>dQ chk g b xs aj
   | .bk aj=>ay (.nx aj)
   | .rt w=>ay (.rt w)) ph else .no
noncomputable def d9(im:IM)(g:GM)(b:SM):SM:=λσ=>au (im σ) λr=>dQ r.2 g b r.1 σ
noncomputable def yF(K:aaJ)(J:It)(items:ap)(chk:PH->Bool)(φ:Nat->abc)(n:Nat)(H:Hp):Prop:=
 ∀ak ph' H',aC K ak ph' H'->Step K φ n H ak ↑ph' H'->chk ph'=true->∀i:Nat,
  (∀w,items[i]? =O w->J.go i H'/\∀x gR,J.uh i H' x gR->aC K ak ph' gR/\Step K ak ↑ph' H' ak ↑ph' gR/\aF K ak ↑ph' gR w x)/\(items[i]? =Z->J.stop i H')
noncomputable def tI(X:Cx)(im:IM):TI:=λσ H R=>∃φ ph ws,aC X.K φ ph H/\bv X.K φ ↑ph H ws σ/\(im ws ph).Run (λr ph'=>
 ∀ak H' J,aC X.K ak ph' H'->Step X.K φ ↑ph H ak ↑ph' H'->yF X.K J r.1 r.2 ak ↑ph' H'->R J H') (XE X φ ↑ph H)
abbrev II(X:Cx)(tg iter:acJ)(im:IM):Prop:=PI X tg iter (tI X im)
section
variable{X:Cx}{iter tg c:acJ}{im:IM}{g:GM}{b:SM}{t:TM}{body:eN}{pos:Pos}
variable{H:Hp}
theorem Rw{D:Ends}{σ:L2.St}(h:tS X (d9 im g b) D σ H):Jy (tI X im) (tG X g) (tS X b) D σ H:=by
 obtain⟨φ,ph,ws,hH,hS,h⟩:=h;unfold d9 at h;rw[c3] at h;refine⟨φ,ph,ws,hH,hS,h.mono (λr ph1 h aq H1 J aw s1 hJ=>?_) λ_ _ z=>z⟩;obtain⟨items,chk⟩:=r;refine⟨λi m cy H2=>∃bc ph2 gB,m=(items.drop i).length/\aC X.K bc ph2 H2/\bv X.K bc ↑ph2 H2 gB cy/\Step X.K aq ↑ph1 H1 bc ↑ph2 H2 /\
   (dQ chk g b (items.drop i) gB ph2).Run (λf ph'=>∀ak H',aC X.K ak ph' H'->Step X.K bc ↑ph2 H2 ak ↑ph' H'->n6 X D ak ph' H' f) (XE X bc ↑ph2 H2),
  ⟨_,aq,ph1,ws,rfl,aw,hS.mono s1,Step.refl,h.mono (λf ph' k ak H' r' s'=>k ak H' r' (s1.trans s')) λ_ _ z=>z.step s1⟩,?_⟩
 rintro i m cy H2 ⟨bc,ph2,gB,rfl,aR,ji,s2,h2⟩;cases hd:items.drop i with
 | nil=>
  rw[hd] at h2;unfold dQ at h2;split at h2
  ·rename_i hc;have hn:items[i]? =none:=by
    have:↑items<=i:=by simpa using hd
    simpa using this
   exact .inl ⟨(hJ bc _ H2 aR s2 hc i).2 hn,h2 bc H2 aR Step.refl cy ji⟩
  ·exact h2.elim
 | cons x xs=>
  rw[hd] at h2;unfold dQ at h2;split at h2
  ·rename_i hc;have hx:items[i]? =O x:=by
    have:=congrArg (λl=>l[0]?) hd
    simpa using this
   have oG:items.drop (i+1)=xs:=by
    have:=congrArg (λl=>l.drop 1) hd
    simpa[ahl,agN] using this
   obtain⟨mQ,hy⟩:=(hJ bc _ H2 aR s2 hc i).1 x hx;refine .inr ⟨mQ,λaj H'=>∃ak ia dh,aC X.K ak ia H'/\bv X.K ak ↑ia H' dh aj/\Step X.K aq ↑ph1 H1 ak ↑ia H' /\
     (dQ chk g b xs dh ia).Run (λf p'=>∀fO H3,aC X.K fO p' H3->Step X.K ak ↑ia H' fO ↑p' H3->n6 X D fO p' H3 f) (XE X ak ↑ia H'),
    λaj H' ⟨ak,ia,dh,q1,q2,q3,q4⟩=>⟨↑xs,by simp,ak,ia,dh,by rw[oG],q1,q2,q3,by rw[oG];exact q4⟩,λv H3 y=>?_⟩
   obtain⟨dB,s3,rv⟩:=hy v H3 y;have yG:(au (g x gB) (λσ1=>au (b σ1) λf=>match f with
    | .nx aj=>dQ chk g b xs aj
    | .ct aj=>dQ chk g b xs aj
    | .bk aj=>ay (.nx aj)
    | .rt w=>ay (.rt w)) ph2).Run (λf ph'=>∀ak H',aC X.K ak ph' H'->Step X.K bc ↑ph2 H2 ak ↑ph' H'->n6 X D ak ph' H' f) (XE X bc ↑ph2 H3):=Out.Run.mono h2 (λ_ _ z=>z) λ_ _ z=>z.step s3
   refine tG.bind dB (ji.mono s3) rv yG λws4 kK qQ H4 kY CO s4 hS4 h4=>?_
   rw[c3] at h4;refine⟨qQ,kK,ws4,CO,hS4,h4.mono (λf oH h5 iS H5 iM s5=>?_) λ_ _ z=>z⟩;have tH:=((s2.trans s3).trans s4).trans s5;have lL:=(s3.trans s4).trans s5;cases f with
   | nx gC=>exact λfP gD=>⟨iS,oH,gC,iM,gD,tH,h5.mono (λf p' k ak H' r' s'=>k ak H' r' (lL.trans s')) λ_ _ z=>z.step s5⟩
   | ct gC=>exact λfP gD=>⟨iS,oH,gC,iM,gD,tH,h5.mono (λf p' k ak H' r' s'=>k ak H' r' (lL.trans s')) λ_ _ z=>z.step s5⟩
   | bk gC=>exact λfP gD=>h5 iS H5 iM lL fP gD
   | rt w=>exact λv hv=>h5 iS H5 iM lL v hv
  ·exact h2.elim
theorem PI.imp{t t':TI}(h:PI X tg iter t)(k:∀σ H R,t' σ H R->t σ H R):PI X tg iter t':=λpins s σ H R I q=>h pins s σ H R I (k σ H R q)
theorem UE(hp:ahz (abG X.prog X.w) X.A X.env X.xe)(hc:X.calm=true)(hi:II X tg iter im)(hg:IG X tg g)(hb:jh X body b)(hs:∀x,abX iter X.env x=pure x:=by intro _;rfl) :
  IS X (.For tg iter body [] pos) (d9 im g b):=PS.imp (TY hp hc hi hg hb hs) λ_ _ _ h=>Rw h
noncomputable def mv(w:W):Po (ap×(PH->Bool)):=λph=>match w with
 | .ref i=>match ph[i]? with
  | some (.lst ws)=>O ((ws,λph'=>decide (ph'[i]? =O (.lst ws))),ph)
  | _=>Z
 | .fl ws=>O ((ws,λ_=>true),ph)
 | _=>Z
noncomputable def tupI(w:W):Po (ap×(PH->Bool)):=λph=>match w with
 | .tup ws=>O ((ws,λ_=>true),ph)
 | _=>Z
noncomputable def yb(m:EM):IM:=λσ=>au (m σ) λw=>lift (mv w)
noncomputable def BF(m:EM):IM:=λσ=>au (m σ) λw=>lift (tupI w)
theorem Rx{l:acJ}{m:EM}(hl:IE X l m):II X tg l (yb m):=by
 refine PI.imp (Rc hl) λσ H R h=>?_
 obtain⟨φ,ph,ws,hH,hS,h⟩:=h;refine tM.bind hH hS h λw ph1 aq H1 v aw s1 r1 h=>?_
 obtain⟨r,ph',e,k⟩:=run_lift h;unfold mv at e;cases r1 with
 | ref hi=>
  rename_i i;simp only at e;split at e
  ·rename_i items hw;cases e;obtain⟨vs,hv,r⟩:=aw.hp _ _ hw;refine⟨_,rfl,⟨vs,bH.of hv⟩,k aq H1 _ aw s1 ?_⟩;intro bc ph2 H2 aR s2 hc j;have dX:ph2[i]? =O (.lst items):=of_decide_eq_true hc;obtain⟨us,hu,ru⟩:=aR.hp _ _ dX;rw[s2.eq i hi] at hu;refine⟨λw gS=>?_,λhn=>?_⟩
   ·obtain⟨u,eu,lM⟩:=ru.get gS;refine⟨⟨us,u,bH.of hu,eu⟩,λx gR hy=>?_⟩;obtain⟨rfl,hy⟩:=hy;have:=hy us (bH.of hu);rw[eu] at this;cases this;exact⟨aR,Step.refl,lM⟩
   ·refine⟨us,bH.of hu,?_⟩;rw[<- ↑ru]
    simpa using hn
  ·cases e
 | fl hq r=>
  cases e;refine⟨_,rfl,⟨_,hq.sq⟩,k aq H1 _ aw s1 ?_⟩;intro bc ph2 H2 aR s2 hc j;have h2:=aF.mono s2 (.fl hq r);cases h2 with
  | fl h2 r2=>
   refine⟨λw gS=>?_,λhn=>?_⟩
   ·obtain⟨u,eu,lM⟩:=r2.get gS;refine⟨⟨_,u,h2.sq,eu⟩,λx gR hy=>?_⟩;obtain⟨rfl,hy⟩:=hy;have:=hy _ h2.sq;rw[eu] at this;cases this;exact⟨aR,Step.refl,lM⟩
   ·refine⟨_,h2.sq,?_⟩;rw[<- ↑r2]
    simpa using hn
 | _=>cases e
theorem UG{l:acJ}{m:EM}(hl:IE X l m):II X tg l (BF m):=by
 refine PI.imp (TX hl) λσ H R h=>?_
 obtain⟨φ,ph,ws,hH,hS,h⟩:=h;refine tM.bind hH hS h λw ph1 aq H1 v aw s1 r1 h=>?_
 obtain⟨r,ph',e,k⟩:=run_lift h;unfold tupI at e;cases r1 with
 | tup hq r=>
  cases e;refine⟨_,rfl,⟨_,cI.of hq⟩,k aq H1 _ aw s1 ?_⟩;intro bc ph2 H2 aR s2 hc j;have h2:=cI.of (K:=X.K) (s2.tup _ _ hq);have r2:=r.mono s2;refine⟨λw gS=>?_,λhn=>?_⟩
  ·obtain⟨u,eu,lM⟩:=r2.get gS;refine⟨⟨_,u,h2,eu⟩,λx gR hy=>?_⟩;obtain⟨rfl,hy⟩:=hy;have:=hy _ h2;rw[eu] at this;cases this;exact⟨aR,Step.refl,lM⟩
  ·refine⟨_,h2,?_⟩;rw[<- ↑r2]
   simpa using hn
 | _=>cases e
noncomputable def ez(lo:Int)(n:Nat):ap:=(abp n).map λi:Nat=>.int (lo+((i:Nat):Int))
noncomputable def Cc(xs:ap):Po (ap×(PH->Bool)):=λph=>match xs with
 | [.int j]=>if -(2 ^ 62)<=j/\j<2 ^ 62 then O ((ez 0 j.toNat,λ_=>true),ph) else Z
 | _=>Z
noncomputable def Cd(xs:ap):Po (ap×(PH->Bool)):=λph=>match xs with
 | [.int i,.int j]=>if -(2 ^ 62)<=i/\i<2 ^ 62/\ -(2 ^ 62)<=j/\j<2 ^ 62 then O ((ez i (j-i).toNat,λ_=>true),ph) else Z
 | _=>Z
noncomputable def eB(m:AM):IM:=λσ=>au (m σ) λxs=>lift (Cc xs)
noncomputable def lN(m:AM):IM:=λσ=>au (m σ) λxs=>lift (Cd xs)
theorem Hr{K:aaJ}{lo:Int}{n:Nat}{chk:PH->Bool}{φ:Nat->abc}{k:Nat}:yF K (ui lo n) (ez lo n) chk φ k H:=by
 intro bc ph2 H2 aR s2 hc j;unfold ez;refine⟨λw gS=>?_,λhn=>?_⟩
 ·rw[aaK] at gS;have hj:j<n:=by
   by_cases hj:j<n
   ·exact hj
   ·rw[acl (by simpa using hj)] at gS;cases gS
  rw[afB hj] at gS;cases gS;refine⟨hj,λx gR hy=>?_⟩;obtain⟨rfl,rfl⟩:=hy;exact⟨aR,Step.refl,.int _⟩
 ·have:n<=j:=by simpa using hn
  exact this
theorem OR{a:acJ}{m:AM}{p:Pos}(hg:Gl X "range")(hm:X.mg "range"=Z)(ha:IA X [a] m)(hs:abB [a] X.env=[(false,aez a X.env)]:=by rfl):II X tg (.Call (.Name "range" p) [a] [] pos) (eB m):=by
 refine PI.imp (OI hg hm ha hs) λσ H R h=>?_
 obtain⟨φ,ph,ws,hH,hS,h⟩:=h;refine tA.bind hH hS h λxs ph1 aq H1 vs aw s1 r1 h=>?_
 obtain⟨r,ph',e,k⟩:=run_lift h;unfold Cc at e;split at e
 ·split at e
  ·rename_i hc;cases e;cases r1 with
   | cons r r'=>cases r;cases r';exact⟨_,rfl,hc.1,hc.2,k aq H1 _ aw s1 Hr⟩
  ·cases e
 ·cases e
theorem OS{a b':acJ}{m:AM}{p:Pos}(hg:Gl X "range")(hm:X.mg "range"=Z)(ha:IA X [a,b'] m)(hs:abB [a,b'] X.env=[(false,aez a X.env),(false,aez b' X.env)]:=by rfl)(ic:abB [b'] X.env=[(false,aez b' X.env)]:=by rfl) :
  II X tg (.Call (.Name "range" p) [a,b'] [] pos) (lN m):=by
 refine PI.imp (OJ hg hm ha hs ic) λσ H R h=>?_
 obtain⟨φ,ph,ws,hH,hS,h⟩:=h;refine tA.bind hH hS h λxs ph1 aq H1 vs aw s1 r1 h=>?_
 obtain⟨r,ph',e,k⟩:=run_lift h;unfold Cd at e;split at e
 ·split at e
  ·rename_i hc;cases e;cases r1 with
   | cons r r'=>
    cases r;cases r' with
    | cons r r'=>cases r;cases r';exact⟨_,_,rfl,hc,k aq H1 _ aw s1 Hr⟩
  ·cases e
 ·cases e
noncomputable def dR(t:TM)(b:SM):Nat->SM
 | 0=>λ_=>dY
 | n+1=>λσ=>au (t σ) λc=>if c=true then au (b σ) λf=>match f with
   | .nx aj=>dR t b n aj
   | .ct aj=>dR t b n aj
   | .bk aj=>ay (.nx aj)
   | .rt w=>ay (.rt w)
  else ay (.nx σ)
noncomputable def Out.mw{α:Type}:Out α->Bool
 | .no=>true
 | _=>false
open Classical in
noncomputable def iq(t:TM)(b:SM):SM:=λσ ph=>if h:∃n,(dR t b n σ ph).mw=false then dR t b h.choose σ ph else .no
theorem OT{D:Ends}{σ:L2.St}(h:tS X (iq t b) D σ H):Hl (tT X t) (tS X b) D σ H:=by
 obtain⟨φ,ph,ws,hH,hS,h⟩:=h;have⟨n,h⟩:∃n,(dR t b n ws ph).Run (λf ph'=>∀ak H',aC X.K ak ph' H'->Step X.K φ ↑ph H ak ↑ph' H'->n6 X D ak ph' H' f) (XE X φ ↑ph H):=by
  unfold iq at h;split at h
  ·exact⟨_,h⟩
  ·exact h.elim
 refine⟨λm cy H2=>∃bc ph2 gB,aC X.K bc ph2 H2/\bv X.K bc ↑ph2 H2 gB cy /\
  (dR t b m gB ph2).Run (λf ph'=>∀ak H',aC X.K ak ph' H'->Step X.K bc ↑ph2 H2 ak ↑ph' H'->n6 X D ak ph' H' f) (XE X bc ↑ph2 H2),⟨n,φ,ph,ws,hH,hS,h⟩,?_⟩
 rintro m cy H2 ⟨bc,ph2,gB,aR,ji,h2⟩;cases m with
 | zero=>exact h2.elim
 | succ m=>
  refine tT.bind aR ji h2 λc fY fO H3 dB s3 h3=>?_
  cases c with
  | false=>exact nY (h3 fO H3 dB s3 cy (ji.mono s3))
  | true=>
   have Kw:(au (b gB) (λf=>match f with
    | .nx aj=>dR t b m aj
    | .ct aj=>dR t b m aj
    | .bk aj=>ay (.nx aj)
    | .rt w=>ay (.rt w)) fY).Run _ _:=h3
   rw[c3] at Kw;refine nZ ⟨λaj H'=>∃ak ia dh,aC X.K ak ia H'/\bv X.K ak ↑ia H' dh aj /\
    (dR t b m dh ia).Run (λf p'=>∀qQ H4,aC X.K qQ p' H4->Step X.K ak ↑ia H' qQ ↑p' H4->n6 X D qQ p' H4 f) (XE X ak ↑ia H'),λaj H' q=>⟨m,acA _,q⟩,?_⟩
   refine⟨fO,fY,gB,dB,ji.mono s3,Kw.mono (λf oH h5 iS H5 iM s5=>?_) λ_ _ z=>z⟩;have lL:=s3.trans s5;cases f with
   | nx gC=>exact λfP gD=>⟨iS,oH,gC,iM,gD,h5.mono (λf p' k ak H' r' s'=>k ak H' r' (lL.trans s')) λ_ _ z=>z.step s5⟩
   | ct gC=>exact λfP gD=>⟨iS,oH,gC,iM,gD,h5.mono (λf p' k ak H' r' s'=>k ak H' r' (lL.trans s')) λ_ _ z=>z.step s5⟩
   | bk gC=>exact λfP gD=>h5 iS H5 iM lL fP gD
   | rt w=>exact λv hv=>h5 iS H5 iM lL v hv
theorem P6(hp:ahz (abG X.prog X.w) X.A X.env X.xe)(hc:IT X c t)(hb:jh X body b):IS X (.While c body [] pos) (iq t b):=
 PS.imp (PX hp hc hb) λ_ _ _ h=>OT h
end
noncomputable def ag:AM:=λ_=>ay []
noncomputable def ae(e:EM)(r:AM):AM:=λσ=>au (e σ) λw=>au (r σ) λws=>ay (w::ws)
noncomputable def lz(ws:ap):Po W:=λph=>if ↑ws<=abd then O (.tup ws,ph) else Z
noncomputable def tJ(ws:ap):Po W:=λph=>if ↑ws<=abd then O (.ref ↑ph,ph++[.lst ws]) else Z
noncomputable def bp(a:AM):EM:=λσ=>au (a σ) λws=>lift (lz ws)
noncomputable def b9(a:AM):EM:=λσ=>au (a σ) λws=>lift (tJ ws)
section
variable{X:Cx}{e:acJ}{es:cc}{m:EM}{a:AM}{pos:Pos}
theorem UH:IA X [] ag:=PA.imp sx λσ H Q h=>by
 obtain⟨φ,ph,ws,hH,hS,h⟩:=h;exact h φ H [] hH Step.refl .nil
theorem Ry(he:IE X e m)(hr:IA X es a)(hs:abB (e::es) X.env=(false,aez e X.env)::abB es X.env:=by rfl):IA X (e::es) (ae m a):=PA.imp (nz he hr hs) λσ H Q h=>by
 obtain⟨φ,ph,ws,hH,hS,h⟩:=h;refine tM.bind hH hS h λw ph1 aq H1 v aw s1 r1 h=>tA.bind aw (hS.mono s1) h λys ph2 bc H2 vs aR s2 r2 h=>?_
 exact h bc H2 _ aR (s1.trans s2) (.cons (r1.mono s2) r2)
theorem UI{x1:Nat}(h:IA X es a):IE X (.Tuple es x1 pos) (bp a):=PE.imp (T7 h) λσ H Q h=>by
 obtain⟨φ,ph,ws,hH,hS,h⟩:=h;refine tA.bind hH hS h λxs ph1 aq H1 vs aw s1 r1 h=>?_
 obtain⟨w,ph',e,k⟩:=run_lift h;unfold lz at e;split at e
 ·rename_i hz;cases e;refine⟨by rw[<- ↑r1];exact hz,λp hp=>?_⟩;exact k aq _ _ (aw.tup hp) (s1.trans (js hp)) (.tup bX (r1.mono (js hp)))
 ·cases e
theorem ke{K:aaJ}{φ:Nat->abc}{ph:PH}{H:Hp}{p:abc}{ws:ap}{vs:aE}(hH:aC K φ ph H)(r:aN K φ ↑ph H ws vs)(hp:H p=Z):aC K (ext φ ↑ph p) (ph++[.lst ws]) (upd H p (.lst vs))/\Step K φ ↑ph H (ext φ ↑ph p) (ph++[PO.lst ws]).length (upd H p (.lst vs))/\aF K (ext φ ↑ph p) (ph++[PO.lst ws]).length (upd H p (.lst vs)) (.ref ↑ph) (.ref p):=by
 have hl:(ph++[PO.lst ws]).length=↑ph+1:=by simp
 rw[hl];have s:=wJ (K:=K) (φ:=φ) (n:=↑ph) (o:=HO.lst vs) hp;refine⟨hH.new hp ⟨vs,bX,r.mono s⟩,s,?_⟩;have q:aF K (ext φ ↑ph p) (↑ph+1) (upd H p (.lst vs)) (.ref ↑ph) (.ref (ext φ ↑ph p ↑ph)):=.ref (acA _);rw[la] at q;exact q
theorem UJ(h:IA X es a):IE X (.List es pos) (b9 a):=PE.imp (T8 h) λσ H Q h=>by
 obtain⟨φ,ph,ws,hH,hS,h⟩:=h;refine tA.bind hH hS h λxs ph1 aq H1 vs aw s1 r1 h=>?_
 obtain⟨w,ph',e,k⟩:=run_lift h;unfold tJ at e;split at e
 ·rename_i hz;cases e;refine⟨by rw[<- ↑r1];exact hz,λp hp=>?_⟩;obtain⟨q1,q2,q3⟩:=ke aw r1 hp;exact k _ _ _ q1 (s1.trans q2) q3
 ·cases e
end
noncomputable def bh(f:ap->Mo W)(a:AM):EM:=λσ=>au (a σ) f
noncomputable def fW:Fl->Mo W
 | .rt w=>ay w
 | .nx _=>ay .aH
 | _=>dY
noncomputable def fM(body:SM)(n np:Nat)(args:ap):Mo W:=if ↑args=np then au (body (args.map O++aaY (n-↑args) Z)) fW else dY
theorem cO{body:SM}{n np:Nat}{xs:ap}(h:↑xs≠np):fM body n np xs ph=.no:=by
 unfold fM;rw[if_neg h];rfl
noncomputable def bN(P:abI)(w:acg):mL:=λl H s E e s'=>∃C dd H',Flew P w l H s C dd H' e s'/\E (.ref C) dd H'
noncomputable def cE(K:aaJ)(mg:dE)(np:Nat)(f:ap->Mo W):Sp:=λvs H Q E=>↑vs=np/\∃φ ph args,aC K φ ph H/\aN K φ ↑ph H args vs/\(f args ph).Run (λw ph'=>
 ∀ak H' v,aC K ak ph' H'->Step K φ ↑ph H ak ↑ph' H'->aF K ak ↑ph' H' w v->Q v H') (λx ph'=>
 ∀ak H' C dd,aC K ak ph' H'->Step K φ ↑ph H ak ↑ph' H'->mg x.cls=O (.ref C)->CN K ak ↑ph' H' dd x.fs->E (.ref C) dd H')
section
variable{X:Cx}{k:Nat}{f:abc}{fd:acG}{ps:a8}{fm:ap->Mo W}{x:Str}{p pos:Pos}{e:acJ}{es:cc}{a:AM}
theorem Rz{CX:mL}{sp:Sp}{E:XK}{pins:List (abc×Obj)}{σ:L2.St}{H:Hp}{s:aaR}{Q:VK}{us:aT}{vs:aE}(F:ck X.prog X.w X.K X.mg X.base CX k f fd ps sp)(hr:df k X.A)(hb:Binds X.K fd ps [])(I:Inv X pins σ H s)(r:Vals vs us)(h:sp vs H Q E)(hx:∀e s',CX X.stack H s E e s'->X.xe e s'):abj (abG X.prog X.w) X.A (call (.ref f) us) (EP X pins σ Q) X.xe s:=by
 have hl:(us++[]).length=↑ps:=by rw[aci,<- ↑r];exact F.len _ _ _ _ h
 have oI:=hb s us I.gn hl;rw[aci] at oI;refine ahL (aef (F.run X.A X.stack s H ⟨us,[]⟩ us vs Q E hr I.JJ oI r h) λr s' hq=>?_);cases r with
 | error e=>exact hx e s' hq
 | ok fl=>
  cases fl with
  | ret u=>exact I.after hq
  | _=>exact ael hq
theorem RB(F:ck X.prog X.w X.K X.mg X.base (bN X.prog X.w) k f fd ps (cE X.K X.mg ↑ps fm))(hl:∀{xs:ap} {ph:PH},↑xs≠↑ps->fm xs ph=.no)(hr:df k X.A)(hg:Gl X x)(hm:X.mg x=O (.ref f))(hk:acT X.K (.ref f)=true)(hb:Binds X.K fd ps [])(ha:IA X (e::es) a)(dq:(x==("__debug__":Str))=false:=by decide)(he:abB (e::es) X.env=(false,aez e X.env)::abB es X.env:=by rfl)(hpl:(afd pos (abB es X.env)).any (·.1)=false:=by rfl) :
  IE X (.Call (.Name x p) (e::es) [] pos) (bh fm a):=by
 intro pins s σ H Q I h;obtain⟨φ,ph,ws,hH,hS,h⟩:=h;have hA:tA X a σ H (λvs H1=>∃aq ph1 xs,aC X.K aq ph1 H1/\aN X.K aq ↑ph1 H1 xs vs/\(fm xs ph1).Run (λw ph'=>∀ak H' v,aC X.K ak ph' H'->Step X.K aq ↑ph1 H1 ak ↑ph' H'->aF X.K ak ↑ph' H' w v->Q v H') (XE X aq ↑ph1 H1)):=
  tA.bind hH hS h λxs ph1 aq H1 vs aw s1 r1 h=>⟨aq,ph1,xs,aw,r1,h.mono (λw ph' k ak H' v r' s' q=>k ak H' v r' (s1.trans s') q) λ_ _ z=>z⟩
 refine aea (Gs I hg hm (ahC (h₀:=X.base) I.ok.mod.qr hk (aY (ha pos pins s σ H _ I hA) λus s1 ⟨vs,H1,I1,r,q⟩=>⟨I1.gn,?_⟩) he hpl) dq);obtain⟨aq,ph1,xs,aw,r1,h1⟩:=q;have bV:↑vs=↑ps:=by
  rw[<- ↑r1];by_cases z:↑xs=↑ps
  ·exact z
  ·rw[hl z] at h1;exact h1.elim
 refine Rz (E:=λc dd H'=>∃x ph' ak,fm xs ph1=.ex x ph'/\aC X.K ak ph' H'/\Step X.K aq ↑ph1 H1 ak ↑ph' H'/\∃C,c=.ref C/\X.mg x.cls=O (.ref C)/\CN X.K ak ↑ph' H' dd x.fs) F hr hb I1 r ⟨bV,aq,ph1,xs,aw,r1,?_⟩ λe s' hx=>?_
 ·cases q:fm xs ph1 with
  | ok w ph'=>rw[q] at h1;exact h1
  | ex x ph'=>exact λak H' C dd hr hs hm hf=>⟨x,ph',ak,rfl,hr,hs,C,rfl,hm,hf⟩
  | no=>rw[q] at h1;exact h1
 ·obtain⟨C,dd,H',lK,x,ph',ak,ef,oJ,hs',C',ec,hm',hf'⟩:=hx;cases ec;rw[ef] at h1;exact h1 ak H' e s' oJ hs' ⟨C,dd,hm',hf',.inr ⟨pins,σ,H1,s1,I1,lK⟩⟩
end
section
variable{P:abI}{w:acg}{K:aaJ}{mg:dE}{base:ade}
variable{H':Hp}
theorem RC{h:ade}{fr:List abc}(aB:cS P w H' h)(hf:∀b∈fr,H' b=Z):cS P w H' (agI h fr):=λa o e=>by
 refine(aB a o e).gL (λb u hb q=>aey _ q λhm=>?_) (λ_ q=>q) λ_ _ q=>q
 have:=hf b hm
 rcases hb with z | z
 ·rw[z,e] at this;cases this
 ·rw[z] at this;cases this
theorem wK{env:Env}{l:List Env}(hf:env.frame=O env.locals):eR (env::l)=env.locals::eR l:=by
 unfold eR;rw[abM,hf]
variable{E:bR}{C:abc}{dd:d7}
theorem Nq{M:Model}{A:acF}{s:aaR}{base h:ade}{env:Env}{outer:List Env}{L e:abc}{Q:Unit->aaR->Prop}(fX:A.frames=O (env::outer))(hf:env.frame=O L)(iJ:base.StaysIn h)(hl:h.FunFrames base (env::outer))(hx:IP h s.heap e C dd)(hQ:∀h' t,ade.w4 base outer e (.ref C,dd) (.ref t) h'->s.heap.UpToSlots h'->Q () { s with heap:=h' }):abj M A (afV env (.ref e)) Q E s:=by
 obtain⟨t,he⟩:=hx.there;have fresh:∀b,h.get? b=Z->base.get? b=none:=λb hb=>by
  cases hq:base.get? b with
  | none=>rfl
  | some o'=>have:=iJ b o' hq;rw[hb] at this;cases this
 refine L5 (a0:=.ref t) fX (hl.of_keeps λb o hb _=>⟨o,hx.keeps b o hb,rfl⟩) hf he (λb o hb=>hx.keeps b o (iJ b o hb)) (fresh e hx.new) rfl rfl rfl λh' hL=>?_
 obtain⟨k1,⟨_,_,k2⟩,k3,k4⟩:=hL;exact hQ h' t ⟨k1,fresh e hx.new,k2,k3⟩ k4
theorem EB{X:Cx}{e:abh}{s':aaR}(dM:X.stack=X.env::X.outer)(hf:X.env.frame=O X.env.locals)(hex:X.ex=[])(hm:Made X C dd H' e s'):abj (abG X.prog X.w) X.A (afV X.env e) (λ_ fE=>Flew X.prog X.w X.outer X.aM X.aD C dd H' e fE) E s':=by
 obtain⟨pins,σ,s,h',a,rfl,rfl,I,hx⟩:=hm;have sf:=I.wZ;have hl:=I.stack;rw[dM] at sf hl;have qx:∀env∈X.env::X.outer,∀b,env.frame=O b->b∈eR (X.env::X.outer):=λenv he b hb=>acY.mpr ⟨env,he,hb⟩
 have jj:∀b:abc,b∉X.ex:=λb z=>by rw[hex] at z;exact nomatch z
 have out:∀b o,X.aD.heap.get? b=O o->b∉X.fs->b∉eR (X.env::X.outer):=λb o e hb hm=>by
  rw[wK hf] at hm
  rcases abk.mp hm with z | z
  ·exact absurd (aaS (aaU e) I.ok.above) (by rw[z];exact acR _)
  ·exact hb z
 refine Nq (base:=agI s.heap (eR (X.env::X.outer))) (h:=s.heap) (by rw[I.ok.frames,dM]) hf (λb o q=>ahy _ q) (PySem.W.funFrames_hide hl qx) hx λh'' t f1 f4=>?_
 refine⟨a,.ref t,_,rfl,I.os,I.bare,f1,RC I.aB sf,⟨λb o e n hb=>aey _ (I.base.keep b o e n hb (jj b)) (out b o e hb),λb o e n hb=>?_,λb o e n=>I.base.free b o e n (jj b),λb o e hb=>?_,I.base.fU,I.base.ee,I.base.fV⟩⟩
 ·obtain⟨sl,e1⟩:=I.base.slot b o e n hb (jj b);obtain⟨_,o',ho,hd⟩:=I.ok.gx.mem hb;rw[e] at ho;cases ho;obtain⟨oC,e2⟩:=f4 b _ (hx.keeps b _ e1) hd;exact⟨oC,e2⟩
 ·obtain⟨o',e1⟩:=I.base.there b o e (jj b);exact⟨o',aey _ e1 (out b o e hb)⟩
theorem EC{X:Cx}{H0:Hp}{e:abh}{s s':aaR}{pins:List (abc×Obj)}{σ:L2.St}(dM:X.stack=X.env::X.outer)(hf:X.env.frame=O X.env.locals)(hex:X.ex=[])(I:Inv X pins σ H0 s)(hm:Flew X.prog X.w X.stack H0 s C dd H' e s'):abj (abG X.prog X.w) X.A (afV X.env e) (λ_ fE=>Flew X.prog X.w X.outer X.aM X.aD C dd H' e fE) E s':=by
 obtain⟨a,a0,B,rfl,ho,Xd,lK,aB,u⟩:=hm;rw[dM] at lK u;have jj:∀b:abc,b∉X.ex:=λb z=>by rw[hex] at z;exact nomatch z
 have out:∀b o,X.aD.heap.get? b=O o->b∉X.fs->b∉eR (X.env::X.outer):=λb o e hb hm=>by
  rw[wK hf] at hm
  rcases abk.mp hm with z | z
  ·exact absurd (aaS (aaU e) I.ok.above) (by rw[z];exact acR _)
  ·exact hb z
 refine Ml (by rw[I.ok.frames,dM]) hf lK λh'' f1 f4=>?_
 refine⟨a,a0,B,rfl,ho.trans I.os,Xd,f1,aB,⟨λb o e n hb=>u.keep b o (I.base.keep b o e n hb (jj b)) (I.base.free b o e n (jj b)) (out b o e hb),λb o e n hb=>?_,λb o e n=>?_,λb o e hb=>?_,
  λb xs e=>u.fU b xs (I.base.fU b xs e),λb ob xs e=>u.ee b ob xs (I.base.ee b ob xs e),λb ps e=>?_⟩⟩
 ·obtain⟨sl,e1⟩:=I.base.slot b o e n hb (jj b);obtain⟨_,o',fk,hd⟩:=I.ok.gx.mem hb;rw[e] at fk;cases fk;obtain⟨oC,e2⟩:=u.slot b _ e1 (I.base.free b o e n (jj b)) (by rw[wK hf];exact aba _ hb);obtain⟨sl3,e3⟩:=f4 b _ e2 hd;exact⟨sl3,e3⟩
 ·obtain⟨o',e1⟩:=I.base.there b o e (jj b);exact u.free b o' e1 (I.base.free b o e n (jj b))
 ·obtain⟨o',e1⟩:=I.base.there b o e (jj b);exact u.there b o' e1 (out b o e hb)
 ·obtain⟨m1,e1⟩:=I.base.fV b ps e;obtain⟨m2,e2⟩:=u.fV b _ e1;exact⟨m1++m2,by rw[e2,afM]⟩
theorem UL{x qual:Str}{st:ahH}{f:abc}{fd:acG}{N ps:a8}{k:Nat}{body:SM}(F:iI K x qual st f fd)(S:cZ N ps (aQ st))(ll:∀(bC:abh) (A:acF) (outer:List Env) (s:aaR) (H:Hp) (E:XK),df k (A.deeper (aeC qual (aQ st) s.heap.objs.size f bC)) → jh (eh (bN P w) P w K mg base N qual (aQ st) f bC A outer s H E) (eE st) body):ck P w K mg base (bN P w) (k+1) f fd ps (cE K mg ↑ps (fM body ↑N ↑ps)):=by
 obtain⟨oc,od,kV,doc,pm,an,bC,ct,gQ,rfl,lk,hcd⟩:=F.ex;refine W3 lk hcd S (λvs H Q E h=>h.1) λA outer s H vs Q E hr h=>?_
 obtain⟨hl,φ,ph,args,hH,ra,h⟩:=h;refine⟨_,ll bC A outer s H E hr,?_⟩;have oK:↑args=↑vs:=↑ra;unfold fM at h;rw[if_pos (oK.trans hl),c3,oK] at h;refine⟨φ,ph,_,hH,bv.start (↑N-↑vs) ra,h.mono (λfl ph' h aq H1 aw s1=>?_) λx ph' h ak H' e s' r' dn th=>?_⟩
 ·cases fl with
  | rt w=>exact λv rv=>h aq H1 v aw s1 rv
  | nx aj=>exact λσ1 ij=>h aq H1 .aH aw s1 .aH
  | bk aj=>exact h.elim
  | ct aj=>exact h.elim
 ·obtain⟨C,dd,hm,CP,th⟩:=th;have hE:=h ak H' C dd r' dn hm CP;have key:abj (abG P w) (A.deeper (aeC qual (aQ st) s.heap.objs.size f bC)) (afV (aeC qual (aQ st) s.heap.objs.size f bC) e) (λ_ fE=>Flew P w outer H s C dd H' e fE) (λe' fE=>bN P w outer H s E e' fE) s':=by
   rcases th with th | ⟨pins,σ,H0,s0,I0,th⟩
   ·exact EB (X:=eh (bN P w) P w K mg base N qual (aQ st) f bC A outer s H E) rfl rfl rfl th
   ·exact EC (X:=eh (bN P w) P w K mg base N qual (aQ st) f bC A outer s H E) rfl rfl rfl I0 th
  exact acp key (λ_ fE q=>⟨C,dd,H',q,hE⟩) λ_ _ q=>q
end
theorem Gz{K:aaJ}{φ:Nat->abc}{n:Nat}{H:Hp}:∀(ns:bI),aN K φ n H (ns.map W.int) (ns.map V.int)
 | []=>.nil
 | n::ns=>.cons (.int n) (Gz ns)
theorem bS.or{f:abh->abh->Sem abh}{r r':R2}(h:bS X f r)(h':bS X f r'):bS X f (λx y H Q=>r x y H Q\/r' x y H Q):=by
 intro pins s σ H x y v u Q I rx ry q
 rcases q with q | q
 ·exact h pins s σ H x y v u Q I rx ry q
 ·exact h' pins s σ H x y v u Q I rx ry q
noncomputable def dm(w:W)(ph:PH):Option ap:=match w with
 | .tup ws=>O ws
 | .fl ws=>O ws
 | .ref i=>match ph[i]? with
  | some (.lst ws)=>O ws
  | _=>Z
 | _=>Z
variable{v:V}{ws:ap}
theorem Ah{w:W}(hH:aC K φ ph H)(r:aF K φ ↑ph H w v)(e:dm w ph=O ws):∃a vs,v=.ref a/\(bH K H a vs\/cI K H a vs)/\aN K φ ↑ph H ws vs:=by
 unfold dm at e;cases r with
 | tup h r=>cases e;exact⟨_,_,rfl,.inr (cI.of h),r⟩
 | fl h r=>cases e;exact⟨_,_,rfl,.inl h.sq,r⟩
 | ref hi=>
  simp only at e;split at e
  ·rename_i dh hw;cases e;obtain⟨vs,hv,r⟩:=hH.hp _ _ hw;exact⟨_,vs,rfl,.inl (bH.of hv),r⟩
  ·cases e
 | _=>cases e
variable{vs:aE}
theorem AE{n:Nat}{i:Int}{w:W}(r:aN K φ n H ws vs)(e:da ws i=O w):∃v,da vs i=O v/\aF K φ n H w v:=by
 unfold da at e ⊢;rw[↑r] at e;cases q:iG ↑vs i with
 | none=>rw[q] at e;cases e
 | some j=>
  rw[q] at e;exact r.get e
noncomputable def fu:W->W->Po W:=λx y ph=>match y with
 | .int i=>match x with
  | .str z=>if ↑z<=abd then(da z.cps.toList i).map λc=>(.str ⟨#[c]⟩,ph) else Z
  | .kt ws=>(da ws i).map λw=>(w,ph)
  | x=>(dm x ph).bind λws=>(da ws i).map λw=>(w,ph)
 | _=>Z
theorem Xe : dr K (CH K) fu := by
  intro φ ph H x y vx vy w ph' Q hH rx ry e k;unfold fu at e;cases ry with
  | int i =>
    cases rx with
    | str z =>
      simp only at e;split at e
      · rename_i hz
        cases q : da z.cps.toList i with
        | none => rw [q] at e; cases e
        | some c =>
          rw [q] at e;cases e;exact .inr (.inr ⟨z, i, c, rfl, rfl, hz, q, k φ H _ hH Step.refl (.str _)⟩)
      · cases e
    | kt h r =>
      simp only at e;cases q : da _ i with
      | none => rw [q] at e; cases e
      | some c =>
        rw [q] at e;cases e;obtain ⟨v, ev, rv⟩ := AE r q;exact .inr (.inl ⟨_, _, i, v, rfl, rfl, .inr h, ev, k φ H _ hH Step.refl rv⟩)
    | _ =>
      all_goals
        first
          | (cases e; done)
          | (rename_i h r
             simp only [dm, Option.bind] at e;cases q : da _ i with
             | none => rw [q] at e; cases e
             | some c =>
               rw [q] at e;cases e;obtain ⟨v, ev, rv⟩ := AE r q
               first
                 | exact .inr (.inl ⟨_, _, i, v, rfl, rfl, cI.of h, ev, k φ H _ hH Step.refl rv⟩)
                 | exact .inl ⟨_, _, i, v, rfl, rfl, h.sq, ev, k φ H _ hH Step.refl rv⟩)
          | (rename_i hi
             simp only [dm] at e;split at e
             · rename_i dh hw
               simp only [Option.bind] at e;cases q : da dh i with
               | none => rw [q] at e; cases e
               | some c =>
                 rw [q] at e;cases e;obtain ⟨vs, hv, r⟩ := hH.hp _ _ hw;obtain ⟨v, ev, rv⟩ := AE r q;exact .inl ⟨_, _, i, v, rfl, rfl, bH.of hv, ev, k φ H _ hH Step.refl rv⟩
             · cases e)
  | _ => cases e
noncomputable def gK(K:aaJ)(r:aE->Hp->VK->Prop)(f:ap->Po W):Prop:=∀{φ:Nat->abc} {ph:PH} {H:Hp} {xs:ap} {vs:aE} {w:W} {ph':PH} {Q:VK},aC K φ ph H->aN K φ ↑ph H xs vs->f xs ph=O (w,ph') →
 (∀ak H' v,aC K ak ph' H'->Step K φ ↑ph H ak ↑ph' H'->aF K ak ↑ph' H' w v->Q v H')->r vs H Q
noncomputable def aV(f:ap->Po W)(a:AM):EM:=λσ=>au (a σ) λxs=>lift (f xs)
section
variable{X:Cx}{x:Str}{p pos:Pos}{e:acJ}{es:cc}{t:AM}{id T:String}{r:aE->Hp->VK->Prop}{f:ap->Po W}
theorem FJ(hi:gK X.K r f){σ:L2.St}{H:Hp}{Q:VK}(h:tM X (aV f t) σ H Q):CF r (tA X t) σ H Q:=by
 obtain⟨φ,ph,ws,hH,hS,h⟩:=h;refine tA.bind hH hS h λxs ph1 aq H1 vs aw s1 r1 h=>?_
 obtain⟨w,ph',e,k⟩:=run_lift h;exact hi aw r1 e λbc H2 v aR s2 r2=>k bc H2 v aR (s1.trans s2) r2
theorem P7(hc:c4 X (.builtin id) r)(hi:gK X.K r f)(hg:Gl X x)(hm:X.mg x=Z)(hv:acv x=O (.builtin id))(ha:IA X (e::es) t)(hn:x≠"__name__":=by decide)(dq:(x==("__debug__":Str))=false:=by decide)
  (he:abB (e::es) X.env=(false,aez e X.env)::abB es X.env:=by rfl) (hpl:(afd pos (abB es X.env)).any (·.1)=false:=by rfl):IE X (.Call (.Name x p) (e::es) [] pos) (aV f t):=
 PE.imp (Ag hc hg hm hv ha hn dq he hpl) λ_ _ _ h=>FJ hi h
theorem OU(hc:c4 X (.type T) r)(hi:gK X.K r f)(hg:Gl X x)(hm:X.mg x=Z)(hv:acv x=O (.type T))(ha:IA X (e::es) t)(hn:x≠"__name__":=by decide)(dq:(x==("__debug__":Str))=false:=by decide)
  (he:abB (e::es) X.env=(false,aez e X.env)::abB es X.env:=by rfl) (hpl:(afd pos (abB es X.env)).any (·.1)=false:=by rfl):IE X (.Call (.Name x p) (e::es) [] pos) (aV f t):=
 PE.imp (EV hc hg hm hv ha hn dq he hpl) λ_ _ _ h=>FJ hi h
end
theorem c4.or{f:abh}{r r':aE->Hp->VK->Prop}(h:c4 X f r)(h':c4 X f r'):c4 X f (λxs H Q=>r xs H Q\/r' xs H Q):=by
 intro pins s σ H xs us Q I rx q
 rcases q with q | q
 ·exact h pins s σ H xs us Q I rx q
 ·exact h' pins s σ H xs us Q I rx q
noncomputable def a7:ap->Po W:=λxs ph=>match xs with
 | [.str z]=>if ↑z<=abd then O (.int ↑z,ph) else Z
 | [.kt ws]=>O (.int ↑ws,ph)
 | [w]=>(dm w ph).map λws=>(.int ↑ws,ph)
 | _=>Z
abbrev JV(K:aaJ):aE->Hp->VK->Prop:=λxs H Q=>(∃p ys,xs=[.ref p]/\(bH K H p ys\/cI K H p ys)/\Q (.int ↑ys) H)\/(∃z,xs=[.str z]/\↑z<=abd/\Q (.int ↑z) H)
theorem UM:gK K (JV K) a7:=by
 intro φ ph H xs vs w ph' Q hH r e k;unfold a7 at e;split at e
 ·split at e
  ·rename_i hz;cases e;cases r with
   | cons r r'=>cases r;cases r';exact .inr ⟨_,rfl,hz,k φ H _ hH Step.refl (.int _)⟩
  ·cases e
 ·cases e;cases r with
  | cons r r'=>
   cases r';cases r with
   | kt h rs=>exact .inl ⟨_,_,rfl,.inr (.inr h),by rw[<- ↑rs];exact k φ H _ hH Step.refl (.int _)⟩
 ·rename_i w0 jk yc;cases r with
  | cons r r'=>
   cases r';cases q:dm w0 ph with
   | none=>rw[q] at e;cases e
   | some ws=>
    rw[q] at e;cases e;obtain⟨a,ys,rfl,hs,rs⟩:=Ah hH r q;exact .inl ⟨a,ys,rfl,hs,by rw[<- ↑rs];exact k φ H _ hH Step.refl (.int _)⟩
 ·cases e
theorem OV:c4 X (.builtin "len") (JV X.K):=c4.or Nm Nn
noncomputable def lO(K:aaJ)(T:String)(r:V->List V->Hp->VK->Prop)(f:W->List W->Po W):Prop:=∀{φ:Nat->abc} {ph:PH} {H:Hp} {x:W} {xs:ap} {vx:V} {vs:aE} {w:W} {ph':PH} {Q:VK},
 aC K φ ph H->aF K φ ↑ph H x vx->aN K φ ↑ph H xs vs->f x xs ph=O (w,ph') →
 (∀ak H' v,aC K ak ph' H'->Step K φ ↑ph H ak ↑ph' H'->aF K ak ↑ph' H' w v->Q v H')->r vx vs H Q
noncomputable def oM(K:aaJ)(T:String)(ty:W->PH->Bool):Prop:=∀{φ:Nat->abc} {ph:PH} {H:Hp} {x:W} {vx:V},aC K φ ph H->aF K φ ↑ph H x vx->ty x ph=true->yD K T vx H
noncomputable def lA(b:PH->Bool):Po Unit:=λph=>if b ph=true then O ((),ph) else Z
noncomputable def dW(ty:W->PH->Bool)(f:W->List W->Po W)(o:EM)(a:AM):EM:=λσ=>au (o σ) λx=>au (lift (lA (ty x))) λ_=>au (a σ) λxs=>lift (f x xs)
noncomputable def du(w:W)(ph:PH):Bool:=match w with
 | .ref i=>match ph[i]? with
  | some (.lst _)=>true
  | _=>false
 | .fl _=>true
 | _=>false
theorem xG:oM K "list" du:=by
 intro φ ph H x vx hH rx e;unfold du at e;cases rx with
 | ref hi=>
  simp only at e;split at e
  ·rename_i dh hw;obtain⟨vs,hv,r⟩:=hH.hp _ _ hw;exact .inl ⟨rfl,vs,bH.of hv⟩
  ·cases e
 | fl h r=>exact .inl ⟨rfl,_,h.sq⟩
 | _=>cases e
section
variable{X:Cx}{o e:acJ}{es:cc}{mo:EM}{t:AM}{name:Str}{apos d8:Pos}{T id:String}{r:V->List V->Hp->VK->Prop}{ty:W->PH->Bool}{f:W->List W->Po W}
theorem P8(ht:oM X.K T ty)(hi:lO X.K T r f){σ:L2.St}{H:Hp}{Q:VK}(h:tM X (dW ty f mo t) σ H Q):Ko X.K T r (tM X mo) (tA X t) σ H Q:=by
 obtain⟨φ,ph,ws,hH,hS,h⟩:=h;refine tM.bind hH hS h λx ph1 aq H1 v aw s1 r1 h=>?_
 rw[c3] at h;obtain⟨_,ph2,e2,h⟩:=run_lift h;unfold lA at e2;split at e2
 ·rename_i hy;cases e2;refine⟨ht aw r1 hy,tA.bind aw (hS.mono s1) h λxs ph2 bc H2 vs aR s2 r2 h=>?_⟩;obtain⟨w,ph',e,k⟩:=run_lift h;exact hi aR (r1.mono s2) r2 e λfO H3 v dB s3 r3=>k fO H3 v dB ((s1.trans s2).trans s3) r3
 ·cases e2
theorem Xf(pa:afw T)(slot:Slot T name id)(iH:typeOf (.builtin id)=pure (.type "method_descriptor"))(hm:oD X id r)(ht:oM X.K T ty)(hi:lO X.K T r f)(ho:IE X o mo)(ha:IA X (e::es) t)(gI:adT o name X.env (aez o X.env)=aez o X.env:=by rfl)
  (B5:((afd d8 (abB (e::es) X.env)).all (λx=> !x.1)&&(backToKw d8 (keywordEach [] X.env)).all (λx=>x.1.isSome)
   && decide ((e::es).length+([]:List Keyword).length+(if([]:List Keyword).isEmpty then 0 else 1)<30))=true:=by rfl)
  (gJ:(apos.endLine==d8.line)=true:=by rfl) (hs:abB (e::es) X.env=(false,aez e X.env)::abB es X.env:=by rfl) (Bb:(afd d8 (abB es X.env)).any (·.1)=false:=by rfl) :
  IE X (.Call (.Attribute o name apos) (e::es) [] d8) (dW ty f mo t):=
 PE.imp (W7 pa slot iH hm ho ha gI B5 gJ hs Bb) λ_ _ _ h=>P8 ht hi h
theorem UN(pa:afw T)(slot:Slot T name id)(iH:typeOf (.builtin id)=pure (.type "method_descriptor"))(hm:oD X id r)(ht:oM X.K T ty)(hi:lO X.K T r f)(ho:IE X o mo)(gI:adT o name X.env (aez o X.env)=aez o X.env:=by rfl)(gJ:(apos.endLine==d8.line)=true:=by rfl):IE X (.Call (.Attribute o name apos) [] [] d8) (dW ty f mo ag):=by
 refine PE.imp (Uh pa slot iH hm ho gI gJ) λσ H Q h=>?_
 obtain⟨φ,ph,ws,hH,hS,h⟩:=h;refine tM.bind hH hS h λx ph1 aq H1 v aw s1 r1 h=>?_
 rw[c3] at h;obtain⟨_,ph2,e2,h⟩:=run_lift h;unfold lA at e2;split at e2
 ·rename_i hy;cases e2;refine⟨ht aw r1 hy,?_⟩;obtain⟨w,ph',e,k⟩:=run_lift h;exact hi aw r1 .nil e λfO H3 v dB s3 r3=>k fO H3 v dB (s1.trans s3) r3
 ·cases e2
end
variable{i:Nat}
theorem rT{oN:ap}(hH:aC K φ ph H)(hi:ph[i]? =O (.lst oN))(r:aN K φ ↑ph H ws vs):aC K φ (ph.set i (.lst ws)) (upd H (φ i) (.lst vs))/\Step K φ ↑ph H φ (ph.set i (.lst ws)).length (upd H (φ i) (.lst vs)):=by
 obtain⟨y,ey,my⟩:=hH.mu hi rfl;have s:=k6 (K:=K) (φ:=φ) (n:=↑ph) (y:=HO.lst vs) ey my;rw[aby];exact⟨hH.put hi rfl ⟨vs,bX,r.mono s⟩,s⟩
noncomputable def d6:W->List W->Po W:=λx xs ph=>match x,xs with
 | .ref i,[y]=>match ph[i]? with
  | some (.lst ws)=>if ↑ws<abd then O (.aH,ph.set i (.lst (ws++[y]))) else Z
  | _=>Z
 | _,_=>Z
theorem OW:lO K "list" Gw d6:=by
 intro φ ph H x xs vx vs w ph' Q hH rx rs e k;unfold d6 at e;split at e
 ·rename_i i y;split at e
  ·rename_i ws hw;split at e
   ·rename_i hz;cases e;cases rx with
    | ref hi=>
     cases rs with
     | cons ry rr=>
      cases rr;obtain⟨us,hv,r⟩:=hH.hp _ _ hw;obtain⟨q1,q2⟩:=rT hH hw (r.append (.cons ry .nil));exact⟨_,us,_,rfl,rfl,hv,by rw[<- ↑r];exact hz,k φ _ _ q1 q2 .aH⟩
   ·cases e
  ·cases e
 ·cases e
noncomputable def aam:W->List W->Po W:=λx xs ph=>match x,xs with
 | .ref i,[]=>match ph[i]? with
  | some (.lst _)=>O (.aH,ph.set i (.lst []))
  | _=>Z
 | _,_=>Z
noncomputable def tK:W->List W->Po W:=λx xs ph=>match x,xs with
 | .ref i,[]=>match ph[i]? with
  | some (.lst ws)=>match ws[↑ws-1]? with
   | some y=>O (y,ph.set i (.lst ws.dropLast))
   | none=>Z
  | _=>Z
 | _,_=>Z
theorem aN.dropLast{K:aaJ}{φ:Nat->abc}{n:Nat}{H:Hp}:∀{ws:ap} {vs:aE},aN K φ n H ws vs->aN K φ n H ws.dropLast vs.dropLast
 | _,_,.nil=>.nil
 | _,_,.cons h .nil=>.nil
 | _,_,.cons h (.cons h' r)=>.cons h (aN.dropLast (.cons h' r))
theorem UO:lO K "list" JN tK:=by
 intro φ ph H x xs vx vs w ph' Q hH rx rs e k;unfold tK at e;split at e
 ·rename_i i;split at e
  ·rename_i ws hw;split at e
   ·rename_i y hy;cases e;cases rx with
    | ref hi=>
     cases rs;obtain⟨us,hv,r⟩:=hH.hp _ _ hw;obtain⟨u,hu,ru⟩:=r.get hy;rw[↑r] at hu;obtain⟨q1,q2⟩:=rT hH hw r.dropLast;exact⟨_,us,u,rfl,rfl,hv,hu,k φ _ _ q1 q2 (ru.mono (by rw[aby] at q2;simpa using q2))⟩
   ·cases e
  ·cases e
 ·cases e
noncomputable def lB:W->Po W:=λx=>match x with
 | .int i=>ret (.int (-i))
 | _=>gh
theorem UP:Kv K (rU λi=>.int (-i)) lB:=by
 intro φ ph H x vx w ph' Q hH rx e k;unfold lB at e;split at e
 ·cases e;cases rx;exact⟨_,rfl,k φ H _ hH Step.refl (.int _)⟩
 ·cases e
noncomputable def lC:W->W->Po W:=qw λi j=>i-j
theorem UQ:dr K (jQ λi j=>.int (i-j)) lC:=Xa
noncomputable def bJ:W->W->Po W:=pZ (λ_ j=>decide (j≠0)) λi j=>i.fmod j
theorem UR:dr K (rI (λ_ j=>j≠0) λi j=>.int (i.fmod j)) bJ:=Hq λi j h=>by simpa using h
noncomputable def IQ(i j:Int):Prop:=j≠0/\j.natAbs<2 ^ 64
theorem P9:bS X (aev .FloorDiv) (rI IQ λi j=>.int (i.fdiv j)):=CB λi j _ _ _ _ _ hc q=>floordiv_int hc.1 q (.inl (PyProof.noPylong_of_log2 (by
 have h0:j.natAbs≠0:=by have:=hc.1;omega
 have:=(Nat.log2_lt h0).mpr hc.2;omega)))
noncomputable def cN:W->W->Po W:=pZ (λ_ j=>decide (j≠0)&&decide (j.natAbs<2 ^ 64)) λi j=>i.fdiv j
theorem US:dr K (rI IQ λi j=>.int (i.fdiv j)) cN:=Hq λi j h=>by
 rw[aaZ] at h;exact⟨of_decide_eq_true h.1,of_decide_eq_true h.2⟩
noncomputable def dG:W->W->Po W:=p9 λi j=>decide (i<j)
noncomputable def yH:W->W->Po W:=p9 λi j=>decide (i<=j)
noncomputable def gr:W->W->Po W:=p9 λi j=>decide (j<i)
noncomputable def geW:W->W->Po W:=p9 λi j=>decide (j<=i)
noncomputable def mulC(i j:Int):Bool:=(decide (-(2 ^ 64)<i)&&decide (i<2 ^ 64))||(decide (-(2 ^ 64)<j)&&decide (j<2 ^ 64))
noncomputable def qb:W->W->Po W:=λx y=>match x,y with
 | .int i,.int j=>if mulC i j=true then ret (.int (i*j)) else gh
 | _,_=>gh
theorem UT:dr K (rI tu λi j=>.int (i*j)) qb:=by
 intro φ ph H x y vx vy w ph' Q hH rx ry e k;unfold qb at e;split at e
 ·split at e
  ·rename_i hc;cases e;cases rx;cases ry;refine⟨_,_,rfl,rfl,?_,k φ H _ hH Step.refl (.int _)⟩;unfold mulC at hc;simp only[adp,aaZ,decide_eq_true_eq] at hc;exact hc
  ·cases e
 ·cases e
noncomputable def addW:W->W->Po W:=λx y ph=>match x,y with
 | .int i,.int j=>O (.int (i+j),ph)
 | .str i,.str j=>if ↑i+↑j<=abd then O (.str (i++j),ph) else Z
 | .ref a,.ref b=>match ph[a]?,ph[b]? with
  | some (.lst xs),O (.lst ys)=>if ↑xs+↑ys<=abd then O (.ref ↑ph,ph++[.lst (xs++ys)]) else Z
  | _,_=>Z
 | .tup xs,.tup ys=>if xs≠[]/\↑xs+↑ys<=abd then O (.tup (xs++ys),ph) else Z
 | _,_=>Z
abbrev IR(K:aaJ):R2:=λx y H Q=>((jQ λi j=>.int (i+j)) x y H Q\/∃i j,x=.str i/\y=.str j/\↑i+↑j<=abd/\Q (.str (i++j)) H)\/(JP x y H Q\/IH K x y H Q)
theorem RD:bS X (aev .Add) (IR X.K):=bS.or (bS.or TZ Of) (bS.or Uj Rm)
theorem UU:dr K (IR K) addW:=by
 intro φ ph H x y vx vy w ph' Q hH rx ry e k;unfold addW at e;split at e
 ·cases e;cases rx;cases ry;exact .inl (.inl ⟨_,_,rfl,rfl,k φ H _ hH Step.refl (.int _)⟩)
 ·split at e
  ·rename_i hz;cases e;cases rx;cases ry;exact .inl (.inr ⟨_,_,rfl,rfl,hz,k φ H _ hH Step.refl (.str _)⟩)
  ·cases e
 ·split at e
  ·rename_i xs ys hx hy;split at e
   ·rename_i hz;cases e;cases rx;cases ry;obtain⟨us,hu,ru⟩:=hH.hp _ _ hx;obtain⟨vs,hv,rv⟩:=hH.hp _ _ hy;refine .inr (.inl ⟨_,_,us,vs,rfl,rfl,hu,hv,by rw[<- ↑ru,<- ↑rv];exact hz,λp hp=>?_⟩);obtain⟨q1,q2,q3⟩:=ke hH (ru.append rv) hp;exact k _ _ _ q1 q2 q3
   ·cases e
  ·cases e
 ·split at e
  ·rename_i xs ys hz;cases e;cases rx with
   | tup hx rx=>
    cases ry with
    | tup hy ry=>
     rename_i a us b vs;refine .inr (.inr ⟨a,b,us,vs,rfl,rfl,cI.of hx,cI.of hy,?_,by rw[<- ↑rx,<- ↑ry];exact hz.2,λhe=>?_,λhn p hp=>?_⟩)
     ·rintro rfl;cases rx;exact hz.1 rfl
     ·subst he;cases ry;refine k φ H _ hH Step.refl ?_;rw[aci];exact .tup hx rx
     ·exact k φ _ _ (hH.tup hp) (js hp) (.tup bX ((rx.append ry).mono (js hp)))
  ·cases e
 ·cases e
noncomputable def jK:W->W->Po W:=λx y=>match y with
 | .aH=>ret (.bl (decide (x=.aH)))
 | _=>gh
noncomputable def IU:W->W->Po W:=λx y=>match y with
 | .aH=>ret (.bl (!decide (x=.aH)))
 | _=>gh
theorem RE{n:Nat}{x:W}(r:aF K φ n H x v):decide (x=.aH)=decide (v=.aH):=by
 cases r <;> simp
theorem UV:dr K (λx y H Q=>y=.aH/\Q (.bl (decide (x=.aH))) H) jK:=by
 intro φ ph H x y vx vy w ph' Q hH rx ry e k;unfold jK at e;split at e
 ·cases e;cases ry;exact⟨rfl,by rw[<- RE rx];exact k φ H _ hH Step.refl (.bl _)⟩
 ·cases e
noncomputable def n8:ap->Po W:=λxs=>match xs with
 | [.int i]=>ret (.int i)
 | [.bl b]=>ret (.int (if b then 1 else 0))
 | _=>gh
theorem UW:gK K (λxs H Q=>(∃i,xs=[.int i]/\Q (.int i) H)\/∃k,xs=[.bl k]/\Q (.int (if k then 1 else 0)) H) n8:=by
 intro φ ph H xs vs w ph' Q hH r e k;unfold n8 at e;split at e
 ·cases e;cases r with
  | cons r r'=>cases r;cases r';exact .inl ⟨_,rfl,k φ H _ hH Step.refl (.int _)⟩
 ·cases e;cases r with
  | cons r r'=>cases r;cases r';exact .inr ⟨_,rfl,k φ H _ hH Step.refl (.int _)⟩
 ·cases e
noncomputable def Y8:ap->Po W:=λxs=>match xs with
 | [.int i]=>ret (.int (if i<0 then -i else i))
 | _=>gh
noncomputable def nN(w:W)(ph:PH):Option String:=match w with
 | .aH=>O "NoneType"
 | .bl _=>O "bool"
 | .int _=>O "int"
 | .str _=>O "str"
 | .tup _=>O "tuple"
 | .fl _=>O "list"
 | .ref i=>match ph[i]? with
  | some (.lst _)=>O "list"
  | some (.aX _)=>O "dict"
  | _=>Z
 | .exc .. =>Z
 | .fn .. =>Z
 | .kt .. =>Z
noncomputable def ff(t c:String):Bool:=t==c||(t=="bool"&&c=="int")
noncomputable def jV(c:String)(w:W):Po W:=λph=>match nN w ph with
 | some t=>O (.bl (ff t c),ph)
 | none=>Z
noncomputable def jW(c:String)(m:EM):EM:=λσ=>au (m σ) λw=>lift (jV c w)
inductive kj(K:aaJ)(H:Hp):V->String->Prop where
 | aH:kj K H .aH "NoneType"
 | bl (x:Bool):kj K H (.bl x) "bool"
 | int (i:Int):kj K H (.int i) "int"
 | str (x:Str):kj K H (.str x) "str"
 | lst {a:abc} {xs:aE} (e:bH K H a xs):kj K H (.ref a) "list"
 | tup {a:abc} {xs:aE} (e:cI K H a xs):kj K H (.ref a) "tuple"
 | dk {a:abc} {kvs:fD} (e:H a=O (.dK kvs)):kj K H (.ref a) "dict"
 | dt {a:abc} {kvs:f9} (e:H a=O (.dT kvs)):kj K H (.ref a) "dict"
theorem RG{w:W}{t:String}(hH:aC K φ ph H)(r:aF K φ ↑ph H w v)(e:nN w ph=O t):kj K H v t:=by
 unfold nN at e;cases r with
 | aH=>cases e;exact .aH
 | bl b=>cases e;exact .bl b
 | int b=>cases e;exact .int b
 | str b=>cases e;exact .str b
 | tup h r=>cases e;exact .tup (cI.of h)
 | fl h r=>cases e;exact .lst h.sq
 | ref hi=>
  simp only at e;split at e
  ·rename_i ws hw;cases e;obtain⟨vs,hv,_⟩:=hH.hp _ _ hw;exact .lst (bH.of hv)
  ·rename_i ws hw;cases e
   rcases hH.hp _ _ hw with⟨kvs,q,_⟩ | ⟨kvs,q,_⟩
   ·exact .dk q
   ·exact .dt q
  ·cases e
 | exc=>cases e
 | fn=>cases e
 | kt=>cases e
noncomputable def n9(K:aaJ)(c:String):Prop:=∀t∈["NoneType","bool","int","str","list","tuple","dict"],PySem.W.kitOne K (.type t) (.type c)=O (ff t c)
noncomputable def rIs(K:aaJ)(c:String):aE->Hp->VK->Prop:=λxs H Q=>∃x t,xs=[x,.ty c]/\kj K H x t/\Q (.bl (ff t c)) H
theorem RH{c:String}(hk:n9 X.K c):c4 X (.builtin "isinstance") (rIs X.K c):=by
 intro pins s σ H xs us Q I r h;obtain⟨x,t,rfl,kv,q⟩:=h;obtain⟨u,u2,rfl,rx,rc⟩:=Vals.two r;obtain rfl:u2=ahI c:=rc;have fin:∀tk,EP X pins σ Q (.bool (ff t c)) { s with toks:=tk }:=λtk=>⟨.bl _,H,I.tok tk,rfl,q⟩
 cases kv with
 | aH=>cases(show u=abN from rx);exact adq PySem.W.kitx_none I.gn adL (hk _ (by decide)) (λz=>nomatch z) fin
 | bl y=>cases(show u=agc y from rx);exact adq PySem.W.kitx_bool I.gn adL (hk _ (by decide)) (λz=>nomatch z) fin
 | int i=>obtain⟨t,rfl⟩:=(show ∃t,u=afc i t from rx);exact adq PySem.W.kitx_int I.gn adL (hk _ (by decide)) (λz=>nomatch z) fin
 | str y=>obtain⟨t,rfl⟩:=(show ∃t,u=ahu y t from rx);exact adq PySem.W.kitx_str I.gn adL (hk _ (by decide)) (λz=>nomatch z) fin
 | @lst a ys e=>
  cases(show u=abi a from rx);obtain⟨its,_,⟨o,n,h1,h2,_⟩,_⟩:=I.list e;exact adq PySem.W.kitx_list I.gn ⟨_,h1,h2⟩ (hk _ (by decide)) (λz=>nomatch z) fin
 | @tup a ys e=>
  cases(show u=abi a from rx);obtain⟨its,_,⟨o,h1,h2,_⟩,_⟩:=I.tuple e;exact adq PySem.W.kitx_tuple I.gn ⟨_,h1,h2⟩ (hk _ (by decide)) (λz=>nomatch z) fin
 | @dk a kvs e=>
  cases(show u=abi a from rx);obtain⟨_,_,vs,_,ob,_,_,h1,h2,_⟩:=pJ I.aB e;exact adq ahM I.gn ⟨_,h1,h2.1⟩ (hk _ (by decide)) (λz=>nomatch z) fin
 | @dt a kvs e=>
  cases(show u=abi a from rx);obtain⟨_,_,xs,_,ob,_,_,h1,h2,_⟩:=xE I.aB e;exact adq ahM I.gn ⟨_,h1,h2.1⟩ (hk _ (by decide)) (λz=>nomatch z) fin
section
variable{X:Cx}{e:acJ}{m:EM}{p p2 pos:Pos}
theorem Xg{c:Str}{cn:String}(hk:n9 X.K cn)(hv:acv c=O (.type cn))(hg:Gl X "isinstance")(hm:X.mg "isinstance"=Z)(CQ:Gl X c)(CS:X.mg c=Z)(he:IE X e m)(hn:c≠"__name__":=by decide)(hd:(c==("__debug__":Str))=false:=by decide)
  (hs:abB [e,.Name c p2] X.env=[(false,aez e X.env),(false,aez (.Name c p2) X.env)]:=by rfl) (ic:abB [.Name c p2] X.env=[(false,aez (.Name c p2) X.env)]:=by rfl)
  (hpl:(afd pos (abB [.Name c p2] X.env)).any (·.1)=false:=by rfl) :
  IE X (.Call (.Name "isinstance" p) [e,.Name c p2] [] pos) (jW cn m):=by
 refine PE.imp (Ag (RH hk) hg hm PyProof.Rows.boot_isinstance (nz he (nz (Q5 (v:=.ty cn) CQ CS hv rfl hn hd) sx (by rw[ic];rfl)) (by rw[hs,ic])) (he:=by rw[hs,ic]) (hpl:=hpl)) λσ H Q h=>?_
 obtain⟨φ,ph,ws,hH,hS,h⟩:=h;refine tM.bind hH hS h λx ph1 aq H1 vx aw s1 rx h=>?_
 obtain⟨w,ph',e,k⟩:=run_lift h;unfold jV at e;split at e
 ·rename_i t ht;cases e;exact⟨vx,t,rfl,RG aw rx ht,k aq H1 _ aw s1 (.bl _)⟩
 ·cases e
end
theorem Qa:n9 K "int":=by
 intro t ht;simp only[abk,afl,or_false] at ht
 rcases ht with rfl | rfl | rfl | rfl | rfl | rfl | rfl <;> rfl
theorem OX:n9 K "bool":=by
 intro t ht;simp only[abk,afl,or_false] at ht
 rcases ht with rfl | rfl | rfl | rfl | rfl | rfl | rfl <;> rfl
theorem E0:n9 K "list":=by
 intro t ht;simp only[abk,afl,or_false] at ht
 rcases ht with rfl | rfl | rfl | rfl | rfl | rfl | rfl <;> rfl
theorem ED:n9 K "tuple":=by
 intro t ht;simp only[abk,afl,or_false] at ht
 rcases ht with rfl | rfl | rfl | rfl | rfl | rfl | rfl <;> rfl
noncomputable def ba{α β:Type}(f:α->Option β):List α->Option (List β)
 | []=>O []
 | a::as=>match f a,ba f as with
  | some b,O bs=>O (b::bs)
  | _,_=>Z
noncomputable def dat(ph:PH):Nat->W->Option aeN
 | _,.aH=>O .none
 | _,.bl b=>O (.bool b)
 | _,.int i=>O (.int i)
 | _,.str x=>if aeE x=true then O (.str x) else Z
 | n+1,.tup ws=>(ba (dat ph n) ws).map .tuple
 | n+1,.fl ws=>(ba (dat ph n) ws).map .list
 | n+1,.kt ws=>(ba (dat ph n) ws).map .tuple
 | n+1,.ref i=>match ph[i]? with
  | some (.lst ws)=>(ba (dat ph n) ws).map .list
  | _=>Z
 | _,_=>Z
section
variable{X:Cx}{pins:List (abc×Obj)}{σ:L2.St}{H:Hp}{s:aaR}{φ:Nat->abc}{ph:PH}
noncomputable def mR(s:aaR)(n:Nat)(u:abh)(d:aeN):Prop:=(∃as,Reads s.heap u d as)/\d.canLay0=true/\d.depth<=n
theorem zX{n:Nat}(ih:∀{w:W} {v:V} {u:abh} {d:aeN},aF X.K φ ↑ph H w v->RelV v u->dat ph n w=O d->mR s n u d) :
  ∀{ws:ap} {vs:aE} {us:aT} {ds:List aeN},aN X.K φ ↑ph H ws vs->Vals vs us->ba (dat ph n) ws=O ds →
   (∃as,ReadsAll s.heap us ds as)/\ahN ds=true/\PyData.depthAll ds<=n
 | _,_,_,_,.nil,.nil,e=>by cases e;exact⟨⟨_,.nil⟩,rfl,aca _⟩
 | w::ws,_,_,ds,.cons h r,.cons hv rv,e=>by
  unfold ba at e;split at e
  ·rename_i b bs e1 e2;cases e;obtain⟨⟨as,r1⟩,c1,d1⟩:=ih h hv e1;obtain⟨⟨Kx,r2⟩,c2,d2⟩:=zX ih r rv e2;refine⟨⟨_,.cons r1 r2⟩,?_,?_⟩
   ·simp only[ahN,c1,c2,ahD]
   ·simp only[PyData.depthAll];omega
  ·cases e
theorem l7(I:Inv X pins σ H s)(hH:aC X.K φ ph H):∀(n:Nat) {w:W} {v:V} {u:abh} {d:aeN},aF X.K φ ↑ph H w v->RelV v u->dat ph n w=O d->mR s n u d:=by
 have yd:∀(n:Nat) (ih:∀{w:W} {v:V} {u:abh} {d:aeN},aF X.K φ ↑ph H w v->RelV v u->dat ph n w=O d->mR s n u d) {ws:ap} {vs:aE} {d:aeN} {a:abc},
   aN X.K φ ↑ph H ws vs->((bH X.K H a vs/\(ba (dat ph n) ws).map PyData.list=O d)\/(cI X.K H a vs/\(ba (dat ph n) ws).map PyData.tuple=O d))->mR s (n+1) (.ref a) d:=by
  intro n ih ws vs d a r h
  rcases h with⟨hq,e⟩ | ⟨hq,e⟩
  ·obtain⟨its,rv,⟨o,k,h1,h2,h3,h4⟩,_⟩:=I.list hq;obtain⟨ds,e1,e2⟩:=aaP.mp e;subst e2;obtain⟨⟨as,r1⟩,c1,d1⟩:=zX ih r rv e1;refine⟨⟨_,.list h1 h2 h4 (by simpa using r1)⟩,by simpa only[afX] using c1,?_⟩;simp only[PyData.depth];omega
  ·obtain⟨its,rv,⟨o,h1,h2,k,h4⟩,_⟩:=I.tuple hq;obtain⟨ds,e1,e2⟩:=aaP.mp e;subst e2;obtain⟨⟨as,r1⟩,c1,d1⟩:=zX ih r rv e1;refine⟨⟨_,.tuple h1 h2 h4 (by simpa using r1)⟩,by simpa only[afX] using c1,?_⟩;simp only[PyData.depth];omega
 intro n
 induction n with
 | zero=>
  intro w v u d r rv e;cases r with
  | aH=>cases rv;cases e;exact⟨⟨_,.none⟩,rfl,aaN _⟩
  | bl b=>cases rv;cases e;exact⟨⟨_,.bool b⟩,rfl,aaN _⟩
  | int i=>obtain⟨t,rfl⟩:=rv;cases e;exact⟨⟨_,.int i t⟩,rfl,aaN _⟩
  | str x=>
   obtain⟨t,rfl⟩:=rv;unfold dat at e;split at e
   ·rename_i hx;cases e;exact⟨⟨_,.str x t⟩,by simpa only[afX] using hx,aaN _⟩
   ·cases e
  | _=>cases e
 | succ n ih=>
  intro w v u d r rv e;cases r with
  | aH=>cases rv;cases e;exact⟨⟨_,.none⟩,rfl,aca _⟩
  | bl b=>cases rv;cases e;exact⟨⟨_,.bool b⟩,rfl,aca _⟩
  | int i=>obtain⟨t,rfl⟩:=rv;cases e;exact⟨⟨_,.int i t⟩,rfl,aca _⟩
  | str x=>
   obtain⟨t,rfl⟩:=rv;unfold dat at e;split at e
   ·rename_i hx;cases e;exact⟨⟨_,.str x t⟩,by simpa only[afX] using hx,aca _⟩
   ·cases e
  | tup h r=>cases rv;exact yd n ih r (.inr ⟨cI.of h,e⟩)
  | exc=>unfold dat at e;cases e
  | fn=>unfold dat at e;cases e
  | kt h r=>cases rv;exact yd n ih r (.inr ⟨.inr h,e⟩)
  | fl h r=>cases rv;exact yd n ih r (.inl ⟨h.sq,e⟩)
  | ref hi=>
   cases rv;unfold dat at e;split at e
   ·rename_i ws hw;obtain⟨vs,hv,r⟩:=hH.hp _ _ hw;exact yd n ih r (.inl ⟨bH.of hv,e⟩)
   ·cases e
end
noncomputable def dS(ph:PH)(x y:W):Option Bool:=match dat ph 40 x,dat ph 40 y with
 | some a,O b=>O (abe a b)
 | _,_=>Z
noncomputable def a9:W->W->Po W:=λx y ph=>(dS ph x y).map λb=>(.bl b,ph)
noncomputable def dC:W->W->Po W:=λx y ph=>(dS ph x y).map λb=>(.bl (!b),ph)
noncomputable def rD(K:aaJ)(f:Bool->Bool):R2:=λx y H Q=>∃φ ph wx wy b,aC K φ ph H/\aF K φ ↑ph H wx x/\aF K φ ↑ph H wy y/\dS ph wx wy=O b/\Q (.bl (f b)) H
variable{y:W}
theorem Ai{x:W}{b:Bool}(h:dS ph x y=O b):∃dx dy,dat ph 40 x=O dx/\dat ph 40 y=O dy/\b=abe dx dy:=by
 unfold dS at h;split at h
 ·rename_i dx dy h1 h2;cases h;exact⟨dx,dy,h1,h2,rfl⟩
 ·cases h
theorem UX(hu:X.A.units+64<aep):bS X (acr .Eq) (rD X.K λb=>b):=by
 intro pins s σ H x y v u Q I rx ry h;obtain⟨φ,ph,wx,wy,b,hH,r1,r2,e,q⟩:=h;obtain⟨dx,dy,e1,e2,rfl⟩:=Ai e;obtain⟨⟨as,k1⟩,c1,l1⟩:=l7 I hH 40 r1 rx e1;obtain⟨⟨bs,k2⟩,c2,l2⟩:=l7 I hH 40 r2 ry e2;exact SeqAt.compareEq_reads k1 k2 c1 c2 ∅ ⟨.bl _,H,I,rfl,q⟩
theorem UY(hu:X.A.units+64<aep):bS X (acr .NotEq) (rD X.K λb=> !b):=by
 intro pins s σ H x y v u Q I rx ry h;obtain⟨φ,ph,wx,wy,b,hH,r1,r2,e,q⟩:=h;obtain⟨dx,dy,e1,e2,rfl⟩:=Ai e;obtain⟨⟨as,k1⟩,c1,l1⟩:=l7 I hH 40 r1 rx e1;obtain⟨⟨bs,k2⟩,c2,l2⟩:=l7 I hH 40 r2 ry e2;exact SeqAt.compareNe_reads k1 k2 c1 c2 ∅ ⟨.bl _,H,I,rfl,q⟩
theorem Xh:dr K (rD K λb=>b) a9:=by
 intro φ ph H x y vx vy w ph' Q hH rx ry e k;obtain⟨b,e1,e2⟩:=aaP.mp e;cases e2;exact⟨φ,ph,x,y,b,hH,rx,ry,e1,k φ H _ hH Step.refl (.bl _)⟩
theorem Xi:dr K (rD K λb=> !b) dC:=by
 intro φ ph H x y vx vy w ph' Q hH rx ry e k;obtain⟨b,e1,e2⟩:=aaP.mp e;cases e2;exact⟨φ,ph,x,y,b,hH,rx,ry,e1,k φ H _ hH Step.refl (.bl _)⟩
noncomputable def inD(ph:PH)(x y:W):Option Bool:=match dm y ph,dat ph 40 x with
 | some ws,O dx=>(ba (dat ph 40) ws).map λds=>ds.any λd=>abe d dx
 | _,_=>Z
noncomputable def jl:W->W->Po W:=λx y ph=>(inD ph x y).map λb=>(.bl b,ph)
noncomputable def tL:W->W->Po W:=λx y ph=>(inD ph x y).map λb=>(.bl (!b),ph)
noncomputable def qc(K:aaJ)(f:Bool->Bool):R2:=λx y H Q=>∃φ ph wx wy b,aC K φ ph H/\aF K φ ↑ph H wx x/\aF K φ ↑ph H wy y/\inD ph wx wy=O b/\Q (.bl (f b)) H
open Classical in
noncomputable def nQ(s:aaR)(dx:aeN)(u:abh):Bool:=if h:∃d,mR s 40 u d then abe h.choose dx else false
variable{d:aeN}
theorem FK{s:aaR}{dx:aeN}{u:abh}(h:mR s 40 u d):nQ s dx u=abe d dx:=by
 unfold nQ;have hx:∃d,mR s 40 u d:=⟨d,h⟩
 rw[dif_pos hx];obtain⟨⟨as,r⟩,c,_⟩:=h;obtain⟨⟨as',r'⟩,c',_⟩:=hx.choose_spec;rw[SeqAt.Reads.unique _ _ _ _ _ c' r' r]
section
variable{X:Cx}{pins:List (abc×Obj)}{σ:L2.St}{H:Hp}{s:aaR}{φ:Nat->abc}{ph:PH}
theorem GA(I:Inv X pins σ H s)(hH:aC X.K φ ph H){dx:aeN}:∀{ws:ap} {vs:aE} {us:aT} {ds:List aeN},aN X.K φ ↑ph H ws vs->Vals vs us->ba (dat ph 40) ws=O ds →
  (us.any (nQ s dx)=ds.any λd=>abe d dx)/\∀u∈us,∃d,mR s 40 u d
 | _,_,_,_,.nil,.nil,e=>by cases e;exact⟨rfl,λ_ h=>nomatch h⟩
 | w::ws,_,_,ds,.cons h r,.cons hv rv,e=>by
  unfold ba at e;split at e
  ·rename_i b bs e1 e2;cases e;have q:=l7 I hH 40 h hv e1;obtain⟨r1,r2⟩:=GA I hH (dx:=dx) r rv e2;refine⟨by rw[acU,acU,r1,FK q],λu hu=>?_⟩
   rcases abk.mp hu with rfl | hu
   ·exact⟨_,q⟩
   ·exact r2 u hu
  ·cases e
theorem GB(I:Inv X pins σ H s)(hH:aC X.K φ ph H){wx wy:W}{x y:V}{v u:abh}{b:Bool}(hu:X.A.units+64<aep)(r1:aF X.K φ ↑ph H wx x)(r2:aF X.K φ ↑ph H wy y)(rx:RelV x v)(ry:RelV y u)(e:inD ph wx wy=O b):∃(a:abc) (its:aT) (f:abh->Bool),u=.ref a/\(s.heap.IsList a its.toArray\/s.heap.IsTuple a its.toArray)/\(∀z,z∈its.toArray->ahO X.A.in1 s z v (f z))/\its.toArray.any f=b:=by
 unfold inD at e;split at e
 ·rename_i ws dx hs hd;obtain⟨ds,e1,e2⟩:=aaP.mp e;obtain⟨a,vs,rfl,hq,rs⟩:=Ah hH r2 hs;cases ry;obtain⟨⟨as,k1⟩,c1,l1⟩:=l7 I hH 40 r1 rx hd;have fin:∀{its:aT},Vals vs its->(∀z,z∈its.toArray->ahO X.A.in1 s z v (nQ s dx z))/\its.toArray.any (nQ s dx)=b:=λ{its} rv=>by
   obtain⟨q1,q2⟩:=GA I hH (dx:=dx) rs rv e1;refine⟨λz hz=>?_,by rw[show its.toArray.any (nQ s dx)=its.any (nQ s dx) by simp,q1,e2]⟩;obtain⟨d,hd⟩:=q2 z (by simpa using hz);rw[FK hd];obtain⟨⟨bs,k2⟩,c2,l2⟩:=hd;intro prog w E Q hQ;exact SeqAt.eqBoolOverData prog w _ E s z v d dx bs as Q k2 k1 c2 c1 (by show X.A.units+1+_<_;omega) hQ
  rcases hq with hq | hq
  ·obtain⟨its,rv,pl,_⟩:=I.list hq;obtain⟨f1,f2⟩:=fin rv;exact⟨a,its,_,rfl,.inl pl.isList,f1,f2⟩
  ·obtain⟨its,rv,pl,_⟩:=I.tuple hq;obtain⟨f1,f2⟩:=fin rv;exact⟨a,its,_,rfl,.inr pl,f1,f2⟩
 ·cases e
end
theorem UZ(hu:X.A.units+64<aep):bS X (acr .In) (qc X.K λb=>b):=by
 intro pins s σ H x y v u Q I rx ry h;obtain⟨φ,ph,wx,wy,b,hH,r1,r2,e,q⟩:=h;obtain⟨a,its,f,rfl,hq,hf,hb⟩:=GB I hH hu r1 r2 rx ry e;subst hb
 rcases hq with hq | hq
 ·exact SeqAt.in_listAt f hq hf ⟨.bl _,H,I,rfl,q⟩
 ·exact SeqAt.in_tupleAt f hq hf ⟨.bl _,H,I,rfl,q⟩
theorem RI(hu:X.A.units+64<aep):bS X (acr .NotIn) (qc X.K λb=> !b):=by
 intro pins s σ H x y v u Q I rx ry h;obtain⟨φ,ph,wx,wy,b,hH,r1,r2,e,q⟩:=h;obtain⟨a,its,f,rfl,hq,hf,hb⟩:=GB I hH hu r1 r2 rx ry e;subst hb
 rcases hq with hq | hq
 ·exact SeqAt.notIn_listAt f hq hf ⟨.bl _,H,I,rfl,q⟩
 ·exact SeqAt.notIn_tupleAt f hq hf ⟨.bl _,H,I,rfl,q⟩
theorem Xj:dr K (qc K λb=>b) jl:=by
 intro φ ph H x y vx vy w ph' Q hH rx ry e k;obtain⟨b,e1,e2⟩:=aaP.mp e;cases e2;exact⟨φ,ph,x,y,b,hH,rx,ry,e1,k φ H _ hH Step.refl (.bl _)⟩
theorem U0:dr K (qc K λb=> !b) tL:=by
 intro φ ph H x y vx vy w ph' Q hH rx ry e k;obtain⟨b,e1,e2⟩:=aaP.mp e;cases e2;exact⟨φ,ph,x,y,b,hH,rx,ry,e1,k φ H _ hH Step.refl (.bl _)⟩
noncomputable def pv(env:Env)(x:Str×aek)(s:List (Str×abc)):Sem (ForInStep (List (Str×abc))):=
 if(x.2==abx)=true then do
  let a <- cellOf env x.1
  pure (ads ((x.1,a)::s))
 else pure (ads s)
theorem Aj(env:Env):∀(names:List (Str×aek)) (acc:List (Str×abc)),(∀y∈names,y.2=.free->∃c,env.cells.lookup y.1=O c) →
  ∃cl,(forIn names acc (pv env):Sem (List (Str×abc)))=pure cl/\(∀x c,cl.lookup x=O c->acc.lookup x=O c\/(env.cells.lookup x=O c/\(x,abx)∈names)) /\
   (∀x,((∃c,acc.lookup x=O c)\/(x,abx)∈names)->∃c,cl.lookup x=O c)
 | [],acc,_=>⟨acc,rfl,λx c h=>.inl h,λx h=>h.elim id λz=>nomatch z⟩
 | (n,k)::r,acc,h=>by
  by_cases hk:k=.free
  ·subst hk;obtain⟨c,hc⟩:=h (n,.free) abo rfl;obtain⟨cl,e,h1,h2⟩:=Aj env r ((n,c)::acc) λy hy=>h y (aba _ hy)
   refine⟨cl,?_,λx c' hx=>?_,λx hx=>h2 x ?_⟩
   ·rw[List.forIn_cons];have eb:pv env (n,.free) acc=pure (ads ((n,c)::acc)):=by
     unfold pv;rw[if_pos (by rfl)];unfold cellOf;rw[hc];rfl
    rw[eb];exact e
   ·rcases h1 x c' hx with z | z
    ·rw[abf] at z;cases q:x==n with
     | true=>
      rw[q] at z;cases z;have:x=n:=eq_of_beq q;subst this;exact .inr ⟨hc,abo⟩
     | false=>rw[q] at z;exact .inl z
    ·exact .inr ⟨z.1,aba _ z.2⟩
   ·rcases hx with⟨c',hx⟩ | hx
    ·rw[abf];cases q:x==n with
     | true=>exact .inl ⟨c,rfl⟩
     | false=>exact .inl ⟨c',hx⟩
    ·rcases abk.mp hx with z | z
     ·cases z;exact .inl ⟨c,by rw[abf];simp⟩
     ·exact .inr z
  ·obtain⟨cl,e,h1,h2⟩:=Aj env r acc λy hy=>h y (aba _ hy)
   refine⟨cl,?_,λx c' hx=>?_,λx hx=>h2 x ?_⟩
   ·rw[List.forIn_cons];have eb:pv env (n,k) acc=pure (ads acc):=by
     unfold pv;rw[if_neg (by simpa using hk)]
    rw[eb];exact e
   ·rcases h1 x c' hx with z | z
    ·exact .inl z
    ·exact .inr ⟨z.1,aba _ z.2⟩
   ·rcases hx with hx | hx
    ·exact .inl hx
    ·rcases abk.mp hx with z | z
     ·cases z;exact absurd rfl hk
     ·exact .inr z
variable{env:Env}
theorem RJ{scope:adB}(h:∀y∈scope.names,y.2=.free->∃c,env.cells.lookup y.1=O c):∃cl,aeF scope env=pure cl/\(∀x c,cl.lookup x=O c->env.cells.lookup x=O c/\(x,abx)∈scope.names)/\(∀x,(x,abx)∈scope.names->∃c,cl.lookup x=O c):=by
 obtain⟨cl,e,h1,h2⟩:=Aj env scope.names [] h;refine⟨cl,?_,λx c hx=>?_,λx hx=>h2 x (.inr hx)⟩
 ·unfold aeF;show(forIn scope.names [] (pv env) >>= λs=>pure s)=pure cl;rw[e];rfl
 ·rcases h1 x c hx with z | z
  ·cases z
  ·exact z
noncomputable def blk(X:Cx)(N:a8)(scope:adB)(cl:List (Str×abc))(C:abc)(aD:aaR)(aM:Hp)(ex:List abc):Cx:=
 { X with N:=N,aD:=aD,aM:=aM,env:=compEnvC scope cl C X.env,outer:=X.stack,stack:=X.stack,ex:=ex,fn:=λ_=>false,pn:=[],xe:=λ_ _=>False,kp:=λ_=>True }
abbrev _root_.eO:=List (Option Nat)
noncomputable def lD(cap:eO)(σ:L2.St):L2.St:=cap.map λo=>o.bind λi=>(σ[i]?).join
noncomputable def sJ(wi:TI)(cap:eO)(g:TG)(tc:TT)(te:TE):TE:=λσ H Q=>wi σ H λJ H1=>∀D,H1 D=Z->∃W:Nat->Nat->L2.St->Hp->Prop,(∃m,W 0 m (lD cap σ) (upd H1 D (.lst []))) /\
 ∀i m cy H2,W i m cy H2->(J.stop i H2/\Q (.ref D) H2)\/(J.go i H2/\∀x H3,J.uh i H2 x H3->g x cy H3 λkY H4=>tc kY H4 λb H5=>
  if b=true then te kY H5 λv H6=>∃xs,H6 D=O (.lst xs)/\↑xs<abd/\∃m',m'<m/\W (i+1) m' kY (upd H6 D (.lst (xs++[v]))) else ∃m',m'<m/\W (i+1) m' kY H5)
noncomputable def PF(X:Cx)(ifs:cc)(t:TT):Prop:=
 ∀(pins:List (abc×Obj)) (s:aaR) (σ:L2.St) (H:Hp) (Q:Bool->Hp->Prop),Inv X pins σ H s->t σ H Q →
  abj (abG X.prog X.w) X.A (forIn ifs true λc r=>if r=true then do let ok <- isTrue c X.env (aez c X.env);pure (ads ok) else pure (ads r)) (TP X pins σ Q) X.xe s
theorem U1:PF X [] (λ_ H Q=>Q true H):=λpins s σ H Q I h=>wpAny_tests_nil ⟨H,I,h⟩
theorem U2{c:acJ}{t:TT}(h:PT X c t):PF X [c] t:=λpins s σ H Q I q=>wpAny_tests_one (h pins s σ H Q I q)
theorem zq{env:Env}{x:Str}:∀{names:List (Str×aek)},names.lookup x=O .free →
  (names.map λ(n,k)=>if(k==abx&&env.scope.kind==.function&&env.kindOf n==O .cell) then(n,adj) else(n,k)).lookup x=O .cell \/
  (names.map λ(n,k)=>if(k==abx&&env.scope.kind==.function&&env.kindOf n==O .cell) then(n,adj) else(n,k)).lookup x=O .free
 | [],h=>by cases h
 | (n,k)::r,h=>by
  rw[abt];cases q:x==n with
  | true=>
   rw[abf,q] at h;cases h;by_cases hc:(abx==abx&&env.scope.kind==.function&&env.kindOf n==O .cell)=true
   ·left
    show aeh x ((if(abx==abx&&env.scope.kind==.function&&env.kindOf n==O .cell)=true then(n,adj) else(n,abx))::_)=_;rw[if_pos hc,abf,q]
   ·right
    show aeh x ((if(abx==abx&&env.scope.kind==.function&&env.kindOf n==O .cell)=true then(n,adj) else(n,abx))::_)=_;rw[if_neg hc,abf,q]
  | false=>
   rw[abf,q] at h;have ih:=zq (env:=env) h;show aeh x ((if(k==abx&&env.scope.kind==.function&&env.kindOf n==O .cell)=true then(n,adj) else(n,k))::_)=_\/aeh x ((if(k==abx&&env.scope.kind==.function&&env.kindOf n==O .cell)=true then(n,adj) else(n,k))::_)=_;by_cases hc:(k==abx&&env.scope.kind==.function&&env.kindOf n==O .cell)=true
   ·rw[if_pos hc,abf,q];exact ih
   ·rw[if_neg hc,abf,q];exact ih
theorem zJ{env:Env}{x:Str}{k':aek}(qy:k'=.cell\/k'=.free):∀{names:List (Str×aek)},(∀y∈names,y.2≠.cell) →
  (names.map λ(n,k)=>if(k==abx&&env.scope.kind==.function&&env.kindOf n==O .cell) then(n,adj) else(n,k)).lookup x=O k'->names.lookup x=O .free
 | [],_,h=>by cases h
 | (n,k)::r,hc,h=>by
  have h':aeh x ((if(k==abx&&env.scope.kind==.function&&env.kindOf n==O .cell)=true then(n,adj) else(n,k))::r.map _)=O k':=h;rw[abf];cases q:x==n with
  | true=>
   by_cases hb:(k==abx&&env.scope.kind==.function&&env.kindOf n==O .cell)=true
   ·simp only[aaZ] at hb;have:k=.free:=by simpa using hb.1.1
    rw[this]
   ·rw[if_neg hb,abf,q] at h';cases h'
    rcases qy with z | z
    ·exact absurd z (hc (n,k') abo)
    ·rw[z]
  | false=>
   refine zJ (env:=env) qy (names:=r) (λy hy=>hc y (aba _ hy)) ?_;by_cases hb:(k==abx&&env.scope.kind==.function&&env.kindOf n==O .cell)=true
   ·rw[if_pos hb,abf,q] at h';exact h'
   ·rw[if_neg hb,abf,q] at h';exact h'
theorem mem_lookup{x:Str}{k:aek}:∀{names:List (Str×aek)},names.lookup x=O k->(x,k)∈names
 | [],h=>by cases h
 | (n,j)::r,h=>by
  rw[abf] at h;cases q:x==n with
  | true=>rw[q] at h;cases h;rw[eq_of_beq q];exact abo
  | false=>rw[q] at h;exact aba _ (mem_lookup h)
structure kL(X:Cx)(N:a8)(cap:eO)(scope:adB):Prop where
 len:↑cap=↑N
 at_:∀(i j:Nat) (x:Str),N[i]? =O x->cap[i]? =O (O j)->X.N[j]? =O x/\scope.names.lookup x=O .free/\(X.env.kindOf x=O .cell\/X.env.kindOf x=O .free)
 free:∀y∈scope.names,y.2=.free->X.env.kindOf y.1=O .cell\/X.env.kindOf y.1=O .free
 cell:∀y∈scope.names,y.2≠.cell
 kind:scope.kind=.function
 loc:∀y∈scope.names,y.2=.local->scope.names.lookup y.1=O .local
section
variable{X:Cx}{pins:List (abc×Obj)}{σ:L2.St}{H:Hp}{s:aaR}{N:a8}{cap:eO}{scope:adB}{cl:List (Str×abc)}{fp:List abc}
theorem RK (I : Inv X pins σ H s) (c : kL X N cap scope) (eS : ∀ x c, cl.lookup x = some c -> X.env.cells.lookup x = some c /\ (x, abx) ∈ scope.names) (ye : ∀ x, (x, abx) ∈ scope.names -> ∃ c, cl.lookup x = some c) (hf : ∀ b ∈ fp, b < s.heap.objs.size /\ b ≠ X.env.locals /\ b ∉ X.fs /\ (b ∈ X.ex \/ X.aD.heap.objs.size <= b) /\ (∀ x c, X.env.cells.lookup x = some c -> c ≠ b)) {c8 : ade} {m : dE} {tk : Nat} (cw : c8.Ns s.heap.objs.size m) (hk : ∀ b o, s.heap.get? b = some o -> c8.get? b = some o) : Inv (blk X N scope cl s.heap.objs.size s H fp) [] (lD cap σ) H { s with heap := c8, toks := tk } := by
  have Y9 : ∀ {x : Str}, ((blk X N scope cl s.heap.objs.size s H fp).env.kindOf x = some .cell \/ (blk X N scope cl s.heap.objs.size s H fp).env.kindOf x = some .free) -> scope.names.lookup x = some .free := fun {x} hx => by
    rcases hx with hx | hx
    · exact zJ (env := X.env) (.inl rfl) c.cell hx
    · exact zJ (env := X.env) (.inr rfl) c.cell hx
  have ok : (blk X N scope cl s.heap.objs.size s H fp).Ok :=
    { mod := I.ok.mod
      kind := c.kind
      glob := I.ok.glob
      blt := I.ok.blt
      above := aaN _
      inj := fun x y d h1 h2 => I.ok.inj x y d (eS x d h1).1 (eS y d h2).1
      has := fun x hx => ye x (mem_lookup (Y9 hx))
      qt := fun x d hz => nomatch hz
      hd := I.ok.hd
      frames := I.ok.frames
      ue := .inl rfl
      Cz := fun b hb => ⟨abu (hf b hb).1, fun x d hd => (hf b hb).2.2.2.2 x d (eS x d hd).1⟩
      bs := I.bs
      kE := abw I.ok.kE I.sz
      pV := fun b o e hb => by
        rcases (hf b hb).2.2.2.1 with z | z
        · exact I.ok.pV b o e z
        · exact absurd (aaS (aaU (I.ok.bs b o e).1) z) (acR _)
      pW := fun b hb hz => by
        rcases abk.mp (I.sr b hz) with e | e
        · exact (hf b hb).2.1 e
        · exact (hf b hb).2.2.1 e
      gx := I.stack
      mI := I.wZ }
  refine ⟨ok, rfl, I.bare, Un.kept hk, ⟨m, cw, fun i x v e1 e2 _ => ?_⟩, fun x d e => ?_, I.aB.fresh (aaN _), fun x d e => ⟨(fun z => nomatch z), (I.gH x d (eS x d e).1).2⟩, (fun p hp => nomatch hp), I.aB.kept hk, ⟨?_, trivial⟩⟩
  · unfold lD at e2
    rw [aaK] at e2;cases q : cap[i]? with
    | none => rw [q] at e2; cases e2
    | some o =>
      rw [q] at e2;cases o with
      | none => cases e2
      | some j =>
        have e3 : (σ[j]?).join = some v := abE e2;have e4 : σ[j]? = some (some v) := by
          cases z : σ[j]? with
          | none => rw [z] at e3; cases e3
          | some w => rw [z] at e3; exact congrArg some e3
        obtain ⟨h1, h2, h3⟩ := c.at_ i j x e1 q;obtain ⟨m0, _, hl⟩ := I.loc;obtain ⟨u, ru, lk⟩ := hl j x v h1 e4 (.inr h3);refine ⟨u, ru, ?_⟩
        rcases lk with ⟨z, _⟩ | ⟨_, d, hd, kh⟩
        · rcases h3 with z' | z' <;> (rw [z] at z'; cases z')
        · obtain ⟨d', gp⟩ := ye x (mem_lookup h2)
          have e5 := (eS x d' gp).1;rw [hd] at e5;cases e5;obtain ⟨ob, ho, Ce⟩ := kh;exact .inr ⟨zq (env := X.env) h2, d, gp, ob, hk _ _ ho, Ce⟩
  · obtain ⟨v, ob, ho, Ce⟩ := I.cell x d (eS x d e).1
    exact ⟨v, ob, hk _ _ ho, Ce⟩
  · show (lD cap σ).length = N.length
    unfold lD;rw [aaI];exact c.len
theorem Un.but{fs ex:List abc}{H H':Hp}{h h1 h2:ade}{C:abc}(u:Un fs ex H H' h h1)(sb:∀b,b≠C->h2.get? b=h1.get? b)(hC:h.get? C=Z):Un fs ex H H' h h2:=by
 have ne:∀b o,h.get? b=O o->b≠C:=λb o e z=>by rw[z,hC] at e;cases e
 exact⟨λb o e n h1 h2=>(sb b (ne b o e)).trans (u.keep b o e n h1 h2),λb o e n h1 h2=>by
  obtain⟨sl,q⟩:=u.slot b o e n h1 h2;exact⟨sl,(sb b (ne b o e)).trans q⟩,u.free,λb o e h1=>by
  obtain⟨o',q⟩:=u.there b o e h1;exact⟨o',(sb b (ne b o e)).trans q⟩,u.fU,u.ee,u.fV⟩
theorem GC{aj:L2.St}{H':Hp}{s':aaR}{h':ade}(I:Inv X pins σ H s)(J:Inv (blk X N scope cl s.heap.objs.size s H fp) [] aj H' s')(sb:aed s.heap.objs.size s'.heap h')(hf:∀b∈fp,hZ X pins H b):Inv X pins σ H' { s' with heap:=h' }:=by
 have hC:H' s.heap.objs.size=none:=J.free;refine I.WK (ch:=fp) J.os (Un.but J.base sb.2 (ahc (aaN _))) (λa o e=>?_) J.bare λb hb=>⟨(hf b hb).2.2.2.1,(hf b hb).2.1,(hf b hb).2.2.2.2.1,(hf b hb).2.2.2.2.2⟩
 refine(J.aB a o e).gL (λb u hb q=>(sb.2 b ?_).trans q) (λ_ q=>q) λ_ _ q=>q
 rintro rfl
 rcases hb with z | z
 ·rw[<- z,hC] at e;cases e
 ·rw[hC] at z;cases z
end
section
variable{prog:abI}{w:acg}{A:acF}{R:Result->aaR->Prop}{s:aaR}
theorem OY{elt target iter:acJ}{ifs:cc}{scope:adB}{pos:Pos}{it acc:abh}{env:Env}(J:Nat->aaR->Prop)
  (turn:∀k s,J k s->abj (abG prog w) A (ahj it) (λr s1=>match r with
   | none=>R (.ok .next) s1
   | some v=>abj (abG prog w) A (afA target it v) (λ_ s2=>abj (abG prog w) A (agJ target env v) (λ_ s3=>
     abj (abG prog w) A (forIn ifs true λc r=>if r=true then do let ok <- isTrue c env (aez c env);pure (ads ok) else pure (ads r)) (λok s4=>
      if ok=true then abj (abG prog w) A (aez elt env) (λx s5=>abj (abG prog w) A (call (.builtin "list.append") [acc,x]) (λ_ s6=>∃j,j<k/\J j s6) (λ_ _=>False) s5) (λ_ _=>False) s4
      else ∃j,j<k/\J j s4) (λ_ _=>False) s3) (λ_ _=>False) s2) (λ_ _=>False) s1) (λ_ _=>False) s)
  (k:Nat) (h:J k s):ahJ (abG prog w) A (.compLoop (.ListComp elt [⟨target,iter,ifs,0⟩] scope pos) 0 it acc env) R s:=by
 have no:∀{E:bR} (e:abh) (s:aaR),False->E e s:=λ_ _ z=>z.elim
 refine codeAny_loop (c:=.compLoop (.ListComp elt [⟨target,iter,ifs,0⟩] scope pos) 0 it acc env) rfl J (λk s hJ=>?_) k h;show abj (abG prog w) A ((compTurn (.ListComp elt [⟨target,iter,ifs,0⟩] scope pos) 0 it acc env).onRaise λx=>do noteFrame x env;theTreesLotGoes x) _ _ s;refine wpAny_noted ?_;rw[compTurn_list];refine aaH (wpAny_standAt (aaH (acp (turn k s hJ) (λr s1 h1=>?_) no)));cases r with
 | none=>exact aaM h1
 | some v=>
  refine aaH (acp h1 (λ_ s2 h2=>aaH (acp h2 (λ_ s3 h3=>aaH (acp h3 (λok s4 h4=>?_) no)) no)) no);cases ok with
  | false=>exact aaM ⟨rfl,h4⟩
  | true=>exact aaH (aaH (acp h4 (λx s5 h5=>aaH (acp h5 (λ_ s6 h6=>aaM (aaM ⟨rfl,h6⟩)) no)) no))
end
section
variable{X:Cx}{tg iter elt:acJ}{ifs:cc}{scope:adB}{pos:Pos}{N:a8}{cap:eO}{wi:TI}{g:TG}{tc:TT}{te:TE}
theorem E1{use:Option (abh->Sem Unit)}{Q':bR}{pins:List (abc×Obj)}{s:aaR}{σ:L2.St}{H:Hp}{Q:VK}{p0:Pos}(hc:X.calm=true)(c:kL X N cap scope)(hi:PI X tg iter wi)(hg:∀cl C aD aM ex,PG (blk X N scope cl C aD aM ex) tg g)(ht:∀cl C aD aM ex,PF (blk X N scope cl C aD aM ex) ifs tc)(he:∀cl C aD aM ex,PE (blk X N scope cl C aD aM ex) elt te)(hs:∀x,abX iter X.env x=pure x)(I:Inv X pins σ H s)(h:sJ wi cap g tc te σ H Q)(fin:∀(s3 s6:aaR) (H3 H6:Hp) (fp:List abc) (u5:L2.St) (cl:List (Str×abc)) (D:abc),Inv X pins σ H3 s3->(∀b∈fp,hZ X pins H3 b)->Inv (blk X N scope cl s3.heap.objs.size s3 H3 fp) [] u5 H6 s6->Q (.ref D) H6 → compPost (abG X.prog X.w) X.A X.xe use Q' (.ref D) s3.heap.objs.size (.ok .next) s6):abj (abG X.prog X.w) X.A (comprehension (.ListComp elt [⟨tg,iter,ifs,0⟩] scope pos) scope X.env p0 (newList []) false (aez iter X.env) use) Q' X.xe s:=by
 obtain⟨cl,Xk,eS,ye⟩:=RJ (scope:=scope) (env:=X.env) λy hy hf=>I.ok.has y.1 (c.free y hy hf)
 refine wpAny_comprehension_free (use:=use) rfl hs Xk c.kind c.loc (acp (hi pins s σ H _ I h) (λv s1 h1=>acp h1 (λCA s2 h2=>?_) λ_ _ z=>z) λ_ _ z=>z);obtain⟨it,fp,tn,J,H2,rfl,I2,T,dF,f2,h2⟩:=h2;refine acq (wpAny_newFunctionEnv c.cell (by intro y hy;simp at hy) (λc8 cw kM=>?_) c.kind);have hD:H2 s2.heap.objs.size=none:=I2.fresh;obtain⟨W,⟨m0,w0⟩,turn⟩:=h2 s2.heap.objs.size hD;have I3:=I2.B7 (its:=[]) (ys:=[]) (t':=s2.toks) .nil (aca _);have jX:∀b∈fp,hZ X pins (upd H2 s2.heap.objs.size (.lst [])) b:=λb hb=>by
  obtain⟨a1,a2⟩:=f2 b hb;refine⟨?_,a2⟩;obtain⟨o,ho,_⟩:=T.obj 0 _ dF b hb;rw[aI (abu (aaU ho))];exact a1
 have Ky:∀b∈fp,b<s2.heap.objs.size:=λb hb=>by
  obtain⟨o,ho,_⟩:=T.obj 0 _ dF b hb;exact aaU ho
 revert cw kM
 generalize hs3:({ s2 with heap:=s2.heap.push { cls:=.type "list",data:=.seq ([]:aT).toArray },toks:=s2.toks }:aaR)=s3 at I3;intro cw kM;have Kz:s3.heap=s2.heap.push { cls:=.type "list",data:=.seq ([]:aT).toArray }:=by rw[<- hs3]
 have e3:s3.heap.objs.size=s2.heap.objs.size+1:=by rw[Kz,Heap.size_push]
 have KA:∀b o,s2.heap.get? b=O o->s3.heap.get? b=O o:=λb o e=>by rw[Kz];exact aaO _ e
 have CT:∀b o,s3.heap.get? b=O o->c8.get? b=O o:=λb o e=>kM.extBut b o (abu (aaU e)) (aaO _ e)
 have Za:c8.Ns s3.heap.objs.size (λx=>([]:List (Str×abh)).reverse.lookup x):=cw;have I4:=RK (fp:=fp) (tk:=s3.toks+([]:List (Str×abh)).length) I3 c eS ye (λb hb=>⟨by rw[e3];exact aem (Ky b hb),(jX b hb).2.1,(jX b hb).2.2.1,(jX b hb).2.2.2.1,(jX b hb).2.2.2.2.1⟩) Za CT;have loop:∀s4:aaR,s4={ s3 with heap:=c8,toks:=s3.toks+([]:List (Str×abh)).length } →
   ahJ (abG X.prog X.w) X.A (.compLoop (.ListComp elt [⟨tg,iter,ifs,0⟩] scope pos) 0 (.ref it) (.ref s2.heap.objs.size) (compEnvC scope cl s3.heap.objs.size X.env))
    (compPost (abG X.prog X.w) X.A X.xe use Q' (.ref s2.heap.objs.size) s3.heap.objs.size) s4:=by
  rintro s4 rfl;refine OY (λm s=>∃i cy CU,Inv (blk X N scope cl s3.heap.objs.size s3 (upd H2 s2.heap.objs.size (.lst [])) fp) [] cy CU s/\tn i s.heap/\(∀b∈fp,CU b=Z)/\W i m cy CU) ?_ m0
   ⟨0,lD cap σ,_,I4,T.keep _ _ _ dF λb hb o e=>CT b o (KA b o e),λb hb=>(jX b hb).1,w0⟩
  rintro k s5 ⟨i,fP,H5,I5,qv,yx,w5⟩;have CV:∀{H':Hp} {ps:List (abc×Obj)},(∀b∈fp,H' b=Z)->(∀p∈ps,∀b∈fp,p.1≠b)->∀b∈fp,hZ (blk X N scope cl s3.heap.objs.size s3 (upd H2 s2.heap.objs.size (.lst [])) fp) ps H' b:=λ{H' ps} hn hp b hb=>
   ⟨hn b hb,(λz=>by have q:=Ky b hb;have z':b=s3.heap.objs.size:=z;rw[z',e3] at q;exact absurd q (Nat.not_lt.mpr (aeY _))),I5.ok.pW b hb,.inl hb,λx d hd=>(jX b hb).2.2.2.2.1 x d (eS x d hd).1,λp qz=>hp p (by simpa[blk] using qz) b hb⟩
  rcases turn i k fP H5 w5 with⟨stop,qn⟩ | ⟨go,step⟩
  ·refine acp (T.done (blk X N scope cl s3.heap.objs.size s3 (upd H2 s2.heap.objs.size (.lst [])) fp) rfl rfl rfl hc i [] s5 fP H5 _ I5 (CV yx (λ_ z=>nomatch z)) qv stop) (λr s6 hr=>?_) λ_ _ z=>z
   obtain⟨rfl,I6⟩:=hr;exact fin s3 s6 _ H5 fp fP cl _ I3 jX I6 qn
  ·refine acp (T.item (blk X N scope cl s3.heap.objs.size s3 (upd H2 s2.heap.objs.size (.lst [])) fp) rfl rfl rfl hc i [] s5 fP H5 _ I5 (CV yx (λ_ z=>nomatch z)) qv go) (λr s6 hr=>?_) λ_ _ z=>z
   obtain⟨u,rfl,h6⟩:=hr;refine acp h6 (λ_ s7 ⟨x,H7,I7,rx,y7,CW,fr7⟩=>?_) λ_ _ z=>z
   have I7':=I7.pinned (CV fr7 (λ_ z=>nomatch z)) (T.obj _ _ CW);have back:∀{kZ:L2.St} {H8:Hp} {s8:aaR},Inv (blk X N scope cl s3.heap.objs.size s3 (upd H2 s2.heap.objs.size (.lst [])) fp) ([]++su fp s7.heap) kZ H8 s8 →
     Inv (blk X N scope cl s3.heap.objs.size s3 (upd H2 s2.heap.objs.size (.lst [])) fp) [] kZ H8 s8/\tn (i+1) s8.heap/\∀b∈fp,H8 b=none:=λ{kZ H8 s8} I8=>by
    refine⟨I8.wI,T.keep _ _ _ CW λb hb o e=>(I8.pin (b,o) (abJ _ (abJ _ (vZ hb e)))).1,λb hb=>?_⟩;obtain⟨o,e,d⟩:=T.obj _ _ CW b hb;exact(I8.pin (b,o) (abJ _ (abJ _ (vZ hb e)))).2.1
   refine aY (hg cl _ _ _ fp _ s7 fP H7 x u _ I7' rx (step x H7 y7)) λ_ s8 ⟨kZ,H8,I8,q8⟩=>?_
   refine aY (ht cl _ _ _ fp _ s8 kZ H8 _ I8 q8) λok s9 ⟨H9,I9,q9⟩=>?_
   cases ok with
   | false=>
    obtain⟨m',hm,w9⟩:=q9;obtain⟨a1,a2,a3⟩:=back I9;exact⟨m',hm,i+1,kZ,H9,a1,a2,a3,w9⟩
   | true=>
    refine aY (he cl _ _ _ fp _ s9 kZ H9 _ I9 q9) λy s10 ⟨yI,kO,I10,r10,xs,hx,hz,m',hm,w10⟩=>?_
    refine aY (EW (X:=blk X N scope cl s3.heap.objs.size s3 (upd H2 s2.heap.objs.size (.lst [])) fp) _ s10 kZ kO (.ref s2.heap.objs.size) [yI] (.ref s2.heap.objs.size) [y] (λ_ H'=>W (i+1) m' kZ H') I10 rfl (.cons r10 .nil) ⟨_,xs,_,rfl,rfl,hx,hz,w10⟩) λ_ s11 ⟨_,H11,I11,_,w11⟩=>?_
    obtain⟨a1,a2,a3⟩:=back I11;exact⟨m',hm,i+1,kZ,H11,a1,a2,a3,w11⟩
 exact codeAny_compStart_list (loop _ rfl) (T.self _ 0 _ _ _ (T.keep _ _ _ dF λb hb o e=>CT b o (KA b o e)) (loop _ rfl))
theorem GD(hc:X.calm=true)(c:kL X N cap scope)(hi:PI X tg iter wi)(hg:∀cl C aD aM ex,PG (blk X N scope cl C aD aM ex) tg g)(ht:∀cl C aD aM ex,PF (blk X N scope cl C aD aM ex) ifs tc)(he:∀cl C aD aM ex,PE (blk X N scope cl C aD aM ex) elt te)(hs:∀x,abX iter X.env x=pure x:=by intro _;rfl):PE X (.ListComp elt [⟨tg,iter,ifs,0⟩] scope pos) (sJ wi cap g tc te):=by
 intro pins s σ H Q I h;rw[eval_ListComp];refine E1 hc c hi hg ht he hs I h λs3 s6 H3 H6 fp u5 cl D I3 jX I6 q=>?_
 obtain⟨m6,CY,_⟩:=I6.loc;exact⟨m6,CY,λh' sb=>⟨.ref D,H6,GC I3 I6 sb jX,rfl,q⟩⟩
theorem RL{i:Nat}{x:Str}{pos' mB:Pos}(hN:X.N.Nodup)(fZ:X.N[i]? =O x)(jY:jG X x)(hx:X.env.scope.names.lookup x=O .local)(ur:aeq (.ListComp elt [⟨tg,iter,ifs,0⟩] scope pos) (O (.Name x pos')) mB.line X.env=pure true)(hc:X.calm=true)(c:kL X N cap scope)(hi:PI X tg iter wi)(hg:∀cl C aD aM ex,PG (blk X N scope cl C aD aM ex) tg g)(ht:∀cl C aD aM ex,PF (blk X N scope cl C aD aM ex) ifs tc)(he:∀cl C aD aM ex,PE (blk X N scope cl C aD aM ex) elt te)(hs:∀x,abX iter X.env x=pure x:=by intro _;rfl) :
  PS X (.Assign [.Name x pos'] (.ListComp elt [⟨tg,iter,ifs,0⟩] scope pos) mB) (xX (sJ wi cap g tc te) (BB i)):=by
 intro pins s σ H D I h;rw[exec_Assign_Name_used x pos' _ mB ur];refine aaH (wpAny_standAt (aaH ?_));show abj (abG X.prog X.w) X.A (comprehension (.ListComp elt [⟨tg,iter,ifs,0⟩] scope pos) scope X.env _ (newList []) false (aez iter X.env) (O (agJ (.Name x pos') X.env)) >>= λ_=>pure ()) _ _ s;refine aaH (E1 hc c hi hg ht he hs I h λs3 s6 H3 H6 fp u5 cl Dl I3 jX I6 q=>?_);obtain⟨m6,CY,_⟩:=I6.loc;have Zb:s6.heap.Ns s3.heap.objs.size m6:=CY;have I7:Inv X pins σ H6 s6:=GC (h':=s6.heap) I3 I6 ⟨rfl,λ_ _=>rfl⟩ jX;refine wpAny_assign_Name (EQ I7 hN fZ (.inl hx) (v:=.ref Dl) rfl (λs8 I8 h8=>?_) ⟨.inr hx,jY⟩);obtain⟨a,sb8,ha⟩:=h8;have fresh:H6 s3.heap.objs.size=none:=I6.free;have ug:s3.heap.objs.size≠X.env.locals:=acD I3.lt;have oA:∀y d,X.env.cells.lookup y=O d->d≠s3.heap.objs.size:=λy d e=>by
  obtain⟨v,o,ho,_⟩:=I3.cell y d e;exact abu (aaU ho)
 have neP:∀p∈X.pn++pins,p.1≠s3.heap.objs.size:=λp hp=>abu (aaU (I3.pin p hp).1)
 have neA:s3.heap.objs.size≠a:=by
  rcases ha with z | z
  ·rw[z];exact ug
  ·exact adh (oA x a z)
 refine⟨m6,Zb.sameBut sb8 neA,λh' sb=>aaM (aaM ⟨_,H6,?_,q⟩)⟩;exact I8.turned (t':=s8.toks) (λb o hb e=>(sb.2 b hb).trans e) fresh ug (.inr I3.sz) oA neP
end
noncomputable def gy(cap:eO)(σ:aO):aO:=cap.map λo=>o.bind λi=>(σ[i]?).join
noncomputable def dJ(m:Mo α):Mo α:=λph=>match m ph with
 | .ok a ph'=>.ok a ph'
 | _=>.no
theorem Ak{m:Mo α}{N:α->PH->Prop}{E':XC->PH->Prop}(h:(dJ m ph).Run N E):(m ph).Run N E':=by
 unfold dJ at h;cases e:m ph with
 | ok a ph'=>rw[e] at h;exact h
 | ex x ph'=>rw[e] at h;exact h.elim
 | no=>rw[e] at h;exact h
noncomputable def fe(chk:PH->Bool)(g:GM)(c:TM)(e:EM)(L:Nat):ap->aO->Mo Unit
 | [],_=>λph=>if chk ph=true then .ok () ph else .no
 | x::xs,σ=>λph=>if chk ph=true then au (dJ (g x σ)) (λσ1=>au (dJ (c σ1)) λt=>if t=true then au (dJ (e σ1)) λw=>au (lift (d6 (.ref L) [w])) λ_=>fe chk g c e L xs σ1 else fe chk g c e L xs σ1) ph else .no
noncomputable def cU(im:IM)(cap:eO)(g:GM)(c:TM)(e:EM):EM:=λσ=>au (im σ) λr ph=>au (fe r.2 g c e ↑ph r.1 (gy cap σ)) (λ_=>ay (.ref ↑ph)) (ph++[.lst []])
section
variable{K:aaJ}{φ:Nat->abc}{n:Nat}{H:Hp}
theorem bv.cap{ws:aO}{σ:L2.St}(h:bv K φ n H ws σ):∀(cap:eO),bv K φ n H (gy cap ws) (lD cap σ)
 | []=>.nil
 | o::r=>by
  have ih:=bv.cap h r;unfold gy lD at ih ⊢;rw[abt,abt];cases o with
  | none=>exact .nn ih
  | some i=>
   cases q:ws[i]? with
   | none=>simp only[acn,q,Option.join_none];exact .nn ih
   | some o=>
    cases o with
    | none=>simp only[acn,q,Option.join_some];exact .nn ih
    | some w=>
     obtain⟨v,ev,rv⟩:=h.get q;simp only[acn,q,ev,Option.join_some];exact .sm rv ih
theorem NJ{L:Nat}{w u:W}{ph ph':PH}(h:d6 (.ref L) [w] ph=O (u,ph')):∃ws,ph[L]? =O (.lst ws)/\↑ws<abd/\ph'=ph.set L (.lst (ws++[w])):=by
 unfold d6 at h;simp only at h;split at h
 ·rename_i ws hw;split at h
  ·rename_i hz;cases h;exact⟨ws,hw,hz,rfl⟩
  ·cases h
 ·cases h
end
noncomputable def yJ(K:aaJ)(m:EM):TE:=λσ H Q=>∃φ ph ws,aC K φ ph H/\bv K φ ↑ph H ws σ/\(m ws ph).Run (λw ph'=>
 ∀ak H' v,aC K ak ph' H'->Step K φ ↑ph H ak ↑ph' H'->aF K ak ↑ph' H' w v->Q v H') (λ_ _=>False)
noncomputable def lQ(K:aaJ)(m:TM):TT:=λσ H Q=>∃φ ph ws,aC K φ ph H/\bv K φ ↑ph H ws σ/\(m ws ph).Run (λb ph'=>
 ∀ak H',aC K ak ph' H'->Step K φ ↑ph H ak ↑ph' H'->Q b H') (λ_ _=>False)
noncomputable def yK(K:aaJ)(g:GM):TG:=λv σ H Q=>∃φ ph ws w,aC K φ ph H/\bv K φ ↑ph H ws σ/\aF K φ ↑ph H w v/\(g w ws ph).Run (λdh ph'=>
 ∀ak H' aj,aC K ak ph' H'->Step K φ ↑ph H ak ↑ph' H'->bv K ak ↑ph' H' dh aj->Q aj H') (λ_ _=>False)
section
variable{X:Cx}{e:acJ}
theorem e0{m:EM}(h:IE X e m):PE X e (yJ X.K m):=PE.imp h λ_ _ _ ⟨φ,ph,ws,a,b,c⟩=>⟨φ,ph,ws,a,b,c.mono (λ_ _ z=>z) λ_ _ z=>z.elim⟩
theorem t0{m:TM}(h:IT X e m):PT X e (lQ X.K m):=PT.imp h λ_ _ _ ⟨φ,ph,ws,a,b,c⟩=>⟨φ,ph,ws,a,b,c.mono (λ_ _ z=>z) λ_ _ z=>z.elim⟩
theorem g0{g:GM}(h:IG X e g):PG X e (yK X.K g):=PG.imp h λ_ _ _ _ ⟨φ,ph,ws,w,a,b,r,c⟩=>⟨φ,ph,ws,w,a,b,r,c.mono (λ_ _ z=>z) λ_ _ z=>z.elim⟩
end
section
variable{X:Cx}{tg iter elt:acJ}{ifs:cc}{scope:adB}{pos:Pos}{N:a8}{cap:eO}{im:IM}{g:GM}{c:TM}{e:EM}
theorem E3{σ:L2.St}{Q:VK}{aq:Nat->abc}{ph1:PH}{H1:Hp}{ws:aO}{J:It}{items:ap}{chk:PH->Bool}{D:abc}(aw:aC X.K aq ph1 H1)(hS:bv X.K aq ↑ph1 H1 ws σ)(hJ:yF X.K J items chk aq ↑ph1 H1)(hD:H1 D=Z)(h:(fe chk g c e ↑ph1 items (gy cap ws) (ph1++[.lst []])).Run (λ_ ph'=>∀ak H' v,aC X.K ak ph' H'->Step X.K aq ↑ph1 H1 ak ↑ph' H'->aF X.K ak ↑ph' H' (.ref ↑ph1) v->Q v H') (λ_ _=>True)):∃W:Nat->Nat->L2.St->Hp->Prop,(∃m,W 0 m (lD cap σ) (upd H1 D (.lst [])))/\∀i m cy H2,W i m cy H2->(J.stop i H2/\Q (.ref D) H2)\/(J.go i H2/\∀x H3,J.uh i H2 x H3->yK X.K g x cy H3 λkY H4=>lQ X.K c kY H4 λb H5=>if b=true then yJ X.K e kY H5 λv H6=>∃xs,H6 D=O (.lst xs)/\↑xs<abd/\∃m',m'<m/\W (i+1) m' kY (upd H6 D (.lst (xs++[v]))) else ∃m',m'<m/\W (i+1) m' kY H5):=by
 have nl:=ke (ws:=[]) (vs:=[]) aw .nil hD;have hl:(ph1++[PO.lst []]).length=↑ph1+1:=by simp
 rw[hl] at nl;obtain⟨aR,s2,_⟩:=nl;refine⟨λi m cy H2=>∃bc ph2 gB,m=(items.drop i).length/\aC X.K bc ph2 H2/\bv X.K bc ↑ph2 H2 gB cy/\Step X.K (ext aq ↑ph1 D) (↑ph1+1) (upd H1 D (.lst [])) bc ↑ph2 H2 /\
   (fe chk g c e ↑ph1 (items.drop i) gB ph2).Run (λ_ ph'=>∀ak H' v,aC X.K ak ph' H'->Step X.K bc ↑ph2 H2 ak ↑ph' H'->aF X.K ak ↑ph' H' (.ref ↑ph1) v->Q v H') (λ_ _=>True),
  ⟨_,ext aq ↑ph1 D,ph1++[PO.lst []],gy cap ws,rfl,aR,?_,by rw[hl];exact Step.refl,?_⟩,?_⟩
 ·rw[hl];exact(bv.cap (hS.mono s2) cap)
 ·exact Out.Run.mono h (λ_ ph' k ak H' v r' dn rv=>k ak H' v r' (s2.trans (by rw[hl] at dn;exact dn)) rv) λ_ _ _=>trivial
 rintro i m cy H2 ⟨bc,ph2,gB,rfl,kP,ji,dF,h4⟩;have yf:bc ↑ph1=D:=by rw[dF.eq _ (acA _),la]
 cases hd:items.drop i with
 | nil=>
  rw[hd] at h4;unfold fe at h4;split at h4
  ·rename_i hc;have hn:items[i]? =none:=by
    have:↑items<=i:=by simpa using hd
    simpa using this
   refine .inl ⟨(hJ bc _ H2 kP (s2.trans dF) hc i).2 hn,h4 bc H2 _ kP Step.refl ?_⟩;rw[<- yf];exact .ref (aaS (acA _) dF.le)
  ·exact h4.elim
 | cons x xs=>
  rw[hd] at h4;unfold fe at h4;split at h4
  ·rename_i hc;have hx:items[i]? =O x:=by
    have:=congrArg (λl=>l[0]?) hd
    simpa using this
   have oG:items.drop (i+1)=xs:=by
    have:=congrArg (λl=>l.drop 1) hd
    simpa[ahl,agN] using this
   obtain⟨mQ,hy⟩:=(hJ bc _ H2 kP (s2.trans dF) hc i).1 x hx;refine .inr ⟨mQ,λv H3 y=>?_⟩;obtain⟨dB,s3,rv⟩:=hy v H3 y;rw[c3] at h4;refine⟨bc,ph2,gB,x,dB,ji.mono s3,rv,(Ak h4).mono (λgC oH h5 iS H5 fP iM s5 gD=>?_) λ_ _ z=>z⟩;rw[c3] at h5;refine⟨iS,oH,gC,iM,gD,(Ak h5).mono (λt CZ h6 L3 H6 KC s6=>?_) λ_ _ z=>z⟩;have C0:=(s3.trans s5).trans s6;have tH:=dF.trans C0;cases t with
   | false=>
    refine nY ⟨↑xs,by simp,L3,CZ,gC,by rw[oG],KC,gD.mono s6,tH,?_⟩;rw[oG];exact Out.Run.mono h6 (λ_ ph' k ak H' v r' dn q=>k ak H' v r' (C0.trans dn) q) λ_ _ z=>z
   | true=>
    have KD:(au (dJ (e gC)) (λw=>au (lift (d6 (.ref ↑ph1) [w])) λ_=>fe chk g c e ↑ph1 xs gC) CZ).Run _ _:=h6;rw[c3] at KD;refine nZ ⟨L3,CZ,gC,KC,gD.mono s6,(Ak KD).mono (λw7 ph7 h7 L4 H7 v7 KG s7 r7=>?_) λ_ _ z=>z⟩;rw[c3] at h7;obtain⟨u8,ph8,e8,h8⟩:=run_lift h7;obtain⟨wsL,hL,hz,rfl⟩:=NJ e8;have s27:=C0.trans s7;have IV:=tH.trans s7;have Xl:L4 ↑ph1=D:=by rw[IV.eq _ (acA _),la]
    obtain⟨vs,hv,KH⟩:=KG.hp _ _ hL;have cJ:↑ph1<↑ph7:=(aaG.mp hL).1;obtain⟨q1,q2⟩:=rT KG hL (KH.append (.cons r7 .nil));rw[Xl] at hv q1 q2;refine⟨vs,hv,by rw[<- KH.length];exact hz,↑xs,by simp,L4,_,gC,by rw[oG],q1,((gD.mono s6).mono s7).mono q2,IV.trans q2,?_⟩;rw[oG];exact Out.Run.mono h8 (λ_ ph' k ak H' v r' dn q=>k ak H' v r' ((s27.trans q2).trans dn) q) λ_ _ z=>z
  ·exact h4.elim
theorem FL{σ:L2.St}{H:Hp}{Q:VK}(h:tM X (cU im cap g c e) σ H Q):sJ (tI X im) cap (yK X.K g) (lQ X.K c) (yJ X.K e) σ H Q:=by
 obtain⟨φ,ph,ws,hH,hS,h⟩:=h;unfold cU at h;rw[c3] at h;refine⟨φ,ph,ws,hH,hS,h.mono (λr ph1 h aq H1 J aw s1 hJ D hD=>?_) λ_ _ z=>z⟩;rw[c3] at h;exact E3 aw (hS.mono s1) hJ hD (Out.Run.mono h (λ_ ph' k ak H' v r' dn rv=>k ak H' v r' (s1.trans dn) rv) λ_ _ _=>trivial)
theorem PF.imp{t t':TT}(h:PF X ifs t)(k:∀σ H Q,t' σ H Q->t σ H Q):PF X ifs t':=λpins s σ H Q I q=>h pins s σ H Q I (k σ H Q q)
noncomputable def cF:TM:=λ_=>ay true
theorem U3:PF X [] (lQ X.K cF):=PF.imp U1 λσ H Q h=>by
 obtain⟨φ,ph,ws,hH,hS,h⟩:=h;exact h φ H hH Step.refl
theorem U4{cd:acJ}(h:IT X cd c):PF X [cd] (lQ X.K c):=U2 (t0 h)
theorem RM(hc:X.calm=true)(cp:kL X N cap scope)(hi:II X tg iter im)(hg:∀cl C aD aM ex,IG (blk X N scope cl C aD aM ex) tg g)(ht:∀cl C aD aM ex,PF (blk X N scope cl C aD aM ex) ifs (lQ X.K c))(he:∀cl C aD aM ex,IE (blk X N scope cl C aD aM ex) elt e)(hs:∀x,abX iter X.env x=pure x:=by intro _;rfl):IE X (.ListComp elt [⟨tg,iter,ifs,0⟩] scope pos) (cU im cap g c e):=
 PE.imp (GD hc cp hi (λcl C aD aM ex=>g0 (hg cl C aD aM ex)) ht (λcl C aD aM ex=>e0 (he cl C aD aM ex)) hs) λ_ _ _ h=>FL h
theorem RN{i:Nat}{x:Str}{pos' mB:Pos}(hN:X.N.Nodup)(fZ:X.N[i]? =O x)(jY:jG X x)(hx:X.env.scope.names.lookup x=O .local)(hc:X.calm=true)(cp:kL X N cap scope)(hi:II X tg iter im)(hg:∀cl C aD aM ex,IG (blk X N scope cl C aD aM ex) tg g)(ht:∀cl C aD aM ex,PF (blk X N scope cl C aD aM ex) ifs (lQ X.K c))(he:∀cl C aD aM ex,IE (blk X N scope cl C aD aM ex) elt e)(ur:aeq (.ListComp elt [⟨tg,iter,ifs,0⟩] scope pos) (O (.Name x pos')) mB.line X.env=pure true:=by rfl)(hs:∀x,abX iter X.env x=pure x:=by intro _;rfl) :
  IS X (.Assign [.Name x pos'] (.ListComp elt [⟨tg,iter,ifs,0⟩] scope pos) mB) (aK (cU im cap g c e) (gN i)):=
 PS.imp (RL hN fZ jY hx ur hc cp hi (λcl C aD aM ex=>g0 (hg cl C aD aM ex)) ht (λcl C aD aM ex=>e0 (he cl C aD aM ex)) hs) λD σ H h=>by
  obtain⟨φ,ph,ws,hH,hS,h⟩:=h;unfold aK at h;rw[c3] at h;exact FL ⟨φ,ph,ws,hH,hS,h.mono (λw ph1 h aq H1 v aw s1 r1=>h aq H1 aw s1 _ ((hS.mono s1).set r1 i)) λ_ _ z=>z⟩
end
noncomputable def yg:List GM->List W->aO->Mo aO
 | [],[],σ=>ay σ
 | g::gs,w::ws,σ=>au (g w σ) λaj=>yg gs ws aj
 | _,_,_=>dY
noncomputable def gT(gs:List GM):GM:=λw σ=>match w with
 | .tup ws=>yg gs ws σ
 | _=>dY
noncomputable def ut(X:Cx)(gs:List GM):lI:=λvs σ H Q=>∃φ ph ws xs,aC X.K φ ph H/\bv X.K φ ↑ph H ws σ/\aN X.K φ ↑ph H xs vs/\(yg gs xs ws ph).Run (λdh ph'=>
 ∀ak H' aj,aC X.K ak ph' H'->Step X.K φ ↑ph H ak ↑ph' H'->bv X.K ak ↑ph' H' dh aj->Q aj H') (XE X φ ↑ph H)
noncomputable def eA(n:Nat)(gs:List GM):GM:=λw σ=>match w with
 | .tup ws=>if ↑ws=n then yg gs ws σ else dY
 | _=>dY
section
variable{X:Cx}{tg:acJ}{es:cc}{g:GM}{gs:List GM}{pos:Pos}
theorem ib.imp{t t':lI}(h:ib X es t)(k:∀v σ H Q,t' v σ H Q->t v σ H Q):ib X es t':=λpins s σ H v u Q I r q=>h pins s σ H v u Q I r (k v σ H Q q)
theorem RO:ib X [] (ut X []):=ib.imp Rb λvs σ H Q h=>by
 obtain⟨φ,ph,ws,xs,hH,hS,r,h⟩:=h;cases r with
 | nil=>exact⟨rfl,h φ H σ hH Step.refl hS⟩
 | cons _ _=>exact h.elim
theorem Qb{e:acJ}(h1:IG X e g)(h2:ib X es (ut X gs))(hs:(acM (e::es) X.env).map (·.2)=agJ e X.env::(acM es X.env).map (·.2):=by rfl):ib X (e::es) (ut X (g::gs)):=
 ib.imp (PV h1 h2 hs) λvs σ H Q h=>by
  obtain⟨φ,ph,ws,xs,hH,hS,r,h⟩:=h;cases r with
  | nil=>exact h.elim
  | cons fq rr=>
   refine⟨_,_,rfl,tG.bind hH hS fq h λkJ ph1 aq H1 σ1 aw s1 ij h1=>?_⟩;exact⟨aq,ph1,kJ,_,aw,ij,rr.mono s1,h1.mono (λdh ph' k ak H' aj r' s' q=>k ak H' aj r' (s1.trans s') q) λ_ _ z=>z⟩
theorem U5{k n:Nat}(hc:X.calm=true)(h:ib X es (ut X gs))(hn:(acM es X.env).length=n:=by rfl)(dM:(acM es X.env).findIdx? (·.1)=none:=by rfl):IG X (.Tuple es k pos) (eA n gs):=
 PG.imp (TN hc h hn dM) λv σ H Q h=>by
  obtain⟨φ,ph,ws,w,hH,hS,r,h⟩:=h;unfold eA at h;cases r with
  | tup hq r=>
   simp only at h;split at h
   ·rename_i hl;exact⟨_,_,rfl,cI.of hq,by rw[<- ↑r];exact hl,φ,ph,ws,_,hH,hS,r,h⟩
   ·exact h.elim
  | _=>exact h.elim
noncomputable def JY(o i v:W):Po Unit:=λph=>match o,i with
 | .ref r,.int k=>match ph[r]? with
  | some (.lst ws)=>match iG ↑ws k with
   | some j=>O ((),ph.set r (.lst (ws.set j v)))
   | none=>Z
  | _=>Z
 | _,_=>Z
end
noncomputable def tN(ws:ap)(lo hi:Option Int):ap:=(ws.drop (HT.bE ↑ws 0 lo)).take (HT.bE ↑ws ↑ws hi-HT.bE ↑ws 0 lo)
theorem AF{n:Nat}(r:aN K φ n H ws vs)(lo hi:Option Int):aN K φ n H (tN ws lo hi) (mr vs lo hi):=by
 unfold tN mr;rw[↑r];exact(r.drop _).take _
noncomputable def yL(w:W)(lo hi:Option Int):Po W:=λph=>match w with
 | .tup ws=>if HT.bE ↑ws 0 lo=0/\HT.bE ↑ws ↑ws hi=↑ws then Z else O (.tup (tN ws lo hi),ph)
 | .fl ws=>O (.ref ↑ph,ph++[.lst (tN ws lo hi)])
 | .ref i=>match ph[i]? with
  | some (.lst ws)=>O (.ref ↑ph,ph++[.lst (tN ws lo hi)])
  | _=>Z
 | _=>Z
abbrev OM:=aO->Mo (Option Int)
noncomputable def sL:OM:=λ_=>ay Z
noncomputable def sM(m:EM):OM:=λσ=>au (m σ) λw=>lift (match w with
 | .int i=>ret (O i)
 | _=>gh)
noncomputable def uu(m:EM)(lo hi:OM):EM:=λσ=>au (m σ) λw=>au (lo σ) λl=>au (hi σ) λh=>lift (yL w l h)
noncomputable def tO(X:Cx)(m:OM):TO:=λσ H Q=>∃φ ph ws,aC X.K φ ph H/\bv X.K φ ↑ph H ws σ/\(m ws ph).Run (λo ph'=>
 ∀ak H',aC X.K ak ph' H'->Step X.K φ ↑ph H ak ↑ph' H'->Q o H') (XE X φ ↑ph H)
abbrev uw(X:Cx)(e:Option acJ)(m:OM):Prop:=L2.PO X e (tO X m)
section
variable{X:Cx}{e:acJ}{lo hi:Option acJ}{m:EM}{ml mh:OM}{pos p2:Pos}
theorem RP:uw X Z sL:=λpins s σ H Q I ⟨φ,ph,ws,hH,hS,h⟩=>Rk pins s σ H Q I (h φ H hH Step.refl)
theorem RQ(he:IE X e m):uw X (O e) (sM m):=λpins s σ H Q I ⟨φ,ph,ws,hH,hS,h⟩=>Rl he pins s σ H Q I (tM.bind hH hS h λw ph1 aq H1 v aw s1 r1 h=>by
 obtain⟨o,ph',e,k⟩:=run_lift h;split at e
 ·cases e;cases r1;exact⟨_,rfl,k aq H1 aw s1⟩
 ·cases e)
theorem tO.bind{β:Type}{m:OM}{σ:L2.St}{H:Hp}{Q:Option Int->Hp->Prop}{φ:Nat->abc}{ph:PH}{ws:aO}{f:Option Int->Mo β}{N:β->PH->Prop}(hH:aC X.K φ ph H)(hS:bv X.K φ ↑ph H ws σ)(h:(au (m ws) f ph).Run N (XE X φ ↑ph H))(k:∀b ph1 aq H1,aC X.K aq ph1 H1->Step X.K φ ↑ph H aq ↑ph1 H1->(f b ph1).Run N (XE X aq ↑ph1 H1)->Q b H1):tO X m σ H Q:=by
 rw[c3] at h;exact⟨φ,ph,ws,hH,hS,h.mono (λb ph1 h1 aq H1 aw s1=>k b ph1 aq H1 aw s1 (h1.mono (λ_ _ z=>z) λ_ _ z=>z.step s1)) λ_ _ z=>z⟩
theorem Xm(he:IE X e m)(hl:uw X lo ml)(hh:uw X hi mh):IE X (.Subscript e (.Slice lo hi Z p2) pos) (uu m ml mh):=
 PE.imp (P1 (mM.or Ub Ro) he hl hh) λσ H Q h=>by
  obtain⟨φ,ph,ws,hH,hS,h⟩:=h;refine tM.bind hH hS h λw ph1 aq H1 v aw s1 r1 h=>tO.bind aw (hS.mono s1) h λl ph2 bc H2 aR s2 h=>tO.bind aR ((hS.mono s1).mono s2) h λu fY fO H3 dB s3 h=>?_
  obtain⟨w',ph',e,k⟩:=run_lift h;have r3:=(r1.mono s2).mono s3;have C1:=(s1.trans s2).trans s3;unfold yL at e;cases r3 with
  | tup hq r=>
   simp only at e;split at e
   ·cases e
   ·rename_i hw;cases e;refine .inl ⟨_,_,rfl,cI.of hq,by rw[<- ↑r];exact hw,λp hp=>?_⟩;exact k fO _ _ (dB.tup hp) (C1.trans (js hp)) (.tup bX ((AF r l u).mono (js hp)))
  | fl hq r=>
   cases e;refine .inr ⟨_,_,rfl,hq.sq,λp hp=>?_⟩;obtain⟨q1,q2,q3⟩:=ke dB (AF r l u) hp;exact k _ _ _ q1 (C1.trans q2) q3
  | ref fZ=>
   simp only at e;split at e
   ·rename_i dh hw;cases e;obtain⟨vs,hv,r⟩:=dB.hp _ _ hw;refine .inr ⟨_,_,rfl,bH.of hv,λp hp=>?_⟩;obtain⟨q1,q2,q3⟩:=ke dB (AF r l u) hp;exact k _ _ _ q1 (C1.trans q2) q3
   ·cases e
  | _=>cases e
end
noncomputable def pL:ap->Po W:=λxs ph=>match xs with
 | [w]=>match dm w ph with
  | some ws=>O (.ref ↑ph,ph++[.lst ws])
  | none=>Z
 | _=>Z
theorem RR:gK K (λxs H Q=>∃p ys,xs=[.ref p]/\(bH K H p ys\/cI K H p ys)/\∀l,H l=Z->Q (.ref l) (upd H l (.lst ys))) pL:=by
 intro φ ph H xs vs w ph' Q hH r e k;unfold pL at e;split at e
 ·split at e
  ·rename_i w0 ws hw;cases e;cases r with
   | cons r r'=>
    cases r';obtain⟨a,ys,rfl,hs,rs⟩:=Ah hH r hw;refine⟨a,ys,rfl,hs,λl hl=>?_⟩;obtain⟨q1,q2,q3⟩:=ke hH rs hl;exact k _ _ _ q1 q2 q3
  ·cases e
 ·cases e
noncomputable def Xn:ap->Po W:=λxs=>match xs with
 | [.int i,.int j]=>ret (.int (if j>i then j else i))
 | _=>gh
noncomputable def Xo:ap->Po W:=λxs=>match xs with
 | [.int i,.int j]=>ret (.int (if j<i then j else i))
 | _=>gh
noncomputable def sy(f f':W->W->Po W)(a b c:EM):EM:=λσ=>au (a σ) λx=>au (b σ) λy=>au (lift (f x y)) λz=>match z with
 | .bl k=>if k=true then au (c σ) λu=>lift (f' y u) else ay (.bl false)
 | _=>dY
section
variable{X:Cx}{a b c:acJ}{ma mb mc:EM}{pos:Pos}{op jR:CmpOp}{r r':R2}{f f':W->W->Po W}
theorem OZ(hi:dr X.K r f)(fZ:dr X.K r' f'){σ:L2.St}{H:Hp}{Q:VK}(h:tM X (sy f f' ma mb mc) σ H Q):Hm r r' (tM X ma) (tM X mb) (tM X mc) σ H Q:=by
 obtain⟨φ,ph,ws,hH,hS,h⟩:=h;refine tM.bind hH hS h λx ph1 aq H1 vx aw s1 rx h=>tM.bind aw (hS.mono s1) h λy ph2 bc H2 vy aR s2 ry h=>?_
 rw[c3] at h;obtain⟨z,fY,e,h⟩:=run_lift h;refine hi aR (rx.mono s2) ry e λfO H3 vz dB s3 rz=>?_
 have hS3:=((hS.mono s1).mono s2).mono s3;cases rz with
 | bl k=>
  refine⟨k,rfl,?_⟩;cases k with
  | false=>exact nY (h fO H3 _ dB ((s1.trans s2).trans s3) (.bl false))
  | true=>
   have h':(au (mc ws) (λu=>lift (f' y u)) fY).Run (λw ph'=>∀ak H' v,aC X.K ak ph' H'->Step X.K φ ↑ph H ak ↑ph' H'->aF X.K ak ↑ph' H' w v->Q v H') (XE X fO ↑fY H3):=Out.Run.mono h (λ_ _ z=>z) λ_ _ z=>z.step s3
   refine nZ (tM.bind dB hS3 h' λu kK qQ H4 vu CO s4 ru h=>?_);obtain⟨w,ph',e',k'⟩:=run_lift h;exact fZ CO ((ry.mono s3).mono s4) ru e' λiS H5 v iM s5 r5=>k' iS H5 v iM ((((s1.trans s2).trans s3).trans s4).trans s5) r5
 | _=>exact h.elim
theorem Qc(ho:bS X (acr op) r)(hi:dr X.K r f)(fk:bS X (acr jR) r')(fZ:dr X.K r' f')(ha:IE X a ma)(hb:IE X b mb)(hc:IE X c mc)(hm:lastMarks [op,jR] [b,c]=false:=by with_unfolding_all rfl) :
  IT X (.Compare a [op,jR] [b,c] pos) (eT (sy f f' ma mb mc)):=PT.imp (PY ho fk ha hb hc hm) λσ H Q h=>by
 obtain⟨φ,ph,ws,hH,hS,h⟩:=h;refine OZ hi fZ (tM.bind hH hS h λx ph1 aq H1 vx aw s1 rx h=>?_);obtain⟨w,ph',e,k⟩:=run_lift h;split at e
 ·cases e;cases rx;exact⟨_,rfl,k aq H1 aw s1⟩
 ·cases e
end
structure fH(X:Cx)(N:a8)(sc:adB):Prop where
 hN:X.N=N
 kH:∀x,jP sc x->jP X.env.scope x
 loc:∀x,Loc sc x->Loc X.env.scope x
 gl:∀x,sc.names.lookup x=O .globalImplicit->Gl X x
 fn:∀x,Loc sc x->(X.fn x=true\/X.env.scope.names.lookup x=O .local)/\jG X x
 nd:N.Nodup
structure eU(X:Cx)(N:a8)(sc:adB)(k:Nat):Prop extends fH X N sc where
 calm:X.calm=true
 room:df k X.A
structure Bd(X:Cx)(N:a8)(sc:adB)(k:Nat):Prop extends eU X N sc k where
 Cf:ahz (abG X.prog X.w) X.A X.env X.xe
section
variable{X:Cx}{N:a8}{sc:adB}{k:Nat}{pos:Pos}
theorem fH.var(B:fH X N sc)(i:Nat){x:Str}(hN:N[i]? =O x)(hv:jP sc x)(hd:(x==("__debug__":Str))=false)(hcd:(x==("__classdict__":Str))=false):IE X (.Name x pos) (aa i):=
 Up i (hN:=by rw[B.hN];exact hN) (hv:=B.kH x hv) (hd:=hd) (hcd:=hcd)
theorem fH.name(B:fH X N sc)(i:Nat){x:Str}(hN:N[i]? =O x)(hl:Loc sc x):IG X (.Name x pos) (gN i):=
 Ru (by rw[B.hN];exact B.nd) (by rw[B.hN];exact hN) (B.loc x hl) (B.fn x hl)
theorem fH.set(B:fH X N sc)(i:Nat){x:Str}{e:acJ}{m:EM}{pos':Pos}(hN:N[i]? =O x)(hl:Loc sc x)(he:IE X e m)(hs:aeq e (O (.Name x pos')) pos.line X.env=pure false:=by rfl):IS X (.Assign [.Name x pos'] e pos) (aK m (gN i)):=
 UC (by rw[B.hN];exact B.nd) (by rw[B.hN];exact hN) (B.loc x hl) he hs (B.fn x hl)
theorem Bd.Zc(B:Bd X N sc k){iter tg:acJ}{im:IM}{g:GM}{b:SM}{body:eN}(hi:II X tg iter im)(hg:IG X tg g)(hb:jh X body b)(hs:∀x,abX iter X.env x=pure x:=by intro _;rfl):IS X (.For tg iter body [] pos) (d9 im g b):=
 UE B.Cf B.calm hi hg hb hs
theorem Bd.U6(B:Bd X N sc k){c:acJ}{t:TM}{b:SM}{body:eN}(hc:IT X c t)(hb:jh X body b):IS X (.While c body [] pos) (iq t b):=P6 B.Cf hc hb
theorem Eb{env:Env}{x:Str}:∀{names:List (Str×aek)},names.lookup x=O .globalImplicit →
  (names.map λ(n,k)=>if(k==abx&&env.scope.kind==.function&&env.kindOf n==O .cell) then(n,adj) else(n,k)).lookup x=O .globalImplicit
 | [],h=>by cases h
 | (n,k)::r,h=>by
  show aeh x ((if(k==abx&&env.scope.kind==.function&&env.kindOf n==O .cell)=true then(n,adj) else(n,k))::_)=_;rw[abf] at h;cases q:x==n with
  | true=>
   rw[q] at h;cases h;have CG:¬((agr==abx&&env.scope.kind==.function&&env.kindOf n==O .cell)=true):=by
    rw[show(agr==abx)=false from rfl,afa,afa];exact abg
   rw[if_neg CG,abf,q]
  | false=>
   rw[q] at h;have ih:=Eb (env:=env) h;split
   ·rw[abf,q];exact ih
   ·rw[abf,q];exact ih
theorem Bd.blk(B:Bd X N sc k){N':a8}{scope:adB}{cl:List (Str×abc)}{C:abc}{aD:aaR}{aM:Hp}{ex:List abc}(hc:∀y∈scope.names,y.2≠.cell)(nd:N'.Nodup):Bd (blk X N' scope cl C aD aM ex) N' scope k where
 hN:=rfl
 kH:=λx h=>by
  rcases h with h | h | h
  ·exact .inl (afq (env:=X.env) h)
  ·exact absurd rfl (hc _ (mem_lookup h))
  ·exact .inr (zq (env:=X.env) h)
 loc:=λx h=>by
  rcases h with h | h
  ·exact .inl (afq (env:=X.env) h)
  ·exact absurd rfl (hc _ (mem_lookup h))
 gl:=λx h=>Eb (env:=X.env) h
 calm:=B.calm
 room:=B.room
 fn:=λx h=>by
  rcases h with h | h
  ·exact⟨.inr (afq (env:=X.env) h),λ_ _ _ _ _=>trivial⟩
  ·exact absurd rfl (hc _ (mem_lookup h))
 Cf:=agP
 nd:=nd
noncomputable def IW(sc scope:adB)(N N':a8)(cap:eO):Bool:=
 ↑cap==↑N'&&(abp ↑N').all (λi=>match cap[i]? with
  | some (O j)=>(match N'[i]? with
   | some x=>N[j]? ==O x&&scope.names.lookup x==O .free&&(sc.names.lookup x==O .cell||sc.names.lookup x==O .free)
   | none=>false)
  | _=>true)&&scope.names.all (λy=>y.2 != .cell&&(y.2 != .free||sc.names.lookup y.1==O .cell||sc.names.lookup y.1==O .free)&&(y.2 != .local||scope.names.lookup y.1==O .local))&&scope.kind==.function
theorem Bd.cap(hN:X.N=N)(aU:X.env.scope=sc){N':a8}{scope:adB}{cap:eO}(h:IW sc scope N N' cap=true):kL X N' cap scope:=by
 unfold IW at h;simp only[aaZ,abR,beq_iff_eq,bne_iff_ne,adp,ne_eq] at h;obtain⟨⟨⟨h1,h2⟩,h3⟩,h4⟩:=h;have hk:∀x,X.env.kindOf x=sc.names.lookup x:=λx=>by unfold Env.kindOf;rw[aU]
 refine⟨h1,λi j x e1 e2=>?_,λy hy hf=>?_,λy hy=>(h3 y hy).1.1,h4,λy hy hl=>?_⟩
 ·have hi:i<↑N':=(aaG.mp e1).1;have:=h2 i (abv.mpr hi);rw[e2,e1] at this;simp only[aaZ,beq_iff_eq,adp] at this;obtain⟨⟨a1,a2⟩,a3⟩:=this;rw[hN,hk];exact⟨a1,a2,a3⟩
 ·rw[hk]
  rcases(h3 y hy).1.2 with(z | z) | z
  ·exact absurd hf z
  ·exact .inl z
  ·exact .inr z
 ·rcases(h3 y hy).2 with z | z
  ·exact absurd hl z
  ·exact z
end
noncomputable def isStar:acJ->Bool
 | .Starred .. =>true
 | _=>false
theorem fQ{e:acJ}{es:cc}(h:isStar e=false):abB (e::es) env=(false,aez e env)::abB es env:=by
 cases e <;> first | rfl | cases h
noncomputable def eJ(es:cc):Bool:=es.all λe=> !isStar e
theorem any_none{env:Env}{pos:Pos}:∀{es:cc},eJ es=true->(afd pos (abB es env)).any (·.1)=false
 | [],_=>rfl
 | e::es,h=>by
  unfold eJ at h;rw[ady,aaZ] at h;have h1:isStar e=false:=by simpa using h.1
  rw[fQ h1];show(false||(afd pos (abB es env)).any (·.1))=false;rw[any_none (es:=es) h.2];rfl
theorem all_none{env:Env}{pos:Pos}:∀{es:cc},eJ es=true->(afd pos (abB es env)).all (λx=> !x.1)=true
 | [],_=>rfl
 | e::es,h=>by
  unfold eJ at h;rw[ady,aaZ] at h;have h1:isStar e=false:=by simpa using h.1
  rw[fQ h1];show(!false&&(afd pos (abB es env)).all (λx=> !x.1))=true;rw[all_none (es:=es) h.2];rfl
section
variable{X:Cx}{e:acJ}{es:cc}{m:EM}{a:AM}{pos:Pos}
theorem Zd(h:isStar e=false)(he:IE X e m)(hr:IA X es a):IA X (e::es) (ae m a):=Ry he hr (fQ h)
end
section
variable{X:Cx}{k:Nat}{f:abc}{fd:acG}{ps:a8}{fm:ap->Mo W}{x:Str}{p pos:Pos}{e:acJ}{es:cc}{a:AM}
theorem U7(hn:eJ (e::es)=true)(dq:(x==("__debug__":Str))=false)(F:ck X.prog X.w X.K X.mg X.base (bN X.prog X.w) k f fd ps (cE X.K X.mg ↑ps fm))(hl:∀{xs:ap} {ph:PH},↑xs≠↑ps->fm xs ph=.no)(hr:df k X.A)(hg:Gl X x)(hm:X.mg x=O (.ref f))(hk:acT X.K (.ref f)=true)(hb:Binds X.K fd ps [])(ha:IA X (e::es) a):IE X (.Call (.Name x p) (e::es) [] pos) (bh fm a):=by
 unfold eJ at hn;rw[ady,aaZ] at hn;exact RB F hl hr hg hm hk hb ha dq (fQ (by simpa using hn.1)) (any_none hn.2)
variable{t:AM}{id T:String}{r:aE->Hp->VK->Prop}{fp:ap->Po W}
theorem U8(cw:eJ (e::es)=true)(hn:x≠"__name__")(dq:(x==("__debug__":Str))=false)(hc:c4 X (.builtin id) r)(hi:gK X.K r fp)(hg:Gl X x)(hm:X.mg x=Z)(hv:acv x=O (.builtin id))(ha:IA X (e::es) t):IE X (.Call (.Name x p) (e::es) [] pos) (aV fp t):=by
 unfold eJ at cw;rw[ady,aaZ] at cw;exact P7 hc hi hg hm hv ha hn dq (fQ (by simpa using cw.1)) (any_none cw.2)
theorem U9(cw:eJ (e::es)=true)(hn:x≠"__name__")(dq:(x==("__debug__":Str))=false)(hc:c4 X (.type T) r)(hi:gK X.K r fp)(hg:Gl X x)(hm:X.mg x=Z)(hv:acv x=O (.type T))(ha:IA X (e::es) t):IE X (.Call (.Name x p) (e::es) [] pos) (aV fp t):=by
 unfold eJ at cw;rw[ady,aaZ] at cw;exact OU hc hi hg hm hv ha hn dq (fQ (by simpa using cw.1)) (any_none cw.2)
end
section
variable{X:Cx}{o e:acJ}{es:cc}{mo:EM}{t:AM}{name:Str}{apos d8:Pos}{T id:String}{r:V->List V->Hp->VK->Prop}{ty:W->PH->Bool}{f:W->List W->Po W}
theorem Va(cw:eJ (e::es)=true)(bV:decide ((e::es).length<30)=true)(pa:afw T)(slot:Slot T name id)(iH:typeOf (.builtin id)=pure (.type "method_descriptor"))(hm:oD X id r)(ht:oM X.K T ty)(hi:lO X.K T r f)(ho:IE X o mo)(ha:IA X (e::es) t)(gI:adT o name X.env (aez o X.env)=aez o X.env:=by rfl)(gJ:(apos.endLine==d8.line)=true:=by rfl):IE X (.Call (.Attribute o name apos) (e::es) [] d8) (dW ty f mo t):=by
 have gg:=all_none (env:=X.env) (pos:=d8) cw;unfold eJ at cw;rw[ady,aaZ] at cw;refine Xf pa slot iH hm ht hi ho ha gI ?_ gJ (fQ (by simpa using cw.1)) (any_none cw.2);rw[gg,show(backToKw d8 (keywordEach [] X.env)).all (λx=>x.1.isSome)=true from rfl]
 simpa using bV
end
structure JE(X:Cx)(e:acJ)(m:EM):Prop where
 h:IE X e m
structure JT(X:Cx)(e:acJ)(m:TM):Prop where
 h:IT X e m
structure JW(X:Cx)(e:acJ)(m:TM):Prop where
 h:PW X e (tT X m)
structure JA(X:Cx)(es:cc)(m:AM):Prop where
 h:IA X es m
structure JS(X:Cx)(st:ahH)(m:SM):Prop where
 h:IS X st m
structure JB(X:Cx)(st:eN)(m:SM):Prop where
 h:jh X st m
structure JG(X:Cx)(e:acJ)(g:GM):Prop where
 h:IG X e g
structure yM(X:Cx)(es:cc)(gs:List GM):Prop where
 h:ib X es (ut X gs)
structure JI(X:Cx)(tg iter:acJ)(im:IM):Prop where
 h:II X tg iter im
structure JO(X:Cx)(e:Option acJ)(m:OM):Prop where
 h:uw X e m
structure JF(X:Cx)(ifs:cc)(c:TM):Prop where
 h:PF X ifs (lQ X.K c)
section
variable{X:Cx}{N:a8}{sc:adB}{k:Nat}{a b c e o:acJ}{es rest:cc}{ma mb mc m mo:EM}{ta tb t:TM}{am:AM}{sa sb:SM}{st:ahH}{as bs body:eN}{p p2 pos pos':Pos}{g:GM}{gs:List GM}{im:IM}{tg iter:acJ}
theorem fH.Ze(B:fH X N sc)(i:Nat){x:Str}(hN:N[i]? =O x)(hv:jP sc x)(hd:(x==("__debug__":Str))=false)(hcd:(x==("__classdict__":Str))=false):JE X (.Name x pos) (aa i):=⟨B.var i hN hv hd hcd⟩
variable{j:Nat}
theorem ao{i:Int}:JE X (.Constant (.int i) j pos) (eC (.int i)):=⟨Uq⟩
theorem cK{x:Str}:JE X (.Constant (.str x) j pos) (eC (.str x)):=⟨Ur⟩
theorem iA{x:Bool}:JE X (.Constant (.bool x) j pos) (eC (.bl x)):=⟨W8⟩
theorem lb:JE X (.Constant .none j pos) (eC .aH):=⟨Us⟩
theorem sA(ha:JE X a ma):JE X (.UnaryOp .USub a pos) (mP lB ma):=⟨W9 T3 UP ha.h⟩
theorem gv(ha:JE X a ma)(hb:JE X b mb):JE X (.BinOp a .Add b pos) (ab addW ma mb):=⟨sI RD UU ha.h hb.h⟩
theorem sC(ha:JE X a ma)(hb:JE X b mb):JE X (.BinOp a .Sub b pos) (ab lC ma mb):=⟨sI T1 UQ ha.h hb.h⟩
theorem dz(ha:JE X a ma)(hb:JE X b mb):JE X (.BinOp a .Mod b pos) (ab bJ ma mb):=⟨sI Rf UR ha.h hb.h⟩
theorem fR(ha:JE X a ma)(hb:JE X b mb):JE X (.BinOp a .FloorDiv b pos) (ab cN ma mb):=⟨sI P9 US ha.h hb.h⟩
structure Cp(X:Cx)(op:CmpOp)(b:acJ)(f:W->W->Po W):Prop where
 ex:∃r,bS X (acr op) r/\dr X.K r f
 bm:acS op b=false
theorem i6:Cp X .Lt b dG:=⟨⟨_,WX,Bc⟩,pD _⟩
theorem Xp:Cp X .LtE b yH:=⟨⟨_,WY,Bc⟩,pD _⟩
theorem sN:Cp X .Gt b gr:=⟨⟨_,WZ,Bc⟩,pD _⟩
theorem eU.eq(B:eU X N sc k):Cp X .Eq b a9:=⟨⟨_,UX B.room.units,Xh⟩,pD _⟩
theorem eU.ne(B:eU X N sc k):Cp X .NotEq b dC:=⟨⟨_,UY B.room.units,Xi⟩,pD _⟩
theorem BG:Cp X .Is b jK:=⟨⟨_,T5,UV⟩,pD _⟩
variable{f:W->W->Po W}
theorem xp{op:CmpOp}(hc:Cp X op b f)(ha:JE X a ma)(hb:JE X b mb):JE X (.Compare a [op] [b] pos) (ab f ma mb):=let ⟨_,h1,h2⟩:=hc.ex;⟨Ut h1 h2 ha.h hb.h hc.bm⟩
theorem bt{op:CmpOp}(hc:Cp X op b f)(ha:JE X a ma)(hb:JE X b mb):JT X (.Compare a [op] [b] pos) (eT (ab f ma mb)):=let ⟨_,h1,h2⟩:=hc.ex;⟨Uu h1 h2 ha.h hb.h hc.bm⟩
theorem Qd{op jR:CmpOp}{f':W->W->Po W}(h1:Cp X op b f)(h2:Cp X jR c f')(hm:lastMarks [op,jR] [b,c]=false)(ha:JE X a ma)(hb:JE X b mb)(hc:JE X c mc):JT X (.Compare a [op,jR] [b,c] pos) (eT (sy f f' ma mb mc)):=
 let ⟨_,q1,q2⟩:=h1.ex;let ⟨_,q3,q4⟩:=h2.ex;⟨Qc q1 q2 q3 q4 ha.h hb.h hc.h hm⟩
theorem Vb{op:BoolOp}(ha:JE X a ma):JE X (.BoolOp op [a] pos) ma:=⟨Uz ha.h⟩
theorem Vc(ha:JE X a ma)(hb:JE X (.BoolOp .And (b::rest) pos) mb):JE X (.BoolOp .And (a::b::rest) pos) (tE ma mb):=⟨Uy ha.h hb.h⟩
theorem eZ{op:BoolOp}(ha:JT X a ta):JW X (.BoolOp op [a] pos) ta:=⟨Uw ha.h⟩
theorem mf(ha:JT X a ta)(hb:JW X (.BoolOp .And (b::rest) pos) tb):JW X (.BoolOp .And (a::b::rest) pos) (fc ta tb):=⟨Ux ha.h hb.h⟩
theorem fT(ha:JT X a ta)(hb:JW X (.BoolOp .Or (b::rest) pos) tb):JW X (.BoolOp .Or (a::b::rest) pos) (c9 ta tb):=⟨Xb ha.h hb.h⟩
theorem fh(h:JW X a ta):JT X a ta:=⟨h.h.pt⟩
theorem lc(ha:JT X a ta):JT X (.UnaryOp .Not a pos) (iz ta):=⟨Uv ha.h⟩
noncomputable def plainT:acJ->Bool
 | .Name .. =>true | .Call .. =>true | .Subscript .. =>true | .Constant .. =>true | .BinOp .. =>true
 | _=>false
theorem lg(hp:plainT a=true)(ha:JE X a ma):JT X a (h9 ma):=⟨by
 cases a <;> first | cases hp;done | exact UA ha.h⟩
theorem av:JA X [] ag:=⟨UH⟩
theorem Zf(h:isStar e=false)(he:JE X e m)(hr:JA X es am):JA X (e::es) (ae m am):=⟨Zd h he.h hr.h⟩
theorem cz{x1:Nat}(h:JA X es am):JE X (.Tuple es x1 pos) (bp am):=⟨UI h.h⟩
theorem dN(h:JA X es am):JE X (.List es pos) (b9 am):=⟨UJ h.h⟩
theorem AG:JO X Z sL:=⟨RP⟩
theorem AH(he:JE X e m):JO X (O e) (sM m):=⟨RQ he.h⟩
theorem BH{lo hi:Option acJ}{ml mh:OM}(he:JE X e m)(hl:JO X lo ml)(hh:JO X hi mh):JE X (.Subscript e (.Slice lo hi Z p2) pos) (uu m ml mh):=⟨Xm he.h hl.h hh.h⟩
theorem cL:JB X [] cj:=⟨Rq⟩
theorem aJ{rs:eN}(h1:JS X st sa)(h2:JB X rs sb):JB X (st::rs) (aA sa sb):=⟨P5 h1.h h2.h⟩
theorem aS(h1:JS X st sa):JB X [st] sa:=⟨Rr h1.h⟩
theorem bQ(he:JE X e m):JS X (.Return (O e) pos) (bB m):=⟨UB he.h⟩
noncomputable def Bg:acJ->Bool
 | .ListComp .. =>false | .SetComp .. =>false | .DictComp .. =>false
 | _=>true
theorem FN{x:Option acJ}{n:Nat}{env:Env}(h:Bg e=true):aeq e x n env=pure false:=by
 cases e <;> first | rfl | cases h
theorem iY(hn:Bg e=true)(he:JE X e m):JS X (.Expr e pos) (gc m):=⟨Rt he.h (FN hn)⟩
theorem cM(hc:JT X c t)(ha:JB X as sa)(hb:JB X bs sb):JS X (.If c as bs pos) (cb t sa sb):=⟨Xc hc.h ha.h hb.h⟩
theorem fH.bP(B:fH X N sc)(i:Nat){x:Str}(hN:N[i]? =O x)(hl:Loc sc x)(hn:Bg e=true)(he:JE X e m):JS X (.Assign [.Name x pos'] e pos) (aK m (gN i)):=⟨B.set i hN hl he.h (FN hn)⟩
theorem xq(he:JE X e m)(hg:JG X tg g)(hs:swapsWithSole [tg] e pos.line X.env=pure false:=by rfl)(hw:swappedStores [tg] e X.env=pure none:=by rfl)
  (h1:(acM [tg] X.env).map (·.2)=[agJ tg X.env]:=by rfl):JS X (.Assign [tg] e pos) (aK m g):=⟨UD he.h hg.h hs hw h1⟩
theorem fH.cu(B:fH X N sc)(i:Nat){x:Str}(hN:N[i]? =O x)(hl:Loc sc x):JG X (.Name x pos) (gN i):=⟨B.name i hN hl⟩
theorem nB:yM X [] []:=⟨RO⟩
theorem gW(h1:JG X e g)(h2:yM X es gs)(hs:(acM (e::es) X.env).map (·.2)=agJ e X.env::(acM es X.env).map (·.2):=by rfl):yM X (e::es) (g::gs):=⟨Qb h1.h h2.h hs⟩
theorem nI{n:Nat}(hc:X.calm=true)(h:yM X es gs)(hn:(acM es X.env).length=n:=by rfl)(dM:(acM es X.env).findIdx? (·.1)=none:=by rfl):JG X (.Tuple es j pos) (eA n gs):=⟨U5 hc h.h hn dM⟩
theorem Bd.gz(B:Bd X N sc k)(hi:JI X tg iter im)(hg:JG X tg g)(hb:JB X body sb)(hs:∀x,abX iter X.env x=pure x:=by intro _;rfl):JS X (.For tg iter body [] pos) (d9 im g sb):=⟨B.Zc hi.h hg.h hb.h hs⟩
theorem Bd.xr(B:Bd X N sc k)(hc:JT X c t)(hb:JB X body sb):JS X (.While c body [] pos) (iq t sb):=⟨B.U6 hc.h hb.h⟩
theorem l9(hg:Gl X "range")(hm:X.mg "range"=Z)(hn:isStar a=false)(ha:JA X [a] am):JI X tg (.Call (.Name "range" p) [a] [] pos) (eB am):=⟨OR hg hm ha.h (fQ hn)⟩
theorem E4(hg:Gl X "range")(hm:X.mg "range"=Z)(hn:isStar a=false)(KI:isStar b=false)(ha:JA X [a,b] am):JI X tg (.Call (.Name "range" p) [a,b] [] pos) (lN am):=⟨OS hg hm ha.h (by rw[fQ hn,fQ KI];rfl) (fQ KI)⟩
theorem jz{k:Nat}{f:abc}{fd:acG}{ps:a8}{fm:ap->Mo W}{x:Str}(hn:eJ (e::es)=true)(dq:(x==("__debug__":Str))=false)(F:ck X.prog X.w X.K X.mg X.base (bN X.prog X.w) k f fd ps (cE X.K X.mg ↑ps fm))(hl:∀{xs:ap} {ph:PH},↑xs≠↑ps->fm xs ph=.no)(hr:df k X.A)(hg:Gl X x)(hm:X.mg x=O (.ref f))(hk:acT X.K (.ref f)=true)(hb:Binds X.K fd ps [])(ha:JA X (e::es) am):JE X (.Call (.Name x p) (e::es) [] pos) (bh fm am):=⟨U7 hn dq F hl hr hg hm hk hb ha.h⟩
variable{id:String}
theorem nJ{x:Str}{r:aE->Hp->VK->Prop}{fp:ap->Po W}(cw:eJ (e::es)=true)(hn:x≠"__name__")(dq:(x==("__debug__":Str))=false)(hc:c4 X (.builtin id) r)(hi:gK X.K r fp)(hg:Gl X x)(hm:X.mg x=Z)(hv:acv x=O (.builtin id))(ha:JA X (e::es) am):JE X (.Call (.Name x p) (e::es) [] pos) (aV fp am):=⟨U8 cw hn dq hc hi hg hm hv ha.h⟩
variable{T:String}
theorem sD{x:Str}{r:aE->Hp->VK->Prop}{fp:ap->Po W}(cw:eJ (e::es)=true)(hn:x≠"__name__")(dq:(x==("__debug__":Str))=false)(hc:c4 X (.type T) r)(hi:gK X.K r fp)(hg:Gl X x)(hm:X.mg x=Z)(hv:acv x=O (.type T))(ha:JA X (e::es) am):JE X (.Call (.Name x p) (e::es) [] pos) (aV fp am):=⟨U9 cw hn dq hc hi hg hm hv ha.h⟩
theorem Bh{name:Str}{r:V->List V->Hp->VK->Prop}{ty:W->PH->Bool}{f:W->List W->Po W}(cw:eJ (e::es)=true)(bV:decide ((e::es).length<30)=true)(pa:afw T)(slot:Slot T name id)(iH:typeOf (.builtin id)=pure (.type "method_descriptor"))(hm:oD X id r)(ht:oM X.K T ty)(hi:lO X.K T r f)(ho:JE X o mo)(ha:JA X (e::es) am)(gI:adT o name X.env (aez o X.env)=aez o X.env:=by rfl)(gJ:(p.endLine==pos.line)=true:=by rfl):JE X (.Call (.Attribute o name p) (e::es) [] pos) (dW ty f mo am):=⟨Va cw bV pa slot iH hm ht hi ho.h ha.h gI gJ⟩
theorem RS{name:Str}{r:V->List V->Hp->VK->Prop}{ty:W->PH->Bool}{f:W->List W->Po W}(pa:afw T)(slot:Slot T name id)(iH:typeOf (.builtin id)=pure (.type "method_descriptor"))(hm:oD X id r)(ht:oM X.K T ty)(hi:lO X.K T r f)(ho:JE X o mo)(gI:adT o name X.env (aez o X.env)=aez o X.env:=by rfl)(gJ:(p.endLine==pos.line)=true:=by rfl):JE X (.Call (.Attribute o name p) [] [] pos) (dW ty f mo ag):=⟨UN pa slot iH hm ht hi ho.h gI gJ⟩
theorem pM{c:Str}{cn:String}{p2:Pos}(hk:n9 X.K cn)(hv:acv c=O (.type cn))(hn:c≠"__name__")(hd:(c==("__debug__":Str))=false)(dM:isStar e=false)(hg:Gl X "isinstance")(hm:X.mg "isinstance"=Z)(CQ:Gl X c)(CS:X.mg c=Z)(he:JE X e m):JE X (.Call (.Name "isinstance" p) [e,.Name c p2] [] pos) (jW cn m):=⟨Xg hk hv hg hm CQ CS he.h hn hd (by rw[fQ dM,fQ rfl];rfl) (fQ rfl) (any_none rfl)⟩
theorem ir:JF X [] cF:=⟨U3⟩
theorem xt(h:JT X c t):JF X [c] t:=⟨U4 h.h⟩
theorem me{scope:adB}{ifs:cc}{N':a8}{cap:eO}(hc:X.calm=true)(cp:kL X N' cap scope)(hi:JI X tg iter im)(hg:∀cl C aD aM ex,JG (blk X N' scope cl C aD aM ex) tg g)(ht:∀cl C aD aM ex,JF (blk X N' scope cl C aD aM ex) ifs t)(he:∀cl C aD aM ex,JE (blk X N' scope cl C aD aM ex) e m)(hs:∀x,abX iter X.env x=pure x:=by intro _;rfl):JE X (.ListComp e [⟨tg,iter,ifs,0⟩] scope pos) (cU im cap g t m):=
 ⟨RM hc cp hi.h (λcl C aD aM ex=>(hg cl C aD aM ex).h) (λcl C aD aM ex=>(ht cl C aD aM ex).h) (λcl C aD aM ex=>(he cl C aD aM ex).h) hs⟩
theorem nC{scope:adB}{ifs:cc}{N':a8}{cap:eO}{i:Nat}{x:Str}(hN:X.N.Nodup)(fZ:X.N[i]? =O x)(jY:jG X x)(hx:X.env.scope.names.lookup x=O .local)(hc:X.calm=true)(cp:kL X N' cap scope)(hi:JI X tg iter im)(hg:∀cl C aD aM ex,JG (blk X N' scope cl C aD aM ex) tg g)(ht:∀cl C aD aM ex,JF (blk X N' scope cl C aD aM ex) ifs t)(he:∀cl C aD aM ex,JE (blk X N' scope cl C aD aM ex) e m)(ur:aeq (.ListComp e [⟨tg,iter,ifs,0⟩] scope p) (O (.Name x pos')) pos.line X.env=pure true)(hs:∀x,abX iter X.env x=pure x:=by intro _;rfl) :
  JS X (.Assign [.Name x pos'] (.ListComp e [⟨tg,iter,ifs,0⟩] scope p) pos) (aK (cU im cap g t m) (gN i)):=
 ⟨RN hN fZ jY hx hc cp hi.h (λcl C aD aM ex=>(hg cl C aD aM ex).h) (λcl C aD aM ex=>(ht cl C aD aM ex).h) (λcl C aD aM ex=>(he cl C aD aM ex).h) ur hs⟩
end
open PySem PySem.Spec PyProof.Rows L2 PySem.W Builtin.ObjectAttr Builtin.Getset_descriptor
noncomputable def C2(x:XC):Mo α:=λph=>.ex x ph
open PySem PySem.Spec PyProof.Rows L2 PySem.W
structure tP(X:Cx):Prop where
 st:X.stack=X.env::X.outer
 fr:X.env.frame=O X.env.locals
 ex:X.ex=[]
theorem Qe{n:Nat}(ha:H a=Z):Step K φ n H φ n (upd H a o):=by
 refine⟨aaN _,λ_ _=>rfl,λc xs h=>?_,λc ob u h=>by rw[aI (λz=>by rw[z,ha] at h;cases h)];exact h⟩;rw[aI (λz=>by rw[z,ha] at h;cases h)];exact h
theorem FO(h:aC K φ ph H)(ha:H a=Z):aC K φ ph (upd H a o):=
 ⟨λi p e=>by
  obtain⟨x,hx,_⟩:=h.at (aaG.mp e).1;exact(h.hp i p e).mono (Qe ha) (aI λz=>by rw[z,ha] at hx;cases hx),h.inj,λp hm=>(h.tb p hm).new ha⟩
variable{P:abI}
theorem GF{w:acg}{mg:dE}{base:ade}{x qual:Str}{st:ahH}{f:abc}{fd:acG}{N ps:a8}{k n np:Nat}{body:SM}(hn:↑N=n)(hp:↑ps=np)(F:iI K x qual st f fd)(S:cZ N ps (aQ st))(ll:∀{X:Cx},X.prog=P->X.w=w->X.K=K->X.mg=mg->X.base=base->Bd X N (aQ st) k->tP X->X.env.scope=aQ st->JB X (eE st) body):ck P w K mg base (bN P w) (k+1) f fd ps (cE K mg np (fM body n np)):=by
 subst hn hp;exact UL F S λbC A outer s H E hr=>(ll (X:=eh (bN P w) P w K mg base N qual (aQ st) f bC A outer s H E) rfl rfl rfl rfl rfl ⟨⟨⟨rfl,λ_ z=>z,λ_ z=>z,λ_ z=>z,λ_ _=>⟨.inl rfl,λ_ _ _ _ _=>trivial⟩,S.nd⟩,rfl,hr⟩,ahP⟩ ⟨rfl,rfl,rfl⟩ rfl).h
noncomputable def jw(o:Obj):d7:=match o.cls,o.data with
 | .type t,.fields vs=>if t="code" then(match(vs[11]? :hV),vs.getD 18 .none,vs.getD 7 .none,vs.getD 9 .none,vs.getD 10 .none with
  | some (.ref P),.str _ _,.int _ _,.bool _,.int _ _=>O P
  | _,_,_,_,_=>Z) else Z
 | _,_=>Z
variable{h:ade}
theorem E5{c P:abc}{o:Obj}(e:h.get? c=O o)(t:jw o=O P)(hn:c≠P):aes h c P:=by
 unfold jw at t;split at t
 ·rename_i t0 vs h1 h2;split at t
  ·rename_i ht;split at t
   ·rename_i P' f tf fl tg b tx tt g1 g2 g3 g4 g5;cases t;refine⟨o,vs,f,tf,fl,tg,b,tx,tt,e,by rw[h1,ht],h2,g1,?_,g2,g3,g4,g5,hn⟩;rw[abK,g1];rfl
   ·cases t
  ·cases t
 ·cases t
noncomputable def nS(K:aaJ)(b:abc):Bool:=(eG K).any λp=>p.2.2==b
theorem FP{b:abc}(h:nS K b=true):∃p∈eG K,p.2.2=b:=by
 obtain⟨p,h1,h2⟩:=acB.mp h;exact⟨p,h1,eq_of_beq h2⟩
theorem O0{p:Str×abc×abc}(h:p∈eG K):nS K p.2.2=true:=acB.mpr ⟨p,h,beq_self_eq_true _⟩
noncomputable def H0(K:aaJ)(a:abc)(o:Obj)(xs:aE):Hp:=λb=>if nS K b=true then O (.cW #[]) else if b=a/\K.lookup a=Z then O (.aL o (.lst xs)) else Z
section
variable{Pg:abI}{w:acg}{K:aaJ}{mg mb:dE}{k:Nat}{fa a:abc}{fd:acG}{x:Str}{bT:aaR}{vs:aT}{ns:bI}{fm:ap->Mo W}
theorem Qf(KX:K.In bT.heap)(cw:bT.heap.Ns abr mg)(hb:bT.heap.Ns afv mb)(oI:∀x:Str,x≠"__name__"->mb x=acv x)(Zg:bT.heap.NoLimit)(hbm:∃bm ob,mg "__builtins__"=O (.ref bm)/\bm≠afv/\bT.heap.get? bm=O ob/\ob.cls=.type "module"/\ob.dict=O afv/\ob.data=.plain)(hg:bT.gens= #[])(hT:∀p∈eG K,aes bT.heap p.2.1 p.2.2/\bT.heap.get? p.2.2=O (adk #[]))(hK:ahm K=true)(ha:bT.heap.get? a=O { cls:=.type "list",data:=.seq vs.toArray })(hi:agL vs ns)(hl:↑ns<=63)(hr:df k callerA)
  (F:∀base:ade,K.In base->base.Ns abr mg->ck Pg w K mg base (bN Pg w) k fa fd [x] (cE K mg 1 fm)) (Xq:∀(s:aaR) (u:abh),BindsTo s fd ⟨[u],[]⟩ [(x,u)])
  (good:∃ph',fm [.fl (ns.map W.int)] []=.ok (.bl true) ph') :
  ahJ (abG Pg w) callerA (.call (.ref fa) ⟨[.ref a],[]⟩) (λr s'=>r=.ok (.ret (.bool true))/\OldK bT.heap s'.heap/\s'.os=bT.os/\ago s'.gens) bT:=by
 have rv:=EY hi;have Zh:=↑hi;have fF:↑ns<=sizeLine:=abw hl (by decide);have tabOf:∀{b:abc},nS K b=true->bT.heap.get? b=O (adk #[]):=λh=>by
  obtain⟨p,h1,rfl⟩:=FP h;exact(hT p h1).2
 have free:∀{b:abc} {o:Obj},bT.heap.get? b=O o->o≠adk #[]->(b=a->K.lookup a≠Z)->H0 K a { cls:=.type "list",data:=.seq vs.toArray } (ns.map V.int) b=none:=λ{b o} e n1 n2=>by
  unfold H0;rw[if_neg (λh=>n1 (abE (e.symm.trans (tabOf h)))),if_neg (λh=>n2 h.1 h.2)]
 have BI:∀{b:abc} {o:Obj},bT.heap.get? b=O o->o.cls≠.none->o.cls≠.type "list"->H0 K a { cls:=.type "list",data:=.seq vs.toArray } (ns.map V.int) b=none:=λ{b o} e n1 n2=>free e (λz=>n1 (by rw[z])) λz=>by
  subst z;rw[ha] at e;cases e;exact absurd rfl n2
 have BJ:∀{b:abc} {o:Obj} {es:Array acV} {ep:Nat},bT.heap.get? b=O o->o.data=.dict es ep->H0 K a { cls:=.type "list",data:=.seq vs.toArray } (ns.map V.int) b=none:=λ{b o es ep} e d=>free e (λz=>by rw[z] at d;cases d) λz=>by
  subst z;rw[ha] at e;cases e;have d':Data.seq vs.toArray _=Data.dict es ep:=d;cases d'
 have na:nS K a=false:=by
  cases q:nS K a with
  | false=>rfl
  | true=>have:=tabOf q;rw[ha] at this;cases this
 revert free BI BJ
 generalize eH:H0 K a { cls:=.type "list",data:=.seq vs.toArray } (ns.map V.int)=H;intro free BI BJ;have Ht:∀b u,H b=O u->(nS K b=true/\u=.cW #[])\/(b=a/\u=.aL { cls:=.type "list",data:=.seq vs.toArray } (.lst (ns.map V.int))):=λb u e=>by
  rw[<- eH] at e;unfold H0 at e;split at e
  ·rename_i h;cases e;exact .inl ⟨h,rfl⟩
  ·split at e
   ·rename_i h;cases e;exact .inr ⟨h.1,rfl⟩
   ·cases e
 have aB:cS Pg w H bT.heap:=λb u e=>by
  rcases Ht b u e with⟨h,rfl⟩ | ⟨rfl,rfl⟩
  ·exact tabOf h
  ·exact⟨ha,by rw[aaI];exact fF,vs,_,rv,ha⟩
 have tb:∀p∈eG K,jJ H p.1 p.2.2:=λp hp=>⟨#[],by rw[<- eH];exact if_pos (O0 hp),trivial,λpos v e=>nomatch e⟩
 have hS:xZ K H a (ns.map V.int):=by
  cases q:K.lookup a with
  | some o=>
   have e:=KX a o q;rw[ha] at e;cases e;exact .inr ⟨_,vs.toArray,_,q,rfl,rfl,rfl,by rw[aaV,Zh];exact fF,by simpa using rv⟩
  | none=>exact .inl ⟨_,by rw[<- eH];unfold H0;rw[if_neg (by rw[na];simp),if_pos ⟨rfl,q⟩]⟩
 have C3:∀{b:abc} {o:Obj},bT.heap.get? b=O o->H b=Z->(lx bT.heap H).get? b=O o:=λe n=>PR e n
 have yN:∀{b:abc} {m:dE},bT.heap.Ns b m->(lx bT.heap H).Ns b m:=λ{b m} ⟨o,es,ep,e,d,r⟩=>⟨o,es,ep,C3 e (BJ e d),d,r⟩
 have KJ:K.In (lx bT.heap H):=λb o e=>C3 (KX b o e) (free (KX b o e) (λz=>by
  have h2:=abR.mp hK (b,o) (PySem.W.mem_of_lookupK e);subst z;exact absurd (show false=true from h2) abg) λz q=>by rw[<- z,e] at q;cases q)
 have hM:Mod K mg (lx bT.heap H):=⟨KJ,yN cw,⟨mb,yN hb,oI⟩,let ⟨mc,h1,h2⟩:=Zg;⟨mc,yN h1,h2⟩,
  let ⟨bm,ob,b1,b2,b3,b4,b5⟩:=hbm;⟨bm,ob,b1,b2,C3 b3 (BI b3 (by rw[b4];exact λz=>nomatch z) (by rw[b4];exact λz=>absurd (Value.type.inj z) (by decide))),b4,b5⟩⟩
 have e0:tv Pg w K mg (lx bT.heap H) callerA [] bT H:=⟨rfl,hM,λb o e=>Q3 e,Nat.le_of_eq (OF _ _),trivial,λb hb=>absurd (show b∈([]:List abc) from hb) (by simp),aB,.of_eq hg⟩
 obtain⟨ph',eg⟩:=good;refine aef ((F _ KJ (yN cw)).run callerA [] bT H ⟨[.ref a],[]⟩ [.ref a] [.ref a] (λv _=>v=.bl true) (λ_ _ _=>False) hr e0 (Xq bT (.ref a)) (.cons rfl .nil)
  ⟨rfl,λ_=>0,[],[.fl (ns.map W.int)],⟨λi o e=>by simp at e,λi j hi=>absurd hi (by simp),tb⟩,.cons (.fl hS (Gz ns)) .nil,?_⟩) λr s' h=>?_
 ·rw[eg];intro ak H' v _ _ r;cases r;rfl
 ·cases r with
  | error e=>obtain⟨_,_,_,_,z⟩:=h;exact z.elim
  | ok fl=>
   cases fl with
   | next=>exact ael h
   | brk=>exact ael h
   | cont=>exact ael h
   | ret u=>
    obtain⟨v,H',os,bare,un,yh,r',q⟩:=h;have q':v=.bl true:=q;subst q';obtain rfl:u=agc true:=r';refine⟨rfl,⟨λb o e=>?_,λb o e=>un.there b o e (by simp)⟩,os,bare⟩;cases q:H b with
    | none=>exact .inl (un.keep b o e q (λz=>absurd (show b∈([]:List abc) from z) (by simp)) (by simp))
    | some u=>
     rcases Ht b u q with⟨h1,rfl⟩ | ⟨rfl,rfl⟩
     ·obtain⟨more,z⟩:=un.fV b _ q;have e2:s'.heap.get? b=O (adk (#[]++more)):=yh b _ z;obtain⟨p,hp,rfl⟩:=FP h1;have e3:=(hT p hp).2;rw[e] at e3;cases e3;exact .inr (.inl ⟨((hT p hp).1.tab (hT p hp).2).isCodeTable,rfl,#[],more,rfl,e2⟩)
     ·obtain⟨e2,_⟩:=yh _ _ (un.ee _ _ _ q);rw[ha] at e;cases e;exact .inl e2
end
noncomputable def Vd(K:aaJ)(ts:List abc):Bool:=(eG K).all λp=>ts.contains p.2.2&&(match K.lookup p.2.1 with
 | some o=>jw o==O p.2.2
 | none=>false)&& !(p.2.1==p.2.2)
theorem RT{ts:List abc}(hT:Vd K ts=true)(KX:K.In h)(hP:∀P∈ts,h.get? P=O (adk #[]))(p:Str×abc×abc)(hp:p∈eG K):aes h p.2.1 p.2.2/\h.get? p.2.2=O (adk #[]):=by
 have z:=abR.mp hT p hp;rw[aaZ,aaZ] at z;obtain⟨⟨z1,z2⟩,z3⟩:=z;refine⟨?_,hP _ (List.contains_iff_mem.mp z1)⟩;cases e:K.lookup p.2.1 with
 | none=>rw[e] at z2;cases z2
 | some o=>
  rw[e] at z2;exact E5 (KX _ _ e) (eq_of_beq z2) λq=>by rw[q] at z3;simp at z3
theorem RU{l:agQ}{q:abI}{loose:a8}{XP:(Str->Option abh)->ade->Prop}{YP:acg->ade->Prop}{d:DefRec}{K:Params->aaJ}{x:Str}{fm:ap->Mo W}(k:Nat)(good:∀ns:bI,↑ns<=63->∃ph',fm [.fl (ns.map W.int)] []=.ok (.bl true) ph')(hn:l.most=O 63)(uo:d.params.defaults=[])(hr:df k callerA)(hY:∀(w:acg) (h:ade),YP w h->(K w.params).In h)(hK:∀w:acg,ahm (K w.params)=true)(hT:∀(w:acg) (h:ade),YP w h->∀p∈eG (K w.params),aes h p.2.1 p.2.2/\h.get? p.2.2=O (adk #[]))(F:∀(w:acg) (mg:dE) (fa:abc) (h:ade),(K w.params).In h->h.Ns abr mg->mg d.name=O (.ref fa) → ∃fd:acG,(∀(s:aaR) (u:abh),BindsTo s fd ⟨[u],[]⟩ [(x,u)])/\∀base:ade,(K w.params).In base->base.Ns abr mg->ck l.prog w (K w.params) mg base (bN l.prog w) k fa fd [x] (cE (K w.params) mg 1 fm)):PySem.W.WalkO q loose XP YP l.row.toRowW d [] (λf vs=>PySem.call f vs):=by
 refine Kp.NH hn uo λw aD bT mg mb fa o pm cd doc a vs ns G Y ho hd hcd hmg B9 BD bV hg=>?_
 have KX:=hY w _ Y;obtain⟨fd,hb,hF⟩:=F w mg fa _ KX G.T.g hmg;exact Qf KX G.T.g G.T.b G.T.builtins G.T.nolimit G.T.bmain hg (hT w _ Y) (hK w) B9 BD bV hr hF hb (good ns bV)
noncomputable def yO:W->Option Bool
 | .bl b=>O b
 | _=>Z
noncomputable def qd(w:W)(ph:PH):Option (List Bool):=if du w ph=true then(dm w ph).bind (ba yO) else Z
noncomputable def aaw:ap->Po W:=λxs ph=>match xs with
 | [w]=>(qd w ph).map λbs=>(.bl (bs.any id),ph)
 | _=>Z
noncomputable def tQ:ap->Po W:=λxs ph=>match xs with
 | [w]=>(qd w ph).map λbs=>(.bl (bs.all id),ph)
 | _=>Z
section
variable{X:Cx}
theorem RV(bs:List Bool):((abp ↑bs).all λi=>(bs[i]?).getD true)=bs.all id:=by
 rw[acH,abR,abR];constructor
 ·intro h b hb;obtain⟨i,hi,q⟩:=List.getElem_of_mem hb;have:=h i (abv.mpr hi);simp only[abP hi,aew,q] at this;exact this
 ·intro h i hi;have hi:=abv.mp hi;simp only[abP hi,aew];exact h _ (List.getElem_mem hi)
theorem Qg{h h':ade}{o:Obj}(hk:∀b x,b∉[h.objs.size]->(h.push o).get? b=O x->h'.get? b=O x):∀b x,h.get? b=O x->h'.get? b=O x:=
 λb x e=>hk b x (λhm=>by rw[aaT.mp hm] at e;exact acR _ (aaU e)) (aaO _ e)
theorem Ol(hc:X.calm=true):c4 X (.builtin "all") (λxs H Q=>∃p,∃bs:List Bool,xs=[.ref p]/\bH X.K H p (bs.map V.bl)/\Q (.bl (bs.all id)) H):=by
 intro pins s σ H xs us Q I r h;obtain⟨p,bs,rfl,hq,q⟩:=h;obtain⟨u,rfl,rx⟩:=vals1 r;cases rx;obtain⟨its,r',pl,hz⟩:=I.list hq;have bV:=↑r';rw[aaI] at bV;have cJ:p<s.heap.objs.size:=by obtain⟨_,e,_⟩:=pl.isList;exact aaU e
 refine call_all_walk (aeU pl.isList ?_);refine⟨s.heap.objs.size,[s.heap.objs.size,p],[s.heap.objs.size],its.toArray.size,_,_,λi=>(bs[i]?).getD true,rfl,Walks.list (A:=X.A.in1) (I.ok.hd hc) _ p (abu cJ) its.toArray,
  ⟨⟨_,abl _ rfl,rfl,rfl⟩,pl.isList.push _⟩,λi v s' Q' E' hP hQ=>?_,λh' tk hk=>?_⟩
 ·have hP:its[i]? =O v:=by simpa using hP
  have hi:i<↑bs:=by rw[bV];exact(aaG.mp hP).1
  obtain⟨u,hu,ru⟩:=r'.get (i:=i) (x:=.bl bs[i]) (by simp[hi]);rw[hP] at hu;cases hu;have ru:v=.bool bs[i]:=ru;subst ru;simp only[abP hi,aew] at hQ;exact acL hQ
 ·rw[aaV,<- bV,RV];exact⟨.bl _,H,I.kept (Qg hk),rfl,q⟩
theorem AI{K:aaJ}{φ:Nat->abc}{n:Nat}{H:Hp}:∀{ws:ap} {vs:aE} {bs:List Bool},aN K φ n H ws vs->ba yO ws=O bs->vs=bs.map V.bl
 | _,_,_,.nil,e=>by cases e;rfl
 | w::ws,_,bs,.cons h r,e=>by
  unfold ba at e;split at e
  ·rename_i b Kx e1 e2;cases e;have q:=AI r e2;unfold yO at e1;cases h <;> cases e1
   rw[q];rfl
  ·cases e
theorem Qh{K:aaJ}{φ:Nat->abc}{ph:PH}{H:Hp}{w:W}{v:V}{bs:List Bool}(hH:aC K φ ph H)(r:aF K φ ↑ph H w v)(e:qd w ph=O bs):∃p,v=.ref p/\bH K H p (bs.map V.bl):=by
 unfold qd at e;split at e
 ·rename_i hL;cases r with
  | ref hi=>
   unfold du at hL;simp only at hL;split at hL
   ·rename_i ws hw;obtain⟨vs,hv,rs⟩:=hH.hp _ _ hw;simp only[dm,hw,acn] at e;rw[AI rs e] at hv;exact⟨_,rfl,bH.of hv⟩
   ·cases hL
  | fl h rs=>
   simp only[dm,acn] at e;have q:=AI rs e;subst q;exact⟨_,rfl,h.sq⟩
  | _=>cases hL
 ·cases e
theorem Ve{K:aaJ}:gK K (λxs H Q=>∃p,∃bs:List Bool,xs=[.ref p]/\bH K H p (bs.map V.bl)/\Q (.bl (bs.all id)) H) tQ:=by
 intro φ ph H xs vs w ph' Q hH r e k;unfold tQ at e;split at e
 ·rename_i x;cases q:qd x ph with
  | none=>rw[q] at e;cases e
  | some bs=>
   rw[q] at e;cases e;cases r with
   | cons r r'=>
    cases r';obtain⟨p,rfl,hs⟩:=Qh hH r q;exact⟨p,bs,rfl,hs,k φ H _ hH Step.refl (.bl _)⟩
 ·cases e
end
noncomputable def nD:W->List W->Po W:=λx xs ph=>match x,xs with
 | .ref i,[.ref j]=>match ph[i]?,ph[j]? with
  | some (.lst ws),O (.lst us)=>if ↑ws+↑us<=abd then O (.aH,ph.set i (.lst (ws++us))) else Z
  | _,_=>Z
 | _,_=>Z
theorem E6:lO K "list" Gx nD:=by
 intro φ ph H x xs vx vs w ph' Q hH rx rs e k;unfold nD at e;split at e
 ·rename_i i j;split at e
  ·rename_i ws us hw hu;split at e
   ·rename_i hz;cases e;cases rx with
    | ref hi=>
     cases rs with
     | cons ry rr=>
      cases rr;cases ry with
      | ref hj=>
       obtain⟨xs,hv,r⟩:=hH.hp _ _ hw;obtain⟨ys,ux,r'⟩:=hH.hp _ _ hu;obtain⟨q1,q2⟩:=rT hH hw (r.append r');exact⟨_,_,xs,ys,rfl,rfl,hv,ux,by rw[<- ↑r,<- ↑r'];exact hz,k φ _ _ q1 q2 .aH⟩
   ·cases e
  ·cases e
 ·cases e
noncomputable def xI(w:W):Po (ap×(PH->Bool)):=λph=>match w with
 | .tup ws=>O ((ws,λ_=>true),ph)
 | w=>mv w ph
noncomputable def cV(m:EM):IM:=λσ=>au (m σ) λw=>lift (xI w)
variable{m:EM}
theorem Xr{σ:L2.St}{R:It->Hp->Prop}(h:tI X (cV m) σ H R):tI X (yb m) σ H R\/tI X (BF m) σ H R:=by
 obtain⟨φ,ph,ws,hH,hS,h⟩:=h;unfold cV at h;rw[c3] at h;cases q:m ws ph with
 | no=>rw[q] at h;exact h.elim
 | ex x ph'=>
  refine .inl ⟨φ,ph,ws,hH,hS,?_⟩;unfold yb;rw[c3,q];rw[q] at h;exact h
 | ok w ph'=>
  rw[q] at h;have h:(lift (xI w) ph').Run _ _:=h;by_cases hw:∃us,w=.tup us
  ·obtain⟨us,rfl⟩:=hw;refine .inr ⟨φ,ph,ws,hH,hS,?_⟩;unfold BF;rw[c3,q];exact h
  ·refine .inl ⟨φ,ph,ws,hH,hS,?_⟩;unfold yb;rw[c3,q];have e:xI w=mv w:=by
    funext p
    cases w <;> first | rfl | exact absurd ⟨_,rfl⟩ hw
   rw[e] at h;exact h
variable{tg:acJ}
theorem fC{e:acJ}(hl:JE X e m):JI X tg e (cV m):=⟨by
 intro pins s σ H R I h
 rcases Xr h with h | h
 ·exact Rx hl.h pins s σ H R I h
 ·exact UG hl.h pins s σ H R I h⟩
section
variable{X:Cx}{pins:List (abc×Obj)}{σ:L2.St}{H:Hp}{s:aaR}{h':ade}
theorem RW{t':Nat}{fp:List abc}{T:abc}{o:HO}(I:Inv X pins σ H s)(k:∀b u,b∉fp->s.heap.get? b=O u->h'.get? b=O u)(hf:∀b∈fp,hZ X pins H b)(hp:s.heap.objs.size<=T)(new:cY X.prog X.w (upd H T o) h' T o):Inv X pins σ (upd H T o) { s with heap:=h',toks:=t' }:=by
 have hn:=I.aB.fresh hp;have neT:∀b u,s.heap.get? b=O u->b≠T:=λb u e=>abu (aaS (aaU e) hp)
 have mK:∀b u,H b=O u->b∉fp:=λb u e z=>by rw[(hf b z).1] at e;cases e
 refine I.step (g':=s.gens) (d':=s.drawn) (ch:=fp) (λb hb=>?_) (λb u _ _ hc e _=>k b u hc e) (λb u _ _ hc e _=>⟨u.slots,k b u hc e⟩) (λb u _ e n=>by rw[aI (neT b u e)];exact n)
  (λb u hc e=>⟨u,k b u hc e⟩) (λb xs e=>by rw[aI (cC e hn)];exact e) (λb u v e=>by rw[aI (cC e hn)];exact e) (λb ps e=>⟨#[],by rw[aI (cC e hn),e];simp⟩) (λm hm=>?_) (λb u e=>?_) I.bare
 ·obtain⟨_,f1,_,f3,f4,f5⟩:=hf b hb;exact⟨f3,f1,f4,f5⟩
 ·obtain⟨u,es,ep,ho,r⟩:=hm;exact⟨u,es,ep,k _ u (λz=>(hf _ z).2.1 rfl) ho,r⟩
 ·by_cases hb:b=T
  ·subst hb;rw[bX] at e;cases e;exact new
  ·rw[aI hb] at e;refine(I.aB b u e).gL (λc v hc q=>k c v ?_ q) (λc q=>by rw[aI (cC q hn)];exact q) λc xs q=>by rw[aI (cC q hn)];exact q
   rcases hc with z | z
   ·rw[z];exact mK b u e
   ·exact mK c _ z
theorem GG{t':Nat}{fp:List abc}(I:Inv X pins σ H s)(k:∀b u,b∉fp->s.heap.get? b=O u->h'.get? b=O u)(hf:∀b∈fp,hZ X pins H b):Inv X pins σ H { s with heap:=h',toks:=t' }:=by
 have mK:∀b u,H b=O u->b∉fp:=λb u e z=>by rw[(hf b z).1] at e;cases e
 refine I.step (g':=s.gens) (d':=s.drawn) (ch:=fp) (λb hb=>?_) (λb u _ _ hc e _=>k b u hc e) (λb u _ _ hc e _=>⟨u.slots,k b u hc e⟩) (λb u _ e n=>n)
  (λb u hc e=>⟨u,k b u hc e⟩) (λb xs e=>e) (λb u v e=>e) (λb ps e=>⟨#[],by rw[e];simp⟩) (λm hm=>?_) (λb u e=>?_) I.bare
 ·obtain⟨_,f1,_,f3,f4,f5⟩:=hf b hb;exact⟨f3,f1,f4,f5⟩
 ·obtain⟨u,es,ep,ho,r⟩:=hm;exact⟨u,es,ep,k _ u (λz=>(hf _ z).2.1 rfl) ho,r⟩
 ·refine(I.aB b u e).gL (λc v hc q=>k c v ?_ q) (λ_ q=>q) λ_ _ q=>q
  rcases hc with z | z
  ·rw[z];exact mK b u e
  ·exact mK c _ z
end
noncomputable def KN(K:aaJ)(a:abc):It:=
 ⟨λi H=>∃xs x,bH K H a xs/\xs[i]? =O x,λi H x H'=>∃T y,x=.ref T/\H T=Z/\H'=upd H T (.tup [.int i,y])/\∀xs,bH K H a xs->xs[i]? =O y,λi H=>∃xs,bH K H a xs/\↑xs<=i⟩
variable{j:Nat}{pos:Pos}
theorem O1{w:acg}{mC:cc}(a e it:abc)(KO:e≠it):Turn P w K (.Tuple mC j pos) (KN K a) [e,it] e (λi h=>(∃old,IsEnum h e it (i:Int) old)/\h.IsListIter it a i) where
 mem:=by simp
 obj:=λi h st b hb=>by
  obtain⟨⟨old,he⟩,o,e1,c,d⟩:=st
  rcases abk.mp hb with rfl | hb
  ·exact⟨_,he,λv z=>by cases z⟩
  ·have:b=it:=by simpa using hb
   subst this;exact⟨o,e1,λv z=>by rw[d] at z;cases z⟩
 keep:=λi h h' st k=>⟨let ⟨old,he⟩:=st.1;⟨old,k e (by simp) _ he⟩,st.2.at λo q=>k it (by simp) o q⟩
 item:=by
  intro X hP hw hK hc i pins s σ H E I hf st hg;subst hP hw hK;obtain⟨⟨old,he⟩,hit⟩:=st;obtain⟨xs,x,hq,hx⟩:=hg;obtain⟨its,rv,p,hz⟩:=I.list hq;obtain⟨u,hu,ru⟩:=rv.get hx;refine wpAny_pyNext_enum_item he hit p.isList (x:=u) (by simpa using hu) KO λh1 ho jL hT hsz hk=>⟨_,rfl,?_⟩
  refine wpAny_letOwnedTupleGo_enum ho λh2 he2 ic=>?_
  have kk:∀b o,b∉[e,it]->s.heap.get? b=O o->h2.get? b=O o:=λb o hb q=>by
   have gE:b≠e:=λz=>hb (by simp[z])
   have kQ:b≠it:=λz=>hb (by simp[z])
   exact(ic.2 b gE).trans (hk b o gE kQ q)
  have mN:s.heap.objs.size≠e:=acD (aaU he);have new:cY X.prog X.w (upd H s.heap.objs.size (.tup [.int i,x])) h2 s.heap.objs.size (.tup [.int i,x]):=
   ⟨by show 2<=abd;decide,[.int i s.toks,u],.cons ⟨_,rfl⟩ (.cons ru .nil),_,(ic.2 _ mN).trans hT,rfl,_,rfl⟩
  refine⟨.ref s.heap.objs.size,_,RW (s:=s) (h':=h2) (t':=s.toks+1) I kk hf (aaN _) new,rfl,⟨_,x,rfl,I.aB.fresh (aaN _),rfl,λys hy=>by rw[I.FE hy hq];exact hx⟩,⟨⟨_,by simpa using he2⟩,jL.at λo q=>(ic.2 it KO.symm).trans q⟩,λb hb=>?_⟩;rw[aI (λz=>?_)]
  ·exact(hf b hb).1
  ·subst z
   rcases abk.mp hb with z | z
   ·exact mN z
   ·have z:s.heap.objs.size=it:=by simpa using z
    obtain⟨o,e1,_⟩:=hit;exact acD (aaU e1) z
 done:=by
  intro X hP hw hK hc i pins s σ H E I hf st hg;subst hP hw hK;obtain⟨⟨old,he⟩,hit⟩:=st;obtain⟨xs,hq,hx⟩:=hg;obtain⟨its,rv,p,hz⟩:=I.list hq;have hl:=↑rv;exact wpAny_pyNext_enum_end (I.ok.hd hc) he hit p.isList (by simp;omega) λh1 eb=>⟨rfl,GG (t':=s.toks) I (λb o hb q=>eb b o (λz=>hb (by simp[z])) q) hf⟩
 self:=λ_ _ _ _ _ st h=>let ⟨_,he⟩:=st.1;wpAny_pyIter_enum he h
noncomputable def Zi(K:aaJ)(ta:TA):TI:=λσ H R=>ta σ H λvs H1=>∃a,vs=[.ref a]/\(∃xs,bH K H1 a xs)/\R (KN K a) H1
variable{tp p:Pos}
theorem RX{a:acJ}{ta:TA}{mC:cc}(hg:Gl X "enumerate")(hm:X.mg "enumerate"=Z)(ha:PA X [a] ta)(hs:abB [a] X.env=[(false,aez a X.env)]:=by rfl) :
  PI X (.Tuple mC j tp) (.Call (.Name "enumerate" p) [a] [] pos) (Zi X.K ta):=by
 intro pins s σ H R I h;refine Call_ (pC I hg hm PyProof.Rows.boot_enumerate (ado (aY (ha pos pins s σ H _ I h) λus s1 ⟨vs,H1,I1,r1,q1⟩=>?_) hs rfl));obtain⟨a,e,⟨xs,hq⟩,q⟩:=q1;subst e;cases r1 with
 | cons r rr=>
  cases rr;cases r;obtain⟨its,rv,pl,hz⟩:=I1.list hq;refine call_enumerate_list pl.isList λh' he hit hsz hk=>?_
  refine wpAny_pyIter_enum he ?_;have I2:Inv X pins σ H1 { s1 with heap:=h' }:=I1.kept (t':=s1.toks) hk;refine⟨s1.heap.objs.size+1,[s1.heap.objs.size+1,s1.heap.objs.size],_,_,H1,rfl,I2,O1 a _ _ (Nat.succ_ne_self _),⟨⟨_,by simpa using he⟩,hit⟩,λb hb=>?_,q⟩;have hb:s1.heap.objs.size<=b:=by
   rcases abk.mp hb with rfl | hb
   ·exact aeY _
   ·have:b=s1.heap.objs.size:=by simpa using hb
    exact Nat.le_of_eq this.symm
  exact I1.pX hb (I1.aB.fresh hb)
noncomputable def i7(ws:ap):ap:=(abp ↑ws).map λ(i:Nat)=>.tup [.int ((i:Nat):Int),ws.getD i .aH]
noncomputable def BK(xs:ap):Po (ap×(PH->Bool)):=λph=>match xs with
 | [w]=>(mv w ph).map λr=>((i7 r.1.1,r.1.2),r.2)
 | _=>Z
noncomputable def mq(m:AM):IM:=λσ=>au (m σ) λxs=>lift (BK xs)
theorem E7{w:W}(h:(i7 ws)[i]? =O w):∃x,ws[i]? =O x/\w=.tup [.int i,x]:=by
 unfold i7 at h;rw[aaK] at h;cases q:(abp ↑ws)[i]? with
 | none=>rw[q] at h;cases h
 | some k=>
  rw[q] at h;obtain⟨hi,e⟩:=aaG.mp q;rw[afP] at e;subst e;rw[abz] at hi;cases h;exact⟨ws[i],by simp[hi],by simp[hi]⟩
theorem EF(h:(i7 ws)[i]? =Z):↑ws<=i:=by
 unfold i7 at h
 simpa using h
theorem RY{a:acJ}{am:AM}{mC:cc}(hg:Gl X "enumerate")(hm:X.mg "enumerate"=Z)(ha:IA X [a] am)(hs:abB [a] X.env=[(false,aez a X.env)]:=by rfl) :
  II X (.Tuple mC j tp) (.Call (.Name "enumerate" p) [a] [] pos) (mq am):=by
 refine PI.imp (RX hg hm ha hs) λσ H R h=>?_
 obtain⟨φ,ph,ws,hH,hS,h⟩:=h;refine tA.bind hH hS h λxs ph1 aq H1 vs aw s1 r1 h=>?_
 obtain⟨r,ph',e,k⟩:=run_lift h;unfold BK at e;split at e
 ·rename_i w;cases r1 with
  | cons r1 rr=>
   cases rr;unfold mv at e;cases r1 with
   | ref hi=>
    rename_i i;simp only at e;cases q:ph1[i]? with
    | none=>rw[q] at e;cases e
    | some o=>
     cases o with
     | aX _=>rw[q] at e;cases e
     | obj _ _=>rw[q] at e;cases e
     | mO _=>rw[q] at e;cases e
     | bY _=>rw[q] at e;cases e
     | ft _=>rw[q] at e;cases e
     | lst items=>
      rw[q] at e;simp only[abH] at e;cases e;obtain⟨vs,hv,r⟩:=aw.hp _ _ q;refine⟨_,rfl,⟨vs,bH.of hv⟩,k aq H1 _ aw s1 ?_⟩;intro bc ph2 H2 aR s2 hc j;have dX:ph2[i]? =O (.lst items):=of_decide_eq_true hc;obtain⟨us,hu,ru⟩:=aR.hp _ _ dX;rw[s2.eq i hi] at hu;refine⟨λw gS=>?_,λhn=>?_⟩
      ·obtain⟨x,hx,rfl⟩:=E7 gS;obtain⟨u,eu,lM⟩:=ru.get hx;refine⟨⟨us,u,bH.of hu,eu⟩,λy gR hy=>?_⟩;obtain⟨T,z,rfl,hT,rfl,hy⟩:=hy;have:=hy us (bH.of hu);rw[eu] at this;cases this;exact⟨aR.tup hT,js hT,.tup bX (.cons (.int _) (.cons (lM.mono (js hT)) .nil))⟩
      ·refine⟨us,bH.of hu,?_⟩;rw[<- ↑ru];exact EF hn
   | fl hq r=>
    simp only[abH] at e;cases e;refine⟨_,rfl,⟨_,hq.sq⟩,k aq H1 _ aw s1 ?_⟩;intro bc ph2 H2 aR s2 hc j;have h2:=aF.mono s2 (.fl hq r);cases h2 with
    | fl h2 r2=>
     refine⟨λw gS=>?_,λhn=>?_⟩
     ·obtain⟨x,hx,rfl⟩:=E7 gS;obtain⟨u,eu,lM⟩:=r2.get hx;refine⟨⟨_,u,h2.sq,eu⟩,λy gR hy=>?_⟩;obtain⟨T,z,rfl,hT,rfl,hy⟩:=hy;have:=hy _ h2.sq;rw[eu] at this;cases this;exact⟨aR.tup hT,js hT,.tup bX (.cons (.int _) (.cons (lM.mono (js hT)) .nil))⟩
     ·refine⟨_,h2.sq,?_⟩;rw[<- ↑r2];exact EF hn
   | _=>cases e
 ·cases e
theorem GH{a:acJ}{am:AM}{mC:cc}(hg:Gl X "enumerate")(hm:X.mg "enumerate"=Z)(hn:isStar a=false)(ha:JA X [a] am):JI X (.Tuple mC j tp) (.Call (.Name "enumerate" p) [a] [] pos) (mq am):=⟨RY hg hm ha.h (fQ hn)⟩
theorem nr{e:acJ}{gens:List Comprehension}{scope:adB}{pos':Pos}{x:Str}{line:Nat}(hk:env.scope.kind=.function)(hx:env.scope.names.lookup x=O .local)(hl:(pos'.line==p.line)=true)(hn:(scope.names.any λy=>y.1==x&&(y.2==.local||y.2==.cell))=false):aeq (.ListComp e gens scope p) (O (.Name x pos')) line env=pure true:=by
 have e1:(env.kindOf x==O .local)=true:=by unfold Env.kindOf;rw[hx];rfl
 have e2:(env.blockKind==.function)=true:=by unfold Env.blockKind;rw[hk];rfl
 show pure (env.blockKind==.function&&env.kindOf x==O .local&&pos'.line==p.line&& !(scope.names.any λy=>y.1==x&&(y.2==.local||y.2==.cell)))=_;rw[e1,e2,hl,hn];rfl
noncomputable def newD:Po W:=λph=>O (.ref ↑ph,ph++[.aX []])
noncomputable def yi:EM:=λ_=>lift newD
theorem FQ{p:abc}(hH:aC K φ ph H)(hp:H p=Z):aC K (ext φ ↑ph p) (ph++[.aX []]) (upd H p (.dK []))/\Step K φ ↑ph H (ext φ ↑ph p) (ph++[PO.aX []]).length (upd H p (.dK []))/\aF K (ext φ ↑ph p) (ph++[PO.aX []]).length (upd H p (.dK [])) (.ref ↑ph) (.ref p):=by
 have hl:(ph++[PO.aX []]).length=↑ph+1:=by simp
 rw[hl];have s:=wJ (K:=K) (φ:=φ) (n:=↑ph) (o:=HO.dK []) hp;refine⟨hH.new hp (.inl ⟨[],bX,.nil⟩),s,?_⟩;have q:aF K (ext φ ↑ph p) (↑ph+1) (upd H p (.dK [])) (.ref ↑ph) (.ref (ext φ ↑ph p ↑ph)):=.ref (acA _);rw[la] at q;exact q
theorem Hu:JE X (.Dict [] [] pos) yi:=⟨PE.imp P4 λσ H Q h p hp=>by
 obtain⟨φ,ph,ws,hH,hS,h⟩:=h;obtain⟨w,ph',e,k⟩:=run_lift h;cases e;obtain⟨q1,q2,q3⟩:=FQ hH hp;exact k _ _ _ q1 q2 q3⟩
theorem wL{a b:Key}(h:cm a=cm b):a=b:=by
 cases a <;> cases b <;> simp_all [cm]
theorem wF:∀{a b:bz},a.map cm=b.map cm->a=b
 | [],[],_=>rfl
 | [],_::_,e=>by simp at e
 | _::_,[],e=>by simp at e
 | x::xs,y::ys,e=>by
  rw[abt,abt] at e;injection e with e1 e2
  rw[wL e1,wF e2]
noncomputable def qe:W->Option Key
 | .int i=>O (.inl i)
 | .str x=>O (.inr x)
 | _=>Z
noncomputable def Cg:W->Option bz
 | .tup ws=>ba qe ws
 | _=>Z
variable{k:Key}
theorem AJ{w:W}(h:qe w=O k):w=cm k:=by
 cases w <;> simp only[qe] at h <;> first | (cases h;done) | (cases h;rfl)
theorem FR:∀{ws:ap} {ks:bz},ba qe ws=O ks->ws=ks.map cm
 | [],ks,h=>by cases h;rfl
 | w::ws,ks,h=>by
  unfold ba at h;split at h
  ·rename_i b bs e1 e2;cases h;rw[AJ e1,FR e2];rfl
  ·cases h
theorem GI{w:W}{ks:bz}(h:Cg w=O ks):w=.tup (ks.map cm):=by
 cases w <;> simp only[Cg] at h <;> first | (cases h;done) | rw[FR h]
theorem BL{n:Nat}(r:aF K φ n H (cm k) v):v=kV k:=by
 cases k with
 | inl i=>cases r;rfl
 | inr x=>cases r;rfl
theorem Hv{K:aaJ}{φ:Nat->abc}{n:Nat}{H:Hp}:∀{ks:bz} {vs:aE},aN K φ n H (ks.map cm) vs->vs=ks.map kV
 | [],_,r=>by cases r;rfl
 | k::ks,_,r=>by
  cases r with
  | cons h r=>rw[BL h,Hv r];rfl
theorem Hx{n:Nat}{ks:bz}(r:aF K φ n H (.tup (ks.map cm)) v):∃b,v=.ref b/\H b=O (.tup (ks.map kV)):=by
 cases r with
 | tup h r=>rw[Hv r] at h;exact⟨_,rfl,h⟩
noncomputable def c5(kws:aZ)(k:W):dP:=(kws.find? λp=>decide (p.1=k)).map (·.2)
noncomputable def c6(kws:aZ)(k w:W):aZ:=if(kws.any λp=>decide (p.1=k))=true then kws.map (λp=>if p.1=k then(p.1,w) else p) else kws++[(k,w)]
noncomputable def qf(K:aaJ)(φ:Nat->abc)(n:Nat)(H:Hp):dP->Option V->Prop
 | none,Z=>True
 | some w,O v=>aF K φ n H w v
 | _,_=>False
section
variable{K:aaJ}{φ:Nat->abc}{n:Nat}{H:Hp}
theorem Vf{a b:Key}:decide (cm a=cm b)=decide (a=b):=by
 rw[decide_eq_decide];exact⟨wL,λe=>by rw[e]⟩
theorem RZ{a b:bz}:decide (W.tup (a.map cm)=W.tup (b.map cm))=decide (a=b):=by
 rw[decide_eq_decide];exact⟨λe=>wF (W.tup.inj e),λe=>by rw[e]⟩
theorem cD.val(k:Key):∀{kws:aZ} {kvs:fD},cD K φ n H kws kvs->qf K φ n H (c5 kws (cm k)) (jd kvs k)
 | _,_,.nil=>trivial
 | _,_,.cons (k:=j) (w:=w) (v:=v) h r=>by
  unfold c5;rw[acW];by_cases e:j=k
  ·rw[a6 (congrArg cm e),rQ (p:=(j,v)) e];exact h
  ·rw[bU (λz=>e (wL z)),rR (p:=(j,v)) e];exact cD.val k r
theorem cG.val(k:bz):∀{kws:aZ} {kvs:f9},cG K φ n H kws kvs->qf K φ n H (c5 kws (.tup (k.map cm))) (jd kvs k)
 | _,_,.nil=>trivial
 | _,_,.cons (k:=j) (w:=w) (v:=v) h r=>by
  unfold c5;rw[acW];by_cases e:j=k
  ·rw[a6 (by rw[e]),rQ (p:=(j,v)) e];exact h
  ·rw[bU (λz=>e (wF (W.tup.inj z))),rR (p:=(j,v)) e];exact cG.val k r
theorem cD.len:∀{kws:aZ} {kvs:fD},cD K φ n H kws kvs->↑kws=↑kvs
 | _,_,.nil=>rfl
 | _,_,.cons _ r=>by rw[abq,abq,cD.len r]
theorem cG.len:∀{kws:aZ} {kvs:f9},cG K φ n H kws kvs->↑kws=↑kvs
 | _,_,.nil=>rfl
 | _,_,.cons _ r=>by rw[abq,abq,cG.len r]
theorem cD.any(k:Key):∀{kws:aZ} {kvs:fD},cD K φ n H kws kvs->(kws.any λp=>decide (p.1=cm k))=kvs.any λp=>decide (p.1=k)
 | _,_,.nil=>rfl
 | _,_,.cons (k:=j) _ r=>by
  rw[acU,acU,cD.any k r];show(decide (cm j=cm k)||_)=(decide (j=k)||_);rw[Vf]
theorem cG.any(k:bz):∀{kws:aZ} {kvs:f9},cG K φ n H kws kvs->(kws.any λp=>decide (p.1=.tup (k.map cm)))=kvs.any λp=>decide (p.1=k)
 | _,_,.nil=>rfl
 | _,_,.cons (k:=j) _ r=>by
  rw[acU,acU,cG.any k r];show(decide (W.tup (j.map cm)=W.tup (k.map cm))||_)=(decide (j=k)||_);rw[RZ]
theorem cD.jH(k:Key){w:W}{v:V}(q:aF K φ n H w v):∀{kws:aZ} {kvs:fD},cD K φ n H kws kvs->cD K φ n H (kws.map λp=>if p.1=cm k then(p.1,w) else p) (kvs.map λp=>if p.1=k then(p.1,v) else p)
 | _,_,.nil=>.nil
 | _,_,.cons (k:=j) h r=>by
  rw[abt,abt];by_cases e:j=k
  ·rw[if_pos (show cm j=cm k by rw[e]),if_pos (show j=k from e)];exact .cons q (cD.jH k q r)
  ·rw[if_neg (show ¬cm j=cm k from λz=>e (wL z)),if_neg (show ¬j=k from e)];exact .cons h (cD.jH k q r)
theorem cG.jH(k:bz){w:W}{v:V}(q:aF K φ n H w v):∀{kws:aZ} {kvs:f9},cG K φ n H kws kvs->cG K φ n H (kws.map λp=>if p.1=.tup (k.map cm) then(p.1,w) else p) (kvs.map λp=>if p.1=k then(p.1,v) else p)
 | _,_,.nil=>.nil
 | _,_,.cons (k:=j) h r=>by
  rw[abt,abt];by_cases e:j=k
  ·rw[if_pos (show W.tup (j.map cm)=W.tup (k.map cm) by rw[e]),if_pos (show j=k from e)];exact .cons q (cG.jH k q r)
  ·rw[if_neg (show ¬W.tup (j.map cm)=W.tup (k.map cm) from λz=>e (wF (W.tup.inj z))),if_neg (show ¬j=k from e)];exact .cons h (cG.jH k q r)
theorem cD.snoc(k:Key){w:W}{v:V}(q:aF K φ n H w v):∀{kws:aZ} {kvs:fD},cD K φ n H kws kvs->cD K φ n H (kws++[(cm k,w)]) (kvs++[(k,v)])
 | _,_,.nil=>.cons q .nil
 | _,_,.cons h r=>.cons h (cD.snoc k q r)
theorem cG.snoc(k:bz){w:W}{v:V}(q:aF K φ n H w v):∀{kws:aZ} {kvs:f9},cG K φ n H kws kvs->cG K φ n H (kws++[(.tup (k.map cm),w)]) (kvs++[(k,v)])
 | _,_,.nil=>.cons q .nil
 | _,_,.cons h r=>.cons h (cG.snoc k q r)
theorem cD.put(k:Key){w:W}{v:V}(q:aF K φ n H w v){kws:aZ}{kvs:fD}(r:cD K φ n H kws kvs):cD K φ n H (c6 kws (cm k) w) (putK kvs k v):=by
 unfold c6 putK;rw[r.any k];by_cases e:(kvs.any λkv=>decide (kv.1=k))=true
 ·rw[if_pos e,if_pos e];exact r.jH k q
 ·rw[if_neg e,if_neg e];exact r.snoc k q
theorem cG.put(k:bz){w:W}{v:V}(q:aF K φ n H w v){kws:aZ}{kvs:f9}(r:cG K φ n H kws kvs):cG K φ n H (c6 kws (.tup (k.map cm)) w) (putK kvs k v):=by
 unfold c6 putK;rw[r.any k];by_cases e:(kvs.any λkv=>decide (kv.1=k))=true
 ·rw[if_pos e,if_pos e];exact r.jH k q
 ·rw[if_neg e,if_neg e];exact r.snoc k q
end
section
variable{X:Cx}{pins:List (abc×Obj)}{σ:L2.St}{H:Hp}{s:aaR}{a:abc}
theorem pG(I:Inv X pins σ H s)(e:H a=O (.dK [])):Inv X pins σ (upd H a (.dT [])) s:=by
 obtain⟨z,hd,vs,rel,o,es,ep,h1,h2,h3,h4,h5,h6⟩:=pJ I.aB e;cases rel;have he:es.toList=[]:=by
  generalize es.toList=l at h5;cases h5;rfl
 exact I.write (x:=a) (e:=a) (h':=s.heap) (t':=s.toks) (o:=.dT []) (by rw[e];trivial) (.inl rfl) (λ_ _ _ q=>q) ⟨o,h1⟩ ⟨aca _,hd,[],.nil,o,es,ep,h1,h2,h3,by rw[he];rfl,aet⟩
theorem nK(I:Inv X pins σ H s)(e:H a=O (.dT [])):Inv X pins σ (upd H a (.dK [])) s:=by
 obtain⟨z,hd,xs,rel,o,es,ep,h1,h2,h3,h4,h5,h6⟩:=xE I.aB e;cases rel;have he:es= #[]:=by
  have:es.toList=[]:=h4
  simpa using this
 subst he;exact I.write (x:=a) (e:=a) (h':=s.heap) (t':=s.toks) (o:=.dK []) (by rw[e];trivial) (.inl rfl) (λ_ _ _ q=>q) ⟨o,h1⟩ ⟨aca _,hd,[],.nil,o,#[],ep,h1,h2,h3,λx hx=>by simp at hx,.nil,aet⟩
theorem wM{o u:HO}(e:H a=O o):upd (upd H a u) a o=H:=by
 rw[rX]
 funext b
 unfold upd;split
 ·rename_i q;rw[q,e]
 ·rfl
end
noncomputable def sO(H:Hp)(a:abc)(y:V)(o:Option V):Prop:=jI H a y o\/(o=Z/\((H a=O (.dK [])/\∃(k:bz) (b:abc),y=.ref b/\H b=O (.tup (k.map kV)))\/(H a=O (.dT [])/\∃k:Key,y=kV k)))
noncomputable def km(H:Hp)(a:abc)(y v:V)(H':Hp):Prop:=n4 H a y v H'\/(H a=O (.dK [])/\∃(k:bz) (b:abc),y=.ref b/\H b=O (.tup (k.map kV))/\H'=upd H a (.dT [(k,v)]))\/(H a=O (.dT [])/\∃k:Key,y=kV k/\H'=upd H a (.dK [(k,v)]))
section
variable{X:Cx}
theorem Vg(hu:X.A.units+1<aep):bS X (acr .In) (λy x H Q=>∃a o,x=.ref a/\sO H a y o/\Q (.bl o.isSome) H):=by
 intro pins s σ H y x u v Q I ry rx h;obtain⟨a,o,rfl,g,q⟩:=h;cases rx
 rcases g with g | ⟨rfl,⟨e,k,b,ey,eb⟩ | ⟨e,k,ey⟩⟩
 ·exact Ca hu I g ry λs3 I3=>⟨.bl o.isSome,H,I3,rfl,q⟩
 ·subst ey;have g:jI (upd H a (.dT [])) a (.ref b) none:=.inr ⟨[],k,b,.inl bX,rfl,by rw[aI (fb eb e (λz=>nomatch z))];exact eb,rfl⟩;exact Ca hu (pG I e) g ry λs3 I3=>⟨.bl false,H,by have:=nK I3 bX;rwa [wM e] at this,rfl,q⟩
 ·subst ey;have g:jI (upd H a (.dK [])) a (kV k) none:=.inl ⟨[],k,.inl bX,rfl,rfl⟩;exact Ca hu (nK I e) g ry λs3 I3=>⟨.bl false,H,by have:=pG I3 bX;rwa [wM e] at this,rfl,q⟩
theorem R1(hu:X.A.units+1<aep):bS X (acr .NotIn) (λy x H Q=>∃a o,x=.ref a/\sO H a y o/\Q (.bl (!o.isSome)) H):=by
 intro pins s σ H y x u v Q I ry rx h;obtain⟨a,o,rfl,g,q⟩:=h;cases rx
 rcases g with g | ⟨rfl,⟨e,k,b,ey,eb⟩ | ⟨e,k,ey⟩⟩
 ·exact AB hu I g ry λs3 I3=>⟨.bl (!o.isSome),H,I3,rfl,q⟩
 ·subst ey;have g:jI (upd H a (.dT [])) a (.ref b) none:=.inr ⟨[],k,b,.inl bX,rfl,by rw[aI (fb eb e (λz=>nomatch z))];exact eb,rfl⟩;exact AB hu (pG I e) g ry λs3 I3=>⟨.bl true,H,by have:=nK I3 bX;rwa [wM e] at this,rfl,q⟩
 ·subst ey;have g:jI (upd H a (.dK [])) a (kV k) none:=.inl ⟨[],k,.inl bX,rfl,rfl⟩;exact AB hu (nK I e) g ry λs3 I3=>⟨.bl true,H,by have:=pG I3 bX;rwa [wM e] at this,rfl,q⟩
theorem set_dict(hu:X.A.units+1<aep):ly X (λo i v H Q=>∃a H',o=.ref a/\km H a i v H'/\Q H'):=by
 intro pins s σ H o i v ov iv u Q I ro ri rv h;obtain⟨a,H',rfl,g,q⟩:=h;cases ro
 rcases g with g | ⟨e,k,b,ey,eb,eH⟩ | ⟨e,k,ey,eH⟩
 ·exact z8 hu I g ri rv λs3 I3=>⟨H',I3,q⟩
 ·subst ey eH;have g:n4 (upd H a (.dT [])) a (.ref b) v (upd (upd H a (.dT [])) a (.dT (putK [] k v))):=.inr ⟨[],k,b,bX,rfl,by rw[aI (fb eb e (λz=>nomatch z))];exact eb,by decide,rfl⟩;refine z8 hu (pG I e) g ri rv λs3 I3=>⟨_,?_,q⟩
  rw[rX] at I3;exact I3
 ·subst ey eH;have g:n4 (upd H a (.dK [])) a (kV k) v (upd (upd H a (.dK [])) a (.dK (putK [] k v))):=.inl ⟨[],k,bX,rfl,by decide,rfl⟩;refine z8 hu (nK I e) g ri rv λs3 I3=>⟨_,?_,q⟩
  rw[rX] at I3;exact I3
theorem R3(hu:X.A.units+1<aep):jS X (λx y H Q=>∃a v,x=.ref a/\jI H a y (O v)/\Q v H):=by
 intro value slice pins s σ H x y v u Q I rx ry h hs;obtain⟨a,w,rfl,g,q⟩:=h;cases rx;have hT:=NI I g;unfold subscriptTail;refine aaH ?_;rw[getitemInPython_of_ne hT.not_modules];refine aaH (acz hT PySem.F.slot_dict_getitem.lookup ?_);have fin:abj (abG X.prog X.w) X.A (subscripted slice false (.ref a) u) (λr D9=>abj (abG X.prog X.w) X.A (letTemporaryGo value (.ref a) r >>= λ_=>pure r) (EP X pins σ Q) X.xe D9) X.xe s:=by
  rw[hs];exact wpAny_operating (OQ hu I g ry λw' s3 I3 fq=>aaH (wpAny_letTemporaryGo (aaM ⟨w,H,I3,fq,q⟩)))
 first
  | exact aaM (aaH fin)
  | exact aaH (aaM (aaH fin))
  | exact aaH fin
end
noncomputable def lR:W->Bool
 | .tup _=>true
 | _=>false
noncomputable def eP(kws:aZ)(x:W):Bool:=((qe x).isSome&&kws.all λp=> !lR p.1)||((Cg x).isSome&&kws.all λp=>lR p.1)
noncomputable def gf(y:W)(ph:PH):Option (Nat×aZ):=match y with
 | .ref i=>match ph[i]? with
  | some (.aX kws)=>O (i,kws)
  | _=>Z
 | _=>Z
section
variable{K:aaJ}{φ:Nat->abc}{ph:PH}{H:Hp}
variable{kws:aZ}
theorem cD.KP{kvs:fD}{n:Nat}(r:cD K φ n H kws kvs)(h:kws.all (λp=>lR p.1)=true):kws=[]/\kvs=[]:=by
 cases r with
 | nil=>exact⟨rfl,rfl⟩
 | cons h' r=>
  rename_i k w v kws kvs;rw[ady] at h;have:lR (cm k)=true:=by simp only[aaZ] at h;exact h.1
  cases k <;> cases this
theorem cG.Ci{kvs:f9}{n:Nat}(r:cG K φ n H kws kvs)(h:kws.all (λp=> !lR p.1)=true):kws=[]/\kvs=[]:=by
 cases r with
 | nil=>exact⟨rfl,rfl⟩
 | cons h' r=>
  rw[ady] at h;have h:=(aaZ _ _▸h).1;cases h
variable{v:V}{i:Nat}
theorem rJ{y:W}(hH:aC K φ ph H)(r:aF K φ ↑ph H y v)(e:gf y ph=O (i,kws)):y=.ref i/\i<↑ph/\ph[i]? =O (.aX kws)/\v=.ref (φ i):=by
 unfold gf at e;cases r with
 | ref hi=>
  simp only at e;split at e
  ·rename_i Zj hw;cases e;exact⟨rfl,hi,hw,rfl⟩
  ·cases e
 | _=>cases e
theorem Al{x:W}(hH:aC K φ ph H)(hd:ph[i]? =O (.aX kws))(r:aF K φ ↑ph H x v)(hk:eP kws x=true):∃o,sO H (φ i) v o/\qf K φ ↑ph H (c5 kws x) o:=by
 unfold eP at hk;rw[adp,aaZ,aaZ] at hk
 rcases hk with⟨h1,h2⟩ | ⟨h1,h2⟩
 ·obtain⟨k,hk⟩:=ach.mp h1;have:=AJ hk;subst this;have:=BL r;subst this
  rcases hH.hp _ _ hd with⟨kvs,q,rd⟩ | ⟨kvs,q,rd⟩
  ·exact⟨_,.inl (.inl ⟨kvs,k,.inl q,rfl,rfl⟩),rd.val k⟩
  ·obtain⟨rfl,rfl⟩:=rd.Ci h2;exact⟨Z,.inr ⟨rfl,.inr ⟨q,k,rfl⟩⟩,trivial⟩
 ·obtain⟨ks,hk⟩:=ach.mp h1;have:=GI hk;subst this;obtain⟨b,rfl,hb⟩:=Hx r
  rcases hH.hp _ _ hd with⟨kvs,q,rd⟩ | ⟨kvs,q,rd⟩
  ·obtain⟨rfl,rfl⟩:=rd.KP h2;exact⟨Z,.inr ⟨rfl,.inl ⟨q,ks,b,rfl,hb⟩⟩,trivial⟩
  ·exact⟨_,.inl (.inr ⟨kvs,ks,b,.inl q,rfl,hb,rfl⟩),rd.val ks⟩
theorem FT{x w:W}{u:V}(hH:aC K φ ph H)(hi:i<↑ph)(hd:ph[i]? =O (.aX kws))(r:aF K φ ↑ph H x v)(rw:aF K φ ↑ph H w u)(hk:eP kws x=true)(hz:↑kws<abd):∃H',km H (φ i) v u H'/\aC K φ (ph.set i (.aX (c6 kws x w))) H'/\Step K φ ↑ph H φ (ph.set i (.aX (c6 kws x w))).length H':=by
 obtain⟨y,ey,my⟩:=hH.mu hd rfl;rw[aby];unfold eP at hk;rw[adp,aaZ,aaZ] at hk
 rcases hk with⟨h1,h2⟩ | ⟨h1,h2⟩
 ·obtain⟨k,hk⟩:=ach.mp h1;have:=AJ hk;subst this;have:=BL r;subst this
  rcases hH.hp _ _ hd with⟨kvs,q,rd⟩ | ⟨kvs,q,rd⟩
  ·have s:=k6 (K:=K) (φ:=φ) (n:=↑ph) (y:=HO.dK (putK kvs k u)) ey my;exact⟨_,.inl (.inl ⟨kvs,k,q,rfl,by rw[<- rd.len];exact hz,rfl⟩),hH.put hd rfl (.inl ⟨_,bX,(rd.put k rw).mono s⟩),s⟩
  ·obtain⟨rfl,rfl⟩:=rd.Ci h2;have s:=k6 (K:=K) (φ:=φ) (n:=↑ph) (y:=HO.dK [(k,u)]) ey my;exact⟨_,.inr (.inr ⟨q,k,rfl,rfl⟩),hH.put hd rfl (.inl ⟨_,bX,((cD.nil).put k rw).mono s⟩),s⟩
 ·obtain⟨ks,hk⟩:=ach.mp h1;have:=GI hk;subst this;obtain⟨b,rfl,hb⟩:=Hx r
  rcases hH.hp _ _ hd with⟨kvs,q,rd⟩ | ⟨kvs,q,rd⟩
  ·obtain⟨rfl,rfl⟩:=rd.KP h2;have s:=k6 (K:=K) (φ:=φ) (n:=↑ph) (y:=HO.dT [(ks,u)]) ey my;exact⟨_,.inr (.inl ⟨q,ks,b,rfl,hb,rfl⟩),hH.put hd rfl (.inr ⟨_,bX,((cG.nil).put ks rw).mono s⟩),s⟩
  ·have s:=k6 (K:=K) (φ:=φ) (n:=↑ph) (y:=HO.dT (putK kvs ks u)) ey my;exact⟨_,.inl (.inr ⟨kvs,ks,b,q,rfl,hb,by rw[<- rd.len];exact hz,rfl⟩),hH.put hd rfl (.inr ⟨_,bX,(rd.put ks rw).mono s⟩),s⟩
end
noncomputable def dZ:W->W->Po W:=λx y ph=>match gf y ph with
 | some p=>if eP p.2 x=true then O (.bl (c5 p.2 x).isSome,ph) else Z
 | none=>jl x y ph
noncomputable def fj:W->W->Po W:=λx y ph=>match gf y ph with
 | some p=>if eP p.2 x=true then O (.bl (!(c5 p.2 x).isSome),ph) else Z
 | none=>tL x y ph
noncomputable def af:W->W->Po W:=λx y ph=>match gf x ph with
 | some p=>if eP p.2 y=true then(c5 p.2 y).map λw=>(w,ph) else Z
 | none=>fu x y ph
noncomputable def qg(o i v:W):Po Unit:=λph=>match gf o ph with
 | some p=>if eP p.2 i=true/\↑p.2<abd then O ((),ph.set p.1 (.aX (c6 p.2 i v))) else Z
 | none=>JY o i v ph
theorem qf.isSome{K:aaJ}{φ:Nat->abc}{n:Nat}{H:Hp}{a:dP}{b:Option V}(h:qf K φ n H a b):a.isSome=b.isSome:=by
 cases a <;> cases b <;> first | rfl | exact h.elim
theorem Xs:dr K (λx y H Q=>qc K (λb=>b) x y H Q\/∃a o,y=.ref a/\sO H a x o/\Q (.bl o.isSome) H) dZ:=by
 intro φ ph H x y vx vy w ph' Q hH rx ry e k;unfold dZ at e;split at e
 ·rename_i p hp;obtain⟨i,kws⟩:=p;obtain⟨rfl,hi,hd,rfl⟩:=rJ hH ry hp;split at e
  ·rename_i hk;cases e;obtain⟨o,g,ro⟩:=Al hH hd rx hk;exact .inr ⟨_,o,rfl,g,by rw[<- ro.isSome];exact k φ H _ hH Step.refl (.bl _)⟩
  ·cases e
 ·exact .inl (Xj hH rx ry e k)
theorem Vh:dr K (λx y H Q=>qc K (λb=> !b) x y H Q\/∃a o,y=.ref a/\sO H a x o/\Q (.bl (!o.isSome)) H) fj:=by
 intro φ ph H x y vx vy w ph' Q hH rx ry e k;unfold fj at e;split at e
 ·rename_i p hp;obtain⟨i,kws⟩:=p;obtain⟨rfl,hi,hd,rfl⟩:=rJ hH ry hp;split at e
  ·rename_i hk;cases e;obtain⟨o,g,ro⟩:=Al hH hd rx hk;exact .inr ⟨_,o,rfl,g,by rw[<- ro.isSome];exact k φ H _ hH Step.refl (.bl _)⟩
  ·cases e
 ·exact .inl (U0 hH rx ry e k)
theorem Xt:dr K (λx y H Q=>CH K x y H Q\/∃a v,x=.ref a/\jI H a y (O v)/\Q v H) af:=by
 intro φ ph H x y vx vy w ph' Q hH rx ry e k;unfold af at e;split at e
 ·rename_i p hp;obtain⟨i,kws⟩:=p;obtain⟨rfl,hi,hd,rfl⟩:=rJ hH rx hp;split at e
  ·rename_i hk;cases q:c5 kws y with
   | none=>rw[q] at e;cases e
   | some u=>
    rw[q] at e;cases e;obtain⟨o,g,ro⟩:=Al hH hd ry hk;rw[q] at ro;cases o with
    | none=>exact ro.elim
    | some v=>
     rcases g with g | ⟨z,_⟩
     ·exact .inr ⟨_,v,rfl,g,k φ H _ hH Step.refl ro⟩
     ·cases z
  ·cases e
 ·exact .inl (Xe hH rx ry e k)
section
variable{X:Cx}{a b o i:acJ}{ma mb mo mi:EM}{pos:Pos}{N:a8}{sc:adB}{k:Nat}
theorem eU.Vi(B:eU X N sc k)(hp:AA b)(ha:JE X a ma)(hb:JE X b mb):JE X (.Subscript a b pos) (ab af ma mb):=
 ⟨PE.imp (W5 (jS.or Ue (R3 (xD B.room))) ha.h hb.h hp) λ_ _ _ h=>w8 Xt h⟩
theorem eU.yj(B:eU X N sc k)(h:acS .In b=false):Cp X .In b dZ:=⟨⟨_,bS.or (UZ B.room.units) (Vg (xD B.room)),Xs⟩,h⟩
theorem eU.sP(B:eU X N sc k)(h:acS .NotIn b=false):Cp X .NotIn b fj:=⟨⟨_,bS.or (RI B.room.units) (R1 (xD B.room)),Vh⟩,h⟩
theorem ly.or{t t':tq}(h:ly X t)(h':ly X t'):ly X (λo i v H Q=>t o i v H Q\/t' o i v H Q):=by
 intro pins s σ H o i v ov iv u Q I ro ri rv q
 rcases q with q | q
 ·exact h pins s σ H o i v ov iv u Q I ro ri rv q
 ·exact h' pins s σ H o i v ov iv u Q I ro ri rv q
noncomputable def pN(o i:EM):GM:=λv σ=>au (o σ) λow=>au (i σ) λiw=>au (lift (qg ow iw v)) λ_=>ay σ
theorem eU.AK(B:eU X N sc k)(ho:JE X o mo)(hi:JE X i mi)(ha:∀v,agJ (.Subscript o i pos) X.env v=(do
   let ov <- afz [v] (aez o X.env)
   let iv <- afz [v,ov] (aez i X.env)
   standAt pos
   afz [v,ov,iv] (setItem ov iv v)
   release [v,ov,iv] []):=by intro _;rfl):JG X (.Subscript o i pos) (pN mo mi):=
 ⟨PG.imp (Hk ho.h hi.h (ly.or set_list (set_dict (xD B.room))) ha) λv σ H Q h=>by
  obtain⟨φ,ph,ws,w,hH,hS,rv,h⟩:=h;refine tM.bind hH hS h λow ph1 aq H1 vo aw s1 ro h=>tM.bind aw (hS.mono s1) h λiw ph2 bc H2 vi aR s2 ri h=>?_
  rw[c3] at h;obtain⟨_,fY,e,k⟩:=run_lift h;have yP:=ro.mono s2;have qA:=(rv.mono s1).mono s2;unfold qg at e;split at e
  ·rename_i p hp;obtain⟨r,kws⟩:=p;obtain⟨rfl,hr,hd,rfl⟩:=rJ aR yP hp;split at e
   ·rename_i hk;cases e;obtain⟨H',g,q1,q2⟩:=FT aR hr hd ri qA hk.1 hk.2;exact .inr ⟨_,H',rfl,g,k bc _ σ q1 ((s1.trans s2).trans q2) (((hS.mono s1).mono s2).mono q2)⟩
   ·cases e
  ·unfold JY at e;split at e
   ·rename_i r k';split at e
    ·rename_i dh hw;split at e
     ·rename_i j hj;cases e;cases yP with
      | ref cJ=>
       cases ri;obtain⟨us,hu,ru⟩:=aR.hp _ _ hw;obtain⟨q1,q2⟩:=rT aR hw (ru.set qA j);exact .inl ⟨_,us,_,j,rfl,rfl,hu,by rw[<- ↑ru];exact hj,k bc _ σ q1 ((s1.trans s2).trans q2) (((hS.mono s1).mono s2).mono q2)⟩
     ·cases e
    ·cases e
   ·cases e⟩
end
noncomputable def oa:W->Option Int
 | .int i=>O i
 | _=>Z
noncomputable def sQ(w:W)(ph:PH):Option bI:=if du w ph=true then(dm w ph).bind (ba oa) else Z
noncomputable def sR(f:Nat->Int):Nat->Int
 | 0=>f 0
 | k+1=>if f (k+1)<sR f k then f (k+1) else sR f k
section
variable{X:Cx}
theorem Qi(f:Nat->Int):∀k,f (argBest (λi j=>decide (f i<f j)) k)=sR f k
 | 0=>rfl
 | k+1=>by
  have ih:=Qi f k;unfold argBest sR;rw[ih];by_cases h:f (k+1)<sR f k
  ·simp[h]
  ·simp[h,ih]
theorem wN{K:aaJ}{φ:Nat->abc}{n:Nat}{H:Hp}:∀{ws:ap} {vs:aE} {ns:bI},aN K φ n H ws vs->ba oa ws=O ns->vs=ns.map V.int
 | _,_,_,.nil,e=>by cases e;rfl
 | w::ws,_,bs,.cons h r,e=>by
  unfold ba at e;split at e
  ·rename_i b Kx e1 e2;cases e;have q:=wN r e2;unfold oa at e1;cases h <;> cases e1
   rw[q];rfl
  ·cases e
theorem O2{K:aaJ}{φ:Nat->abc}{ph:PH}{H:Hp}{w:W}{v:V}{ns:bI}(hH:aC K φ ph H)(r:aF K φ ↑ph H w v)(e:sQ w ph=O ns):∃p,v=.ref p/\bH K H p (ns.map V.int):=by
 unfold sQ at e;split at e
 ·rename_i hL;cases r with
  | ref hi=>
   unfold du at hL;simp only at hL;split at hL
   ·rename_i ws hw;obtain⟨vs,hv,rs⟩:=hH.hp _ _ hw;simp only[dm,hw,acn] at e;rw[wN rs e] at hv;exact⟨_,rfl,bH.of hv⟩
   ·cases hL
  | fl h rs=>
   simp only[dm,acn] at e;have q:=wN rs e;subst q;exact⟨_,rfl,h.sq⟩
  | _=>cases hL
 ·cases e
end
noncomputable def c7:W->W->Po W:=λx y ph=>match x,y with
 | .ref i,.int k=>match ph[i]? with
  | some (.lst ws)=>if -(2 ^ 63)<=k/\k<2 ^ 63/\↑ws*k.toNat<=abd then O (.ref ↑ph,ph++[.lst (aaY k.toNat ws).flatten]) else Z
  | _=>Z
 | x,y=>qb x y ph
theorem aN.rep{K:aaJ}{φ:Nat->abc}{n:Nat}{H:Hp}{ws:ap}{vs:aE}(r:aN K φ n H ws vs):∀k:Nat,aN K φ n H (aaY k ws).flatten (aaY k vs).flatten
 | 0=>.nil
 | k+1=>by
  rw[ack,ack,adJ,adJ];exact r.append (aN.rep r k)
theorem Vj:dr K (λx y H Q=>(rI tu λi j=>.int (i*j)) x y H Q\/JQ x y H Q) c7:=by
 intro φ ph H x y vx vy w ph' Q hH rx ry e k;unfold c7 at e;split at e
 ·rename_i i j;split at e
  ·rename_i ws hw;split at e
   ·rename_i hz;cases e;cases rx with
    | ref hi=>
     cases ry;obtain⟨us,hu,ru⟩:=hH.hp _ _ hw;refine .inr ⟨_,_,us,rfl,rfl,hu,hz.1,hz.2.1,by rw[<- ↑ru];exact hz.2.2,λp hp=>?_⟩;obtain⟨q1,q2,q3⟩:=ke hH (ru.rep j.toNat) hp;exact k _ _ _ q1 q2 q3
   ·cases e
  ·cases e
 ·exact .inl (UT hH rx ry e k)
theorem jx{a b:acJ}{ma mb:EM}(ha:JE X a ma)(hb:JE X b mb):JE X (.BinOp a .Mult b pos) (ab c7 ma mb):=⟨sI (bS.or T2 Uk) Vj ha.h hb.h⟩
theorem Om{e:acJ}{gens:List Comprehension}{scope:adB}{pos':Pos}{x:Str}{line:Nat}(hx:env.scope.names.lookup x=O .cell):aeq (.ListComp e gens scope p) (O (.Name x pos')) line env=pure false:=by
 have e1:(env.kindOf x==O .local)=false:=by unfold Env.kindOf;rw[hx];rfl
 show pure (env.blockKind==.function&&env.kindOf x==O .local&&pos'.line==p.line&& !(scope.names.any λy=>y.1==x&&(y.2==.local||y.2==.cell)))=_;rw[e1,ahk,afa,afa]
theorem fH.BM{N:a8}{sc:adB}(B:fH X N sc)(i:Nat){x:Str}{e:acJ}{gens:List Comprehension}{scope:adB}{pos':Pos}(hN:N[i]? =O x)(hl:Loc sc x)(hx:X.env.scope.names.lookup x=O .cell)(he:JE X (.ListComp e gens scope p) m):JS X (.Assign [.Name x pos'] (.ListComp e gens scope p) pos) (aK m (gN i)):=⟨B.set i hN hl he.h (Om hx)⟩
section
variable{prog:abI}{w:acg}{A:acF}{E:bR}{s:aaR}{a:abc}
theorem Nr:typeLookup (.type "list") "keys"=pure none:=am_miss_of_fast (by decide +kernel)
theorem R4{o:Obj}{xs:eM}{k:Nat}{Q:hV->aaR->Prop}(hx:s.heap.get? a=O o)(hc:o.cls=.type "list")(og:o.data=.seq xs k)(hd:o.dict=Z)(hA:A.handled=Z)(h:∀h' tk,(∀b ob,s.heap.get? b=O ob->h'.get? b=O ob)->Q Z { s with heap:=h',toks:=tk }):abj (abG prog w) A (getAttr? (.ref a) "keys") Q E s:=by
 obtain⟨c,aX,dat,sl⟩:=o;simp only at hc og hd;subst hc og hd;obtain⟨hp,g,d,tk,os⟩:=s;have hT:∀yQ,(⟨hp,g,d,yQ,os⟩:aaR).TypeIs (.ref a) "list":=λ_=>⟨_,hx,rfl⟩
 have f1:=sub_AttributeError;have f3:=aeG.lookup;have f4:=aeG.bind (.ref a);have f5:=am_list_getattr_none;unfold getAttr? getAttrBy? getAttrBy
 repeat (any_goals (first | assumption | exact hT _ | ((with_reducible show abj _ _ (call (ahs "list.__getattribute__") _ _) _ _ _);refine agf aeG (hT _) am_entry_list_getattribute (F.args_list_getattribute_2 _ _) (meets_getattribute_miss_list a xs k sl "keys" _ Nr (by decide)) ⟨hx,hA,λh' yQ e jm=>?_⟩) | wp_step))
 obtain⟨t',u',he⟩:=jm.there;show abj _ _ (getattributeRaised _ _ _ _ _ _ _) _ _ _;unfold getattributeRaised
 repeat (any_goals (first | assumption | wp_step))
 exact h _ _ jm.keeps
end
noncomputable def xJ(d:abc):Hp->List (V×V)->Hp->Prop
 | H,[],H'=>H'=H
 | H,p::r,H'=>∃H1,km H d p.1 p.2 H1/\xJ d H1 r H'
abbrev Bj(H:Hp):aE->List (V×V)->Prop:=aco λv p=>∃T,v=.ref T/\H T=O (.tup [p.1,p.2])
variable{H':Hp}
theorem km.other{b:abc}{y:V}(h:km H a y v H')(hb:b≠a):H' b=H b:=by
 rcases h with(⟨_,_,_,_,_,e⟩ | ⟨_,_,_,_,_,_,_,e⟩) | ⟨_,_,_,_,_,e⟩ | ⟨_,_,_,e⟩ <;> rw[e,aI hb]
theorem km.dict{y:V}(h:km H a y v H'):(∃kvs,H a=O (.dK kvs))\/∃kvs,H a=O (.dT kvs):=by
 rcases h with(⟨_,_,e,_⟩ | ⟨_,_,_,e,_⟩) | ⟨e,_⟩ | ⟨e,_⟩
 ·exact .inl ⟨_,e⟩
 ·exact .inr ⟨_,e⟩
 ·exact .inl ⟨_,e⟩
 ·exact .inr ⟨_,e⟩
theorem km.ne{b:abc}{y:V}(h:km H a y v H')(hb:H b=O o)(h1:∀kvs,o≠.dK kvs)(h2:∀kvs,o≠.dT kvs):b≠a:=by
 rcases h.dict with⟨kvs,e⟩ | ⟨kvs,e⟩
 ·exact fb hb e (h1 _)
 ·exact fb hb e (h2 _)
section
variable{X:Cx}{pins:List (abc×Obj)}{σ:L2.St}{H:Hp}{s:aaR}{a:abc}{y v:V}{u r:abh}{A:acF}{E:bR}
theorem BN{H':Hp}{Q:Unit->aaR->Prop}(hu:A.units<aep)(I:Inv X pins σ H s)(g:n4 H a y v H')(ry:RelV y u)(rv:RelV v r)(h:∀h' t,Inv X pins σ H' { s with heap:=h',toks:=t }->aed a s.heap h'->Q () { s with heap:=h',toks:=t }):abj (abG X.prog X.w) A (dictSet a u r) Q E s:=by
 rcases g with⟨kvs,k,e,ey,l,eH⟩ | ⟨kvs,k,b,e,ey,eb,l,eH⟩
 ·subst ey eH;obtain⟨z,hd,vs,rel,dd⟩:=pJ I.aB e;have hz:↑vs<=sizeLine:=by rw[<- ↑rel];exact z
  have hl:(putK kvs k v).length<=sizeLine:=by have:=vT kvs k v;omega
  refine wpAny_dictSet_pairs (hsz:=hz) (pI ry) dd λh' lJ hs=>h _ _ ?_ hs
  have he:∃q,h'.get? a=O q:=let ⟨q,_,_,hq,_⟩:=lJ;⟨q,hq⟩
  exact pA I (by rw[e];exact adL) hs he (Ho hl hd (rel.put k rv) lJ)
 ·subst ey eH;cases(show u=abi b from ry);obtain⟨z,hd,xs,rel,dd⟩:=xE I.aB e;have hz:↑xs<=sizeLine:=by rw[<- adg rel];exact z
  have hl:(putK kvs k v).length<=sizeLine:=by have:=vT kvs k v;omega
  refine wpAny_dictSet_heap (hsz:=hz) hu (pE I.aB eb) dd λh' lJ hs=>h _ _ ?_ hs
  obtain⟨q,es,ep,hq,h2,h3,h4,_,h5⟩:=lJ;refine pA I (by rw[e];exact adL) hs ⟨q,hq⟩ ⟨hl,hd,_,(rel.put k eb rv).keeps λc ys ec=>?_,q,es,ep,hq,h2,h3,h4,h5⟩;rw[aI (fb ec e (λz=>nomatch z))];exact ec
theorem Vk{H':Hp}{Q:Unit->aaR->Prop}(hu:A.units<aep)(I:Inv X pins σ H s)(g:km H a y v H')(ry:RelV y u)(rv:RelV v r)(h:∀h' t,Inv X pins σ H' { s with heap:=h',toks:=t }->aed a s.heap h'->Q () { s with heap:=h',toks:=t }):abj (abG X.prog X.w) A (dictSet a u r) Q E s:=by
 rcases g with g | ⟨e,k,b,ey,eb,eH⟩ | ⟨e,k,ey,eH⟩
 ·exact BN hu I g ry rv h
 ·subst ey eH;have g:n4 (upd H a (.dT [])) a (.ref b) v (upd (upd H a (.dT [])) a (.dT (putK [] k v))):=.inr ⟨[],k,b,bX,rfl,by rw[aI (fb eb e (λz=>nomatch z))];exact eb,by decide,rfl⟩;refine BN hu (pG I e) g ry rv λh' t I3 hs=>h h' t ?_ hs
  rw[rX] at I3;exact I3
 ·subst ey eH;have g:n4 (upd H a (.dK [])) a (kV k) v (upd (upd H a (.dK [])) a (.dK (putK [] k v))):=.inl ⟨[],k,bX,rfl,by decide,rfl⟩;refine BN hu (nK I e) g ry rv λh' t I3 hs=>h h' t ?_ hs
  rw[rX] at I3;exact I3
end
theorem Ee:entryFor table "dict.update.loop"=O Builtin.«dict.update.loop»:=entryFor_of_tree (by kernel_rfl)
theorem vt:plainId "dict.update.loop"=true:=by decide +kernel
section
variable{X:Cx}{pins:List (abc×Obj)}{σ:L2.St}{A:acF}{R:Result->aaR->Prop}
theorem GJ{H:Hp}{s:aaR}{h':ade}{it:abc}(I:Inv X pins σ H s)(k:∀b u,b≠it->s.heap.get? b=O u->h'.get? b=O u)(hf:hZ X pins H it):Inv X pins σ H { s with heap:=h' }:=
 GG (s:=s) (h':=h') (t':=s.toks) (fp:=[it]) I (λb o hb q=>k b o (λz=>hb (by simp[z])) q) (λb hb=>by
  have:b=it:=by simpa using hb
  subst this;exact hf)
theorem pair_items{T:abc}{ot:Obj}{uk uv:abh}{nt:Nat}{s:aaR}{E:bR}{Q:aT->aaR->Prop}(qB:s.heap.get? T=O ot)(yR:ot.cls=.type "tuple")(fI:ot.data=.seq #[uk,uv] nt)(h:Q [uk,uv] s):abj (abG X.prog X.w) A (agE (.ref T)) Q E s:=by
 unfold agE;refine aaH (wpAny_typeOf (T:="tuple") ⟨_,qB,yR⟩ ?_);rw[if_pos (by decide)];exact aaH (afT qB fI (aaM h))
theorem E8(hA:A.handled=Z)(hu:A.units+1<aep){d it l:abc}{xs:aE}:∀(ps:List (V×V)) (i:Nat) (t:Tok) (s:aaR) (H H':Hp),Inv X pins σ H s->H l=O (.lst xs)->hZ X pins H it->it≠d->s.heap.IsListIter it l i →
  Bj H (xs.drop i) ps->xJ d H ps H'->(∀s',Inv X pins σ H' s'->R (.ok (.ret .none)) s')->ahJ (abG X.prog X.w) A (.builtin "dict.update.loop" ⟨[.ref d,.ref it,.int i t,.none],[]⟩) R s
 | [],i,t,s,H,H',I,hl,hf,jk,hit,hp,hF,k=>by
  obtain rfl:H'=H:=hF;obtain⟨its,rv,pl,hz⟩:=I.list (bH.of hl);have hd:xs.drop i=[]:=by
   generalize xs.drop i=z at hp;cases hp;rfl
  have qC:↑xs<=i:=by simpa using hd
  refine adN Ee ?_;rw[adf vt _];show abj _ A.in1 (ahj (.ref it) >>= _) _ _ s;refine aaH (wpAny_pyNext_list_end (A:=A.in1) hA hit pl.isList (by have:=↑rv;simp;omega) λh' eb=>?_);show abj _ A.in1 (Builtin.Dict.addKeywords d [] >>= λ_=>PySem.ret abN) _ _ _;refine aaH (aaM ?_);refine aaM (k _ ?_);exact GJ I (λb o hb q=>eb b o hb q) hf
 | p::ps,i,t,s,H,H',I,hl,hf,jk,hit,hp,hF,k=>by
  obtain⟨H1,qh,hF⟩:=hF;obtain⟨its,rv,pl,hz⟩:=I.list (bH.of hl);cases hd:xs.drop i with
  | nil=>rw[hd] at hp;cases hp
  | cons x ys=>
   rw[hd] at hp;cases hp with
   | cons hx hp=>
    obtain⟨T,rfl,hT⟩:=hx;have hxi:xs[i]? =O (.ref T):=by
     have:=congrArg (λl=>l[0]?) hd
     simpa using this
    have hys:xs.drop (i+1)=ys:=by
     have:=congrArg (λl=>l.drop 1) hd
     simpa[ahl,agN] using this
    obtain⟨u,ub,ru⟩:=rv.get hxi;obtain rfl:u=abi T:=ru;refine adN Ee ?_;rw[adf vt _];show abj _ A.in1 (ahj (.ref it) >>= _) _ _ s;refine aaH (wpAny_pyNext_list_item hit pl.isList (x:=.ref T) (by simpa using ub) λh1 Zk C4=>?_);have I1:Inv X pins σ H { s with heap:=h1 }:=GJ I (λb o hb q=>C4.extBut b o hb q) hf;obtain⟨ku,KQ,pt,_⟩:=I1.tuple (cI.of hT);obtain⟨uk,uv,e2,rk,rw2⟩:=Vals.two KQ;subst e2;obtain⟨ot,qB,yR,nt,fI⟩:=pt;have yc:it≠d:=jk;simp only[];refine aaH (abS (aaH (wpAny_tryCatch (pair_items qB yR fI ?_))));simp only[];refine abS (Vk hu I1 qh rk rw2 λh2 t2 I2 ic=>?_);refine aaM ⟨ags vt _,?_⟩;have hnl:l≠d:=qh.ne hl (λ_ z=>nomatch z) (λ_ z=>nomatch z);refine E8 hA hu ps (i+1) 0 _ H1 H' I2 (by rw[qh.other hnl];exact hl) ⟨by rw[qh.other yc];exact hf.1,hf.2⟩ yc (Zk.at λo q=>(ic.2 it yc).trans q) ?_ hF k;rw[hys];exact aco.jF hp λ_ _ ⟨T',e1,e2⟩=>⟨T',e1,by rw[qh.other (qh.ne e2 (λ_ z=>nomatch z) (λ_ z=>nomatch z))];exact e2⟩
end
noncomputable def IX:aE->Hp->VK->Prop:=λxs H Q=>∃l vs ps,xs=[.ref l]/\H l=O (.lst vs)/\Bj H vs ps/\∀d,H d=Z->∃H',xJ d (upd H d (.dK [])) ps H'/\Q (.ref d) H'
section
variable{X:Cx}
theorem O3(hc:X.calm=true)(hu:X.A.units+64<aep):c4 X (.type "dict") IX:=by
 intro pins s σ H xs us Q I r h;obtain⟨l,vs,ps,rfl,hl,hp,h⟩:=h;obtain⟨u,rfl,rx⟩:=vals1 r;obtain rfl:u=abi l:=rx;have hA:X.A.handled=none:=I.ok.hd hc;have hn:=I.aB.fresh (aaN s.heap.objs.size);obtain⟨H',hF,hq⟩:=h s.heap.objs.size hn;refine callType_codes (Q₁:=λobj bT=>obj=.ref s.heap.objs.size/\bT={ s with heap:=s.heap.push { cls:=.type "dict",data:=.dict #[] } }) F.kt_called_dict (F.kt_typeCall_dict_1 _) F.entry_dict_init (kt_code_dict_new _ ⟨rfl,rfl⟩) ?_;rintro obj bT ⟨rfl,rfl⟩;have iD:(s.heap.push { cls:=.type "dict",data:=.dict #[] }).DictOf (dD X.prog X.w) s.heap.objs.size []:=ahZ s.heap;have Zl:(s.heap.objs.size==acx)=false:=beq_eq_false_iff_ne.mpr (acD I.big);have I1:Inv X pins σ (upd H s.heap.objs.size (.dK [])) { s with heap:=s.heap.push { cls:=.type "dict",data:=.dict #[] } }:=
  I.laid (t':=s.toks) (λb u q=>aaO _ q) (aaN _) ⟨aca _,Zl,[],.nil,iD⟩
 refine⟨iD.typeIs,F.args_dict_init_2 _ _,?_⟩;have fJ:l≠s.heap.objs.size:=cC hl hn;have jn:upd H s.heap.objs.size (.dK []) l=O (.lst vs):=by rw[aI fJ];exact hl
 obtain⟨its,rv,pl,hz⟩:=I1.list (bH.of jn);unfold Builtin.«dict.__init__»;refine aaH ?_;unfold Builtin.Dict.selfAndRest;refine aaH (afh iD.typeIs ?_);show abj _ _ (pure (s.heap.objs.size,[abi l])) _ _ _;refine aaM ?_;show abj _ _ (agt "dict.__init__" s.heap.objs.size (.ref l) [] .none) _ _ _;unfold agt;obtain⟨ol,yS,eS,n,iN⟩:=pl.isList;have hT:({ s with heap:=s.heap.push { cls:=.type "dict",data:=.dict #[] } }:aaR).TypeIs (.ref l) "list":=⟨_,yS,eS⟩
 refine aaH (wpAny_typeOf hT ?_);rw[if_pos (by decide)];obtain⟨oq,nq,h1q,h2q,h3q,h4q⟩:=pl;refine aaH ((R4 (A:=X.A.in1.in1) h1q h2q h4q h3q hA λh1 t1 k1=>?_));simp only[Option.isNone_none,if_true];refine aaH (aeS ?_);have I2:Inv X pins σ (upd H s.heap.objs.size (.dK [])) { s with heap:=h1,toks:=t1 }:=I1.kept (t':=t1) k1;obtain⟨ku,KQ,pl2,hz2⟩:=I2.list (bH.of jn);refine aaH (aeU pl2.isList ?_);refine aaM ⟨ags vt _,?_⟩;have hd:s.heap.objs.size<h1.objs.size:=aaU (k1 _ _ (abl _ rfl));have I3:Inv X pins σ (upd H s.heap.objs.size (.dK [])) { s with heap:=h1.push { cls:=.type "list_iterator",data:=.fields #[.ref l,.int 0 0] },toks:=t1 }:=I2.kept (t':=t1) λb u q=>aaO _ q
 refine E8 (X:=X) (pins:=pins) (σ:=σ) (A:=X.A.in1) hA (by show X.A.units+1+1<aep;omega) ps 0 0 _ _ H' I3 jn (I2.pX (aaN _) (I2.aB.fresh (aaN _))) (acD hd) ⟨_,abl _ rfl,rfl,rfl⟩ ?_ hF λs' I'=>?_
 ·exact aco.jF hp λ_ _ ⟨T',e1,e2⟩=>⟨T',e1,by rw[aI (cC e2 hn)];exact e2⟩
 ·exact⟨rfl,.ref s.heap.objs.size,H',I',rfl,hq⟩
end
noncomputable def nT:aZ->List (W×W)->Option aZ
 | d,[]=>O d
 | d,p::r=>if eP d p.1=true/\↑d<abd then nT (c6 d p.1 p.2) r else Z
noncomputable def sS:W->Option (W×W)
 | .tup [a,b]=>O (a,b)
 | _=>Z
noncomputable def pO:ap->Po W:=λxs ph=>match xs with
 | [.ref i]=>match ph[i]? with
  | some (.lst ws)=>match ba sS ws with
   | some ps=>match nT [] ps with
    | some d=>O (.ref ↑ph,ph++[.aX d])
    | none=>Z
   | none=>Z
  | _=>Z
 | _=>Z
abbrev IY(K:aaJ)(φ:Nat->abc)(n:Nat)(H:Hp):aZ->List (V×V)->Prop:=aco λp q=>aF K φ n H p.1 q.1/\aF K φ n H p.2 q.2
theorem FU{K:aaJ}{φ:Nat->abc}{i:Nat}:∀{ps:aZ} {qs:List (V×V)} {ph:PH} {H:Hp} {d d':aZ},aC K φ ph H->i<↑ph->ph[i]? =O (.aX d)->IY K φ ↑ph H ps qs->nT d ps=O d' →
  ∃H',xJ (φ i) H qs H'/\aC K φ (ph.set i (.aX d')) H'/\Step K φ ↑ph H φ ↑ph H'
 | [],qs,ph,H,d,d',hH,hi,hd,hr,e=>by
  cases hr;cases e;refine⟨H,rfl,?_,Step.refl⟩;have:ph.set i (.aX d)=ph:=by
   apply adO
   intro j;by_cases hj:i=j
   ·subst hj;rw[abL hi,hd]
   ·rw[ace hj]
  rw[this];exact hH
 | p::ps,qs,ph,H,d,d',hH,hi,hd,hr,e=>by
  cases hr with
  | cons h r=>
   unfold nT at e;split at e
   ·rename_i hk;obtain⟨H1,hp,aw,s1⟩:=FT hH hi hd h.1 h.2 hk.1 hk.2;rw[aby] at s1;have hl:(ph.set i (.aX (c6 d p.1 p.2))).length=↑ph:=aby ..;obtain⟨H2,hF,aR,s2⟩:=FU (ph:=ph.set i (.aX (c6 d p.1 p.2))) aw (by rw[hl];exact hi) (abL hi) (by rw[hl];exact aco.jF r λ_ _ z=>⟨z.1.mono s1,z.2.mono s1⟩) e;rw[hl] at s2;rw[ahT] at aR;exact⟨H2,⟨H1,hp,hF⟩,aR,s1.trans s2⟩
   ·cases e
theorem E9{K:aaJ}{φ:Nat->abc}{n:Nat}{H:Hp}:∀{ws:ap} {vs:aE} {ps:aZ},aN K φ n H ws vs->ba sS ws=O ps->∃qs,Bj H vs qs/\IY K φ n H ps qs
 | _,_,ps,.nil,e=>by cases e;exact⟨[],.nil,.nil⟩
 | _,_,ps,.cons h r,e=>by
  unfold ba at e;split at e
  ·rename_i b bs e1 e2;cases e;obtain⟨qs,h1,h2⟩:=E9 r e2;unfold sS at e1;split at e1
   ·cases e1;cases h with
    | tup hT rt=>
     cases rt with
     | cons ra rt=>
      cases rt with
      | cons rb rt=>
       cases rt;exact⟨(_,_)::qs,.cons ⟨_,rfl,hT⟩ h1,.cons ⟨ra,rb⟩ h2⟩
   ·cases e1
  ·cases e
theorem R5:gK K IX pO:=by
 intro φ ph H xs vs w ph' Q hH r e k;unfold pO at e;split at e
 ·rename_i i;split at e
  ·rename_i ws hw;split at e
   ·rename_i ps yT;split at e
    ·rename_i d hd;cases e;cases r with
     | cons r rr=>
      cases rr;cases r with
      | ref hi=>
       obtain⟨us,hu,ru⟩:=hH.hp _ _ hw;obtain⟨qs,h1,h2⟩:=E9 ru yT;refine⟨_,us,qs,rfl,hu,h1,λp hp=>?_⟩;obtain⟨q1,q2,q3⟩:=FQ hH hp;have hl:(ph++[PO.aX []]).length=↑ph+1:=by simp
       obtain⟨H',hF,KR,s'⟩:=FU (i:=↑ph) (d:=[]) q1 (by rw[hl];exact acA _) (by simp) (aco.jF h2 λ_ _ z=>⟨z.1.mono q2,z.2.mono q2⟩) hd;have he:(ph++[PO.aX []]).set ↑ph (.aX d)=ph++[.aX d]:=by simp
       have fF:(ph++[PO.aX d]).length=(ph++[PO.aX []]).length:=by simp
       rw[he] at KR;rw[la] at hF;refine⟨H',hF,k _ H' _ KR (by rw[fF];exact q2.trans s') (by rw[fF];exact q3.mono s')⟩
    ·cases e
   ·cases e
  ·cases e
 ·cases e
noncomputable def gw:HO->Prop
 | .dK _=>True
 | .dT _=>True
 | .dU _=>True
 | _=>False
noncomputable def NF(X:Cx)(d:abc):Prop:=∀o u,X.aM d≠O (.aL o u)
variable{u:HO}
theorem GK(h:gw u):kD (O u):=by cases u <;> first | exact trivial | exact h.elim
section
variable{X:Cx}{pins:List (abc×Obj)}{σ:L2.St}{H:Hp}{s:aaR}{d:abc}{u:HO}
theorem GL{P:abI}{w:acg}{h:ade}(hu:gw u)(ok:cY P w H h d u):∃o es ep,h.get? d=O o/\o.cls=.type "dict"/\o.data=.dict es ep/\(d==acx)=false:=by
 cases u with
 | dK kvs=>obtain⟨_,z,vs,_,o,es,ep,h1,h2,h3,_⟩:=ok;exact⟨o,es,ep,h1,h2.1,h3,z⟩
 | dT kvs=>obtain⟨_,z,xs,_,o,es,ep,h1,h2,h3,_⟩:=ok;exact⟨o,es,ep,h1,h2.1,h3,z⟩
 | dU kvs=>obtain⟨_,z,o,es,ep,h1,h2,h3,_⟩:=ok;exact⟨o,es,ep,h1,h2.1,h3,z⟩
 | _=>exact hu.elim
theorem Oo(I:Inv X pins σ H s)(e:H d=O u)(hu:gw u):∃o es ep,s.heap.get? d=O o/\o.cls=.type "dict"/\o.data=.dict es ep/\(d==acx)=false/\NF X d/\Inv X pins σ (upd H d (.aL o u)) s:=by
 have hk:=I.aB d u e;obtain⟨o,es,ep,h1,h2,h3,h4⟩:=GL hu hk;refine⟨o,es,ep,h1,h2,h3,h4,λo' u' z=>?_,?_⟩
 ·have q:=I.base.ee d o' u' z;rw[e] at q;cases q;exact hu
 ·refine I.write (x:=d) (e:=d) (h':=s.heap) (t':=s.toks) (o:=.aL o u) (by rw[e];exact GK hu) (.inl rfl) (λ_ _ _ q=>q) ⟨o,h1⟩ ⟨h1,?_⟩;refine hk.gL (λ_ _ _ q=>q) (λb q=>?_) λb xs q=>?_
  ·rw[aI (fb q e (λz=>by subst z;exact hu))];exact q
  ·rw[aI (fb q e (λz=>by subst z;exact hu))];exact q
theorem Qj{o:Obj}(I:Inv X pins σ H s)(e:H d=O (.aL o u))(hu:gw u)(nf:NF X d):Inv X pins σ (upd H d u) s:=by
 have nn:∀b,H b=Z->b≠d:=λb q z=>by rw[z,e] at q;cases q
 refine⟨I.ok,I.os,I.bare,⟨I.base.keep,I.base.slot,λb ob q n hx=>?_,I.base.there,λb xs q=>?_,λb ob v q=>?_,λb ps q=>?_⟩,I.loc,I.cell,?_,λx c q=>?_,λp hp=>?_,λa v q=>?_,I.lk⟩
 ·have z:=I.base.free b ob q n hx;rw[aI (nn b z)];exact z
 ·have z:=I.base.fU b xs q;rw[aI (fb z e (λz=>nomatch z))];exact z
 ·have z:=I.base.ee b ob v q;by_cases hb:b=d
  ·subst hb;exact(nf _ _ q).elim
  ·rw[aI hb];exact z
 ·obtain⟨m,z⟩:=I.base.fV b ps q;exact⟨m,by rw[aI (fb z e (λz=>nomatch z))];exact z⟩
 ·rw[aI (nn _ I.free)];exact I.free
 ·refine⟨λz=>?_,(I.gH x c q).2.imp (λz=>?_) λ⟨ob,z⟩=>⟨ob,?_⟩⟩
  ·have z:=(I.gH x c q).1 z;rw[aI (nn _ z)];exact z
  ·rw[aI (nn _ z)];exact z
  ·rw[aI (λy=>by rw[y,e] at z;cases z;exact hu)];exact z
 ·obtain⟨q1,q2,q3⟩:=I.pin p hp;exact⟨q1,by rw[aI (nn _ q2)];exact q2,q3⟩
 ·by_cases hb:a=d
  ·subst hb;rw[bX] at q;cases q;exact(I.aB a _ e).2.gL (λ_ _ _ q=>q) (λb q=>by rw[aI (fb q e (λz=>nomatch z))];exact q) λb xs q=>by rw[aI (fb q e (λz=>nomatch z))];exact q
  ·rw[aI hb] at q;exact(I.aB a _ q).gL (λ_ _ _ q=>q) (λb q=>by rw[aI (fb q e (λz=>nomatch z))];exact q) λb xs q=>by rw[aI (fb q e (λz=>nomatch z))];exact q
end
section
variable{K:aaJ}{φ:Nat->abc}{n:Nat}{H:Hp}{d:abc}{o:Obj}{u:HO}(e:H d=O (.aL o u))(hu:gw u)(hc:o.cls=.type "dict")
include e hu hc
theorem Bk{a:abc}{o':Obj}{u':HO}(h:H a=O (.aL o' u'))(k:(∀v,gw v->u'≠v)\/∃C,o'.cls=.ref C):a≠d:=λz=>by
 subst z;rw[e] at h;cases h
 rcases k with k | ⟨C,k⟩
 ·exact k u hu rfl
 ·rw[hc] at k;cases k
theorem ms.cQ{x:Obj}{ns:a8}{vs:aE}(h:ms H x ns vs):ms (upd H d u) x ns vs:=
 h.imp_right λ⟨b,od,e1,e2,e3⟩=>⟨b,od,e1,e2,by rw[aI (Bk e hu hc e3 (.inl λv hv z=>by subst z;exact hv))];exact e3⟩
omit hc in
theorem Am:∀(a:abc) (o':Obj),H a=O (.aL o' de)->upd H d u a=O (.aL o' de):=λa o' h=>by
 rw[aI (λz=>by rw[z,e] at h;cases h;exact hu)];exact h
mutual
theorem aF.cQ:∀{w:W} {v:V},aF K φ n H w v->aF K φ n (upd H d u) w v
 | _,_,.aH=>.aH
 | _,_,.bl b=>.bl b
 | _,_,.int i=>.int i
 | _,_,.str x=>.str x
 | _,_,.tup h r=>.tup (by rw[aI (fb h e (λz=>nomatch z))];exact h) (aN.cQ r)
 | _,_,.fl h r=>.fl (h.elim (λ⟨o',q⟩=>.inl ⟨o',by rw[aI (Bk e hu hc q (.inl λv hv z=>by subst z;exact hv))];exact q⟩) .inr) (aN.cQ r)
 | _,_,.ref h=>.ref h
 | _,_,.exc h dX hn hk hf r=>.exc (by rw[aI (Bk e hu hc h (.inr ⟨_,dX⟩))];exact h) dX hn hk (ms.cQ e hu hc hf) (aN.cQ r)
 | _,_,.fn h hl hv r=>.fn (Am e hu _ _ h) (hl.mono (Am e hu)) (hv.mono (Am e hu)) (aN.cQ r)
 | _,_,.kt h r=>.kt h (aN.cQ r)
theorem aN.cQ:∀{ws:ap} {vs:aE},aN K φ n H ws vs->aN K φ n (upd H d u) ws vs
 | _,_,.nil=>.nil
 | _,_,.cons h r=>.cons (aF.cQ h) (aN.cQ r)
end
theorem cD.cQ:∀{ws:aZ} {vs:fD},cD K φ n H ws vs->cD K φ n (upd H d u) ws vs
 | _,_,.nil=>.nil
 | _,_,.cons h r=>.cons (h.cQ e hu hc) (cD.cQ r)
theorem cG.cQ:∀{ws:aZ} {vs:f9},cG K φ n H ws vs->cG K φ n (upd H d u) ws vs
 | _,_,.nil=>.nil
 | _,_,.cons h r=>.cons (h.cQ e hu hc) (cG.cQ r)
theorem je.cQ:∀{ws:List (Str×W)} {vs:List (Str×V)},je K φ n H ws vs->je K φ n (upd H d u) ws vs
 | _,_,.nil=>.nil
 | _,_,.cons h r=>.cons (h.cQ e hu hc) (je.cQ r)
theorem dg.cQ:∀{ws:aZ} {vs:List (V×V)},dg K φ n H ws vs->dg K φ n (upd H d u) ws vs
 | _,_,.nil=>.nil
 | _,_,.cons hk h r=>.cons (hk.cQ e hu hc) (h.cQ e hu hc) (dg.cQ r)
theorem Vl{p:PO}(ha:a≠d)(h:ki K φ n H p a):ki K φ n (upd H d u) p a:=by
 have q0:upd H d u a=H a:=aI ha;cases p with
 | lst ws=>obtain⟨vs,q,r⟩:=h;exact⟨vs,q0.trans q,r.cQ e hu hc⟩
 | aX kws=>
  rcases h with⟨vs,q,r⟩ | ⟨vs,q,r⟩
  ·exact .inl ⟨vs,q0.trans q,r.cQ e hu hc⟩
  ·exact .inr ⟨vs,q0.trans q,r.cQ e hu hc⟩
 | obj c fs=>obtain⟨C,dx,vs,q1,q2,r⟩:=h;exact⟨C,dx,vs,q1,q0.trans q2,r.cQ e hu hc⟩
 | bY kws=>obtain⟨kvs,q,r,nd⟩:=h;exact⟨kvs,q0.trans q,r.cQ e hu hc,nd⟩
 | ft kws=>obtain⟨o,kvs,dX,q,r,nd⟩:=h;exact⟨o,kvs,dX,q0.trans q,r.cQ e hu hc,nd⟩
 | mO kws=>
  obtain⟨o,dX,⟨vs,q,r⟩ | ⟨vs,q,r⟩⟩:=h
  ·exact⟨o,dX,.inl ⟨vs,q0.trans q,r.cQ e hu hc⟩⟩
  ·exact⟨o,dX,.inr ⟨vs,q0.trans q,r.cQ e hu hc⟩⟩
end
theorem O4{ak:Nat->abc}{n n':Nat}{d:abc}{o:Obj}{v:HO}(hd:H d=O v)(hv:gw v)(s:Step K φ n (upd H d (.aL o u)) ak n' H'):Step K φ n H ak n' (upd H' d u):=by
 have ne:∀a x,H a=O x->¬gw x->a≠d:=λa x q nx z=>by
  subst z;rw[hd] at q;cases q;exact nx hv
 refine⟨s.le,s.eq,λa xs h=>?_,λa o' u' h=>?_⟩
 ·have ha:=ne a _ h (λz=>z);rw[aI ha];exact s.tup a xs (by rw[aI ha];exact h)
 ·have ha:=ne a _ h (λz=>z);rw[aI ha];exact s.aL a o' u' (by rw[aI ha];exact h)
noncomputable def nU:HO->Nat
 | .dK kvs=>↑kvs
 | .dT kvs=>↑kvs
 | .dU kvs=>↑kvs
 | _=>0
noncomputable def IZ(H:Hp)(u:HO)(i:Nat)(y v:V):Prop:=match u with
 | .dK kvs=>∃k,kvs[i]? =O (k,v)/\y=kV k
 | .dT kvs=>∃k b,kvs[i]? =O (k,v)/\y=.ref b/\H b=O (.tup (k.map kV))
 | .dU kvs=>kvs[i]? =O (y,v)
 | _=>False
theorem Xu{w:acg}{x:abh}(h:(dD P w).is k x=true):RelV (kV k) x:=by
 rcases iU h with⟨i,t,rfl,rfl⟩ | ⟨y,t,rfl,rfl⟩
 ·exact⟨t,rfl⟩
 ·exact⟨t,rfl⟩
theorem aco.at{α β:Type}{R:α->β->Prop}:∀{xs:List α} {ys:List β} {i:Nat} {y:β},aco R xs ys->ys[i]? =O y->∃x,xs[i]? =O x/\R x y
 | _,_,_,_,.nil,e=>by simp at e
 | _,_,0,_,.cons h _,e=>by simp at e;subst e;exact⟨_,rfl,h⟩
 | _,_,i+1,y,.cons _ r,e=>by
  obtain⟨x,h1,h2⟩:=aco.at (i:=i) r (by simpa using e);exact⟨x,by simpa using h1,h2⟩
theorem AL{w:acg}{d:abc}{o:Obj}{es:Array acV}{ep:Nat}(hu:gw u)(ok:cY P w H h d u)(ho:h.get? d=O o)(hd:o.data=.dict es ep):nU u=es.size/\∀i e,es[i]? =O e->∃y v,IZ H u i y v/\RelV y e.key/\RelV v e.val:=by
 cases u with
 | dK kvs=>
  obtain⟨_,z,vs,rel,o',es',lH,h1,h2,h3,h4,h5,h6⟩:=ok;rw[ho] at h1;cases h1;rw[hd] at h3;cases h3;have l1:=adg rel;have l2:=↑h5;refine⟨by show ↑kvs=_;rw[l1,<- l2];simp,λi e he=>?_⟩;have jo:es.toList[i]? =O e:=by simpa using he
  have hi:i<↑vs:=by rw[<- l2];exact(aaG.mp jo).1
  obtain⟨q1,q2⟩:=h5.get? (i:=i) (e:=e) (k:=vs[i].1) (v:=vs[i].2) jo (by simp[hi]);obtain⟨p,e1,e2,e3⟩:=aco.at (i:=i) (y:=vs[i]) rel (by simp[hi]);refine⟨kV p.1,p.2,⟨p.1,e1,rfl⟩,?_,by rw[q2];exact e3⟩;rw[e2];exact Xu q1
 | dT kvs=>
  obtain⟨_,z,xs,rel,o',es',lH,h1,h2,h3,h4,h5⟩:=ok;rw[ho] at h1;cases h1;rw[hd] at h3;cases h3;have l1:=adg rel;have l2:=congrArg ahp h4;rw[aaI] at l2;refine⟨by show ↑kvs=_;rw[l1,<- l2];simp,λi e he=>?_⟩;have jo:es.toList[i]? =O e:=by simpa using he
  rw[h4,aaK] at jo;cases q:xs[i]? with
  | none=>rw[q] at jo;cases jo
  | some x=>
   rw[q] at jo;cases jo;obtain⟨p,e1,e2,e3,e4⟩:=aco.at (i:=i) (y:=x) rel q;exact⟨.ref x.2.1,p.2,⟨p.1,x.2.1,e1,rfl,e3⟩,rfl,e4⟩
 | dU kvs=>
  obtain⟨_,z,o',es',lH,h1,h2,h3,rel⟩:=ok;rw[ho] at h1;cases h1;rw[hd] at h3;cases h3;refine⟨by show ↑kvs=_;rw[adg rel];simp,λi e he=>?_⟩;obtain⟨p,e1,e2,e3,_⟩:=aco.at (i:=i) (y:=e) rel (by simpa using he);exact⟨p.1,p.2,e1,e2,e3⟩
 | _=>exact hu.elim
noncomputable def QT(X:Cx)(Q:VK):VK:=λv H'=>∃d o u,H' d=O (.aL o u)/\gw u/\NF X d/\Q v (upd H' d u)
section
variable{X:Cx}{tg iter elt:acJ}{ifs:cc}{scope:adB}{pos:Pos}{N:a8}{cap:eO}{m:EM}{g:GM}{c:TM}{e:EM}
theorem EP.cQ{pins:List (abc×Obj)}{σ:L2.St}{Q:VK}{v:abh}{s:aaR}(h:EP X pins σ (QT X Q) v s):EP X pins σ Q v s:=by
 obtain⟨x,H',I,r,d,o,u,e,hu,nf,q⟩:=h;exact⟨x,_,Qj I e hu nf,r,q⟩
variable{o:acJ}{mC:cc}{j:Nat}{tp apos d8:Pos}
end
noncomputable def JZ:W->W->Po W:=qw λi j=>i+j
section
variable{X:Cx}{N:a8}{sc:adB}{e:acJ}{m:EM}{pos pos':Pos}
theorem R6{i:Nat}{g:Int->Int->Int}{D:Ends}{σ:L2.St}{H:Hp}(h:tS X (aK (ab (qw g) (aa i) m) (gN i)) D σ H):Jx i (tM X m) (Kh g) D σ H:=by
 obtain⟨φ,ph,ws,hH,hS,h⟩:=h;unfold aK ab at h;rw[c3,c3] at h;obtain⟨w,ph',e,k⟩:=run_lift h;split at e
 ·rename_i w' ew;cases e;obtain⟨v,ev,rv⟩:=hS.get ew;refine⟨v,ev,?_⟩;rw[c3] at k;refine⟨φ,ph,ws,hH,hS,k.mono (λy ph1 k aq H1 vy aw s1 ry=>?_) λ_ _ z=>z⟩;obtain⟨z,ph2,e,k⟩:=run_lift k;have qA:=rv.mono s1;unfold qw at e;split at e
  ·cases e;cases qA;cases ry;refine⟨_,_,rfl,rfl,?_⟩;exact k aq H1 aw s1 _ ((hS.mono s1).set (.int _) i)
  ·cases e
 ·cases e
theorem fH.Xv(B:fH X N sc)(i:Nat){x:Str}(hN:N[i]? =O x)(hl:Loc sc x)(he:JE X e m):JS X (.AugAssign (.Name x pos') .Add e pos) (aK (ab JZ (aa i) m) (gN i)):=
 ⟨PS.imp (TU (by rw[B.hN];exact B.nd) (by rw[B.hN];exact hN) (B.loc x hl) he.h TV (B.fn x hl)) λ_ _ _ h=>R6 h⟩
end
noncomputable def J0(x:Str):Bool:= !(x==("__debug__":Str))&& !(x==("__classdict__":Str))
section
variable{X:Cx}{N:a8}{sc:adB}{k:Nat}{b:acJ}
theorem fH.jv{pos:Pos}(B:fH X N sc)(i:Nat){x:Str}(hN:N[i]? =O x)(hv:jP sc x)(hk:J0 x=true):JE X (.Name x pos) (aa i):=by
 unfold J0 at hk;rw[aaZ] at hk;exact B.Ze i hN hv (by simpa using hk.1) (by simpa using hk.2)
theorem eU.af{pos:Pos}{a:acJ}{ma mb:EM}(B:eU X N sc k)(ha:JE X a ma)(hb:JE X b mb)(hp:AA b:=by intro _ _;rfl):JE X (.Subscript a b pos) (ab af ma mb):=B.Vi hp ha hb
end
section
variable{prog:abI}{w:acg}{A:acF}{E:bR}{s:aaR}
theorem O5{b:Bool}{Q:Int->aaR->Prop}(h:Q (hashInt (if b then 1 else 0)) { s with toks:=s.toks+1 }):abj (abG prog w) A (pyHash (.bool b)) Q E s:=by
 have hr:=rawHash_range (if b then 1 else 0);have tb:s.TypeIs (.bool b) "bool":=rfl;have hv:[agc b].any Value.onHeap=false:=rfl;show abj _ _ (aeI (.bool b)) Q E s;unfold aeI;refine aaH ?_;rw[cRoomFor,if_neg (by rw[hv];exact abg)];refine aaM (aaH (acz tb adZ.lookup ?_));rw[if_neg (by rw[afj];exact abg)];refine aaH (acz tb adZ.lookup ?_);show abj _ _ (adX (.bool b) "__hash__" _ >>= _) Q E s;refine aaH (acQ tb adZ (acm adZ tb PySem.F.entry_int_hash (show abj _ _ (do PySem.ret (<- mkInt (rawHash (if b then 1 else 0)))) _ _ s from afx ?_) (PySem.F.args_int_hash_1 _)));show abj _ _ (if(decide (-(2:Int) ^ 63<=rawHash (if b then 1 else 0))&&decide (rawHash (if b then 1 else 0)<2 ^ 63))=true then _ else _) Q E _;rw[if_pos (by rw[a6 hr.1,a6 hr.2];rfl)];exact aaM h
theorem O6{Q:Int->aaR->Prop}(h:Q 0xFCA86420 { s with toks:=s.toks+1 }):abj (abG prog w) A (pyHash .none) Q E s:=by
 have tb:s.TypeIs .none "NoneType":=rfl;have hv:[abN].any Value.onHeap=false:=rfl;show abj _ _ (aeI .none) Q E s;unfold aeI;refine aaH ?_;rw[cRoomFor,if_neg (by rw[hv];exact abg)];refine aaM (aaH (acz tb adv.lookup ?_));rw[if_neg (by rw[afj];exact abg)];refine aaH (acz tb adv.lookup ?_);show abj _ _ (adX .none "__hash__" _ >>= _) Q E s;refine aaH (acQ tb adv (acm adv tb PySem.F.entry_NoneType_hash (show abj _ _ (do PySem.ret (<- mkInt 0xFCA86420)) _ _ s from afx ?_) (PySem.F.args_NoneType_hash_1 _)));show abj _ _ (if(decide (-(2:Int) ^ 63<=(0xFCA86420:Int))&&decide ((0xFCA86420:Int)<2 ^ 63))=true then _ else _) Q E _;rw[if_pos (by decide)];exact aaM h
noncomputable def Quiet(prog:abI)(w:acg)(A:acF)(E:bR)(s:aaR)(v:abh):Prop:=∀Q:Bool->aaR->Prop,Q true s->abj (abG prog w) A (aht 8 v) Q E s
theorem Fb{v:abh}(h:ahi v=true):Quiet prog w A E s v:=by
 intro Q hq;cases v <;> first | exact aaM hq | exact absurd h (by simp[ahi])
variable{es:Array acV}{h:Int}
theorem EG{i:Nat}(hi:i∈adl es.size (λi=>es[i]?.map (·.hash)) h):∃e,es[i]? =O e/\e.hash=h:=by
 rw[adl,abW] at hi;obtain⟨_,q⟩:=hi;cases z:es[i]? with
 | none=>rw[z] at q;cases q
 | some e=>rw[z] at q;exact⟨e,rfl,by simpa using q⟩
theorem Oq{i:Nat}{e:acV}(h1:es[i]? =O e)(h2:e.hash=h):i∈adl es.size (λi=>es[i]?.map (·.hash)) h:=by
 rw[adl,abW,abv];exact⟨(acs.mp h1).1,by rw[h1];simp[h2]⟩
noncomputable def KS(es:Array acV)(h:Int)(c:Nat->Bool):Option Nat->Prop
 | none=>∀i e,es[i]? =O e->e.hash=h->c i=false
 | some j=>(∃e,es[j]? =O e/\e.hash=h)/\c j=true/\∀i e,es[i]? =O e->e.hash=h->c i=true->i=j
abbrev _root_.aG:=List Nat
theorem Vm{d:abc}{o:Obj}{ep:Nat}{key:abh}{c:Nat->Bool}{r:Option Nat}{ps:aG}{Q:Option Nat->aaR->Prop}(ho:s.heap.get? d=O o)(hd:o.data=.dict es ep)(he:∀(i:Nat) (e:acV),es[i]? =O e->e.hash=h->ahO A s e.key key (c i))(mem:∀i∈ps,∃e,es[i]? =O e/\e.hash=h)(fin:(∀i∈ps,c i=false)->r=Z)(hit:∀i∈ps,c i=true->r=O i)(hQ:Q r s):abj (abG prog w) A (dictWalkPlain d key h es ps) Q E s:=by
 unfold dictWalkPlain;refine aaH ?_;refine adw _ (λrest b s'=>s'=s/\b=(Z,())/\∃done,ps=done++rest/\∀i∈done,c i=false) _ ?_ ?_ _ _ ⟨rfl,rfl,[],rfl,λi hi=>nomatch hi⟩
 ·rintro x rest b s' ⟨rfl,rfl,done,hp,hc⟩;have hx:x∈ps:=by rw[hp];simp
  obtain⟨e,e1,e2⟩:=mem x hx;rw[e1];show abj _ _ (if(e.hash==h)=true then _ else _) _ _ _;rw[if_pos (by rw[e2];simp)];refine aaH (adP ho hd (aaH (he x e e1 e2 prog w _ _ (aaH (adP ho hd ?_)))));show abj _ _ (if(ep != ep)=true then _ else _) _ _ _;rw[if_neg (by simp)];cases q:c x with
  | true=>
   show abj _ _ (if true=true then _ else _) _ _ _;rw[if_pos rfl];refine aaH (aeS (aaM ?_));rw[hit x hx q] at hQ;exact aaM hQ
  | false=>
   show abj _ _ (if false=true then _ else _) _ _ _;rw[if_neg abg];refine aaH (aeS (aaM ⟨rfl,rfl,done++[x],by rw[hp];simp,λi hi=>?_⟩))
   rcases abF.mp hi with hi | hi
   ·exact hc i hi
   ·rw[aaT.mp hi];exact q
 ·rintro b s' ⟨rfl,rfl,done,hp,hc⟩;rw[fin λi hi=>hc i (by rw[hp] at hi;simpa using hi)] at hQ;exact aaM hQ
noncomputable def J1(key:abh):Prop:=(∃b,key=.ref b)\/key=.none\/(∃b,key=.bool b)\/∃i t,key=.int i t
theorem Vn{d:abc}{o:Obj}{ep:Nat}{key:abh}{c:Nat->Bool}{r:Option Nat}{Q:Option Nat->aaR->Prop}(ho:s.heap.get? d=O o)(hd:o.data=.dict es ep)(Cj:J1 key)(he:∀(i:Nat) (e:acV),es[i]? =O e->e.hash=h->ahO A s e.key key (c i))(Xw:∀(i:Nat) (e:acV),es[i]? =O e->e.key=key->e.hash=h)(hq:Quiet prog w A E s key)(hqs:∀(i:Nat) (e:acV),es[i]? =O e->Quiet prog w A E s e.key)(hr:KS es h c r)(hQ:Q r s):abj (abG prog w) A (dictFind d key h) Q E s:=by
  have fin:(∀i∈adl es.size (λi=>es[i]?.map (·.hash)) h,c i=false)->r=none:=λhc=>by
    cases r with
    | none=>rfl
    | some j=>
      obtain⟨⟨e,h1,h2⟩,h3,_⟩:=hr;have:=hc j (Oq h1 h2);rw[h3] at this;cases this
  have hit:∀i∈adl es.size (λi=>es[i]?.map (·.hash)) h,c i=true->r=O i:=λi hi hc=>by
    obtain⟨e,h1,h2⟩:=EG hi;cases r with
    | none=>rw[hr i e h1 h2] at hc;cases hc
    | some j=>rw[hr.2.2 i e h1 h2 hc]
  have KU:∀v∈(adl es.size (λi=>es[i]?.map (·.hash)) h).filterMap (λi=>es[i]?.map (·.key)),Quiet prog w A E s v:=λv hv=>by
    obtain⟨i,_,q⟩:=acY.mp hv;cases z:es[i]? with
    | none=>rw[z] at q;cases q
    | some e=>rw[z] at q;cases q;exact hqs i e z
  have Zm:¬(es.any λe=>e.key==key&&e.hash != h)=true:=by
    rw[Array.any_eq_true];rintro⟨i,hi,q⟩;rw[aaZ,beq_iff_eq,bne_iff_ne] at q;exact q.2 (Xw i es[i] (aeu hi) q.1)
  unfold dictFind;refine abS (aaH (adQ ho hd ?_));generalize yT:adl es.size (λi=>es[i]?.map (·.hash)) h=ps at fin hit KU;have mem:∀i∈ps,∃e,es[i]? =O e/\e.hash=h:=λi hi=>EG (yT▸hi)
  have tell:∀{P:Bool->aaR->Prop},P false s->abj (abG prog w) A (tableMayTell key (ps.filterMap λi=>es[i]?.map (·.key))) P E s:=λ{P} hP=>by
    unfold tableMayTell;split
    · exact aaM hP
    · refine aaH (hq _ ?_)
      simp only[if_false,aej,abD];refine aaH ?_;refine adw _ (λrest b s'=>s'=s/\b=(Z,())/\∀v∈rest,Quiet prog w A E s v) _ ?_ ?_ _ _ ⟨rfl,rfl,KU⟩
      · rintro x rest b s' ⟨rfl,rfl,hv⟩
        refine aaH (hv x abo _ ?_);simp only[if_false,aej,abD];exact aaM ⟨rfl,rfl,λv q=>hv v (aba _ q)⟩
      · rintro b s' ⟨rfl,rfl,_⟩
        exact aaM hP
  rcases Cj with⟨b,rfl⟩ | rfl | ⟨b,rfl⟩ | ⟨n,tk,rfl⟩ <;>
  ( dsimp only
    refine afC (λ_=>Vm ho hd he mem fin hit hQ) (λ_=>?_)
    try refine afC (λz=>absurd z Zm) (λ_=>?_)
    refine afC (λ_=>aaH (aaM ?_)) (λ_=>aaH (tell ?_)) <;>
    ( rw[if_neg (by simp)]
      refine aaH ?_;refine adw _ (λrest b s'=>s'=s/\∃done jL,b=(Z,jL)/\ps=done++rest/\((jL=Z/\∀i∈done,c i=false)\/∃j∈done,jL=O j/\c j=true)) _ ?_ ?_ _ _ ⟨rfl,[],Z,rfl,rfl,.inl ⟨rfl,λi hi=>nomatch hi⟩⟩
      · rintro x rest b s' ⟨rfl,done,jL,rfl,hp,hc⟩
        have hx:x∈ps:=by rw[hp];simp
        have nd:ps.Nodup:=by rw[<- yT,adl];exact List.Nodup.sublist (List.filter_sublist ..) aex
        obtain⟨e,e1,e2⟩:=mem x hx;rw[e1]
        dsimp only
        rw[if_pos (by rw[e2];simp)];refine aaH (adP ho hd (aaH (he x e e1 e2 prog w _ _ (aaH (adP ho hd ?_)))));rw[if_neg (by simp)];have xd:x∉done:=by
          rw[hp,adm] at nd;exact λz=>nd.2.2 x z x (by simp) rfl
        cases q:c x with
        | true=>
          rw[if_pos rfl]
          rcases hc with⟨rfl,hc⟩ | ⟨j,hj,_,uy⟩
          · simp only[Option.isSome_none,abD,if_false]
            refine aaH (aeS ?_);refine afC (λ_=>aaM ?_) (λ_=>aaM ⟨rfl,done++[x],O x,rfl,by rw[hp];simp,.inr ⟨x,by simp,rfl,q⟩⟩);rw[hit x hx q] at hQ;exact aaM hQ
          · have z1:=hit x hx q
            rw[hit j (by rw[hp];simp[hj]) uy] at z1;cases z1;exact absurd hj xd
        | false=>
          rw[if_neg abg];refine aaH (aeS ?_);rw[if_neg (by simp)];refine aaM ⟨rfl,done++[x],jL,rfl,by rw[hp];simp,?_⟩
          rcases hc with⟨z,hc⟩ | ⟨j,hj,z,uy⟩
          · refine .inl ⟨z,λi hi=>?_⟩
            rcases abF.mp hi with hi | hi
            · exact hc i hi
            · rw[aaT.mp hi];exact q
          · exact .inr ⟨j,by simp[hj],z,uy⟩
      · rintro b s' ⟨rfl,done,jL,rfl,hp,hc⟩
        rw[aci] at hp;subst hp
        rcases hc with⟨rfl,hc⟩ | ⟨j,hj,rfl,uy⟩
        · rw[fin hc] at hQ
          exact aaM hQ
        · rw[hit j hj uy] at hQ
          exact aaM hQ))
end
noncomputable def uz:Key->abh->Bool
 | .inl i,.bool b=>i==(if b then 1 else 0)
 | k,v=>nM k v
theorem k5{v:abh}(h:uz k v=true):(∃i t,k=afU i/\v=afc i t)\/(∃x t,k=aho x/\v=ahu x t)\/∃b,k=afU (if b then 1 else 0)/\v=agc b:=by
 unfold uz at h;split at h
 ·rename_i i b;exact .inr (.inr ⟨b,by rw[eq_of_beq h],rfl⟩)
 ·rcases iU h with q | q
  ·exact .inl q
  ·exact .inr (.inl q)
noncomputable def jB(prog:abI)(w:acg):PySem.KeyKind prog w Key where
 is:=uz
 hash:=xV w
 inj:=λv a b ha hb=>by
  rcases k5 ha with⟨i,t,rfl,rfl⟩ | ⟨x,t,rfl,rfl⟩ | ⟨c,rfl,rfl⟩ <;> rcases k5 hb with⟨j,u,rfl,e⟩ | ⟨y,u,rfl,e⟩ | ⟨d,rfl,e⟩ <;> first | (cases e;done) | (cases e;rfl)
 byValue:=λk v h=>by
  rcases k5 h with⟨i,t,rfl,rfl⟩ | ⟨x,t,rfl,rfl⟩ | ⟨c,rfl,rfl⟩ <;> rfl
 pyHash:=λhv h=>by
  rcases k5 hv with⟨i,t,rfl,rfl⟩ | ⟨x,t,rfl,rfl⟩ | ⟨c,rfl,rfl⟩
  ·exact wpAny_pyHash_int h
  ·exact wpAny_pyHash_str h
  ·exact O5 h
 eqBool:=λhu hv h=>by
  rcases k5 hu with⟨i,t,rfl,rfl⟩ | ⟨x,t,rfl,rfl⟩ | ⟨c,rfl,rfl⟩
  ·rcases k5 hv with⟨j,u,rfl,rfl⟩ | ⟨y,u,rfl,rfl⟩ | ⟨d,rfl,rfl⟩
   ·rw[xn] at h;exact wpAny_eqBool_int h
   ·rw[A8] at h;exact ahv i t y u _ _ _ _ h
   ·rw[xn] at h;exact SeqAt.EqAt.int_bool i t d _ _ _ _ h
  ·rcases k5 hv with⟨j,u,rfl,rfl⟩ | ⟨y,u,rfl,rfl⟩ | ⟨d,rfl,rfl⟩
   ·rw[A9] at h;exact ahw x t j u _ _ _ _ h
   ·rw[Hi] at h;exact wpAny_eqBool_str h
   ·rw[A9] at h;exact SeqAt.EqAt.str_bool x t d _ _ _ _ h
  ·rcases k5 hv with⟨j,u,rfl,rfl⟩ | ⟨y,u,rfl,rfl⟩ | ⟨d,rfl,rfl⟩
   ·rw[xn] at h;exact SeqAt.EqAt.bool_int c j u _ _ _ _ h
   ·rw[A8] at h;exact SeqAt.EqAt.bool_str c y u _ _ _ _ h
   ·have e:decide ((afU (if c then 1 else 0):Key)=afU (if d then 1 else 0))=(c==d):=by cases c <;> cases d <;> decide
    rw[e] at h;exact SeqAt.EqAt.bool_bool c d _ _ _ _ h
 «strs»:=λk x t v h=>by
  rcases k5 h with⟨i,u,rfl,e⟩ | ⟨y,u,rfl,e⟩ | ⟨c,rfl,e⟩
  ·exact nomatch e
  ·injection e with e1 _
   subst e1;cases v <;> rfl
  ·exact nomatch e
theorem lm{u:abh}(h:uA v=O k)(r:RelV v u):uz k u=true:=by
 cases v with
 | int i=>cases h;obtain⟨t,rfl⟩:=r;exact EN i t
 | bl b=>cases h;obtain rfl:u=agc b:=r;simp[uz]
 | str x=>cases h;obtain⟨t,rfl⟩:=r;exact EO x t
 | _=>cases h
theorem Hy{P:abI}{w:acg}:∀{ts:aE} {us:aT} {ks:bz},jO ts=O ks->Vals ts us->ItemsAre (jB P w) ks us
 | [],_,ks,h,.nil=>by cases h;exact .nil
 | v::vs,_,ks,h,.cons r t=>by
  unfold jO at h;split at h
  ·rename_i k kC h1 h2;cases h;exact .cons (lm h1 r) (Hy h2 t)
  ·cases h
noncomputable def UK(P:abI)(w:acg)(H:Hp)(v:V)(h:Int):Prop:=(v=.aH/\h=0xFCA86420)\/jE P w H v h
theorem Vo{c:abc}{ks:bz}(h:jO (.ref c::vs)=O ks):False:=by
 unfold jO at h;cases h
theorem iF.inj{H:Hp}:∀{ts:aE} {a b:List bz},iF H ts a->iF H ts b->a=b
 | [],_,_,.nil,.nil=>rfl
 | _::_,_,_,.cons h r,.cons h' r'=>by
  obtain⟨c,us,e,h1,h2⟩:=h;obtain⟨c',us',e',KW,yG⟩:=h';rw[e] at e';cases e';rw[h1] at KW;cases KW;rw[h2] at yG;cases yG;rw[iF.inj r r']
section
variable{X:Cx}{pins:List (abc×Obj)}{σ:L2.St}{H:Hp}{s:aaR}{A:acF}{E:bR}{v:V}{u:abh}{h:Int}
theorem UK.tup{b:abc}{ts:aE}{ks:bz}(I:Inv X pins σ H s)(e:H b=O (.tup ts))(hk:jO ts=O ks):agb (jB X.prog X.w) s.heap ks b:=by
 obtain⟨_,its,r,o,h1,h2,n,h3⟩:=(show cY X.prog X.w H s.heap b (.tup ts) from I.aB b _ e)
 exact⟨o,its.toArray,n,h1,h2,h3,by simpa using Hy hk r⟩
theorem Hz(I:Inv X pins σ H s):∀{ts:aE} {us:aT} {bG:List bz},iF H ts bG->Vals ts us->nG (jB X.prog X.w) s.heap bG us
 | [],_,_,.nil,.nil=>.nil
 | _::_,_,_,.cons h r,.cons rv t=>by
  obtain⟨c,us,rfl,h1,h2⟩:=h;cases(show _=abi c from rv);exact .cons (UK.tup I h1 h2) (Hz I r t)
theorem UK.nest{b:abc}{ts:aE}{bG:List bz}(I:Inv X pins σ H s)(e:H b=O (.tup ts))(hk:iF H ts bG):sk (jB X.prog X.w) s.heap bG b:=by
 obtain⟨_,its,r,o,h1,h2,n,h3⟩:=(show cY X.prog X.w H s.heap b (.tup ts) from I.aB b _ e)
 exact⟨o,its.toArray,n,h1,h2,h3,by simpa using Hz I hk r⟩
theorem UK.hash{Q:Int->aaR->Prop}(I:Inv X pins σ H s)(k:UK X.prog X.w H v h)(r:RelV v u)(hu:A.units+8<aep)(hQ:∀t,Q h { s with toks:=t }):abj (abG X.prog X.w) A (pyHash u) Q E s:=by
 rcases k with⟨rfl,rfl⟩ | ⟨k,h1,rfl⟩ | ⟨b,ts,ks,rfl,h1,h2,rfl⟩ | ⟨b,ts,ks,rfl,h1,h2,rfl⟩
 ·obtain rfl:u=Value.none:=r;exact O6 (hQ _)
 ·exact(jB X.prog X.w).pyHash (lm h1 r) (hQ _)
 ·obtain rfl:u=abi b:=r;exact afL (knd:=jB X.prog X.w) ∅ (UK.tup I h1 h2) (hQ _)
 ·obtain rfl:u=abi b:=r;exact ND (knd:=jB X.prog X.w) hu (UK.nest I h1 h2) (hQ _)
theorem UK.quiet(I:Inv X pins σ H s)(k:UK X.prog X.w H v h)(r:RelV v u):Quiet X.prog X.w A E s u:=by
 rcases k with⟨rfl,rfl⟩ | ⟨k,h1,rfl⟩ | ⟨b,ts,ks,rfl,h1,h2,rfl⟩ | ⟨b,ts,ks,rfl,h1,h2,rfl⟩
 ·obtain rfl:u=Value.none:=r;exact Fb rfl
 ·exact Fb ((jB X.prog X.w).byValue k u (lm h1 r))
 ·obtain rfl:u=abi b:=r;exact λQ hq=>wpAny_eqIsQuiet_tuple (knd:=jB X.prog X.w) (UK.tup I h1 h2) hq
 ·obtain rfl:u=abi b:=r;exact λQ hq=>Ob (knd:=jB X.prog X.w) (UK.nest I h1 h2) hq
theorem Fc{P:abI}{w:acg}{ts:aE}{ks:bz}{bG:List bz}(h1:jO ts=O ks)(h2:iF H ts bG):acu (dD P w) ks=rP (dD P w) bG:=by
 cases h2 with
 | nil=>cases h1;rfl
 | cons z r=>
  obtain⟨c,us,rfl,_⟩:=z;exact(Vo h1).elim
theorem UK.same{v':V}{h':Int}(k:UK X.prog X.w H v h)(k':UK X.prog X.w H v' h')(r:L2.RelV v u)(r':L2.RelV v' u):h=h':=by
 rcases k with⟨rfl,rfl⟩ | ⟨k,h1,rfl⟩ | ⟨b,ts,ks,rfl,h1,h2,rfl⟩ | ⟨b,ts,ks,rfl,h1,h2,rfl⟩ <;> rcases k' with⟨rfl,rfl⟩ | ⟨k',q1,rfl⟩ | ⟨b',ts',kC,rfl,q1,q2,rfl⟩ | ⟨b',ts',kC,rfl,q1,q2,rfl⟩
 case inl.inl=>rfl
 case inr.inl.inr.inl=>rw[(jB X.prog X.w).inj u k k' (lm h1 r) (lm q1 r')]
 case inr.inr.inl.inr.inr.inl=>
  cases(show abi b=abi b' from(show u=abi b from r).symm.trans r');rw[h1] at q1;cases q1;rw[h2] at q2;cases q2;rfl
 case inr.inr.inl.inr.inr.inr=>
  cases(show abi b=abi b' from(show u=abi b from r).symm.trans r');rw[h1] at q1;cases q1;exact Fc h2 q2
 case inr.inr.inr.inr.inr.inl=>
  cases(show abi b=abi b' from(show u=abi b from r).symm.trans r');rw[h1] at q1;cases q1;exact(Fc q2 h2).symm
 case inr.inr.inr.inr.inr.inr=>
  cases(show abi b=abi b' from(show u=abi b from r).symm.trans r');rw[h1] at q1;cases q1;rw[iF.inj h2 q2]
 all_goals first
  | (have e:abN=abi b':=(show u=abN from r).symm.trans r';cases e;done)
  | (have e:abi b=Value.none:=(show u=abi b from r).symm.trans r';cases e;done)
  | (have:=lm h1 r;rw[show u=abN from r'] at this;cases k <;> cases this;done)
  | (have:=lm h1 r;rw[show u=abi b' from r'] at this;cases k <;> cases this;done)
  | (have:=lm q1 r';rw[show u=abN from r] at this;cases k' <;> cases this;done)
  | (have:=lm q1 r';rw[show u=abi b from r] at this;cases k' <;> cases this;done)
end
noncomputable def kA:W->Option Key
 | .int i=>O (.inl i)
 | .bl b=>O (.inl (if b then 1 else 0))
 | .str x=>O (.inr x)
 | _=>Z
noncomputable def oO:ap->Option bz
 | []=>O []
 | v::vs=>match kA v,oO vs with
  | some k,O ks=>O (k::ks)
  | _,_=>Z
noncomputable def kN:W->Option bz
 | .tup ws=>oO ws
 | _=>Z
noncomputable def kW:W->Option (Option (Key ⊕ (bz ⊕ List bz)))
 | .aH=>O Z
 | .tup ws=>match oO ws with
  | some ks=>O (O (.inr (.inl ks)))
  | none=>(ba kN ws).map λbG=>O (.inr (.inr bG))
 | .int i=>O (O (.inl (.inl i)))
 | .bl b=>O (O (.inl (.inl (if b then 1 else 0))))
 | _=>Z
noncomputable def hQ(P:abI)(w:acg):Option (Key ⊕ (bz ⊕ List bz))->Int
 | none=>0xFCA86420
 | some (.inl k)=>xV w k
 | some (.inr (.inl ks))=>acu (dD P w) ks
 | some (.inr (.inr bG))=>rP (dD P w) bG
section
variable{K:aaJ}{φ:Nat->abc}{n:Nat}{H:Hp}
theorem Zn{x:W}{v:V}{k:Key}(r:aF K φ n H x v)(h:kA x=O k):uA v=O k:=by
 cases r <;> first | exact h | cases h
theorem BO:∀{xs:ap} {vs:aE} {ks:bz},aN K φ n H xs vs->oO xs=O ks->jO vs=O ks
 | [],_,ks,.nil,h=>h
 | x::xs,_,ks,.cons r t,h=>by
  unfold oO at h;split at h
  ·rename_i k kC h1 h2;cases h;unfold jO;rw[Zn r h1,BO t h2]
  ·cases h
theorem Ja:∀{xs:ap} {vs:aE} {bG:List bz},aN K φ n H xs vs->ba kN xs=O bG->iF H vs bG
 | [],_,_,.nil,h=>by cases h;exact .nil
 | x::xs,_,bG,.cons r t,h=>by
  unfold ba at h;split at h
  ·rename_i ks Zo h1 h2;cases h;cases r <;> first | (cases h1;done) | skip
   rename_i c vs0 h0 r0;exact .cons ⟨_,_,rfl,h0,BO r0 h1⟩ (Ja t h2)
  ·cases h
theorem Vp{ws:ap}{q:Option (Key ⊕ (bz ⊕ List bz))}(h:kW (.tup ws)=O q):(∃ks,oO ws=O ks/\q=O (.inr (.inl ks)))\/∃bG,ba kN ws=O bG/\q=O (.inr (.inr bG)):=by
 unfold kW at h
 dsimp only at h
 cases e:oO ws with
 | some ks=>rw[e] at h;cases h;exact .inl ⟨ks,rfl,rfl⟩
 | none=>
  rw[e] at h;obtain⟨bG,e1,e2⟩:=aaP.mp h;exact .inr ⟨bG,e1,e2.symm⟩
theorem sT{P:abI}{w:acg}{x:W}{v:V}{q:Option (Key ⊕ (bz ⊕ List bz))}(r:aF K φ n H x v)(h:kW x=O q):UK P w H v (hQ P w q):=by
 cases r with
 | aH=>cases h;exact .inl ⟨rfl,rfl⟩
 | bl b=>cases h;exact .inr (.inl ⟨_,rfl,rfl⟩)
 | int i=>cases h;exact .inr (.inl ⟨_,rfl,rfl⟩)
 | str x=>cases h
 | tup h0 r0=>
  rcases Vp h with⟨ks,e1,e2⟩ | ⟨bG,e1,e2⟩
  ·subst e2;exact .inr (.inr (.inl ⟨_,_,ks,rfl,h0,BO r0 e1,rfl⟩))
  ·subst e2;exact .inr (.inr (.inr ⟨_,_,bG,rfl,h0,Ja r0 e1,rfl⟩))
 | fl=>cases h
 | ref=>cases h
 | exc=>cases h
 | fn=>cases h
 | kt=>cases h
theorem dg.len:∀{kws:aZ} {kvs:List (V×V)},dg K φ n H kws kvs->↑kws=↑kvs
 | _,_,.nil=>rfl
 | _,_,.cons _ _ r=>congrArg (· +1) (dg.len r)
theorem dg.get:∀{kws:aZ} {kvs:List (V×V)} {i:Nat} {q:V×V},dg K φ n H kws kvs->kvs[i]? =O q->∃p,kws[i]? =O p/\aF K φ n H p.1 q.1/\aF K φ n H p.2 q.2
 | _,_,_,_,.nil,e=>by simp at e
 | _,_,0,_,.cons hk h _,e=>by simp at e;subst e;exact⟨_,rfl,hk,h⟩
 | _,_,i+1,q,.cons _ _ r,e=>by
  obtain⟨p,h1,h2⟩:=dg.get (i:=i) (q:=q) r (by simpa using e);exact⟨p,by simpa using h1,h2⟩
theorem dg.snoc{k w:W}{u v:V}(hk:aF K φ n H k u)(h:aF K φ n H w v):∀{kws:aZ} {kvs:List (V×V)},dg K φ n H kws kvs->dg K φ n H (kws++[(k,w)]) (kvs++[(u,v)])
 | _,_,.nil=>.cons hk h .nil
 | _,_,.cons a b r=>.cons a b (dg.snoc hk h r)
theorem dg.modify{w:W}{v:V}(h:aF K φ n H w v):∀{kws:aZ} {kvs:List (V×V)} (j:Nat),dg K φ n H kws kvs->dg K φ n H (kws.modify j λp=>(p.1,w)) (kvs.modify j λp=>(p.1,v))
 | _,_,j,.nil=>by simp;exact .nil
 | _,_,0,.cons a b r=>.cons a h r
 | _,_,j+1,.cons a b r=>.cons a b (dg.modify h j r)
end
theorem aco.modify{α β:Type}{F:α->β->Prop}{f:α->α}{g:β->β}(hf:∀a b,F a b->F (f a) (g b)):∀{l:List α} {m:List β} (j:Nat),aco F l m->aco F (l.modify j f) (m.modify j g)
 | _,_,j,.nil=>by simp;exact .nil
 | _,_,0,.cons a r=>.cons (hf _ _ a) r
 | _,_,j+1,.cons a r=>.cons a (aco.modify hf j r)
theorem aco.Jb{α β:Type}{F:α->β->Prop}{a:α}{b:β}(h:F a b):∀{l:List α} {m:List β},aco F l m->aco F (l++[a]) (m++[b])
 | _,_,.nil=>.cons h .nil
 | _,_,.cons a r=>.cons a (aco.Jb h r)
theorem agR{α β:Type}{F:α->β->Prop}:∀{l:List α} {m:List β} {i:Nat} {b:β},aco F l m->m[i]? =O b->∃a,l[i]? =O a/\F a b
 | _,_,_,_,.nil,e=>by simp at e
 | _,_,0,_,.cons h _,e=>by simp at e;subst e;exact⟨_,rfl,h⟩
 | _,_,i+1,b,.cons _ r,e=>by
  obtain⟨a,h1,h2⟩:=agR (i:=i) (b:=b) r (by simpa using e);exact⟨a,by simpa using h1,h2⟩
theorem aco.left{α β:Type}{F:α->β->Prop}:∀{l:List α} {m:List β} {i:Nat} {a:α},aco F l m->l[i]? =O a->∃b,m[i]? =O b/\F a b
 | _,_,_,_,.nil,e=>by simp at e
 | _,_,0,_,.cons h _,e=>by simp at e;subst e;exact⟨_,rfl,h⟩
 | _,_,i+1,a,.cons _ r,e=>by
  obtain⟨b,h1,h2⟩:=aco.left (i:=i) (a:=a) r (by simpa using e);exact⟨b,by simpa using h1,h2⟩
theorem EH{k w:W}:∀{kws:aZ} {j:Nat} {p:W×W},(kws.map (·.1)).Nodup->kws[j]? =O p->p.1=k->kws.map (λp=>if p.1=k then(p.1,w) else p)=kws.modify j λp=>(p.1,w)
 | [],_,_,_,e,_=>by simp at e
 | q::kws,0,p,nd,e,ek=>by
  simp at e;subst e
  rw[abt,abY] at nd;rw[abt,if_pos ek];have:kws.map (λp=>if p.1=k then(p.1,w) else p)=kws:=by
   have:=adV (f:=λp:W×W=>if p.1=k then(p.1,w) else p) (g:=id) (l:=kws) (λa ha=>by
    rw[if_neg];rfl;intro z;exact nd.1 (by rw[ek,<- z];exact acb ha))
   rw[this,List.map_id]
  rw[this];rfl
 | q::kws,j+1,p,nd,e,ek=>by
  rw[abt,abY] at nd;have e':kws[j]? =O p:=by simpa using e
  have ne:¬q.1=k:=λz=>nd.1 (by rw[z,<- ek];exact acb (aaL e'))
  rw[abt,if_neg ne,EH nd.2 e' ek];rfl
noncomputable def ik(ph:PH)(kws:aZ)(y:W):Bool:=(kW y).isSome&&kws.all λp=>(kW p.1).isSome&&decide (dS ph p.1 y=O (decide (p.1=y)))
section
variable{X:Cx}{pins:List (abc×Obj)}{σ:L2.St}{H:Hp}{s:aaR}{A:acF}{E:bR}{φ:Nat->abc}{ph:PH}{i:Nat}{kws:aZ}{y:W}{v:V}{u:abh}
theorem R7{q:Option (Key ⊕ (bz ⊕ List bz))}{K:aaJ}{n:Nat}(r:aF K φ n H y v)(h:kW y=O q)(ru:L2.RelV v u):J1 u:=by
 cases r with
 | aH=>exact .inr (.inl ru)
 | bl b=>exact .inr (.inr (.inl ⟨b,ru⟩))
 | int i=>obtain⟨t,rfl⟩:=ru;exact .inr (.inr (.inr ⟨i,t,rfl⟩))
 | str x=>cases h
 | tup h0 r0=>exact .inl ⟨_,ru⟩
 | fl=>cases h
 | ref=>cases h
 | exc=>cases h
 | fn=>cases h
 | kt=>cases h
theorem xa(I:Inv X pins σ H s)(hH:aC X.K φ ph H)(hd:ph[i]? =O (.bY kws)):∃kvs o es ep,H (φ i)=O (.dU kvs)/\dg X.K φ ↑ph H kws kvs/\(kws.map (·.1)).Nodup/\↑kvs<=abd/\(φ i==acx)=false/\s.heap.get? (φ i)=O o/\o.ExactDict/\o.data=.dict es ep/\aco (λ(p:V×V) (e:acV)=>L2.RelV p.1 e.key/\L2.RelV p.2 e.val/\jE X.prog X.w H p.1 e.hash) kvs es.toList:=by
 obtain⟨kvs,e,r,nd⟩:=hH.hp _ _ hd;obtain⟨z,y,o,es,ep,h1,h2,h3,h4⟩:=(show cY X.prog X.w H s.heap (φ i) (.dU kvs) from I.aB _ _ e)
 exact⟨kvs,o,es,ep,e,r,nd,z,y,h1,h2,h3,h4⟩
theorem GN{o:Obj}{es:Array acV}{ep:Nat}{kvs:List (V×V)}{q:Option (Key ⊕ (bz ⊕ List bz))}{Q:Option Nat->aaR->Prop}(hu:A.units+64<aep)(I:Inv X pins σ H s)(hH:aC X.K φ ph H)(r:dg X.K φ ↑ph H kws kvs)(nd:(kws.map (·.1)).Nodup)(ho:s.heap.get? (φ i)=O o)(hd:o.data=.dict es ep)(pr:aco (λ(p:V×V) (e:acV)=>L2.RelV p.1 e.key/\L2.RelV p.2 e.val/\jE X.prog X.w H p.1 e.hash) kvs es.toList)(ry:aF X.K φ ↑ph H y v)(ru:L2.RelV v u)(hy:kW y=O q)(hk:∀p∈kws,(kW p.1).isSome=true/\dS ph p.1 y=O (decide (p.1=y)))(hn:(∀p∈kws,p.1≠y)->Q Z s)(hs:∀j p kv e,kws[j]? =O p->p.1=y->kvs[j]? =O kv->es[j]? =O e->aF X.K φ ↑ph H p.2 kv.2->L2.RelV kv.2 e.val->Q (O j) s):abj (abG X.prog X.w) A (dictFind (φ i) u (hQ X.prog X.w q)) Q E s:=by
 have vw:∀(j:Nat) (e:acV),es[j]? =O e->∃p kv,kws[j]? =O p/\kvs[j]? =O kv/\aF X.K φ ↑ph H p.1 kv.1/\aF X.K φ ↑ph H p.2 kv.2/\L2.RelV kv.1 e.key/\L2.RelV kv.2 e.val/\UK X.prog X.w H kv.1 e.hash:=λj e he=>by
  obtain⟨kv,h1,h2,h3,h4⟩:=agR pr (i:=j) (b:=e) (by simpa using he);obtain⟨p,g1,g2,g3⟩:=r.get h1;exact⟨p,kv,g1,h1,g2,g3,h2,h3,.inr h4⟩
 have KY:UK X.prog X.w H v (hQ X.prog X.w q):=sT ry hy;have fin:∀(rr:Option Nat),KS es (hQ X.prog X.w q) (λj=>match kws[j]? with | some p=>decide (p.1=y) | none=>false) rr->Q rr s->abj (abG X.prog X.w) A (dictFind (φ i) u (hQ X.prog X.w q)) Q E s:=λrr hh hq=>by
  refine Vn ho hd (R7 ry hy ru) (λj e he KZ=>?_) (λj e he ek=>?_) (UK.quiet I KY ru) (λj e he=>?_) hh hq
  ·obtain⟨p,kv,g1,g2,g3,g4,g5,g6,g7⟩:=vw j e he;obtain⟨_,eq⟩:=hk p (aaL g1);obtain⟨dx,dy,e1,e2,eb⟩:=Ai eq;obtain⟨⟨as,k1⟩,c1,l1⟩:=l7 I hH 40 g3 g5 e1;obtain⟨⟨bs,k2⟩,c2,l2⟩:=l7 I hH 40 ry ru e2;simp only[g1,eb];exact SeqAt.eqAt_reads dx dy A s _ _ _ _ k1 k2 c1 c2 ∅
  ·obtain⟨p,kv,g1,g2,g3,g4,g5,g6,g7⟩:=vw j e he;exact UK.same (u:=u) g7 KY (ek▸g5) ru
  ·obtain⟨p,kv,g1,g2,g3,g4,g5,g6,g7⟩:=vw j e he;exact UK.quiet I g7 g5
 by_cases hm:∃p∈kws,p.1=y
 ·obtain⟨p,hp,gU⟩:=hm;obtain⟨j,hj⟩:=abb.mp hp;have bV:j<↑kvs:=by rw[<- r.len];exact(aaG.mp hj).1
  obtain⟨e,he,_⟩:=aco.left pr (i:=j) (a:=kvs[j]) (by simp[bV]);have jo:es[j]? =O e:=by simpa using he
  obtain⟨p',kv,g1,g2,g3,g4,g5,g6,g7⟩:=vw j e jo;rw[hj] at g1;cases g1;refine fin (O j) ⟨⟨e,jo,?_⟩,?_,λk e' Zp KZ hc=>?_⟩ (hs j p kv e hj gU g2 jo g4 g6)
  ·have:UK X.prog X.w H kv.1 (hQ X.prog X.w q):=sT g3 (gU▸hy);exact UK.same (u:=e.key) g7 this g5 g5
  ·simp only[hj,gU,decide_true]
  ·obtain⟨p2,kv2,f1,_⟩:=vw k e' Zp;simp only[f1,decide_eq_true_eq] at hc;have qD:(kws.map (·.1))[k]? =O y:=by rw[aaK,f1];simp[hc]
   have C5:(kws.map (·.1))[j]? =O y:=by rw[aaK,hj];simp[gU]
   exact(adR (aaG.mp qD).1 nd).mp (qD.trans C5.symm)
 ·refine fin Z (λk e he KZ=>?_) (hn λp hp gU=>hm ⟨p,hp,gU⟩);obtain⟨p2,kv2,f1,_⟩:=vw k e he;simp only[f1,decide_eq_false_iff_not];exact λz=>hm ⟨p2,aaL f1,z⟩
theorem HA(h:ik ph kws y=true):(∃q,kW y=O q)/\∀p∈kws,(kW p.1).isSome=true/\dS ph p.1 y=O (decide (p.1=y)):=by
 unfold ik at h;rw[aaZ,abR] at h;exact⟨ach.mp h.1,λp hp=>by
  have:=h.2 p hp;rw[aaZ,decide_eq_true_eq] at this;exact this⟩
theorem Ot(h:∀p∈kws,p.1≠y):c5 kws y=none:=by
 unfold c5;rw[List.find?_eq_none.mpr λp hp=>by simpa using h p hp];rfl
theorem EI:∀{kws:aZ} {j:Nat} {p:W×W},(kws.map (·.1)).Nodup->kws[j]? =O p->p.1=y->c5 kws y=O p.2
 | [],_,_,_,e,_=>by simp at e
 | q::kws,0,p,nd,e,ek=>by
  simp at e;subst e
  simp[c5,ek]
 | q::kws,j+1,p,nd,e,ek=>by
  rw[abt,abY] at nd;have e':kws[j]? =O p:=by simpa using e
  have ne:¬q.1=y:=λz=>nd.1 (by rw[z,<- ek];exact acb (aaL e'))
  have:=EI nd.2 e' ek;unfold c5 at this ⊢;rw[List.find?_cons_of_neg (by simpa using ne)];exact this
theorem Vq{Q:hV->aaR->Prop}(hu:A.units+64<aep)(I:Inv X pins σ H s)(hH:aC X.K φ ph H)(hd:ph[i]? =O (.bY kws))(ry:aF X.K φ ↑ph H y v)(ru:L2.RelV v u)(hk:ik ph kws y=true)(h:∀s' ow ov,Inv X pins σ H s'->qf X.K φ ↑ph H (c5 kws y) ov->L2.jD ov ow->Q ow s'):abj (abG X.prog X.w) A (dictGet (φ i) u) Q E s:=by
 obtain⟨⟨q,hy⟩,C6⟩:=HA hk;obtain⟨kvs,o,es,ep,e0,r,nd,z,qE,ho,hx,fI,pr⟩:=xa I hH hd;unfold dictGet
 try with_reducible refine abS ?_
 refine aaH (UK.hash I (sT ry hy) ru ∅ λt=>?_);have I':=I.tok t;refine aaH (GN (s:={ s with toks:=t }) hu I' hH r nd ho fI pr ry ru hy C6 (λhn=>?_) λj p kv e hj gU C7 he qF K0=>?_)
 ·exact aaM (h _ Z Z I' (by rw[Ot hn];trivial) trivial)
 ·refine aaH (adQ (s:={ s with toks:=t }) ho fI ?_);rw[he];exact aaM (h _ (O e.val) (O kv.2) I' (by rw[EI nd hj gU];exact qF) K0)
end
theorem Fe{w:W}{kws:aZ}(nd:(kws.map (·.1)).Nodup):((c6 kws y w).map (·.1)).Nodup:=by
 unfold c6;split
 ·have:(kws.map λp=>if p.1=y then(p.1,w) else p).map (·.1)=kws.map (·.1):=by
   rw[abU];exact adV λa _=>by simp only[aeO];split <;> rfl
  rw[this];exact nd
 ·rename_i h;rw[abZ,adm];refine⟨nd,by simp,λa ha b hb e=>h ?_⟩;simp only[abt,aeD,aaT] at hb;obtain⟨p,hp,gU⟩:=aaX.mp ha;rw[acB];exact⟨p,hp,by simp[gU,e,hb]⟩
section
variable{X:Cx}{pins:List (abc×Obj)}{σ:L2.St}{H:Hp}{s:aaR}{A:acF}{E:bR}{φ:Nat->abc}{ph:PH}{i:Nat}{kws:aZ}{y w:W}{v vv:V}{u r:abh}
theorem Vr{q:Key ⊕ (bz ⊕ List bz)}{Q:Unit->aaR->Prop}(hu:A.units+64<aep)(I:Inv X pins σ H s)(hH:aC X.K φ ph H)(hd:ph[i]? =O (.bY kws))(ry:aF X.K φ ↑ph H y v)(ru:L2.RelV v u)(qF:aF X.K φ ↑ph H w vv)(rr:L2.RelV vv r)(hk:ik ph kws y=true)(hy:kW y=O (O q))(hz:↑kws<abd)(h:∀s' H',Inv X pins σ H' s'->aC X.K φ (ph.set i (.bY (c6 kws y w))) H'->Step X.K φ ↑ph H φ (ph.set i (.bY (c6 kws y w))).length H'->Q () s'):abj (abG X.prog X.w) A (dictSet (φ i) u r) Q E s:=by
 obtain⟨_,C6⟩:=HA hk;obtain⟨kvs,o,es,ep,e0,rel,nd,z,qE,ho,hx,fI,pr⟩:=xa I hH hd;obtain⟨yy,ey,my⟩:=hH.mu hd rfl;have Cj:jE X.prog X.w H v (hQ X.prog X.w (O q)):=by
  rcases(sT (P:=X.prog) (w:=X.w) ry hy) with⟨rfl,_⟩ | q1
  ·cases ry;cases hy
  ·exact q1
 have keep:∀(x:HO) (b:abc) (ts:aE),H b=O (.tup ts)->upd H (φ i) x b=O (.tup ts):=λx b ts hb=>by
  rw[aI (fb hb e0 (λz=>nomatch z))];exact hb
 unfold dictSet
 try with_reducible refine abS ?_
 refine aaH (UK.hash I (sT ry hy) ru ∅ λt=>?_);have I':=I.tok t;unfold dictSetHashed
 try with_reducible refine abS ?_
 refine aaH (GN (s:={ s with toks:=t }) hu I' hH rel nd ho fI pr ry ru hy C6 (λhn=>?_) λj p kv e hj gU C7 he rw1 K0=>?_)
 ·have hes:es.size<=sizeLine:=by
   have e1:↑kvs=es.toList.length:=adg pr;have e2:es.toList.length=es.size:=acj;omega
  have st:=k6 (K:=X.K) (φ:=φ) (n:=↑ph) (y:=HO.dU (kvs++[(v,vv)])) ey my;have C8:c6 kws y w=kws++[(y,w)]:=by
   unfold c6;rw[if_neg];rw[acB];rintro⟨p,hp,gU⟩;exact hn p hp (by simpa using gU)
  refine aaH (aeS (wpAny_updateDictKeys (hz:=hes) (s:={ s with toks:=t }) ho fI (h _ _ (pA I' (by rw[e0];exact adL) (acP ..) ⟨_,abT _ ho (aeA (afr fI _))⟩ (ob:=.dU (kvs++[(v,vv)]))
   ⟨?_,qE,_,_,ep+1,abT _ ho (aeA (afr fI _)),hx.mapDictKeys _,afr fI _,?_⟩) ?_ ?_)))
  ·rw[aaQ,<- rel.len];simp;omega
  ·rw[Array.toList_push];refine aco.Jb ⟨ru,rr,Cj.keep (keep _)⟩ (aco.jF pr λp q z=>⟨z.1,z.2.1,jE.keep z.2.2 (keep _)⟩)
  ·refine hH.put hd rfl ⟨_,bX,?_,Fe nd⟩;rw[C8];exact(rel.snoc ry qF).mono st
  ·rw[aby];exact st
 ·have st:=k6 (K:=X.K) (φ:=φ) (n:=↑ph) (y:=HO.dU (kvs.modify j λp=>(p.1,vv))) ey my;have C8:c6 kws y w=kws.modify j λp=>(p.1,w):=by
   unfold c6;rw[if_pos (by rw[acB];exact⟨p,aaL hj,by simpa using gU⟩)];exact EH nd hj gU
  refine aaH (aeS (aaH (wpAny_updateDict (s:={ s with toks:=t }) ho fI (wpAny_point (h _ _ (pA I' (by rw[e0];exact adL) (acP ..) ⟨_,abT _ ho (aeA (agB fI _))⟩ (ob:=.dU (kvs.modify j λp=>(p.1,vv)))
   ⟨?_,qE,_,_,ep,abT _ ho (aeA (agB fI _)),hx.mapDict _,agB fI _,?_⟩) ?_ ?_)))))
  ·rw[List.length_modify];exact z
  ·rw[Array.toList_modify];refine aco.modify (λp e z=>⟨z.1,rr,z.2.2⟩) j (aco.jF pr λp q z=>⟨z.1,z.2.1,jE.keep z.2.2 (keep _)⟩)
  ·refine hH.put hd rfl ⟨_,bX,?_,Fe nd⟩;rw[C8];exact(rel.modify qF j).mono st
  ·rw[aby];exact st
theorem GO(I:Inv X pins σ H s)(hH:aC X.K φ ph H)(hd:ph[i]? =O (.bY kws)):s.TypeIs (.ref (φ i)) "dict":=by
 obtain⟨kvs,o,es,ep,e0,rel,nd,z,qE,ho,hx,fI,pr⟩:=xa I hH hd;exact⟨o,ho,hx.1⟩
end
noncomputable def Zq:Po W:=λph=>O (.ref ↑ph,ph++[.bY []])
noncomputable def J2:EM:=λ_=>lift Zq
theorem AN{k:Nat}{A:acF}(r:df k A):A.units+65<cLine:=by have:=r.un;omega
theorem Qk{w:acg}(h:ade)(hb:acx<h.objs.size):cY P w H (h.push { cls:=.type "dict",data:=.dict #[] }) h.objs.size (.dU []):=
 ⟨aca _,beq_eq_false_iff_ne.mpr (adh (abu hb)),_,#[],0,abl _ rfl,⟨rfl,rfl,rfl⟩,rfl,.nil⟩
noncomputable def Vs:TE:=λ_ H Q=>∀p,H p=Z->Q (.ref p) (upd H p (.dU []))
theorem Ql:PE X (.Dict [] [] pos) Vs:=λpins s σ H Q I h=>
 wpAny_Dict_empty ⟨.ref s.heap.objs.size,_,I.laid (a:=s.heap.objs.size) (o:=.dU []) (t':=s.toks) (λ_ _ q=>aaO _ q) (aaN _) (Qk s.heap I.big),rfl,h _ (I.aB.fresh (aaN _))⟩
theorem Vt:JE X (.Dict [] [] pos) J2:=⟨PE.imp Ql λσ H Q h p hp=>by
 obtain⟨φ,ph,ws,hH,hS,h⟩:=h;obtain⟨w,ph',e,k⟩:=run_lift h;cases e;have hl:(ph++[PO.bY []]).length=↑ph+1:=by simp
 have s:=wJ (K:=X.K) (φ:=φ) (n:=↑ph) (o:=HO.dU []) hp;have q:aF X.K (ext φ ↑ph p) (↑ph+1) (upd H p (.dU [])) (.ref ↑ph) (.ref (ext φ ↑ph p ↑ph)):=.ref (acA _);rw[la] at q;exact k _ _ _ (hH.new hp ⟨[],bX,.nil,aet⟩) (by rw[hl];exact s) (by rw[hl];exact q)⟩
noncomputable def jC(y:W)(ph:PH):Option (Nat×aZ):=match y with
 | .ref i=>match ph[i]? with
  | some (.bY kws)=>O (i,kws)
  | _=>Z
 | _=>Z
theorem rK{kws:aZ}(hH:aC K φ ph H)(r:aF K φ ↑ph H y v)(e:jC y ph=O (i,kws)):y=.ref i/\i<↑ph/\ph[i]? =O (.bY kws)/\v=.ref (φ i):=by
 unfold jC at e;split at e
 ·split at e
  ·rename_i j Zj hw;cases e;cases r with
   | ref hi=>exact⟨rfl,hi,hw,rfl⟩
  ·cases e
 ·cases e
noncomputable def aax:W->List W->Po W:=λx xs ph=>match jC x ph with
 | some p=>match xs with
  | [y,z]=>if ik ph p.2 y=true then O ((c5 p.2 y).getD z,ph) else Z
  | _=>Z
 | none=>Z
noncomputable def qj(o i v:W):Po Unit:=λph=>match jC o ph with
 | some p=>if ik ph p.2 i=true/\(kW i).bind id≠Z/\↑p.2<abd then O ((),ph.set p.1 (.bY (c6 p.2 i v))) else Z
 | none=>Z
noncomputable def Xx(K:aaJ):tq:=λo i v H Q=>∃φ ph j kws y w,aC K φ ph H/\o=.ref (φ j)/\ph[j]? =O (.bY kws)/\aF K φ ↑ph H y i/\aF K φ ↑ph H w v/\ik ph kws y=true/\(kW y).bind id≠Z/\↑kws<abd /\
 ∀H',aC K φ (ph.set j (.bY (c6 kws y w))) H'->Step K φ ↑ph H φ (ph.set j (.bY (c6 kws y w))).length H'->Q H'
theorem O7(hu:X.A.units+65<aep):ly X (Xx X.K):=by
 intro pins s σ H o i v ov iv u Q I ro ri rv h;obtain⟨φ,ph,j,kws,y,w,hH,rfl,hd,ry,qF,hk,hy,hz,q⟩:=h;obtain rfl:ov=abi (φ j):=ro;have oE:∃q,kW y=O (O q):=by
  cases e:kW y with
  | none=>rw[e] at hy;exact absurd rfl hy
  | some z=>cases z with
   | none=>rw[e] at hy;exact absurd rfl hy
   | some q=>exact⟨q,rfl⟩
 obtain⟨q0,oE⟩:=oE;have hT:=GO I hH hd;unfold setItem
 try with_reducible refine abS ?_
 refine aaH (wpAny_sequenceKey hT (by decide) ?_);refine aaH (adi (name:=abA "__setitem__") hT slot_dict_setitem
  (acm slot_dict_setitem hT entry_dict_setitem ?_ (args_dict_setitem _ _ _)))
 show abj _ _ (Builtin.Dict.notOrdered "__setitem__" ⟨[.ref (φ j),iv,u],[]⟩ >>= _) _ _ s;refine aaH (afh hT ?_);show abj _ _ (dictSet (φ j) iv u >>= _) _ _ s;exact aaH (Vr (by show X.A.units+1+64<aep;omega) I hH hd ry ri qF rv hk oE hz λs' H' I' h1 h2=>aaM ⟨.none,rfl,aaM ⟨H',I',q H' h1 h2⟩⟩)
noncomputable def BP(o i:EM):GM:=λv σ=>au (o σ) λow=>au (i σ) λiw=>au (lift (qj ow iw v)) λ_=>ay σ
section
variable{X:Cx}{o i:acJ}{mo mi:EM}{pos:Pos}{N:a8}{sc:adB}{k:Nat}
theorem eU.R8(B:eU X N sc k)(ho:JE X o mo)(hi:JE X i mi)(ha:∀v,agJ (.Subscript o i pos) X.env v=(do
   let ov <- afz [v] (aez o X.env)
   let iv <- afz [v,ov] (aez i X.env)
   standAt pos
   afz [v,ov,iv] (setItem ov iv v)
   release [v,ov,iv] []):=by intro _;rfl):JG X (.Subscript o i pos) (BP mo mi):=
 ⟨PG.imp (Hk ho.h hi.h (O7 (AN B.room)) ha) λv σ H Q h=>by
  obtain⟨φ,ph,ws,w,hH,hS,rv,h⟩:=h;refine tM.bind hH hS h λow ph1 aq H1 vo aw s1 ro h=>tM.bind aw (hS.mono s1) h λiw ph2 bc H2 vi aR s2 ri h=>?_
  rw[c3] at h;obtain⟨_,fY,e,k⟩:=run_lift h;have yP:=ro.mono s2;have qA:=(rv.mono s1).mono s2;unfold qj at e;split at e
  ·rename_i p hp;obtain⟨r,kws⟩:=p;obtain⟨rfl,hr,hd,rfl⟩:=rK aR yP hp;split at e
   ·rename_i hk;cases e;exact⟨bc,ph2,r,kws,iw,w,aR,rfl,hd,ri,qA,hk.1,hk.2.1,hk.2.2,λH' q1 q2=>k bc _ σ q1 ((s1.trans s2).trans q2) (((hS.mono s1).mono s2).mono q2)⟩
   ·cases e
  ·cases e⟩
end
theorem An:∀{xs:aE} {us:aT},↑xs=↑us->(∀(j:Nat) x u,xs[j]? =O x->us[j]? =O u->L2.RelV x u)->Vals xs us
 | [],[],_,_=>.nil
 | [],_::_,h,_=>by simp at h
 | _::_,[],h,_=>by simp at h
 | x::xs,u::us,h,k=>.cons (k 0 x u rfl rfl) (An (by simpa using h) λj y v h1 h2=>k (j+1) y v (by simpa using h1) (by simpa using h2))
theorem O8{w:acg}{u:abh}(h:(dD P w).is k u=true):L2.RelV (kV k) u:=by
 rcases iU h with⟨i,t,rfl,rfl⟩ | ⟨x,t,rfl,rfl⟩
 ·exact⟨t,rfl⟩
 ·exact⟨t,rfl⟩
section
variable{X:Cx}{pins:List (abc×Obj)}{σ:L2.St}{H:Hp}{s:aaR}
theorem GP(I:Inv X pins σ H s){d:abc}{kvs:fD}(hd:H d=O (.dK kvs)\/(H d=O (.dT [])/\kvs=[])):∃vs,KV kvs vs/\s.heap.DictOf (dD X.prog X.w) d vs/\(d==acx)=false/\↑kvs<=sizeLine:=by
 rcases hd with e | ⟨e,rfl⟩
 ·obtain⟨z,y,vs,rel,dd⟩:=pJ I.aB e;exact⟨vs,rel,dd,y,z⟩
 ·obtain⟨z,y,vs,rel,dd⟩:=pJ (kvs:=[]) (nK I e).aB bX;exact⟨vs,rel,dd,y,z⟩
theorem Ff{kvs:fD}{vs:List (Key×abh)}{acc:eM}(rel:KV kvs vs)(oh:ItemsOf (λi v=>∃k x,vs[i]? =O (k,x)/\(dD X.prog X.w).is k v=true) acc ↑vs):Vals (kvs.map λkv=>kV kv.1) acc.toList:=by
 have hk:=rel.keys;refine An (by have e1:=↑rel;have e2:=oh.1;have e3:acc.toList.length=acc.size:=acj;rw[aaI];omega) λj x u h1 h2=>?_
 obtain⟨k,y,e,hi⟩:=oh.2 j u (by simpa using h2);rw[aaK] at h1;obtain⟨kv,e1,rfl⟩:=aaP.mp h1;have e2:(kvs.map (·.1))[j]? =O kv.1:=by rw[aaK,e1];rfl
 rw[hk,aaK,e] at e2;have e3:k=kv.1:=by simpa using e2
 rw[<- e3];exact O8 hi
end
noncomputable def Bl:aE->Hp->VK->Prop:=λxs H Q=>∃d kvs,xs=[.ref d]/\(H d=O (.dK kvs)\/(H d=O (.dT [])/\kvs=[]))/\∀p,H p=Z->Q (.ref p) (upd H p (.lst (kvs.map λkv=>kV kv.1)))
section
variable{X:Cx}
theorem Ou(hc:X.calm=true):c4 X (.type "list") Bl:=by
 intro pins s σ H xs us Q I r h;obtain⟨d,kvs,rfl,hd,h⟩:=h;obtain⟨u,rfl,rx⟩:=vals1 r;obtain rfl:u=abi d:=rx;obtain⟨vs,rel,dd,y,z⟩:=GP I hd;obtain⟨ep,mS⟩:=dd.dictAt;refine PySem.W.kdl_call (ahV (knd:=dD X.prog X.w) (kvs:=vs) (ep:=ep) y) (I.ok.hd hc) mS (by rw[<- ↑rel];exact z) λh' tk acc c hk hD oh=>⟨.ref s.heap.objs.size,_,I.laid (t':=tk) (a:=s.heap.objs.size) (o:=.lst (kvs.map λkv=>kV kv.1)) (λb u q=>hk b u q) (aaN _) ⟨by simpa using z,acc.toList,c,Ff rel oh,by simpa using hD⟩,rfl,h _ (I.aB.fresh (aaN _))⟩
noncomputable def Jc(K:aaJ):aE->Hp->VK->Prop:=λxs H Q=>∃(l:abc) (ns:bI),xs=[.ref l]/\(bH K H l (ns.map V.int)\/∃kvs:fD,(H l=O (.dK kvs)\/(H l=O (.dT [])/\kvs=[]))/\(kvs.map λkv=>kV kv.1)=ns.map V.int)/\↑ns<64 /\
 ∀(p:abc) (iK:bI),H p=Z->iK.Perm ns->iK.Pairwise (· <= ·)->Q (.ref p) (upd H p (.lst (iK.map V.int)))
theorem Eh:∀{us:aT} {ns:bI},agL us ns->Vals (ns.map V.int) us:=by
 intro us ns h;have hl:=ahn h;refine An (by rw[aaI,hl]) λj x u h1 h2=>?_
 rw[aaK] at h1;obtain⟨n,e1,rfl⟩:=aaP.mp h1;obtain⟨m,t,e,e3⟩:=IntsAre.at h j u h2;rw[e1] at e3;cases e3;exact⟨t,e⟩
theorem gather{A:acF}{E:bR}{s:aaR}{T:String}{r d:abc}{n:Nat}{P:Nat->abh->Prop}{OK:ade->Prop}{Y:aT->aaR->Prop}(src:PySem.W.KdlSrc X.prog X.w T r d n P OK)(calm:A.handled=Z)(ok:OK s.heap)(fit:n<=abd)(go:∀(h':ade) (tk:Nat) (acc:eM),(∀b o,s.heap.get? b=O o->h'.get? b=O o)->s.heap.objs.size<h'.objs.size->ItemsOf P acc n->Y acc.toList { s with heap:=h',toks:=tk }) :
  abj (abG X.prog X.w) A (collect (.ref r)) Y E s:=by
 have low:=src.there _ ok;generalize hN:s.heap.objs.size=N at low go;have at0:(s.heap.push { cls:=.type "list",data:=.seq ([]:aT).toArray }).get? N=O { cls:=.type "list",data:=.seq #[] }:=by rw[<- hN];exact abl _ rfl
 have ok1:OK (s.heap.push { cls:=.type "list",data:=.seq ([]:aT).toArray }):=src.keep _ _ ok λ_ _ _ q=>aaO _ q
 unfold collect;refine aaH (wpAny_runValue (adN entry_proto_collect' ?_));rw[adf F.plain_proto_collect _];refine aaH (m:=newList []) (acq (aaM ⟨ags F.plain_list_iadd _,adN entry_list_iadd' ?_⟩));rw[adf F.plain_list_iadd _,hN];have main:=PySem.W.kdl_extend (A:=A) (s:={ s with heap:=s.heap.push { cls:=.type "list",data:=.seq ([]:aT).toArray } }) src calm ok1 N (acD low.1) (acD low.2) (.ref N) 0 at0
  (R:=λq s'=>q=.ok (.ret (.ref N))/\∃(h':ade) (tk:Nat) (acc:eM) (c:Nat),s'={ s with heap:=h',toks:=tk }/\(∀b o,s.heap.get? b=O o->h'.get? b=O o)/\h'.get? N=O { cls:=.type "list",dict:=Z,data:=.seq acc c,slots:= #[] }/\ItemsOf P acc n)
  (λh' tk acc c k1 k2 k3=>⟨rfl,h',tk,acc,c,rfl,λb o q=>k1 b o (by rw[<- hN];exact abu (aaU q)) (aaO _ q),k2,k3⟩) fit
 have last:∀s',(∃(h':ade) (tk:Nat) (acc:eM) (c:Nat),s'={ s with heap:=h',toks:=tk }/\(∀b o,s.heap.get? b=O o->h'.get? b=O o)/\h'.get? N=O { cls:=.type "list",dict:=Z,data:=.seq acc c,slots:= #[] }/\ItemsOf P acc n) →
   abj (abG X.prog X.w) A (do
    let o <- load N
    match o.data with
    | .seq xs _=>pure xs.toList
    | _=>unsupported "internal:collect") Y E s':=by
  rintro s' ⟨h',tk,acc,c,rfl,k1,k2,k3⟩;exact aaH (wpAny_load k2 (aaM (go h' tk acc k1 (aaU k2) k3)))
 refine acp main (λfin s' x=>?_) λe s' x=>nomatch x.1
 cases fin with
 | done f=>
  obtain⟨q,x⟩:=x;cases q;exact last s' x
 | again aaF=>
  refine⟨x.1,aef x.2 λq kX y=>?_⟩;obtain⟨rfl,y⟩:=y;exact last kX y
theorem z9(hc:X.calm=true):c4 X (.builtin "sorted") (Jc X.K):=by
 intro pins s σ H xs us Q I r h;obtain⟨l,ns,rfl,hl,yU,h⟩:=h;obtain⟨u,rfl,rx⟩:=vals1 r;obtain rfl:u=abi l:=rx;have z64:(64:Nat)<=sizeLine:=by decide
 rcases hl with hl | ⟨kvs,hd,C7⟩
 ·obtain⟨its,rv,pl,hz⟩:=I.list hl;have hi:agL its ns:=intsAre_of rv;have fJ:=ahn hi;refine sorted_ints (vs:=its) pl.isList hi ∅ λout iK a1 a2 a3=>?_
  obtain⟨e,he⟩:=sortedAll_at s.heap its out;have fF:=a2.length_eq;exact⟨.ref (s.heap.objs.size+1),_,I.laid (t':=s.toks) (a:=s.heap.objs.size+1) (o:=.lst (iK.map V.int)) (λb u q=>sortedAll_old q) (aeY _) ⟨by rw[aaI];omega,out.toList,e,Eh a1,by simpa using he⟩,rfl,h _ iK (I.aB.fresh (aeY _)) a2 a3⟩
 ·obtain⟨vs,rel,dd,y,z⟩:=GP I hd;obtain⟨ep,mS⟩:=dd.dictAt;refine afY kind_sorted plain_sorted entry_sorted (args_sorted1 _) ?_;unfold Builtin.«sorted»;refine aaH (m:=checkCount "sorted" 1 1 _) (aaM ?_);refine aaH (gather (A:=X.A.in1) (ahV (knd:=dD X.prog X.w) (kvs:=vs) (ep:=ep) y) (I.ok.hd hc) mS (by rw[<- ↑rel];exact z) λh' tk acc hk Jd oh=>?_);have rv:=Ff rel oh;rw[C7] at rv;have hi:agL acc.toList ns:=intsAre_of rv;have fJ:=ahn hi;refine aaH (wpAny_newList ?_ ∅);have ho:(h'.push (seqObj "list" acc.toList.toArray 0)).get? h'.objs.size=O (seqObj "list" acc.toList.toArray 0):=abl _ rfl;refine aaH (abS (acm slot_list_sort ⟨_,ho,rfl⟩ entry_list_sort (list_sort_tree ho hi ∅ λout iK a1 a2 a3=>⟨_,rfl,?_⟩) (args_list_sort _)));obtain⟨e,he⟩:=sortedHeap_at (out:=out) ho;have fF:=a2.length_eq;refine aaM ⟨_,rfl,.ref h'.objs.size,_,I.laid (t':=tk) (a:=h'.objs.size) (o:=.lst (iK.map V.int)) (λb u q=>?_) (aeB Jd) ⟨by rw[aaI];omega,out.toList,e,Eh a1,by simpa using he⟩,rfl,h _ iK (I.aB.fresh (aeB Jd)) a2 a3⟩;have hb:=hk b u q;have cJ:=aaU hb;rw[sortedHeap_old (abu cJ) (aaS cJ (by rw[size_push'];exact aeY _)),Heap.get?_push_ne _ _ _ (abu cJ)];exact hb
end
theorem wO{m:Mo α}{N:α->PH->Prop}(h:(dJ m ph).Run N E):∃a ph',m ph=.ok a ph'/\N a ph':=by
 unfold dJ at h;cases e:m ph with
 | ok a ph'=>rw[e] at h;exact⟨a,ph',rfl,h⟩
 | ex x ph'=>rw[e] at h;exact h.elim
 | no=>rw[e] at h;exact h.elim
noncomputable def uB(body:EM)(cs args:ap):Mo W:=match args,cs with
 | [a],[c]=>dJ (body [O a,O c])
 | _,_=>dY
noncomputable def yk(x:Str)(k:ap->Mo W):W->Mo W
 | .fn z cs=>if z=x then k cs else dY
 | _=>dY
noncomputable def jM(x:Str)(body:EM)(i:Nat)(a:AM):EM:=λσ=>match σ[i]? with
 | some (O w)=>yk x (λcs=>au (a σ) λws=>uB body cs ws) w
 | _=>dY
structure qm(L:gA)(p q:Str):Prop where
 kind:L.sc.kind=.function
 co:L.sc.isCoroutine=false
 gen:L.sc.isGenerator=false
 cell:∀y∈L.sc.names,y.2≠.cell
 ie:L.sc.names.lookup p=O .local
 cap:L.sc.names.lookup q=O .free
 only:∀y,L.sc.names.lookup y=O .free->y=q
 bind:∀qual cl pm v iL u,bindArgs (afW "<lambda>" qual L.ar L.bd L.sc cl pm v iL) ⟨[u],[]⟩=pure [(p,u)]
noncomputable def kx(X:Cx)(p q:Str)(L:gA)(x:Str)(a:abc)(v:abh)(cl:List (Str×abc))(s:aaR)(H:Hp):Cx:=
 let env:=PySem.W.envX (tD x) L.sc s.heap.objs.size a v cl
 { X with A:=X.A.deeper env,N:=[p,q],aD:=s,aM:=H,env:=env,outer:=X.stack,stack:=env::X.stack,ex:=[],calm:=true,fn:=λ_=>false,pn:=[],xe:=λ_ _=>False,kp:=λ_=>True }
section
variable{X:Cx}{pins:List (abc×Obj)}{σ:L2.St}{H:Hp}{s:aaR}
theorem R9 {p q x : Str} {L : gA} {a c : abc} {v : abh} {u : abh} {va vc : V} {oc : Obj} {uc : abh} {c8 : ade} {tk : Nat} (I : Inv X pins σ H s) (S : qm L p q) (hr : X.A.handled = none) (hc : H c = some (.aL oc de)) (hcd : oc.data = .cell (some uc)) (rc : RelV vc uc) (ra : RelV va u) (cw : c8.Ns s.heap.objs.size (fun y => [(p, u)].reverse.lookup y)) (hk : ∀ b o, s.heap.get? b = some o -> c8.get? b = some o) : Inv (kx X p q L x a v [(q, c)] s H) [] [some va, some vc] H { s with heap := c8, toks := tk } := by
  have K6 : c8.IsCell c (some uc) := ⟨oc, hk _ _ (I.aB c _ hc).1, hcd⟩
  have lk : ∀ y d, aeh y [(q, c)] = some d -> y = q /\ d = c := fun y d e => by
    rw [abf] at e;split at e
    · rename_i z; cases e; exact ⟨eq_of_beq z, rfl⟩
    · cases e
  have ok : (kx X p q L x a v [(q, c)] s H).Ok :=
    { mod := I.ok.mod
      kind := S.kind
      glob := rfl
      blt := rfl
      above := aaN _
      inj := fun y z d h1 h2 => (lk y d h1).1.trans (lk z d h2).1.symm
      has := fun y hy => by
        have hy : L.sc.names.lookup y = some .cell \/ L.sc.names.lookup y = some .free := hy
        rcases hy with hy | hy
        · exact absurd rfl (S.cell _ (acN hy))
        · exact ⟨c, by show aeh y [(q, c)] = _; rw [S.only y hy, abf]; simp⟩
      qt := fun y d hz => nomatch hz
      hd := fun _ => hr
      frames := ahd I.ok.frames
      ue := .inr ⟨rfl, rfl⟩
      Cz := fun b hb => nomatch hb
      bs := I.bs
      kE := abw I.ok.kE I.sz
      pV := fun b o e hb => nomatch hb
      pW := fun b hb => nomatch hb
      gx := I.stack
      mI := I.wZ }
  refine ⟨ok, rfl, I.bare, Un.kept hk, ⟨_, cw, fun i y w e1 e2 _ => ?_⟩, fun y d e => ?_, I.aB.fresh (aaN _), fun y d e => ⟨(fun z => nomatch z), .inr ?_⟩, (fun p hp => nomatch hp), I.aB.kept hk, ⟨rfl, trivial⟩⟩
  · match i, e1, e2 with
    | 0, e1, e2 =>
      cases e1;cases e2;exact ⟨u, ra, .inl ⟨S.ie, by simp⟩⟩
    | 1, e1, e2 =>
      cases e1;cases e2;exact ⟨uc, rc, .inr ⟨.inr S.cap, c, by show aeh _ [(_, c)] = _; rw [abf]; simp, K6⟩⟩
    | i + 2, e1, e2 => cases e1
  · obtain ⟨rfl, rfl⟩ := lk y d e
    exact ⟨_, K6⟩
  · obtain ⟨rfl, rfl⟩ := lk y d e
    exact ⟨oc, hc⟩
theorem O9{H:Hp}{cl:List (Str×abc)}{v:V}(h:kg H cl [v]):∃q c oc u,cl=[(q,c)]/\H c=O (.aL oc de)/\oc.data=.cell (O u)/\RelV v u:=by
 cases cl with
 | nil=>exact h.elim
 | cons a cl=>
  cases cl with
  | nil=>obtain⟨⟨oc,u,h1,h2,h3⟩,_⟩:=h;exact⟨a.1,a.2,oc,u,rfl,h1,h2,h3⟩
  | cons b cl=>exact h.2.2.elim
theorem Vu{x y p q:Str}{L:gA}{i k:Nat}{e:acJ}{a:AM}{body:EM}{pp pos:Pos}(hl:iZ X.K x=O L)(S:qm L p q)(hr:df (k+1) X.A)(hN:X.N[i]? =O y)(hv:jP X.env.scope y)(hb:∀a v cl s H,df k (kx X p q L x a v cl s H).A->IE (kx X p q L x a v cl s H) L.bd body)(ha:IA X [e] a)(hd:(y==("__debug__":Str))=false:=by decide)(hcd:(y==("__classdict__":Str))=false:=by decide)(he:abB [e] X.env=(false,aez e X.env)::abB [] X.env:=by rfl)(hpl:(afd pos (abB [] X.env)).any (·.1)=false:=by rfl) :
  IE X (.Call (.Name y pp) [e] [] pos) (jM x body i a):=by
 intro pins s σ H Q I h;obtain⟨φ,ph,ws,hH,hS,h⟩:=h;unfold jM at h;cases ew:ws[i]? with
 | none=>simp only[ew] at h;exact h.elim
 | some ow=>
 cases ow with
 | none=>simp only[ew] at h;exact h.elim
 | some w0=>
 simp only[ew] at h;cases w0 with
 | fn z cs=>
  simp only[yk] at h;by_cases hz:z=x
  ·rw[if_pos hz] at h;subst hz;obtain⟨vf,ev,rf⟩:=hS.get ew;cases rf with
   | fn hf Ck yB rcs=>
   rename_i fa vs o cl;refine aea (aY (Hj hN hv hd hcd pins s σ H (λv H'=>v=.ref fa/\H'=H) I ⟨_,ev,rfl,rfl⟩) λuf s0 ⟨v0,H0,I0,r0,e0⟩=>?_);obtain⟨e01,e02⟩:=e0;subst e01;subst e02;obtain rfl:uf=abi fa:=r0;obtain⟨L',pm,cv,iL,el,eo,C9,tR⟩:=Ck;rw[hl] at el;cases el;have J3:∀{aj:L2.St} {H':Hp} {s':aaR},Inv X pins aj H' s'->H' fa=O (.aL o de)->PySem.W.FnAt fa s'.heap:=λJ hz=>by
    have:=(J.aB fa _ hz).1;rw[eo] at this;exact⟨_,_,_,_,this⟩
   refine PySem.W.callWith_F (J3 I0 hf) (aY (ha pos pins s0 σ H0 (λDc H1=>∃aq ph1 xs,aC X.K aq ph1 H1/\Step X.K φ ↑ph H0 aq ↑ph1 H1/\aN X.K aq ↑ph1 H1 xs Dc/\(uB body cs xs ph1).Run (λw ph'=>
    ∀ak H' v,aC X.K ak ph' H'->Step X.K φ ↑ph H0 ak ↑ph' H'->aF X.K ak ↑ph' H' w v->Q v H') (XE X aq ↑ph1 H1)) I0
    (tA.bind hH hS h λxs ph1 aq H1 Dc aw s1 r1 h=>⟨aq,ph1,xs,aw,s1,r1,h⟩)) λus s1 ⟨Dc,H1,I1,r1,aq,ph1,xs,aw,mT,rx,ky⟩=>⟨J3 I1 (mT.aL _ _ _ hf),?_⟩) he hpl
   unfold uB at ky;split at ky
   ·rename_i wa wc;cases rx with
    | cons ra rn=>
    cases rn;cases rcs with
    | cons rc rn2=>
    cases rn2;rename_i va vc;obtain⟨u,rfl,rau⟩:=Vals.one r1;obtain⟨q',c,oc,uc,rfl,qu,Zr,rcu⟩:=O9 yB;have qu:=mT.aL _ _ _ qu;have C9:=C9.mono λa o z=>mT.aL a o _ z
    obtain⟨c',K7,Dd,t',rfl,dX,gp,ux⟩:=C9;obtain⟨cq,hq⟩:=tR.2 q S.cap;have eq1:q'=q:=by
     rw[abf] at hq;split at hq
     ·rename_i z;exact(eq_of_beq z).symm
     ·cases hq
    subst eq1;obtain⟨w,ph',Xy,hQ⟩:=wO ky;have ho:=(I1.aB fa _ (mT.aL _ _ _ hf)).1;rw[eo] at ho;show abj (abG X.prog X.w) X.A (call (.ref fa) [u]) _ _ _;refine ahL (aef (R:=λr s'=>match r with | .ok (.ret v)=>CE X.stack X.prog X.w H1 s1 Q v s' | _=>False) ?_ λr s' hq=>?_)
    ·refine PySem.W.kla_callFunE (hr.depth) ho rfl S.co S.gen rfl ⟨c',K7,Dd,t',rfl,(I1.aB c' _ dX).1,gp,ux⟩ ?_;rw[S.bind];refine aaM (wpAny_newFunctionEnv S.cell (λy hy=>by rw[aaT.mp hy];exact S.ie) (λc8 cw kM=>⟨I1.nolimit.fresh _ kM,?_⟩) S.kind);have aaj:∀b o,s1.heap.get? b=O o->c8.get? b=O o:=λb o e=>kM.extBut b o (abu (aaU e)) (aaO _ e)
     refine PySem.W.kla_codeExpr ?_;have J:=R9 (x:=z) (a:=fa) (v:=.ref c') (tk:=s1.toks+[(p,u)].length) I1 S hr.hd qu Zr rcu rau cw aaj;refine acp (hb fa (.ref c') [(q',c)] s1 H1 (hr.deeper _) [] _ _ H1 Q J ⟨aq,ph1,_,aw,.sm ra (.sm (rc.mono mT) .nil),?_⟩) (λv s' hv=>?_) λe s' hz=>hz.elim
     ·rw[Xy];exact λak H' v r1 s1 r2=>hQ ak H' v r1 (mT.trans s1) r2
     ·obtain⟨v0,H',J',rv,q0⟩:=hv;exact⟨v0,H',J'.os,J'.bare,J'.base,J'.aB,rv,q0⟩
    ·cases r with
     | error e=>exact hq.elim
     | ok fl=>
      cases fl with
      | ret u=>exact I1.after hq
      | _=>exact hq.elim
   ·exact ky.elim
  ·rw[if_neg hz] at h;exact h.elim
 | _=>exact h.elim
end
noncomputable def Zs(K:aaJ)(x:Str)(P:abc)(cl:List (Str×abc)):TE:=λσ H Q=>jJ H x P/\∀a o H2,H a=Z->H2 a=O (.aL o de)->n5 K H2 x o cl->(∀b u,H b=O u->(∀ps,u≠.cW ps)->H2 b=O u) →
 (∀b ps,b≠P->H b=O (.cW ps)->H2 b=O (.cW ps))->jJ H2 x P->Q (.ref a) H2
theorem NK:∀{l:aT} {i j:Int} {t u:Tok} {v:abh},aeg l->aeg (l++[.int i t,.int j u,v]):=by
 intro l i j t u v h
 fun_induction aeg l with
 | case1=>exact trivial
 | case2 a b c d e rest ih=>exact ih h
 | case3=>exact h.elim
theorem Pa{w:abh}:∀{l:aT} {i j:Int} {t u:Tok} {v:abh},aeg l->agO pos (l++[.int i t,.int j u,v])=O w->agO pos l=O w\/w=v:=by
 intro l i j t u v h e
 fun_induction aeg l with
 | case1=>
  simp only[aeK,agO] at e;split at e
  ·cases e;exact .inr rfl
  ·cases e
 | case2 a b c d e' rest ih=>
  simp only[List.cons_append,agO] at e ⊢;split at e
  ·rename_i hz;rw[if_pos hz];exact .inl e
  ·rename_i hz;rw[if_neg hz];exact ih h e
 | case3=>exact h.elim
section
variable{X:Cx}
theorem HB{x:Str}{L:gA}{c P:abc}{oc:Obj}{cl:List (Str×abc)}(hl:iZ X.K x=O L)(hq:X.env.qual=x++".<locals>.")(yV:X.env.globals=abr)(pP:X.env.code=.ref c)(oP:X.K.lookup c=O oc)(hP:jw oc=O P)(oQ:c≠P)(mD:aeF L.sc X.env=pure cl)(fX:∀y,L.sc.names.lookup y=O .free->∃c,cl.lookup y=O c)(oi:ahQ L.ar X.env=([],[]))(K8:↑cl=2->cl.map (·.1)=JU L:=by intro z;cases z):PE X (.Lambda L.ar L.bd L.sc L.pos) (Zs X.K x P cl):=by
 intro pins s σ H Q I h;obtain⟨⟨ps,hT,uC,hG⟩,h⟩:=h;have C:aes s.heap c P:=E5 (I.gn _ _ oP) hP oQ;have uD:s.heap.get? P=O (adk ps):=I.aB P _ hT;have yW:s.heap.Ns abr X.mg:=I.ok.mod.glob.keeps I.bk;obtain⟨bm,ob,b1,b2,b3,b4,b5,b6⟩:=I.ok.mod.bm;have uE:=I.bk _ _ b3;have hgP:abr≠P:=λz=>by
  obtain⟨o,es,ep,e,hd,_⟩:=yW;rw[z,uD] at e;cases e;cases hd
 have hbP:bm≠P:=λz=>by rw[z,uD] at uE;cases uE;cases b4
 have hbG:bm≠mainGlobals:=λz=>by
  obtain⟨o,es,ep,e,hd,_⟩:=yW;rw[z,e] at uE;cases uE;rw[hd] at b6;cases b6
 have hB:s.heap.BuiltinsAt X.mg P:=⟨bm,ob,b1,b2,hbG,hbP,uE,b4,b5,b6⟩
 refine PySem.W.kla_eval oi ?_;rw[hq];cases hf:agO L.pos ps.toList with
 | some cv=>
  refine PySem.W.kla_makeFunctionHit mD yV yW pP C uD uC hf hB λiL h' tk hk hsz=>?_
  have iD:H h'.objs.size=none:=I.aB.fresh hsz;have hCG:=hG _ _ hf;refine⟨.ref h'.objs.size,_,I.laid (a:=h'.objs.size) (o:=.aL { cls:=.type "function",data:=.func (afW "<lambda>" (tD x) L.ar L.bd L.sc cl ((X.mg "__name__").getD .none) cv iL) } de) (t':=tk) (λb u e=>aaO _ (hk b u e)) hsz ⟨abl _ rfl,trivial,⟨_,abl _ rfl⟩,λ_ _ _ _=>trivial⟩,rfl,h _ _ _ iD bX ?_ (λb u e _=>?_) (λb ps' _ e=>?_) ?_⟩
  ·exact⟨L,_,cv,iL,hl,rfl,hCG.mono λa o z=>by rw[aI (cC z iD)];exact z,K8,fX⟩
  ·rw[aI (cC e iD)];exact e
  ·rw[aI (cC e iD)];exact e
  ·exact jJ.new ⟨ps,hT,uC,hG⟩ iD
 | none=>
  refine PySem.W.kla_makeFunction mD yV yW pP C uD uC hf hgP hB λc' iL h' tk hx qC cJ Zt De=>?_
  obtain⟨c2,Df,K9,t2,e2,J4,hd2,hv2⟩:=Zt;cases e2;have hPs:P<s.heap.objs.size:=aaU uD;have nc:H c'=none:=I.aB.fresh qC;have na:H h'.objs.size=none:=I.aB.fresh (abw qC (aeB cJ));have Pc:P<c':=aaS hPs qC;have cP:c'≠P:=acD Pc;have aP:h'.objs.size≠P:=acD (afO Pc cJ);have ac:h'.objs.size≠c':=acD cJ;have keep:∀{ob:Obj} (b:abc) (u:Obj),b≠P->s.heap.get? b=O u->(h'.push ob).get? b=O u:=λb u n e=>aaO _ (hx b u n e)
  have lt:∀{b:abc} {u:Obj},s.heap.get? b=O u->b≠c'/\b≠h'.objs.size:=λ{b u} e=>⟨abu (aaS (aaU e) qC),abu (aaS (aaU e) (abw qC (aeB cJ)))⟩
  obtain⟨fo,Dg⟩:∃fo:Obj,fo={ cls:=.type "function",data:=.func (afW "<lambda>" (tD x) L.ar L.bd L.sc cl ((X.mg "__name__").getD .none) (.ref c') iL) }:=⟨_,rfl⟩
  obtain⟨qG,Dh⟩:∃qG:eM,qG=ps++ #[afp L.pos.line,afp L.pos.col,.ref c']:=⟨_,rfl⟩
  rw[<- Dh] at De;obtain⟨H2,eH⟩:∃H2:Hp,H2=upd (upd (upd H P (.cW qG)) c' (.aL Df de)) h'.objs.size (.aL fo de):=⟨_,rfl⟩
  have qH:H2 h'.objs.size=O (.aL fo de):=by rw[eH];exact bX
  have La:H2 c'=O (.aL Df de):=by rw[eH,aI (adh ac)];exact bX
  have Di:H2 P=O (.cW qG):=by rw[eH,aI (adh aP),aI (adh cP)];exact bX
  have Dj:∀b,b≠h'.objs.size->b≠c'->b≠P->H2 b=H b:=λb n1 n2 n3=>by rw[eH,aI n1,aI n2,aI n3]
  have nP:∀b u,H b=O u->(∀ps,u≠.cW ps)->b≠P:=λb u e n z=>by rw[z,hT] at e;cases e;exact n _ rfl
  have old:∀b u,H b=O u->b≠P->H2 b=O u:=λb u e n=>(Dj b (cC e na) (cC e nc) n).trans e
  have Zu:cS X.prog X.w H2 (h'.push fo):=λb u e=>by
   by_cases gE:b=h'.objs.size
   ·subst gE;rw[qH] at e;cases e;have hz:(h'.push fo).get? h'.objs.size=O fo:=abl _ (by rw[Dg];rfl);exact⟨hz,trivial,⟨_,hz⟩,λ_ _ _ _=>trivial⟩
   by_cases kQ:b=c'
   ·subst kQ;rw[La] at e;cases e;exact⟨aaO _ J4,trivial,⟨_,aaO _ J4⟩,λ_ _ _ _=>trivial⟩
   by_cases qI:b=P
   ·subst qI;rw[Di] at e;cases e;exact aaO _ De
   rw[Dj b gE kQ qI] at e;refine(I.aB b u e).gL (λd v hd q=>keep d v ?_ q) (λd q=>old d _ q (nP d _ q λ_ z=>nomatch z)) λd xs q=>old d _ q (nP d _ q λ_ z=>nomatch z)
   rcases hd with rfl | hd
   ·exact qI
   ·exact nP d _ hd λ_ z=>nomatch z
  have un:Un X.fs [] H H2 s.heap (h'.push fo):=by
   refine⟨λb o e n _ _=>keep b o (λz=>by rw[z,hT] at n;cases n) e,λb o e n _ _=>⟨o.slots,keep b o (λz=>by rw[z,hT] at n;cases n) e⟩,λb o e n _=>?_,λb o e _=>?_,λb xs e=>old b _ e (nP b _ e λ_ z=>nomatch z),λb o u e=>old b _ e (nP b _ e λ_ z=>nomatch z),λb ps0 e=>?_⟩
   ·rw[Dj b (lt e).2 (lt e).1 (λz=>by rw[z,hT] at n;cases n)];exact n
   ·by_cases hb:b=P
    ·exact⟨_,by rw[hb];exact aaO _ De⟩
    ·exact⟨o,keep b o hb e⟩
   ·by_cases hb:b=P
    ·subst hb;rw[hT] at e;cases e;exact⟨_,by rw[Di,Dh]⟩
    ·exact⟨#[],by rw[old b _ e hb];simp⟩
  have Dk:qG.toList=ps.toList++[afp L.pos.line,afp L.pos.col,.ref c']:=by rw[Dh];simp
  have cg:pK H2 (.ref c') x:=⟨c',Df,K9,t2,rfl,La,hd2,hv2⟩
  show EP X pins σ Q (.ref h'.objs.size) { s with heap:=h'.push _,toks:=tk };rw[show(PySem.W.kla_obj "<lambda>" ((x++".<locals>.")++"<lambda>") L.ar L.bd L.sc cl ((X.mg "__name__").getD .none) c' iL)=fo from Dg.symm];refine⟨.ref h'.objs.size,H2,I.un (t':=tk) un Zu,rfl,h _ fo H2 na qH ⟨L,_,_,iL,hl,Dg,cg,K8,fX⟩ (λb u e n=>old b u e (nP b u e n)) (λb ps' n e=>old b _ e n) ⟨qG,Di,by rw[Dk];exact NK uC,λpos v e=>?_⟩⟩;rw[Dk] at e
  rcases Pa uC e with e | rfl
  ·exact(hG pos v e).mono λa o z=>old a _ z (nP a _ z λ_ y=>nomatch y)
  ·exact cg
end
noncomputable def tU(x:Str)(m1:EM)(fm:ap->Mo W)(args:ap):Mo W:=match args with
 | [a]=>au (dJ (m1 [O a])) λw1=>dJ (fm [w1,.fn x [a]])
 | _=>dY
section
variable{Pg:abI}{w:acg}{K:aaJ}{mg:dE}{base:ade}
theorem FV{x qual:Str}{st:ahH}{f:abc}{fd:acG}(F:iI K x qual st f fd)(hn:abO K abr x=O (O (.ref f))):iZ K x=Cb (eE st):=by
 obtain⟨oc,od,kV,doc,pm,an,bC,ct,gQ,rfl,lk,hcd⟩:=F.ex;unfold iZ;simp only[hn,lk]
theorem Sa{x g n:Str}{st:ahH}{f fg c P:abc}{fd gd:acG}{yX:a8}{k:Nat}{m1:EM}{fm:ap->Mo W}{e1:acJ}{L:gA}{p1 p2 p3:Pos}{oc:Obj}(F:iI K x x st f fd)(S:cZ [n] [n] (aQ st))(dM:eE st=[.Return (O (.Call (.Name g p1) [e1,.Lambda L.ar L.bd L.sc L.pos] [] p2)) p3])(eS:∀j,agK j (aQ st).names []=[(n,j)])(Lb:(aQ st).names.lookup n=O .cell)(pP:fd.code=.ref c)(oP:K.lookup c=O oc)(hP:jw oc=O P)(oQ:c≠P)(hm:(x,c,P)∈eG K)(oj:∀p∈eG K,p.2.2=P->p.1=x)(hl:iZ K x=O L)(mD:∀L0 fa cd,aeF L.sc (aeC x (aQ st) L0 fa cd)=pure [(n,L0+1)])(fX:∀y,L.sc.names.lookup y=O .free->y=n)(oi:∀env,ahQ L.ar env=([],[]))(Lc:∀env,abB [e1,.Lambda L.ar L.bd L.sc L.pos] env=(false,aez e1 env)::abB [.Lambda L.ar L.bd L.sc L.pos] env)(hgl:(aQ st).names.lookup g=O .globalImplicit)(dq:(g==("__debug__":Str))=false)(G:ck Pg w K mg base (bN Pg w) k fg gd yX (cE K mg 2 fm))(hmg:mg g=O (.ref fg))(jY:acT K (.ref fg)=true)(qJ:Binds K gd yX [])(Zv:↑yX=2)(Dm:∀(bC:abh) (A:acF) (outer:List Env) (s:aaR) (H:Hp) (E:XK),df k (A.deeper (aeC x (aQ st) s.heap.objs.size f bC))->IE (eh (bN Pg w) Pg w K mg base [n] x (aQ st) f bC A outer s H E) e1 m1):ck Pg w K mg base (bN Pg w) (k+1) f fd [n] (cE K mg 1 (tU x m1 fm)):=by
 obtain⟨K7,od,kV,doc,pm,an,bC,ct,gQ,rfl,lk,hcd⟩:=F.ex;obtain rfl:bC=.ref c:=pP;refine⟨λvs H Q E h=>h.1,λA outer s H args us vs Q E hr e0 hb r oB=>?_⟩;obtain⟨bV,φ,ph,ws,hH,rws,ky⟩:=oB;have KX:K.In s.heap:=e0.mod.qr.keeps λb o e=>(e0.bs b o e).1
 have lim:s.heap.NoLimit:=e0.mod.nolimit.keeps λb o e=>(e0.bs b o e).1
 have sF:∀y∈[n].zip us,(aQ st).names.lookup y.1=O .local\/((aQ st).names.lookup y.1=O .cell/\((agK (s.heap.objs.size+1) (aQ st).names []).lookup y.1).isSome=true):=λ⟨m,v⟩ hy=>by
  rcases S.ie m (aee hy).1 with q | q
  ·exact .inl q
  ·exact .inr ⟨q,adY _ _ _ (.inl q)⟩
 refine aff hr.depth (KX _ _ lk) rfl S.co S.gen rfl (afN KX hcd) (hb _ _ _ _ ?_);refine aeo S.kind sF λenv he s1 y=>?_
 subst he;refine⟨lim.keeps y.toInCall.keep,codeAny_func ?_⟩;have I:Inv (eh (bN Pg w) Pg w K mg base [n] x (aQ st) f (.ref c) A outer s H E) [] (start [n] vs) H s1:=z7 S hr.hd e0 bV r y;have oR:df k (A.deeper (aeC x (aQ st) s.heap.objs.size f (.ref c))):=hr.deeper _;have Dm:=Dm (.ref c) A outer s H E oR;show abj _ _ (execs (eE st) _) _ _ _;rw[dM];cases rws with
 | nil=>exact absurd bV (by decide)
 | cons ra rn=>
 cases rn with
 | cons _ _=>exact absurd bV (by simp)
 | nil=>
 rename_i wa va;unfold tU at ky;rw[c3] at ky;obtain⟨w1,ph1,ew1,ky⟩:=wO ky;obtain⟨wr,ph2,ewr,hQ⟩:=wO ky;have est:start [n] [va]=[O va]:=rfl;rw[est] at I;obtain⟨X,eX⟩:∃X,X=eh (bN Pg w) Pg w K mg base [n] x (aQ st) f (.ref c) A outer s H E:=⟨_,rfl⟩
 have key:abj (abG Pg w) X.A (aez (.Call (.Name g p1) [e1,.Lambda L.ar L.bd L.sc L.pos] [] p2) X.env) (λu s'=>CE outer Pg w H s Q u s') X.xe s1:=by
  subst eX;have Xz:=HB (X:=eh (bN Pg w) Pg w K mg base [n] x (aQ st) f (.ref c) A outer s H E) (cl:=[(n,s.heap.objs.size+1)]) hl rfl rfl rfl oP hP oQ (mD _ _ _) (λy hy=>⟨s.heap.objs.size+1,by rw[fX y hy,abf];simp⟩) (oi _);have hPA:=nz (hs:=Lc _) Dm (nz (hs:=rfl) Xz sx);refine aea (Gs I hgl hmg (ahC (h₀:=base) e0.mod.qr jY (aY (hPA p2 [] s1 [O va] H (λDd H2=>∃v1 a o aq,Dd=[v1,.ref a]/\aC K aq ph1 H2/\Step K φ ↑ph H aq ↑ph1 H2/\aF K aq ↑ph1 H2 w1 v1 /\
   H2 a=O (.aL o de)/\n5 K H2 x o [(n,s.heap.objs.size+1)]) I ⟨φ,ph,[O wa],hH,.sm ra .nil,?_⟩) λyY s2 ⟨K9,H2,I2,r2,v1,a,o,aq,e2,aR,dF,Dn,yZ,kI⟩=>⟨I2.gn,?_⟩) (Lc _) rfl) dq)
  ·rw[ew1];intro aq H1 v1 aw mT Dn;refine⟨aw.tb _ hm,λa o H2 na qH kI hold Cm Do=>?_⟩;have tV:∀b o u,H1 b=O (.aL o u)->H2 b=O (.aL o u):=λb o u z=>hold b _ z λ_ y=>nomatch y
   have dF:Step K aq ↑ph1 H1 aq ↑ph1 H2:=⟨aaN _,λ_ _=>rfl,(λb xs z=>hold b _ z λ_ y=>nomatch y),tV⟩
   refine⟨v1,a,o,aq,rfl,⟨λi p e=>?_,aw.inj,λp hp=>?_⟩,mT.trans dF,Dn.mono dF,qH,kI⟩
   ·obtain⟨z,hz,mz⟩:=aw.at (aaG.mp e).1;have y3:∀ps,z≠.cW ps:=λps q=>by
     subst q;have q:=aw.hp i p e;cases p with
     | lst _=>obtain⟨_,q,_⟩:=q;rw[hz] at q;cases q
     | aX _=>rcases q with⟨_,q,_⟩ | ⟨_,q,_⟩ <;> (rw[hz] at q;cases q)
     | obj _ _=>obtain⟨_,_,_,_,q,_⟩:=q;rw[hz] at q;cases q
     | bY _=>obtain⟨_,q,_⟩:=q;rw[hz] at q;cases q
     | ft _=>obtain⟨_,_,_,q,_⟩:=q;rw[hz] at q;cases q
     | mO _=>obtain⟨_,_,⟨_,q,_⟩ | ⟨_,q,_⟩⟩:=q <;> (rw[hz] at q;cases q)
    exact(aw.hp i p e).mono dF ((hold _ _ hz y3).trans hz.symm)
   ·by_cases fG:p.2.2=P
    ·rw[fG,oj p hp fG];exact Do
    ·obtain⟨ps,e1,e2,e3⟩:=aw.tb p hp;exact⟨ps,Cm _ _ fG e1,e2,λpos v e=>(e3 pos v e).mono λb o z=>tV b o _ z⟩
  ·subst e2;obtain⟨c0,Dp⟩:∃c0,c0=s.heap.objs.size+1:=⟨_,rfl⟩
   rw[<- Dp] at kI;have Vv:(eh (bN Pg w) Pg w K mg base [n] x (aQ st) f (.ref c) A outer s H E).env.cells=[(n,c0)]:=by rw[Dp];exact eS _
   have Cn:(eh (bN Pg w) Pg w K mg base [n] x (aQ st) f (.ref c) A outer s H E).env.cells.lookup n=O c0:=by rw[Vv,abf];simp
   have fK:H2 c0=none:=(I2.gH n c0 Cn).1 rfl;have kh:∃fv u0,s2.heap.get? c0=O fv/\fv.data=.cell (O u0)/\RelV va u0:=by
    obtain⟨m,hn,Dq⟩:=I2.loc;obtain⟨u0,mU,Dr⟩:=Dq 0 n va rfl rfl (.inr (.inl Lb))
    rcases Dr with⟨kz,_⟩ | ⟨_,c1,uF,fv,g1,g2⟩
    ·have kz:(aQ st).names.lookup n=O .local:=kz;rw[Lb] at kz;cases kz
    ·rw[Cn] at uF;cases uF;exact⟨fv,u0,g1,g2,mU⟩
   obtain⟨fv,u0,g1,g2,mU⟩:=kh;have qK:s.heap.objs.size<=c0:=by rw[Dp];omega
   have jk:∀b o,s.heap.get? b=O o->b≠c0:=λb o e=>abu (aaS (aaU e) qK)
   have ok3:cS Pg w (upd H2 c0 (.aL fv de)) s2.heap:=λb u e=>by
    by_cases hb:b=c0
    ·subst hb;rw[bX] at e;cases e;exact⟨g1,trivial,⟨_,g1⟩,λ_ _ _ _=>trivial⟩
    ·rw[aI hb] at e;exact(I2.aB b u e).gL (λ_ _ _ q=>q) (λd q=>by rw[aI (cC q fK)];exact q) λd xs q=>by rw[aI (cC q fK)];exact q
   have E2:=I2.JJ;have e03:tv Pg w K mg base (A.deeper (aeC x (aQ st) s.heap.objs.size f (.ref c))) (aeC x (aQ st) s.heap.objs.size f (.ref c)::outer) s2 (upd H2 c0 (.aL fv de)):=
    ⟨E2.frames,E2.mod,λb o e=>⟨(E2.bs b o e).1,by rw[aI (jk b o (e0.bs b o e).1)];exact(E2.bs b o e).2⟩,E2.kE,E2.gx,λb hb=>by
     rw[aI (λz=>?_)]
     ·exact E2.mI b hb
     ·subst z
      rcases abk.mp (I2.sr b hb) with z | z
      ·exact I2.lG n b Cn z
      ·obtain⟨_,o',fk,_⟩:=e0.gx.mem z;exact jk b o' fk rfl,ok3,E2.bare⟩
   have hlb:(yY++[]).length=↑yX:=by rw[aci,<- ↑r2];exact Zv.symm
   have oI:=qJ s2 yY I2.gn hlb;rw[aci] at oI;have gP:Step K aq ↑ph1 H2 aq ↑ph1 (upd H2 c0 (.aL fv de)):=⟨aaN _,λ_ _=>rfl,λb xs z=>by rw[aI (cC z fK)];exact z,λb o u z=>by rw[aI (cC z fK)];exact z⟩
   refine ahL (aef (G.run _ _ s2 (upd H2 c0 (.aL fv de)) ⟨yY,[]⟩ yY [v1,.ref a] Q (λ_ _ _=>False) oR e03 oI r2
    ⟨rfl,aq,ph1,[w1,.fn x [wa]],FO aR fK,.cons (Dn.mono gP) (.cons (.fn (gP.aL _ _ _ yZ) (kI.mono λb o z=>gP.aL b o _ z) (show kg _ [(n,c0)] [va] from⟨⟨fv,u0,bX,g2,mU⟩,(λ_ z=>nomatch z),trivial⟩) (.cons ((ra.mono dF).mono gP) .nil)) .nil),?_⟩) λr s' hq=>?_)
   ·rw[ewr];exact λak H' v h1 h2 h3=>hQ ak H' v h1 ((dF.trans gP).trans h2) h3
   ·cases r with
    | error e=>obtain⟨_,_,_,_,z⟩:=hq;exact z.elim
    | ok fl=>
     cases fl with
     | ret u=>
      obtain⟨v,H',os,bare,un,yh,rv,q⟩:=hq;refine⟨v,H',os.trans I2.os,bare,?_,yh,rv,q⟩;have B:=I2.base;have frees:∀b o,s.heap.get? b=O o->H b=Z->upd H2 c0 (.aL fv de) b=none:=λb o e n=>by rw[aI (jk b o e)];exact B.free b o e n (λz=>nomatch z)
      have hLn:∀b o,s.heap.get? b=O o->b∉eR outer->b∉eR (aeC x (aQ st) s.heap.objs.size f (.ref c)::outer):=λb o e hb hz=>by
       rcases abk.mp (I2.sr b hz) with z | z
       ·have z:b=s.heap.objs.size:=z;exact absurd (aaU e) (by rw[z];exact acR _)
       ·exact hb z
      refine⟨λb o e n hb _=>un.keep b o (B.keep b o e n hb (λz=>nomatch z)) (frees b o e n) (hLn b o e hb) (λz=>nomatch z),λb o e n hb _=>?_,λb o e n _=>?_,λb o e _=>?_,λb xs e=>?_,λb o u e=>?_,λb ps e=>?_⟩
      ·obtain⟨sl,e1⟩:=B.slot b o e n hb (λz=>nomatch z);obtain⟨oC,e2⟩:=un.slot b _ e1 (frees b o e n) (by rw[wK rfl];exact aba _ hb) (λz=>nomatch z);exact⟨oC,e2⟩
      ·obtain⟨o',e1⟩:=B.there b o e (λz=>nomatch z);exact un.free b o' e1 (frees b o e n) (λz=>nomatch z)
      ·obtain⟨o',e1⟩:=B.there b o e (λz=>nomatch z);exact un.there b o' e1 (λz=>nomatch z)
      ·exact un.fU b xs (gP.tup b xs (B.fU b xs e))
      ·exact un.ee b o u (gP.aL b o u (B.ee b o u e))
      ·obtain⟨m1,e1⟩:=B.fV b ps e;obtain⟨m2,e2⟩:=un.fV b (ps++m1) (by rw[aI (cC e1 fK)];exact e1);exact⟨m1++m2,by rw[e2,afM]⟩
     | _=>exact ael hq
 subst eX;exact afk (wpAny_Return_some (acp key (λu s' hq=>hq) λe s' hz=>hz))
end
noncomputable def pQ(kws:aZ):Option ap:=if kws.all (λp=> !lR p.1)=true then O (kws.map (·.1)) else Z
noncomputable def kn:ap->Po W:=λxs ph=>match xs with
 | [w]=>match gf w ph with
  | some p=>(pQ p.2).map λks=>(.ref ↑ph,ph++[.lst ks])
  | none=>pL [w] ph
 | _=>Z
noncomputable def insI(a:Int):bI->List Int
 | []=>[a]
 | b::l=>if a<=b then a::b::l else b::insI a l
noncomputable def mE:bI->List Int
 | []=>[]
 | a::l=>insI a (mE l)
noncomputable def ko:ap->Po W:=λxs ph=>match xs with
 | [w]=>match(match gf w ph with | some p=>(pQ p.2).bind (ba oa) | none=>sQ w ph) with
  | some ns=>if ↑ns<64 then O (.ref ↑ph,ph++[.lst ((mE ns).map W.int)]) else Z
  | none=>Z
 | _=>Z
theorem insI_perm{a:Int}:∀{l:bI},(insI a l).Perm (a::l)
 | []=>.refl _
 | b::l=>by
  unfold insI;split
  ·exact .refl _
  ·exact(insI_perm.cons b).trans (.swap a b l)
theorem El{a:Int}:∀{l:bI},l.Pairwise (· <= ·)->(insI a l).Pairwise (· <= ·)
 | [],_=>List.pairwise_singleton _ _
 | b::l,h=>by
  unfold insI;obtain⟨h1,h2⟩:=afQ.mp h;split
  ·rename_i lS;exact afQ.mpr ⟨λc hc=>(abk.mp hc).elim (λz=>z▸lS) λz=>Int.le_trans lS (h1 c z),h⟩
  ·rename_i lS;exact afQ.mpr ⟨λc hc=>(abk.mp (insI_perm.mem_iff.mp hc)).elim (λz=>by omega) λz=>h1 c z,El h2⟩
theorem Fg:∀{l:bI},(mE l).Perm l
 | []=>.refl _
 | a::l=>insI_perm.trans (Fg.cons a)
theorem Em:∀{l:bI},(mE l).Pairwise (· <= ·)
 | []=>.nil
 | a::l=>El Em
theorem AO{l l':bI}(p:l'.Perm l)(s:l'.Pairwise (· <= ·)):l'=mE l:=
 List.Perm.eq_of_pairwise (le:=(· <= ·)) (λa b _ _ h1 h2=>Int.le_antisymm h1 h2) s Em (p.trans Fg.symm)
section
variable{K:aaJ}{φ:Nat->abc}{n:Nat}{H:Hp}
theorem FW:∀{kws:aZ} {kvs:fD},cD K φ n H kws kvs->aN K φ n H (kws.map (·.1)) (kvs.map λkv=>kV kv.1)
 | _,_,.nil=>.nil
 | _,_,.cons (k:=k) h r=>.cons (by cases k with | inl i=>exact .int i | inr x=>exact .str x) (FW r)
theorem Fh{ph:PH}{y:W}{v:V}{p:Nat×aZ}{ks:ap}(hH:aC K φ ph H)(r:aF K φ ↑ph H y v)(e:gf y ph=O p)(hk:pQ p.2=O ks):∃d kvs,v=.ref d/\(H d=O (.dK kvs)\/(H d=O (.dT [])/\kvs=[]))/\aN K φ ↑ph H ks (kvs.map λkv=>kV kv.1):=by
 unfold pQ at hk;split at hk
 ·rename_i ha;cases hk;obtain⟨rfl,hi,hd,rfl⟩:=rJ (i:=p.1) (kws:=p.2) hH r e
  rcases hH.hp _ _ hd with⟨kvs,q,rd⟩ | ⟨kvs,q,rt⟩
  ·exact⟨_,kvs,rfl,.inl q,FW rd⟩
  ·obtain⟨e1,e2⟩:=rt.Ci ha;subst e2;rw[e1];exact⟨_,[],rfl,.inr ⟨q,rfl⟩,.nil⟩
 ·cases hk
end
theorem AQ:gK K (λxs H Q=>(∃p ys,xs=[.ref p]/\(bH K H p ys\/cI K H p ys)/\∀l,H l=Z->Q (.ref l) (upd H l (.lst ys)))\/Bl xs H Q) kn:=by
 intro φ ph H xs vs w ph' Q hH r e k;unfold kn at e;split at e
 ·rename_i x;cases hd:gf x ph with
  | none=>rw[hd] at e;exact .inl (RR hH r e k)
  | some p=>
   rw[hd] at e;obtain⟨ks,hk,e⟩:=aaP.mp e;cases e;cases r with
   | cons r rn=>
    cases rn;obtain⟨d,kvs,rfl,Ds,rr⟩:=Fh hH r hd hk;refine .inr ⟨d,kvs,rfl,Ds,λp hp=>?_⟩;obtain⟨q1,q2,q3⟩:=ke hH rr hp;exact k _ _ _ q1 q2 q3
 ·cases e
theorem zY(hc:X.calm=true):c4 X (.type "list") (λxs H Q=>(∃p ys,xs=[.ref p]/\(bH X.K H p ys\/cI X.K H p ys)/\∀l,H l=Z->Q (.ref l) (upd H l (.lst ys)))\/Bl xs H Q):=c4.or Np (Ou hc)
theorem Ao{K:aaJ}{φ:Nat->abc}{n:Nat}{H:Hp}:∀(ns:bI),aN K φ n H (ns.map W.int) (ns.map V.int)
 | []=>.nil
 | n::ns=>.cons (.int n) (Ao ns)
theorem AR:gK K (Jc K) ko:=by
 intro φ ph H xs vs w ph' Q hH r e k;unfold ko at e;split at e
 ·rename_i x;cases r with
  | cons r rn=>
  cases rn;cases hd:gf x ph with
  | none=>
   rw[hd] at e;simp only at e;split at e
   ·rename_i ns cw;split at e
    ·rename_i yU;cases e;obtain⟨p,rfl,hq⟩:=O2 hH r cw;refine⟨p,ns,rfl,.inl hq,yU,λq iK hq hp hs=>?_⟩;rw[AO hp hs];obtain⟨q1,q2,q3⟩:=ke hH (Ao (mE ns)) hq;exact k _ _ _ q1 q2 q3
    ·cases e
   ·cases e
  | some p=>
   rw[hd] at e;simp only at e;split at e
   ·rename_i ns cw;split at e
    ·rename_i yU;cases e;obtain⟨ks,hk,cw⟩:=Option.bind_eq_some_iff.mp cw;obtain⟨d,kvs,rfl,Ds,rr⟩:=Fh hH r hd hk;refine⟨d,ns,rfl,.inr ⟨kvs,Ds,wN rr cw⟩,yU,λq iK hq hp hs=>?_⟩;rw[AO hp hs];obtain⟨q1,q2,q3⟩:=ke hH (Ao (mE ns)) hq;exact k _ _ _ q1 q2 q3
    ·cases e
   ·cases e
 ·cases e
theorem boot_sorted:acv "sorted"=O (.builtin "sorted"):=by kernel_rfl
section
variable{X:Cx}{x y p q:Str}{L:gA}{i k:Nat}{e:acJ}{a:AM}{body:EM}{pp pos:Pos}
theorem HC(hl:iZ X.K x=O L)(S:qm L p q)(hr:df (k+1) X.A)(hN:X.N[i]? =O y)(hv:jP X.env.scope y)(hb:∀a v cl s H,df k (kx X p q L x a v cl s H).A->JE (kx X p q L x a v cl s H) L.bd body)(dM:eJ [e]=true)(ha:JA X [e] a)(hd:(y==("__debug__":Str))=false)(hcd:(y==("__classdict__":Str))=false):JE X (.Call (.Name y pp) [e] [] pos) (jM x body i a):=
 ⟨Vu hl S hr hN hv (λa v cl s H hr=>(hb a v cl s H hr).h) ha.h hd hcd (fQ (by unfold eJ at dM;rw[ady,aaZ] at dM;simpa using dM.1)) (any_none rfl)⟩
theorem HD{l:List (Str×aek)}{c:Str}:∀{y:Str},(l.all λp=> !(p.2==.free)||p.1==c)=true->l.lookup y=O .free->y=c:=by
 intro y h e;have m:=acN e;have:=abR.mp h _ m
 simpa using this
theorem Bd.Ld{N:a8}{sc:adB}(B:Bd X N sc (k+1))(S:qm L p q)(nd:[p,q].Nodup)(a:abc)(v:abh)(cl:List (Str×abc))(s:aaR)(H:Hp)(hr:df k (kx X p q L x a v cl s H).A):Bd (kx X p q L x a v cl s H) [p,q] L.sc k:=
 ⟨⟨⟨rfl,λ_ z=>z,λ_ z=>z,λ_ z=>z,λy z=>⟨.inr (z.elim (λz=>z) λz=>absurd rfl (S.cell _ (mem_lookup z))),λ_ _ _ _ _=>trivial⟩,nd⟩,rfl,hr⟩,agP⟩
theorem Qm{m1:EM}{fm:ap->Mo W}{xs:ap}{ph:PH}(h:↑xs≠1):tU x m1 fm xs ph=.no:=by
 unfold tU;split
 ·exact absurd rfl h
 ·rfl
noncomputable def jf(st:ahH):gA:=match Cb (eE st) with
 | some L=>L
 | none=>⟨iX st,.Constant .none 0 ⟨0,0,0,0⟩,aQ st,⟨0,0,0,0⟩⟩
end
section
variable{prog:abI}{w:acg}{A:acF}{E:bR}{s:aaR}{d it:abc}{od:Obj}{es:Array acV}{ep:Nat}
theorem Pb{Q:bR}(hd:(d==acx)=false)(ho:s.heap.get? d=O od)(hc:od.cls=.type "dict")(og:od.data=.dict es ep)(hQ:Q (.ref s.heap.objs.size) { s with heap:=s.heap.push { cls:=.type "dict_keyiterator",data:=.fields #[.ref d,.int 0 0,.int es.size 0,.int ep 0] } }) :
  abj (abG prog w) A (pyIter (.ref d)) Q E s:=by
 have hT:s.TypeIs (.ref d) "dict":=⟨_,ho,hc⟩
 refine wpAny_pyIter_slot hT F.slot_dict_iter (acm F.slot_dict_iter hT F.entry_dict_iter ?_ (F.args_dict_iter_1 _));unfold Builtin.«dict.__iter__»;refine aaH ?_;unfold Builtin.Dict.dictSlotNone;refine aaH (afh hT ?_);show abj _ _ (pure (abi d)) _ _ s;refine aaM ?_;show abj _ _ (agS d >>= _) _ _ s;unfold agS;rw[if_neg (by rw[hd];exact abg)];refine aaH (aaM ?_);refine aaH (adQ ho og ?_);refine aaH (adP ho og ?_);refine aaH (acq (aaM ⟨_,rfl,"dict_keyiterator",_,⟨_,abl _ rfl,rfl⟩,acE.lookup,?_⟩))
 simpa[afp] using hQ
theorem Pd{i:Nat}{e:acV}{Q:hV->aaR->Prop}(hit:s.heap.IsKeyIter it d i es.size ep)(uG:s.heap.get? d=O od)(lT:od.data=.dict es ep)(hx:es[i]? =O e)(hQ:∀h',h'.IsKeyIter it d (i+1) es.size ep->aed it s.heap h'->Q (O e.key) { s with heap:=h' }):abj (abG prog w) A (ahj (.ref it)) Q E s:=by
 obtain⟨o,ho,hc,hd⟩:=id hit;unfold ahj;refine aaH (wpAny_attempt (adi (name:=abA "__next__") hit.typeIs acE
  (acm acE hit.typeIs afm ?_ (afi _))))
 refine aaH (aaM ?_);refine aaH ?_;refine aaH ?_;refine aaH (acZ hit.typeIs (aaM ?_));refine aaH (wpAny_fieldsOf ho hd ?_);have Co:aft "dict_keyiterator"=false:=by decide
 simp only[Co,abD,if_false];show abj _ _ (if(abi d==abN)=true then _ else _) _ _ s;rw[if_neg (show ¬((abi d==abN)=true) from abg)];refine aaH (aaM ?_);refine aaH (adQ uG lT ?_);rw[if_neg (by simp)];refine aaH (aaM ?_);refine aaH (adP uG lT ?_);rw[if_neg (by simp)];refine aaM ?_;simp only[show ¬((i:Int)<0) from by omega,if_false,Int.toNat_natCast,hx];refine aaH ?_;refine aaH (acZ hit.typeIs (aaM ?_));refine aaH (wpAny_isOneOf_keyiter hit.typeIs ?_);show abj _ _ (setField (.ref it) 1 (afp ((i:Int)+1)) >>= _) _ _ s;refine aaH (afb ho hd (by simp) ?_);have jL:(s.heap.update it (adU (·.setIfInBounds 1 (afp ((i:Int)+1))))).IsKeyIter it d (i+1) es.size ep:=
  ⟨_,abT _ ho (afg (aeb hd _)),(Obj.cls_mapFields ..).trans hc,by rw[aeb hd];simp[afp]⟩
 refine aaH (abS ?_);refine aaH (wpAny_isOneOf_keyiter (s:={ s with heap:=s.heap.update it (adU (·.setIfInBounds 1 (afp ((i:Int)+1)))) }) jL.typeIs ?_);show abj _ _ (pure e.key) _ _ _;exact aaM (aaM ⟨_,rfl,aaM (hQ _ jL (acP ..))⟩)
theorem Qn{i:Nat}{Q:hV->aaR->Prop}(hh:A.handled=Z)(hit:s.heap.IsKeyIter it d i es.size ep)(uG:s.heap.get? d=O od)(lT:od.data=.dict es ep)(hx:es.size<=i)(hQ:∀h',Heap.ExtBut it s.heap h'->Q Z { s with heap:=h' }):abj (abG prog w) A (ahj (.ref it)) Q E s:=by
 obtain⟨o,ho,hc,hd⟩:=id hit;unfold ahj;refine aaH (wpAny_attempt (adi (name:=abA "__next__") hit.typeIs acE
  (acm acE hit.typeIs afm ?_ (afi _))))
 refine aaH (aaM ?_);refine aaH ?_;refine aaH ?_;refine aaH (acZ hit.typeIs (aaM ?_));refine aaH (wpAny_fieldsOf ho hd ?_);have Co:aft "dict_keyiterator"=false:=by decide
 simp only[Co,abD,if_false];show abj _ _ (if(abi d==abN)=true then _ else _) _ _ s;rw[if_neg (show ¬((abi d==abN)=true) from abg)];refine aaH (aaM ?_);refine aaH (adQ uG lT ?_);rw[if_neg (by simp)];refine aaH (aaM ?_);refine aaH (adP uG lT ?_);rw[if_neg (by simp)];refine aaM ?_;simp only[show ¬((i:Int)<0) from by omega,if_false,Int.toNat_natCast,Array.getElem?_eq_none hx];refine aaH ?_;refine aaH (acZ hit.typeIs (aaM ?_));show abj _ _ (setField (.ref it) 0 .none >>= _) _ _ s;refine aaH (afb ho hd (by simp) ?_);show abj _ _ (newExc (.type "StopIteration") [] >>= _) _ _ _;refine aaH ?_;simp only[newExc,newTuple];refine aaH (acq ?_ (by size_fits));refine aaH (m:=firstArgMember _ _) (wpAny_of_eq (a:=abN) (by first | rfl | (simp only[firstArgMember];rfl)) ?_);refine acq ?_ (by size_fits);simp only[raiseNew];refine aaH (wpAny_handled ?_);rw[show A.in1.handled=Z from hh];refine aaH (aaM (wpAny_throw ?_));refine aaH (agy (T:="StopIteration") (b:=true) ⟨_,abl _ rfl,rfl⟩ isSubtype_stop ?_);exact aaM (hQ _ (((acP ..).extBut.push _).push _))
end
noncomputable def Dt(d:abc)(o:Obj)(u:HO):It:=
 ⟨λi H=>H d=O (.aL o u)/\i<nU u,λi H x H'=>H'=H/\∃v,IZ H u i x v,λi H=>H d=O (.aL o u)/\nU u<=i⟩
theorem Pe{w:acg}{d it:abc}{o:Obj}{es:Array acV}{ep:Nat}(hu:gw u)(hd:o.data=.dict es ep) :
  Turn P w K tg (Dt d o u) [it] it (λi h=>h.IsKeyIter it d i es.size ep) where
 mem:=by simp
 obj:=λi h ⟨ob,st,hc,fI⟩ b hb=>by
  have:b=it:=by simpa using hb
  subst this;exact⟨ob,st,λv z=>by rw[fI] at z;cases z⟩
 keep:=λi h h' ⟨ob,st,r⟩ k=>⟨ob,k it (by simp) _ st,r⟩
 item:=by
  intro X hP hw hK hc i pins s σ H E I hf st hg;subst hP hw hK;obtain⟨hg,hi⟩:=hg;obtain⟨h1,h2⟩:=(show cY X.prog X.w H s.heap d (.aL o u) from I.aB d _ hg)
  obtain⟨hl,he⟩:=AL hu h2 h1 hd;have fZ:i<es.size:=by rw[<- hl];exact hi
  have hx:es[i]? =O es[i]:=by simp[fZ]
  obtain⟨y,v,hE,ry,rv⟩:=he i _ hx;obtain⟨f0,f1,f2,f3,f4,f5⟩:=hf it (by simp);refine Pd st h1 hd hx λh' dn sb=>?_
  have I1:Inv X pins σ H { s with heap:=h' }:=I.turned (t':=s.toks) (λb o hb e=>(sb.2 b hb).trans e) f0 f1 f3 f4 f5;obtain⟨ob,e,c,d⟩:=id dn;exact⟨_,rfl,xB (s:={ s with heap:=h' }) e c d (by decide) ⟨y,H,I1,ry,⟨rfl,v,hE⟩,dn,λb hb=>(hf b hb).1⟩⟩
 done:=by
  intro X hP hw hK hc i pins s σ H E I hf st hg;subst hP hw hK;obtain⟨hg,hi⟩:=hg;obtain⟨h1,h2⟩:=(show cY X.prog X.w H s.heap d (.aL o u) from I.aB d _ hg)
  obtain⟨hl,_⟩:=AL hu h2 h1 hd;obtain⟨f0,f1,f2,f3,f4,f5⟩:=hf it (by simp);exact Qn (I.ok.hd hc) st h1 hd (by rw[<- hl];exact hi) λh' eb=>⟨rfl,I.turned (t':=s.toks) (λb o hb e=>eb b o hb e) f0 f1 f3 f4 f5⟩
 self:=λ_ _ _ _ _ st h=>wpAny_pyIter_keyiter st h
noncomputable def Je(X:Cx)(ta:TE):TI:=λσ H R=>ta σ H λx H1=>∃d u,x=.ref d/\H1 d=O u/\gw u/\∀o,o.cls=.type "dict"->NF X d->R (Dt d o u) (upd H1 d (.aL o u))
theorem Sb{e:acJ}{ta:TE}(he:PE X e ta):PI X tg e (Je X ta):=by
 intro pins s σ H R I h;refine aY (he pins s σ H _ I h) λv s1 ⟨x,H1,I1,r1,d,u,ex,hd,hu,q⟩=>?_
 subst ex;obtain rfl:v=abi d:=r1;obtain⟨ob,es,ep,h1,h2,h3,h4,nf,I2⟩:=Oo I1 hd hu;refine Pb h4 h1 h2 h3 ?_;refine⟨_,[s1.heap.objs.size],_,_,_,rfl,I2.kept (t':=s1.toks) λb o e=>aaO _ e,Pe hu h3,⟨_,abl _ rfl,rfl,rfl⟩,λb hb=>?_,q ob h2 nf⟩;have:b=s1.heap.objs.size:=by simpa using hb
 subst this;exact I2.pX (aaN _) (I2.aB.fresh (aaN _))
noncomputable def lr(kws:aZ):ap:=kws.map (·.1)
open PySem L2
section
variable{α β γ:Type}
theorem k9(a:α)(f:α->Mo β):au (ay a) f=f a:=rfl
theorem Sd(f:α->Mo β):au (dY:Mo α) f=dY:=rfl
theorem Se(x:XC)(f:α->Mo β):au (C2 x:Mo α) f=C2 x:=rfl
theorem fA(m:Mo α)(f:α->Mo β)(g:β->Mo γ):au (au m f) g=au m λa=>au (f a) g:=by
 funext ph;unfold au;cases m ph <;> rfl
theorem Sf{c:Prop}[Decidable c](a b:Mo α)(f:α->Mo β):au (if c then a else b) f=if c then au a f else au b f:=by split <;> rfl
theorem bg{m:Mo α}{f:α->Mo β}{ph ph':PH}{a:α}(h:m ph=.ok a ph'):au m f ph=f a ph':=by unfold au;rw[h]
theorem Vw(a:α)(ph:PH):ay a ph=.ok a ph:=rfl
theorem Vx(x:XC)(ph:PH):(C2 x:Mo α) ph=.ex x ph:=rfl
theorem Qo(a:α):lift (ret a)=ay a:=rfl
theorem Vy{c:Prop}[Decidable c](a b:Mo α)(ph:PH):(if c then a else b) ph=if c then a ph else b ph:=by split <;> rfl
end
theorem Vz(w:W)(σ:aO):aa 0 (O w::σ)=ay w:=rfl
theorem VA(i:Nat)(x:dP)(σ:aO):aa (i+1) (x::σ)=aa i σ:=rfl
theorem XA(w:W)(σ:aO):eC w σ=ay w:=rfl
theorem XB(i:Nat)(w:W)(σ:aO):gN i w σ=ay (σ.set i (O w)):=rfl
theorem hO(f:W->W->Po W)(a b:EM)(σ:aO):ab f a b σ=au (a σ) λx=>au (b σ) λy=>lift (f x y):=rfl
theorem VB(f:W->Po W)(a:EM)(σ:aO):mP f a σ=au (a σ) λx=>lift (f x):=rfl
theorem i8(m:EM)(σ:aO):eT m σ=au (m σ) λw=>lift (match w with
 | .bl b=>ret b
 | _=>gh):=rfl
theorem Sg(m:EM)(σ:aO):h9 m σ=au (m σ) λw=>lift (qa w):=rfl
theorem FX(a b:TM)(σ:aO):fc a b σ=au (a σ) λc=>if c=true then b σ else ay false:=rfl
theorem rY(a b:TM)(σ:aO):c9 a b σ=au (a σ) λc=>if c=true then ay true else b σ:=rfl
theorem Qp(a:TM)(σ:aO):iz a σ=au (a σ) λc=>ay (!c):=rfl
theorem VC(t:TM)(a b:EM)(σ:aO):eIf t a b σ=au (t σ) λc=>if c=true then a σ else b σ:=rfl
theorem rZ(a b:SM)(σ:aO):aA a b σ=au (a σ) λf=>match f with
 | .nx aj=>b aj
 | f=>ay f:=rfl
theorem Bm(t:TM)(a b:SM)(σ:aO):cb t a b σ=au (t σ) λc=>if c=true then a σ else b σ:=rfl
theorem AS(e:EM)(σ:aO):bB e σ=au (e σ) λw=>ay (.rt w):=rfl
theorem Qq(σ:aO):cj σ=ay (.nx σ):=rfl
theorem Ap(e:EM)(σ:aO):gc e σ=au (e σ) λ_=>ay (.nx σ):=rfl
theorem AU(e:EM)(g:GM)(σ:aO):aK e g σ=au (e σ) λw=>au (g w σ) λaj=>ay (.nx aj):=rfl
theorem Qr(f:ap->Mo W)(a:AM)(σ:aO):bh f a σ=au (a σ) f:=rfl
theorem Pf(f:ap->Po W)(a:AM)(σ:aO):aV f a σ=au (a σ) λxs=>lift (f xs):=rfl
theorem xb(σ:aO):ag σ=ay []:=rfl
theorem Aq(e:EM)(r:AM)(σ:aO):ae e r σ=au (e σ) λw=>au (r σ) λws=>ay (w::ws):=rfl
theorem Sh(a:AM)(σ:aO):bp a σ=au (a σ) λws=>lift (lz ws):=rfl
theorem AV(a:AM)(σ:aO):b9 a σ=au (a σ) λws=>lift (tJ ws):=rfl
theorem VD(c:String)(m:EM)(σ:aO):jW c m σ=au (m σ) λw=>lift (jV c w):=rfl
theorem Si(a b:EM)(σ:aO):tE a b σ=au (a σ) λw=>match w with
 | .bl c=>if c=true then b σ else ay (.bl false)
 | _=>dY:=rfl
theorem VE(a b:EM)(σ:aO):eOr a b σ=au (a σ) λw=>match w with
 | .bl c=>if c=true then ay (.bl true) else b σ
 | _=>dY:=rfl
theorem Sj(a:EM)(σ:aO):Y7 a σ=au (a σ) λw=>match w with
 | .bl c=>ay (.bl (!c))
 | _=>dY:=rfl
theorem Fi(f f':W->W->Po W)(a b c:EM)(σ:aO):sy f f' a b c σ=au (a σ) λx=>au (b σ) λy=>au (lift (f x y)) λz=>match z with
 | .bl k=>if k=true then au (c σ) λu=>lift (f' y u) else ay (.bl false)
 | _=>dY:=rfl
theorem wQ(ty:W->PH->Bool)(f:W->List W->Po W)(o:EM)(a:AM)(σ:aO):dW ty f o a σ=au (o σ) λx=>au (lift (lA (ty x))) λ_=>au (a σ) λxs=>lift (f x xs):=rfl
theorem Sk(w:W):fW (.rt w)=ay w:=rfl
theorem Sl(σ:aO):fW (.nx σ)=ay .aH:=rfl
theorem jN(b:SM)(n:Nat)(x:W):fM b n 1 [x]=au (b (O x::aaY (n-1) Z)) fW:=rfl
theorem tW(b:SM)(n:Nat)(x y:W):fM b n 2 [x,y]=au (b (O x::O y::aaY (n-2) Z)) fW:=rfl
theorem yl(b:SM)(n:Nat)(x y z:W):fM b n 3 [x,y,z]=au (b (O x::O y::O z::aaY (n-3) Z)) fW:=rfl
theorem tX(b:SM)(n:Nat)(x y z u:W):fM b n 4 [x,y,z,u]=au (b (O x::O y::O z::O u::aaY (n-4) Z)) fW:=rfl
theorem XD(i j:Int):lift (addW (.int i) (.int j))=ay (.int (i+j)):=rfl
theorem XF(i j:Int):lift (lC (.int i) (.int j))=ay (.int (i-j)):=rfl
theorem XG(i:Int):lift (lB (.int i))=ay (.int (-i)):=rfl
theorem XH{i j:Int}(h:mulC i j=true):lift (qb (.int i) (.int j))=ay (.int (i*j)):=by
 unfold qb;simp only[h,if_true];rfl
theorem XI{i j:Int}(h:j≠0):lift (bJ (.int i) (.int j))=ay (.int (i.fmod j)):=by
 unfold bJ pZ;simp only[ne_eq,h,not_false_eq_true,decide_true,if_true];rfl
theorem XJ{i j:Int}(h:j≠0)(h':j.natAbs<2 ^ 64):lift (cN (.int i) (.int j))=ay (.int (i.fdiv j)):=by
 unfold cN pZ;simp only[ne_eq,h,h',not_false_eq_true,decide_true,ahD,if_true];rfl
theorem Zw(i j:Int):lift (dG (.int i) (.int j))=ay (.bl (decide (i<j))):=rfl
theorem Zx(i j:Int):lift (yH (.int i) (.int j))=ay (.bl (decide (i<=j))):=rfl
theorem Zy(i j:Int):lift (gr (.int i) (.int j))=ay (.bl (decide (j<i))):=rfl
theorem Zz(i j:Int):lift (geW (.int i) (.int j))=ay (.bl (decide (j<=i))):=rfl
theorem XM(i:Int):lift (n8 [.int i])=ay (.int i):=rfl
theorem VF(b:Bool):lift (n8 [.bl b])=ay (.int (if b then 1 else 0)):=rfl
theorem XN(i:Int):lift (Y8 [.int i])=ay (.int (if i<0 then -i else i)):=rfl
theorem XO(i j:Int):lift (Xn [.int i,.int j])=ay (.int (if j>i then j else i)):=rfl
theorem XQ(i j:Int):lift (Xo [.int i,.int j])=ay (.int (if j<i then j else i)):=rfl
theorem ZA(b:Bool):lift (match W.bl b with
 | .bl b=>ret b
 | _=>gh)=ay b:=rfl
theorem VG(b:Bool):lift (qa (.bl b))=ay b:=rfl
theorem VH(i:Int):lift (qa (.int i))=ay (i != 0):=rfl
theorem VI(ws:ap):lift (qa (.tup ws))=ay (!ws.isEmpty):=rfl
theorem BQ(i j:Int):lift (a9 (.int i) (.int j))=ay (.bl (decide (i=j))):=by
 funext ph;unfold a9 dS lift;simp only[dat];rfl
theorem XR(i j:Int):lift (dC (.int i) (.int j))=ay (.bl (!decide (i=j))):=by
 funext ph;unfold dC dS lift;simp only[dat];rfl
theorem so(s:String):aeE (abA s)=true:=by
 unfold aeE;rw[aeQ];simp only[List.all_toArray,abR,aaX,decide_eq_true_eq];rintro n ⟨c,_,rfl⟩;have h:=c.valid;simp only[UInt32.isValidChar,Nat.isValidChar] at h;show c.val.toNat<_;omega
theorem Bn{a b:String}:abA a=abA b↔a=b:=by
 constructor
 ·intro h;rw[aeQ,aeQ] at h;have h:=congrArg ahS (Str.mk.inj h);simp only[List.toList_toArray] at h;have mi:∀l l':List Char,l.map Char.toNat=l'.map Char.toNat->l=l':=by
   intro l
   induction l with
   | nil=>intro l' h;cases l' with
    | nil=>rfl
    | cons _ _=>cases h
   | cons x l ih=>intro l' h;cases l' with
    | nil=>cases h
    | cons y l'=>
     have:=ahB h;rw[ih l' this.2,Char.ext (UInt32.toNat_inj.mp this.1)]
  have q:a.toList=b.toList:=mi _ _ h;exact String.toList_inj.mp q
 ·intro h;rw[h]
theorem XS{a b:Str}(ha:aeE a=true)(hb:aeE b=true):lift (a9 (.str a) (.str b))=ay (.bl (decide (a=b))):=by
 funext ph;unfold a9 dS lift;simp only[dat,ha,hb,if_true];rfl
theorem XT{a b:Str}(ha:aeE a=true)(hb:aeE b=true):lift (dC (.str a) (.str b))=ay (.bl (!decide (a=b))):=by
 funext ph;unfold dC dS lift;simp only[dat,ha,hb,if_true];rfl
theorem XU(a b:String):lift (a9 (.str (abA a)) (.str (abA b)))=ay (.bl (decide (a=b))):=by
 rw[XS (so a) (so b)];simp only[Bn]
theorem XW(a b:String):lift (dC (.str (abA a)) (.str (abA b)))=ay (.bl (!decide (a=b))):=by
 rw[XT (so a) (so b)];simp only[Bn]
theorem XX(a b:Bool):lift (dC (.bl a) (.bl b))=ay (.bl (!(a==b))):=by
 funext ph;unfold dC dS lift;simp only[dat];rfl
theorem tY(c:String)(w:W)(t:String)(h:∀ph,nN w ph=O t):lift (jV c w)=ay (.bl (ff t c)):=by
 funext ph;unfold lift jV;rw[h];rfl
theorem ZC(c:String)(i:Int):lift (jV c (.int i))=ay (.bl (ff "int" c)):=tY _ _ _ λ_=>rfl
theorem ZD(c:String)(b:Bool):lift (jV c (.bl b))=ay (.bl (ff "bool" c)):=tY _ _ _ λ_=>rfl
theorem ZE(c:String):lift (jV c .aH)=ay (.bl (ff "NoneType" c)):=tY _ _ _ λ_=>rfl
theorem mF(c:String)(x:Str):lift (jV c (.str x))=ay (.bl (ff "str" c)):=tY _ _ _ λ_=>rfl
theorem ZF(c:String)(ws:ap):lift (jV c (.tup ws))=ay (.bl (ff "tuple" c)):=tY _ _ _ λ_=>rfl
theorem ZG:ff "int" "int"=true:=by decide +kernel
theorem ZH:ff "int" "bool"=false:=by decide +kernel
theorem ZI:ff "bool" "int"=true:=by decide +kernel
theorem ZJ:ff "bool" "bool"=true:=by decide +kernel
theorem ZK:ff "NoneType" "int"=false:=by decide +kernel
theorem ZM:ff "str" "int"=false:=by decide +kernel
theorem ZN:ff "list" "int"=false:=by decide +kernel
theorem ZO:ff "list" "list"=true:=by decide +kernel
theorem ZP:ff "tuple" "tuple"=true:=by decide +kernel
theorem VJ:lift (lz [])=ay (.tup []):=rfl
theorem VL(a:W):lift (lz [a])=ay (.tup [a]):=rfl
theorem VM(a b:W):lift (lz [a,b])=ay (.tup [a,b]):=rfl
theorem VN(a b c:W):lift (lz [a,b,c])=ay (.tup [a,b,c]):=rfl
theorem VO(a b c d:W):lift (lz [a,b,c,d])=ay (.tup [a,b,c,d]):=rfl
theorem VP(a b c d e:W):lift (lz [a,b,c,d,e])=ay (.tup [a,b,c,d,e]):=rfl
theorem XY(a:W)(l:ap):lift (fu (.tup (a::l)) (.int 0))=ay a:=by
 funext ph;unfold lift fu da iG;simp[dm,ay]
theorem XZ(a b:W)(l:ap):lift (fu (.tup (a::b::l)) (.int 1))=ay b:=by
 funext ph;unfold lift fu da iG;simp[dm,ay];rw[if_pos ∅];simp
theorem X0(a b c:W)(l:ap):lift (fu (.tup (a::b::c::l)) (.int 2))=ay c:=by
 funext ph;unfold lift fu da iG;simp[dm,ay];rw[if_pos ∅];simp
theorem X1(a b c d:W)(l:ap):lift (fu (.tup (a::b::c::d::l)) (.int 3))=ay d:=by
 funext ph;unfold lift fu da iG;simp[dm,ay];rw[if_pos ∅];simp
theorem X2(a b c d e:W)(l:ap):lift (fu (.tup (a::b::c::d::e::l)) (.int 4))=ay e:=by
 funext ph;unfold lift fu da iG;simp[dm,ay];rw[if_pos ∅];simp
noncomputable def pR:W->Bool
 | .aH=>true
 | _=>false
theorem VQ(w:W):lift (IU w .aH)=ay (.bl (!pR w)):=by
 unfold IU;cases w <;> rfl
theorem X3(w:W):lift (jK w .aH)=ay (.bl (pR w)):=by
 unfold jK;cases w <;> rfl
theorem Sn(i:Int):pR (.int i)=false:=rfl
theorem So:pR .aH=true:=rfl
theorem Sq(ws:ap):pR (.tup ws)=false:=rfl
theorem Sr(i:Nat):pR (.ref i)=false:=rfl
noncomputable def Ex(ph ph':PH):Prop:=∃m,ph'=ph++m
theorem Ex.refl(ph:PH):Ex ph ph:=⟨[],by simp⟩
theorem Ex.trans{a b c:PH}(h:Ex a b)(h':Ex b c):Ex a c:=by
 obtain⟨m,rfl⟩:=h;obtain⟨m',rfl⟩:=h';exact⟨m++m',by simp⟩
theorem Ex.one(ph:PH)(o:PO):Ex ph (ph++[o]):=⟨[o],rfl⟩
theorem Ex.get{a b:PH}(h:Ex a b){o:PO}(e:a[i]? =O o):b[i]? =O o:=by
 obtain⟨m,rfl⟩:=h;rw[abm (aaG.mp e).1];exact e
theorem Ex.len{a b:PH}(h:Ex a b):↑a<=↑b:=by obtain⟨m,rfl⟩:=h;simp
theorem bD(ph:PH)(o:PO):(ph++[o])[↑ph]? =O o:=by simp
theorem small{n:Nat}(h:n<=1000000):n<=sizeLine:=abw h (by decide)
section
variable{β:Type}{ph:PH}{i:Nat}{ws:ap}
theorem HE(ws:ap)(ph:PH)(h:↑ws<=abd):lift (tJ ws) ph=.ok (.ref ↑ph) (ph++[.lst ws]):=by
 unfold lift tJ;rw[if_pos h]
theorem VR(h:ph[i]? =O (.lst ws)){k:Int}{w:W}(hk:da ws k=O w):lift (fu (.ref i) (.int k)) ph=.ok w ph:=by
 unfold lift fu;simp only[dm,h,acn,hk,abH]
theorem gY(h:ph[i]? =O (.lst ws)):lift (a7 [.ref i]) ph=.ok (.int ↑ws) ph:=by
 unfold lift a7;simp only[dm,h,abH]
theorem AW(h:ph[i]? =O (.lst ws)):du (.ref i) ph=true:=by unfold du;simp only[h]
theorem r6(h:ph[i]? =O (.lst ws)):lift (lA (du (.ref i))) ph=.ok () ph:=by
 unfold lift lA;rw[if_pos (AW h)]
theorem wb(h:ph[i]? =O (.lst ws))(hz:↑ws<abd)(w:W):lift (d6 (.ref i) [w]) ph=.ok .aH (ph.set i (.lst (ws++[w]))):=by
 unfold lift d6;simp only[h,hz,if_true]
theorem Ov{j:Nat}{us:ap}(h:ph[i]? =O (.lst ws))(h':ph[j]? =O (.lst us))(hz:↑ws+↑us<=abd):lift (nD (.ref i) [.ref j]) ph=.ok .aH (ph.set i (.lst (ws++us))):=by
 unfold lift nD;simp only[h,h',hz,if_true]
theorem Qs(h:ph[i]? =O (.lst ws)):lift (pL [.ref i]) ph=.ok (.ref ↑ph) (ph++[.lst ws]):=by
 unfold lift pL;simp only[dm,h]
theorem Ss{j:Nat}{us:ap}(h:ph[i]? =O (.lst ws))(h':ph[j]? =O (.lst us))(hz:↑ws+↑us<=abd):lift (addW (.ref i) (.ref j)) ph=.ok (.ref ↑ph) (ph++[.lst (ws++us)]):=by
 unfold lift addW;simp only[h,h',hz,if_true]
end
theorem pg(a b:Int)(h:0<b):0<=a.fmod b/\a.fmod b<b:=by
 rw[afJ _ ∅];exact⟨Int.emod_nonneg _ ∅,Int.emod_lt_of_pos _ h⟩
theorem gG(ws:List α)(k:Nat)(h:k<↑ws):da ws (k:Int)=ws[k]? :=by
 unfold da iG;rw[if_pos ∅,if_pos ∅];rfl
theorem ZQ(ws:ap):lift (a7 [.fl ws])=ay (.int ↑ws):=by funext ph;rfl
theorem ixF{i:Int}{w:W}(h:da ws i=O w):lift (fu (.fl ws) (.int i))=ay w:=by
 funext ph;unfold lift fu;simp only[dm,acn,h,abH];rfl
theorem Ar{chk:PH->Bool}{g:GM}{b:SM}(R:W->PH->Prop)(I:Nat->aO->PH->Prop):∀(items:ap) (k:Nat) (σ:aO) (ph:PH),
  (∀j σ ph,I j σ ph->chk ph=true) →
  (∀j x σ ph,items[j]? =O x->I (k+j) σ ph->∃σ1 ph1,g x σ ph=.ok σ1 ph1/\∃f ph2,b σ1 ph1=.ok f ph2/\((∃cy,(f=.nx cy\/f=.ct cy)/\I (k+j+1) cy ph2)\/∃w,f=.rt w/\R w ph2)) →
  I k σ ph->(∃aj ph',dQ chk g b items σ ph=.ok (.nx aj) ph'/\I (k+↑items) aj ph')\/∃w ph',dQ chk g b items σ ph=.ok (.rt w) ph'/\R w ph'
 | [],k,σ,ph,hc,hs,h0=>by
  refine .inl ⟨σ,ph,?_,h0⟩;unfold dQ;rw[if_pos (hc _ _ _ h0)]
 | x::xs,k,σ,ph,hc,hs,h0=>by
  obtain⟨σ1,ph1,e1,f,ph2,e2,h⟩:=hs 0 x σ ph rfl h0;have e:dQ chk g b (x::xs) σ ph=(match f with
   | .nx aj=>dQ chk g b xs aj
   | .ct aj=>dQ chk g b xs aj
   | .bk aj=>ay (.nx aj)
   | .rt w=>ay (.rt w)) ph2:=by
   conv=>lhs;unfold dQ
   rw[if_pos (hc _ _ _ h0),bg e1,bg e2]
   all_goals (cases f <;> rfl)
  rcases h with⟨cy,hf,hI⟩ | ⟨w,rfl,hR⟩
  ·have e:dQ chk g b (x::xs) σ ph=dQ chk g b xs cy ph2:=by
    rcases hf with rfl | rfl <;> exact e
   rw[e];have ih:=Ar R I xs (k+1) cy ph2 hc (λj y σ ph hj hI=>by
    have:=hs (j+1) y σ ph (by simpa using hj) (by rw[show k+(j+1)=k+1+j by omega];exact hI);rw[show k+(j+1)+1=k+1+j+1 by omega] at this;exact this) hI
   rw[show k+1+↑xs=k+(x::xs).length by simp;omega] at ih;exact ih
  ·exact .inr ⟨w,ph2,e,hR⟩
variable{b:SM}
theorem gX{chk:PH->Bool}{g:GM}(I:Nat->aO->PH->Prop)(items:ap)(σ:aO)(ph:PH)(hc:∀j σ ph,I j σ ph->chk ph=true)(hs:∀j x σ ph,items[j]? =O x->I j σ ph->∃σ1 ph1,g x σ ph=.ok σ1 ph1/\∃f ph2,b σ1 ph1=.ok f ph2/\∃cy,(f=.nx cy\/f=.ct cy)/\I (j+1) cy ph2)(h0:I 0 σ ph):∃aj ph',dQ chk g b items σ ph=.ok (.nx aj) ph'/\I ↑items aj ph':=by
 have:=Ar (λ_ _=>False) I items 0 σ ph hc (λj x σ ph hj hI=>by
  rw[acf] at hI ⊢;obtain⟨σ1,ph1,e1,f,ph2,e2,h⟩:=hs j x σ ph hj hI;exact⟨σ1,ph1,e1,f,ph2,e2,.inl h⟩) h0
 rw[acf] at this
 rcases this with h | ⟨_,_,_,h⟩
 ·exact h
 ·exact h.elim
theorem rL{chk:PH->Bool}{g:GM}{c:TM}{e:EM}(L:Nat)(I:Nat->List W->aO->PH->Prop):∀(items:ap) (k:Nat) (acc:ap) (σ:aO) (ph:PH),
  (∀j acc σ ph,I j acc σ ph->chk ph=true) →
  (∀j x acc σ ph,items[j]? =O x->I (k+j) acc σ ph->∃σ1 ph1,g x σ ph=.ok σ1 ph1/\∃t ph2,c σ1 ph1=.ok t ph2/\((t=false/\I (k+j+1) acc σ1 ph2)\/(t=true/\∃w fY,e σ1 ph2=.ok w fY/\fY[L]? =O (.lst acc)/\↑acc<abd/\I (k+j+1) (acc++[w]) σ1 (fY.set L (.lst (acc++[w])))))) →
  I k acc σ ph->∃om aj ph',fe chk g c e L items σ ph=.ok () ph'/\I (k+↑items) om aj ph'
 | [],k,acc,σ,ph,hc,hs,h0=>by
  refine⟨acc,σ,ph,?_,h0⟩;unfold fe;rw[if_pos (hc _ _ _ _ h0)]
 | x::xs,k,acc,σ,ph,hc,hs,h0=>by
  obtain⟨σ1,ph1,e1,t,ph2,e2,h⟩:=hs 0 x acc σ ph rfl h0;have next:∀Cq kK,I (k+1) Cq σ1 kK->∃om aj ph',fe chk g c e L xs σ1 kK=.ok () ph'/\I (k+(x::xs).length) om aj ph':=λCq kK hI=>by
   have ih:=rL L I xs (k+1) Cq σ1 kK hc (λj y acc σ ph hj hI=>by
    have:=hs (j+1) y acc σ ph (by simpa using hj) (by rw[show k+(j+1)=k+1+j by omega];exact hI);rw[show k+(j+1)+1=k+1+j+1 by omega] at this;exact this) hI
   rw[show k+1+↑xs=k+(x::xs).length by simp;omega] at ih;exact ih
  have n1:dJ (g x σ) ph=.ok σ1 ph1:=by unfold dJ;rw[e1]
  have n2:dJ (c σ1) ph1=.ok t ph2:=by unfold dJ;rw[e2]
  rcases h with⟨rfl,hI⟩ | ⟨rfl,w,fY,e3,hL,hz,hI⟩
  ·have e:fe chk g c e L (x::xs) σ ph=fe chk g c e L xs σ1 ph2:=by
    conv=>lhs;unfold fe
    rw[if_pos (hc _ _ _ _ h0),bg n1,bg n2];rfl
   rw[e];exact next _ _ hI
  ·have n3:dJ (e σ1) ph2=.ok w fY:=by unfold dJ;rw[e3]
   have e:fe chk g c e L (x::xs) σ ph=fe chk g c e L xs σ1 (fY.set L (.lst (acc++[w]))):=by
    conv=>lhs;unfold fe
    rw[if_pos (hc _ _ _ _ h0),bg n1,bg n2];show au (dJ (e σ1)) _ ph2=_;rw[bg n3];exact bg (wb hL hz w)
   rw[e];exact next _ _ hI
theorem As(im:IM)(cap:eO)(g:GM)(c:TM)(e:EM)(σ:aO):cU im cap g c e σ=au (im σ) λr ph=>au (fe r.2 g c e ↑ph r.1 (gy cap σ)) (λ_=>ay (.ref ↑ph)) (ph++[.lst []]):=rfl
theorem Su(ph m:PH)(o o':PO):(ph++[o]++m).set ↑ph o'=ph++[o']++m:=by
 rw[acO,agT _ _ (aaN _)];simp
variable{σ:aO}
theorem iW(as:List α)(h:α->W){im:IM}{cap:eO}{g:GM}{c:TM}{e:EM}{ph0:PH}{chk:PH->Bool}(iO:im σ ph0=.ok (as.map h,chk) ph)(uH:∀ph',Ex ph ph'->chk ph'=true)(hz:↑as<=abd)(F:α->Option W)(S:aO->Prop)(h0:S (gy cap σ))(step:∀x∈as,∀σ H,S σ->Ex ph H->∃σ1,g (h x) σ H=.ok σ1 H/\S σ1/\∃t H1,c σ1 H=.ok t H1/\Ex H H1/\((t=false/\F x=Z)\/(t=true/\∃w H2,e σ1 H1=.ok w H2/\Ex H1 H2/\F x=O w))):∃ph',cU im cap g c e σ ph0=.ok (.ref ↑ph) ph'/\Ex (ph++[.lst (as.filterMap F)]) ph':=by
 rw[As,bg iO];have key:=rL (chk:=chk) (g:=g) (c:=c) (e:=e) ↑ph (λk acc σ H=>S σ/\acc=(as.take k).filterMap F/\Ex (ph++[.lst acc]) H) (as.map h) 0 [] (gy cap σ) (ph++[.lst []])
  (λj acc σ H hI=>uH _ ((Ex.one _ _).trans hI.2.2))
  (λj y acc σ H hj hI=>by
   rw[acf] at hI ⊢;obtain⟨hS,ha,hE⟩:=hI;rw[aaK] at hj;cases hx:as[j]? with
   | none=>rw[hx] at hj;cases hj
   | some x=>
    rw[hx] at hj;cases hj;have tk:(as.take (j+1)).filterMap F=acc++(F x).toList:=by
     rw[List.take_add_one,hx,List.filterMap_append,ha];cases hF:F x <;> simp[hF]
    obtain⟨σ1,e1,ij,t,H1,e2,x2,h⟩:=step x (aaL hx) σ H hS ((Ex.one _ _).trans hE);refine⟨σ1,H,e1,t,H1,e2,?_⟩
    rcases h with⟨rfl,hF⟩ | ⟨rfl,w,H2,e3,x3,hF⟩
    ·exact .inl ⟨rfl,ij,by rw[tk,hF];simp,hE.trans x2⟩
    ·have x4:=(hE.trans x2).trans x3;refine .inr ⟨rfl,w,H2,e3,x4.get (bD _ _),?_,ij,by rw[tk,hF];rfl,?_⟩
     ·have hl:↑acc<=j:=by
       rw[ha];exact abw (List.length_filterMap_le _ _) (by simp;omega)
      have:=(aaG.mp hx).1;omega
     ·obtain⟨m,rfl⟩:=x4;rw[Su];exact⟨m,rfl⟩)
  ⟨h0,by simp,Ex.refl _⟩
 obtain⟨acc,aj,ph',e1,_,ha,hE⟩:=key;refine⟨ph',?_,?_⟩
 ·show au (fe chk g c e ↑ph (as.map h) (gy cap σ)) _ _=_;rw[bg e1];rfl
 ·rw[acf,aaI,acC] at ha;rw[<- ha];exact hE
theorem nE{α β:Type}(f:α->β):∀l:List α,l.filterMap (λa=>O (f a))=l.map f
 | []=>rfl
 | a::l=>by
  rw[agg (f:=λa=>O (f a)) (b:=f a) rfl,nE f l];rfl
theorem Sv{w:W}(h:(i7 ws)[i]? =O w):∃x,ws[i]? =O x/\w=.tup [.int i,x]:=by
 unfold i7 at h;rw[aaK] at h;cases q:(abp ↑ws)[i]? with
 | none=>rw[q] at h;cases h
 | some k=>
  rw[q] at h;obtain⟨hi,e⟩:=aaG.mp q;rw[afP] at e;subst e;rw[abz] at hi;cases h;exact⟨ws[i],by simp[hi],by simp[hi]⟩
theorem Sw(ws:ap):(i7 ws).length=↑ws:=by unfold i7;simp
theorem fB(h:m σ ph=.ok (.ref i) ph')(hi:ph'[i]? =O (.lst ws)):cV m σ ph=.ok (ws,λp=>decide (p[i]? =O (.lst ws))) ph':=by
 unfold cV;rw[bg h];unfold lift xI mv;simp only[hi]
theorem mj{m:AM}{j:Int}(h:m σ ph=.ok [.int j] ph')(h1: -(2 ^ 62)<=j)(h2:j<2 ^ 62):eB m σ ph=.ok (ez 0 j.toNat,λ_=>true) ph':=by
 unfold eB;rw[bg h];unfold lift Cc;simp only[h1,h2,and_self,if_true]
theorem HF{m:AM}{i j:Int}(h:m σ ph=.ok [.int i,.int j] ph')(h1: -(2 ^ 62)<=i)(h2:i<2 ^ 62)(h3: -(2 ^ 62)<=j)(h4:j<2 ^ 62):lN m σ ph=.ok (ez i (j-i).toNat,λ_=>true) ph':=by
 unfold lN;rw[bg h];unfold lift Cd;simp only[h1,h2,h3,h4,and_self,if_true]
theorem Fj{m:AM}(h:m σ ph=.ok [.ref i] ph')(hi:ph'[i]? =O (.lst ws)):mq m σ ph=.ok (i7 ws,λp=>decide (p[i]? =O (.lst ws))) ph':=by
 unfold mq;rw[bg h];unfold lift BK mv;simp only[hi,abH]
theorem FY{lo:Int}{n k:Nat}{w:W}(h:(ez lo n)[k]? =O w):k<n/\w=.int (lo+(k:Int)):=by
 unfold ez at h;rw[aaK] at h;cases q:(abp n)[k]? with
 | none=>rw[q] at h;cases h
 | some j=>
  rw[q] at h;obtain⟨hi,e⟩:=aaG.mp q;rw[afP] at e;subst e;rw[abz] at hi;cases h;exact⟨hi,rfl⟩
theorem px(lo:Int)(n:Nat):(ez lo n).length=n:=by unfold ez;simp
variable{ds:List aeN}
theorem VS{x:W}(h:ph[i]? =O (.lst ws))(h1:ba (dat ph 40) ws=O ds)(h2:dat ph 40 x=O d):lift (jl x (.ref i)) ph=.ok (.bl (ds.any λe=>abe e d)) ph:=by
 unfold lift jl inD;simp only[dm,h,h1,h2,abH]
theorem VT{x:W}(h1:ba (dat ph 40) ws=O ds)(h2:dat ph 40 x=O d):lift (jl x (.tup ws)) ph=.ok (.bl (ds.any λe=>abe e d)) ph:=by
 unfold lift jl inD;simp only[dm,h1,h2,abH]
theorem X4(a b:Str):abe (.str a) (.str b)=decide (a=b):=by
 unfold abe;rfl
theorem xM(a b:Int):abe (.int a) (.int b)=decide (a=b):=by
 unfold abe;rfl
theorem k7{α β γ:Type}(f:β->Option γ)(g:α->β)(h:α->γ)(hf:∀a,f (g a)=O (h a)):∀l:List α,ba f (l.map g)=O (l.map h)
 | []=>rfl
 | a::l=>by
  show ba f (g a::l.map g)=_;unfold ba;rw[hf a,k7 f g h hf l];rfl
theorem GQ(x:String)(ss:List String):lift (jl (.str (abA x)) (.tup (ss.map λs=>.str (abA s))))=ay (.bl (ss.any λs=>decide (s=x))):=by
 funext ph
 rw[VT (k7 _ _ (λs=>PyData.str (abA s)) (λs=>by simp only[dat,so,if_true]) ss) (d:=.str (abA x)) (by simp only[dat,so,if_true])];rw[agU];simp only[agh,X4,Bn];rfl
theorem X5(x a b:String):lift (jl (.str (abA x)) (.tup [.str (abA a),.str (abA b)]))=ay (.bl (decide (a=x)||decide (b=x))):=by
 have:=GQ x [a,b];simp only[abt,aeD,acU,List.any_nil,ahA] at this;exact this
theorem Jf(x a b c:String):lift (jl (.str (abA x)) (.tup [.str (abA a),.str (abA b),.str (abA c)]))=ay (.bl (decide (a=x)||(decide (b=x)||decide (c=x)))):=by
 have:=GQ x [a,b,c];simp only[abt,aeD,acU,List.any_nil,ahA] at this;exact this
theorem Sx{bs:List Bool}(h:ph[i]? =O (.lst (bs.map W.bl))):lift (tQ [.ref i]) ph=.ok (.bl (bs.all id)) ph:=by
 unfold lift tQ qd;simp only[AW h,if_true,dm,h,acn,k7 yO W.bl id (λ_=>rfl),abH,List.map_id_fun,id]
theorem X6(ws:ap)(y:W):af (.tup ws) y=fu (.tup ws) y:=rfl
theorem X7(ws:ap)(y:W):af (.fl ws) y=fu (.fl ws) y:=rfl
theorem X8(x:Str)(y:W):af (.str x) y=fu (.str x) y:=rfl
theorem X9(x:W)(ws:ap):dZ x (.tup ws)=jl x (.tup ws):=rfl
theorem Ya(x:W)(ws:ap):dZ x (.fl ws)=jl x (.fl ws):=rfl
theorem HG(x:W)(ws:ap):fj x (.tup ws)=tL x (.tup ws):=rfl
theorem HH(i:Int)(y:W):c7 (.int i) y=qb (.int i) y:=by
 funext ph;unfold c7;cases y <;> rfl
theorem FZ(o i:EM)(v:W)(σ:aO):pN o i v σ=au (o σ) λow=>au (i σ) λiw=>au (lift (qg ow iw v)) λ_=>ay σ:=rfl
section
variable{ph:PH}{i:Nat}{ws:ap}{kws:aZ}
theorem xN(h:ph[i]? =O (.lst ws)):gf (.ref i) ph=none:=by unfold gf;simp only[h]
theorem sU(h:ph[i]? =O (.aX kws)):gf (.ref i) ph=O (i,kws):=by unfold gf;simp only[h]
theorem gZ(h:ph[i]? =O (.lst ws)){k:Int}{w:W}(hk:da ws k=O w):lift (af (.ref i) (.int k)) ph=.ok w ph:=by
 have:=VR h hk;unfold lift at this ⊢;unfold af;rw[xN h];exact this
variable{k:W}
theorem Sy(h:ph[i]? =O (.aX kws)){w:W}(hk:eP kws k=true)(hw:c5 kws k=O w):lift (af (.ref i) k) ph=.ok w ph:=by
 unfold lift af;simp only[sU h,hk,if_true,hw,abH]
theorem Sz(h:ph[i]? =O (.aX kws))(hk:eP kws k=true):lift (dZ k (.ref i)) ph=.ok (.bl (c5 kws k).isSome) ph:=by
 unfold lift dZ;simp only[sU h,hk,if_true]
theorem F0(h:ph[i]? =O (.aX kws))(hk:eP kws k=true):lift (fj k (.ref i)) ph=.ok (.bl (!(c5 kws k).isSome)) ph:=by
 unfold lift fj;simp only[sU h,hk,if_true]
theorem SA{ds:List aeN}{x:W}{d:aeN}(h:ph[i]? =O (.lst ws))(h1:ba (dat ph 40) ws=O ds)(h2:dat ph 40 x=O d):lift (dZ x (.ref i)) ph=.ok (.bl (ds.any λe=>abe e d)) ph:=by
 have:=VS h h1 h2;unfold lift at this ⊢;unfold dZ;rw[xN h];exact this
theorem Qt{ds:List aeN}{x:W}{d:aeN}(h:ph[i]? =O (.lst ws))(h1:ba (dat ph 40) ws=O ds)(h2:dat ph 40 x=O d):lift (fj x (.ref i)) ph=.ok (.bl (!(ds.any λe=>abe e d))) ph:=by
 unfold lift fj;rw[xN h];unfold tL inD;simp only[dm,h,h1,h2,abH]
theorem F1(h:ph[i]? =O (.aX kws))(hk:eP kws k=true)(hz:↑kws<abd)(v:W):lift (qg (.ref i) k v) ph=.ok () (ph.set i (.aX (c6 kws k v))):=by
 unfold lift qg;simp only[sU h,hk,hz,and_self,if_true]
theorem F2(h:ph[i]? =O (.lst ws)){k:Int}(h1: -(2 ^ 63)<=k)(h2:k<2 ^ 63)(hz:↑ws*k.toNat<=abd):lift (c7 (.ref i) (.int k)) ph=.ok (.ref ↑ph) (ph++[.lst (aaY k.toNat ws).flatten]):=by
 unfold lift c7;simp only[h,h1,h2,hz,and_self,if_true]
end
theorem SD(σ:aO):yi σ=lift newD:=rfl
theorem ym(b:SM)(n:Nat)(x y z u v:W):fM b n 5 [x,y,z,u,v]=au (b (O x::O y::O z::O u::O v::aaY (n-5) Z)) fW:=rfl
theorem ZR(b:SM)(n:Nat)(x y z u v w:W):fM b n 6 [x,y,z,u,v,w]=au (b (O x::O y::O z::O u::O v::O w::aaY (n-6) Z)) fW:=rfl
theorem Au{t:TM}{b:SM}:∀(n:Nat) (σ:aO) (ph:PH),(dR t b n σ ph).mw=false->dR t b (n+1) σ ph=dR t b n σ ph
 | 0,σ,ph,h=>by cases h
 | n+1,σ,ph,h=>by
  have h':(au (t σ) (λc=>if c=true then au (b σ) λf=>match f with
   | .nx aj=>dR t b n aj
   | .ct aj=>dR t b n aj
   | .bk aj=>ay (.nx aj)
   | .rt w=>ay (.rt w)
   else ay (.nx σ)) ph).mw=false:=h
  show au (t σ) (λc=>if c=true then au (b σ) λf=>match f with
   | .nx aj=>dR t b (n+1) aj
   | .ct aj=>dR t b (n+1) aj
   | .bk aj=>ay (.nx aj)
   | .rt w=>ay (.rt w)
   else ay (.nx σ)) ph=au (t σ) (λc=>if c=true then au (b σ) λf=>match f with
   | .nx aj=>dR t b n aj
   | .ct aj=>dR t b n aj
   | .bk aj=>ay (.nx aj)
   | .rt w=>ay (.rt w)
   else ay (.nx σ)) ph
  cases e1:t σ ph with
  | no=>unfold au;rw[e1]
  | ex x p=>unfold au;rw[e1]
  | ok c p=>
   rw[bg e1] at h' ⊢;rw[bg e1];cases c with
   | false=>rfl
   | true=>
    simp only[if_true] at h' ⊢;cases e2:b σ p with
    | no=>unfold au;rw[e2]
    | ex x q=>unfold au;rw[e2]
    | ok f q=>
     rw[bg e2] at h' ⊢;rw[bg e2];cases f with
     | nx aj=>exact Au n aj q h'
     | ct aj=>exact Au n aj q h'
     | bk aj=>rfl
     | rt w=>rfl
variable{t:TM}
theorem HI{n m:Nat}(hm:n<=m)(h:(dR t b n σ ph).mw=false):dR t b m σ ph=dR t b n σ ph:=by
 induction m with
 | zero=>
  have:n=0:=by omega
  rw[this]
 | succ m ih=>
  by_cases e:n=m+1
  ·rw[e]
  ·have:=ih ∅;rw[Au m σ ph (by rw[this];exact h),this]
theorem Ph{n:Nat}{f:Fl}(h:dR t b n σ ph=.ok f ph'):iq t b σ ph=.ok f ph':=by
 have hn:(dR t b n σ ph).mw=false:=by rw[h];rfl
 have he:∃n,(dR t b n σ ph).mw=false:=⟨n,hn⟩
 unfold iq;rw[dif_pos he];have hc:=he.choose_spec;by_cases uI:n<=he.choose
 ·rw[HI uI hn,h]
 ·rw[<- HI (Nat.le_of_not_le uI) hc,h]
theorem wG(I:Nat->aO->PH->Prop)(D:aO->PH->Prop)(step:∀k σ ph,I k σ ph->(∃ph1,t σ ph=.ok false ph1/\D σ ph1)\/∃ph1,t σ ph=.ok true ph1/\∃f ph2,b σ ph1=.ok f ph2/\∃cy,(f=.nx cy\/f=.ct cy)/\∃k',k'<k/\I k' cy ph2):∀k σ ph,I k σ ph->∃aj ph',iq t b σ ph=.ok (.nx aj) ph'/\D aj ph':=by
 have key:∀k σ ph,I k σ ph->∃n aj ph',dR t b n σ ph=.ok (.nx aj) ph'/\D aj ph':=by
  intro k
  induction k using afD with
  | ind k ih=>
   intro σ ph h
   rcases step k σ ph h with⟨ph1,e1,hD⟩ | ⟨ph1,e1,f,ph2,e2,cy,hf,k',hk,hI⟩
   ·refine⟨1,σ,ph1,?_,hD⟩;show au (t σ) _ ph=_;rw[bg e1];rfl
   ·obtain⟨n,aj,ph',e3,hD⟩:=ih k' hk cy ph2 hI;refine⟨n+1,aj,ph',?_,hD⟩;show au (t σ) _ ph=_;rw[bg e1];simp only[if_true];rw[bg e2]
    rcases hf with rfl | rfl <;> exact e3
 intro k σ ph h;obtain⟨n,aj,ph',e,hD⟩:=key k σ ph h;exact⟨aj,ph',Ph e,hD⟩
theorem sV(ph:PH)(n:Nat)(i:Int):dat ph n (.int i)=O (.int i):=by cases n <;> rfl
theorem SE(l:bI)(k:Int):((l.map ahR).any λe=>abe e (.int k))=decide (k∈l):=by
 rw[agU,acH,acB,decide_eq_true_eq];constructor
 ·rintro⟨u,hu,e⟩;simp only[agh,xM] at e;rw[<- of_decide_eq_true e];exact hu
 ·intro h;exact⟨k,h,by simp only[agh,xM,decide_true]⟩
theorem Pj{l:bI}(h:ph[i]? =O (.lst (l.map W.int)))(k:Int):lift (fj (.int k) (.ref i)) ph=.ok (.bl (!decide (k∈l))) ph:=by
 rw[Qt h (k7 _ W.int ahR (λa=>sV _ _ a) l) (sV _ _ k),SE]
theorem Jg{x:W}{b:Bool}(h:dS ph x y=O b):lift (a9 x y) ph=.ok (.bl b) ph:=by
 unfold lift a9;simp only[h,abH]
theorem Yb{x:W}{b:Bool}(h:dS ph x y=O b):lift (dC x y) ph=.ok (.bl (!b)) ph:=by
 unfold lift dC;simp only[h,abH]
theorem xc{α β:Type}{f:α->Option β}:∀l:List α,(∀a∈l,∃b,f a=O b)->∃m,ba f l=O m
 | [],_=>⟨[],rfl⟩
 | a::l,h=>by
  obtain⟨b,e⟩:=h a (by simp);obtain⟨m,e'⟩:=xc l λc hc=>h c (by simp[hc])
  exact⟨b::m,by unfold ba;rw[e,e']⟩
theorem eq_nil(hi:ph[i]? =O (.lst ws))(hj:ph[j]? =O (.lst []))(hd:ba (dat ph 39) ws=O ds):dS ph (.ref i) (.ref j)=O ws.isEmpty:=by
 unfold dS;have e1:dat ph 40 (.ref i)=O (.list ds):=by simp only[dat,hi,hd,abH]
 have e2:dat ph 40 (.ref j)=O (.list []):=by simp only[dat,hj,ba,abH]
 rw[e1,e2];cases ws with
 | nil=>cases hd;simp[abe,abn]
 | cons w ws=>
  unfold ba at hd;split at hd
  ·cases hd;simp[abe,abn]
  ·cases hd
section
variable{ph:PH}{i:Nat}{c f:Str}{fs:List (Str×W)}{w y:W}{kws:aZ}
theorem Qu{ws:ap}{ps d:aZ}(h:ph[i]? =O (.lst ws))(h1:ba sS ws=O ps)(h2:nT [] ps=O d):lift (pO [.ref i]) ph=.ok (.ref ↑ph) (ph++[.aX d]):=by
 unfold lift pO;simp only[h,h1,h2]
end
section
variable{ph:PH}{i:Nat}{kws:aZ}
theorem sW(h:ph[i]? =O (.bY kws)):jC (.ref i) ph=O (i,kws):=by unfold jC;simp only[h]
theorem Qv(h:ph[i]? =O (.bY kws)){k:W}(hk:ik ph kws k=true)(hn:(kW k).bind id≠Z)(hz:↑kws<abd)(v:W):lift (qj (.ref i) k v) ph=.ok () (ph.set i (.bY (c6 kws k v))):=by
 unfold lift qj;simp only[sW h];rw[if_pos ⟨hk,hn,hz⟩]
end
noncomputable def xO(x:Str)(i:Nat):EM:=λσ=>match σ[i]? with
 | some (O w)=>ay (.fn x [w])
 | _=>dY
noncomputable def sX(x:Str)(i:Nat)(m n:EM):EM:=λσ=>match σ[i]? with
 | some (O (.fn z _))=>if z=x then m σ else n σ
 | _=>dY
noncomputable def BR(m:SM):SM:=λσ=>dJ (m σ)
section
variable{X:Cx}{pins:List (abc×Obj)}{σ:L2.St}{H:Hp}{s:aaR}
variable{i:Nat}
theorem SF{x:Str}{m n:EM}{e:acJ}(h1:IE X e m)(h2:IE X e n):IE X e (sX x i m n):=by
 intro pins s σ H Q I h;obtain⟨φ,ph,ws,hH,hS,h⟩:=h;unfold sX at h;cases ew:ws[i]? with
 | none=>simp only[ew] at h;exact h.elim
 | some ow=>
 cases ow with
 | none=>simp only[ew] at h;exact h.elim
 | some w0=>
 simp only[ew] at h;cases w0 with
 | fn z cs=>
  simp only at h;by_cases hz:z=x
  ·rw[if_pos hz] at h;exact h1 pins s σ H Q I ⟨φ,ph,ws,hH,hS,h⟩
  ·rw[if_neg hz] at h;exact h2 pins s σ H Q I ⟨φ,ph,ws,hH,hS,h⟩
 | _=>exact h.elim
theorem SG{x:Str}{m n:EM}{e:acJ}(h1:JE X e m)(h2:JE X e n):JE X e (sX x i m n):=⟨SF h1.h h2.h⟩
variable{c0:abc}{oc:Obj}
theorem Qw{n:Str}{v:hV}(I:Inv X pins σ H s)(jg:X.fn n=false)(fK:X.env.cells.lookup n=O c0)(lS:X.aD.heap.objs.size<=c0)(hn:H c0=Z)(hg:s.heap.get? c0=O oc)(hcd:oc.data=.cell v):Inv X pins σ (upd H c0 (.aL oc de)) s:=by
 have B:=I.base;refine⟨I.ok,I.os,I.bare,⟨B.keep,B.slot,λb o e nn hx=>?_,B.there,λb xs e=>?_,λb o u e=>?_,λb ps e=>?_⟩,I.loc,I.cell,?_,λy d e=>?_,λp hp=>?_,λb u e=>?_,I.lk⟩
 ·rw[aI (abu (aaS (aaU e) lS))];exact B.free b o e nn hx
 ·rw[aI (cC (B.fU b xs e) hn)];exact B.fU b xs e
 ·rw[aI (cC (B.ee b o u e) hn)];exact B.ee b o u e
 ·obtain⟨m,q⟩:=B.fV b ps e;exact⟨m,by rw[aI (cC q hn)];exact q⟩
 ·rw[aI (adh (I.lG n c0 fK))];exact I.free
 ·by_cases hd:d=c0
  ·subst hd;rw[I.ok.inj y n d e fK];exact⟨λz=>absurd (show X.fn n=true from z) (by rw[jg];exact abg),.inr ⟨oc,bX⟩⟩
  ·rw[aI hd];exact I.gH y d e
 ·obtain⟨q1,q2,q3,q4,q5⟩:=I.pin p hp;have jk:p.1≠c0:=λz=>by rw[z,hg] at q1;cases q1;exact q5 v hcd
  exact⟨q1,by rw[aI jk];exact q2,q3,q4,q5⟩
 ·by_cases hb:b=c0
  ·subst hb;rw[bX] at e;cases e;exact⟨hg,trivial,⟨_,hg⟩,λ_ _ _ _=>trivial⟩
  ·rw[aI hb] at e;exact(I.aB b u e).gL (λ_ _ _ q=>q) (λd q=>by rw[aI (cC q hn)];exact q) λd xs q=>by rw[aI (cC q hn)];exact q
theorem VU{x n:Str}{L:gA}{c P:abc}(jg:X.fn n=false)(hN:X.N[i]? =O n)(hk:X.env.scope.names.lookup n=O .cell)(fK:X.env.cells.lookup n=O c0)(lS:X.aD.heap.objs.size<=c0)(hl:iZ X.K x=O L)(hq:X.env.qual=x++".<locals>.")(yV:X.env.globals=abr)(pP:X.env.code=.ref c)(oP:X.K.lookup c=O oc)(hP:jw oc=O P)(oQ:c≠P)(hm:(x,c,P)∈eG X.K)(oj:∀p∈eG X.K,p.2.2=P->p.1=x)(mD:aeF L.sc X.env=pure [(n,c0)])(fX:∀y,L.sc.names.lookup y=O .free->y=n)(oi:ahQ L.ar X.env=([],[])):IE X (.Lambda L.ar L.bd L.sc L.pos) (xO x i):=by
 intro pins s σ H Q I h;obtain⟨φ,ph,ws,hH,hS,h⟩:=h;unfold xO at h;cases ew:ws[i]? with
 | none=>simp only[ew] at h;exact h.elim
 | some ow=>
 cases ow with
 | none=>simp only[ew] at h;exact h.elim
 | some wa=>
 simp only[ew] at h;obtain⟨va,ev,ra⟩:=hS.get ew;have Ck:=HB (X:=X) (cl:=[(n,c0)]) hl hq yV pP oP hP oQ mD (λy hy=>⟨c0,by rw[fX y hy,abf];simp⟩) oi;refine aY (Ck pins s σ H (λv H2=>∃a o,v=.ref a/\aC X.K φ ph H2/\Step X.K φ ↑ph H φ ↑ph H2/\H2 a=O (.aL o de)/\n5 X.K H2 x o [(n,c0)]) I ⟨hH.tb _ hm,λa o H2 na qH kI hold Cm Do=>?_⟩) λu s2 zz=>?_
 ·have tV:∀b o u,H b=O (.aL o u)->H2 b=O (.aL o u):=λb o u z=>hold b _ z λ_ y=>nomatch y
  have dF:Step X.K φ ↑ph H φ ↑ph H2:=⟨aaN _,λ_ _=>rfl,(λb xs z=>hold b _ z λ_ y=>nomatch y),tV⟩
  refine⟨a,o,rfl,⟨λi p e=>?_,hH.inj,λp hp=>?_⟩,dF,qH,kI⟩
  ·obtain⟨z,hz,mz⟩:=hH.at (aaG.mp e).1;have y3:∀ps,z≠.cW ps:=λps q=>by
    subst q;have q:=hH.hp i p e;cases p with
    | lst _=>obtain⟨_,q,_⟩:=q;rw[hz] at q;cases q
    | aX _=>rcases q with⟨_,q,_⟩ | ⟨_,q,_⟩ <;> (rw[hz] at q;cases q)
    | obj _ _=>obtain⟨_,_,_,_,q,_⟩:=q;rw[hz] at q;cases q
    | bY _=>obtain⟨_,q,_⟩:=q;rw[hz] at q;cases q
    | ft _=>obtain⟨_,_,_,q,_⟩:=q;rw[hz] at q;cases q
    | mO _=>obtain⟨_,_,⟨_,q,_⟩ | ⟨_,q,_⟩⟩:=q <;> (rw[hz] at q;cases q)
   exact(hH.hp i p e).mono dF ((hold _ _ hz y3).trans hz.symm)
  ·by_cases fG:p.2.2=P
   ·rw[fG,oj p hp fG];exact Do
   ·obtain⟨ps,e1,e2,e3⟩:=hH.tb p hp;exact⟨ps,Cm _ _ fG e1,e2,λpos v e=>(e3 pos v e).mono λb o z=>tV b o _ z⟩
 ·obtain⟨v,H2,I2,r2,a,o,e2,aR,dF,yZ,kI⟩:=zz;subst e2;have kh:∃fv u0,s2.heap.get? c0=O fv/\fv.data=.cell (O u0)/\RelV va u0:=by
   obtain⟨m,hn,Dq⟩:=I2.loc;obtain⟨u0,mU,Dr⟩:=Dq i n va hN ev (.inr (.inl hk))
   rcases Dr with⟨kz,_⟩ | ⟨_,c1,uF,fv,g1,g2⟩
   ·have kz:X.env.scope.names.lookup n=O .local:=kz;rw[hk] at kz;cases kz
   ·rw[fK] at uF;cases uF;exact⟨fv,u0,g1,g2,mU⟩
  obtain⟨fv,u0,g1,g2,mU⟩:=kh
  rcases(I2.gH n c0 fK).2 with fr | ⟨ob,fr⟩
  ·have gP:Step X.K φ ↑ph H2 φ ↑ph (upd H2 c0 (.aL fv de)):=⟨aaN _,λ_ _=>rfl,λb xs z=>by rw[aI (cC z fr)];exact z,λb o u z=>by rw[aI (cC z fr)];exact z⟩
   exact⟨.ref a,_,Qw I2 jg fK lS fr g1 g2,r2,h φ _ (.ref a) (FO aR fr) (dF.trans gP) (.fn (gP.aL _ _ _ yZ) (kI.mono λb o z=>gP.aL b o _ z) (show kg _ [(n,c0)] [va] from⟨⟨fv,u0,bX,g2,mU⟩,(λ_ z=>nomatch z),trivial⟩) (.cons ((ra.mono dF).mono gP) .nil))⟩
  ·have e:ob=fv:=by
    have:=(I2.aB c0 _ fr).1;rw[g1] at this;exact(abE this).symm
   subst e;exact⟨.ref a,H2,I2,r2,h φ _ (.ref a) aR dF (.fn yZ kI (show kg _ [(n,c0)] [va] from⟨⟨ob,u0,fr,g2,mU⟩,(λ_ z=>nomatch z),trivial⟩) (.cons (ra.mono dF) .nil))⟩
theorem VV{x n:Str}{L:gA}{c P:abc}(jg:X.fn n=false)(hN:X.N[i]? =O n)(hk:X.env.scope.names.lookup n=O .cell)(fK:X.env.cells.lookup n=O c0/\X.aD.heap.objs.size<=c0/\aeF L.sc X.env=pure [(n,c0)])(hl:iZ X.K x=O L)(he:X.env.qual=x++".<locals>."/\X.env.globals=abr/\X.env.code=.ref c)(oP:X.K.lookup c=O oc)(hP:jw oc=O P)(oQ:c≠P)(hm:(x,c,P)∈eG X.K)(oj:∀p∈eG X.K,p.2.2=P->p.1=x)(fX:∀y,L.sc.names.lookup y=O .free->y=n)(oi:ahQ L.ar X.env=([],[])):JE X (.Lambda L.ar L.bd L.sc L.pos) (xO x i):=
 ⟨VU jg hN hk fK.1 fK.2.1 hl he.1 he.2.1 he.2.2 oP hP oQ hm oj fK.2.2 fX oi⟩
structure qo(X:Cx)(H:Hp)(s:aaR):Prop where
 os:s.os=X.aD.os
 bare:ago s.gens
 base:Un X.fs X.ex X.aM H X.aD.heap s.heap
 aB:cS X.prog X.w H s.heap
theorem nV(I:Inv X pins σ H s):qo X H s:=⟨I.os,I.bare,I.base,I.aB⟩
noncomputable def Le(X:Cx)(D:Ends)(f:Flow)(s':aaR):Prop:=match f with
 | .next=>∃aj H',qo X H' s'/\D.nx aj H'
 | .brk=>∃aj H',qo X H' s'/\D.bk aj H'
 | .cont=>∃aj H',qo X H' s'/\D.ct aj H'
 | .ret u=>∃v H',qo X H' s'/\RelV v u/\D.rt v H'
theorem ZS{D:Ends}{f:Flow}{s':aaR}(h:SP X pins D f s'):Le X D f s':=by
 cases f with
 | next=>obtain⟨aj,H',I,q⟩:=h;exact⟨aj,H',nV I,q⟩
 | brk=>obtain⟨aj,H',I,q⟩:=h;exact⟨aj,H',nV I,q⟩
 | cont=>obtain⟨aj,H',I,q⟩:=h;exact⟨aj,H',nV I,q⟩
 | ret u=>obtain⟨v,aj,H',I,r,q⟩:=h;exact⟨v,H',nV I,r,q⟩
structure JR(X:Cx)(st:eN)(m:SM):Prop where
 h:∀(pins:List (abc×Obj)) (s:aaR) (σ:L2.St) (H:Hp) (D:Ends),Inv X pins σ H s->tS X m D σ H->abj (abG X.prog X.w) X.A (execs st X.env) (Le X D) X.xe s
theorem GR{st:ahH}{rs:eN}{a b:SM}(h1:JS X st a)(h2:JR X rs b):JR X (st::rs) (aA a b):=⟨λpins s σ H D I h=>by
 refine afk (aY (h1.h pins s σ H { D with nx:=tS X b D } I (Gy h)) λf s1 q=>?_);cases f with
 | next=>
  obtain⟨aj,H',I',q⟩:=q;exact h2.h pins s1 aj H' D I' q
 | ret v=>obtain⟨v,aj,H',I,r,q⟩:=q;exact⟨v,H',nV I,r,q⟩
 | brk=>obtain⟨aj,H',I,q⟩:=q;exact⟨aj,H',nV I,q⟩
 | cont=>obtain⟨aj,H',I,q⟩:=q;exact⟨aj,H',nV I,q⟩⟩
noncomputable def oo(X:Cx)(n:Str):Cx:={ X with fn:=λy=>X.fn y&& !(y==n),xe:=λ_ _=>False }
theorem Qx{n:Str}(I:Inv X pins σ H s):Inv (oo X n) pins σ H s:=
 ⟨⟨I.ok.mod,I.ok.kind,I.ok.glob,I.ok.blt,I.ok.above,I.ok.inj,I.ok.has,λx c e=>I.ok.qt x c (aaZ _ _▸e:_/\_).1,I.ok.hd,I.ok.frames,I.ok.ue,I.ok.Cz,I.ok.bs,I.ok.kE,I.ok.pV,I.ok.pW,I.ok.gx,I.ok.mI⟩,I.os,I.bare,I.base,I.loc,I.cell,I.free,λx c e=>⟨λz=>(I.gH x c e).1 (aaZ _ _▸z:_/\_).1,(I.gH x c e).2⟩,I.pin,I.aB,I.lk⟩
theorem SH{n:Str}{rs:eN}{m:SM}(h1:JB (oo X n) rs m):JR X rs (BR m):=⟨λpins s σ H D I h=>by
 obtain⟨φ,ph,ws,hH,hS,h⟩:=h;obtain⟨f,ph',e,h⟩:=wO h;refine acp (h1.h pins s σ H D (Qx I) ⟨φ,ph,ws,hH,hS,?_⟩) (λfl s' q=>?_) λ_ _ z=>z.elim
 ·rw[e];exact h
 ·have q:=ZS q;cases fl with
  | next=>obtain⟨aj,H',I,q⟩:=q;exact⟨aj,H',⟨I.os,I.bare,I.base,I.aB⟩,q⟩
  | brk=>obtain⟨aj,H',I,q⟩:=q;exact⟨aj,H',⟨I.os,I.bare,I.base,I.aB⟩,q⟩
  | cont=>obtain⟨aj,H',I,q⟩:=q;exact⟨aj,H',⟨I.os,I.bare,I.base,I.aB⟩,q⟩
  | ret u=>obtain⟨v,H',I,r,q⟩:=q;exact⟨v,H',⟨I.os,I.bare,I.base,I.aB⟩,r,q⟩⟩
theorem SI{n:Str}:(oo X n).fn n=false:=by
 show(X.fn n&& !(n==n))=false;simp
noncomputable def uJ(sc:adB)(n:Str):Scope:={ sc with names:=sc.names.map λp=>if p.1==n then(p.1,.free) else p }
theorem EJ{n x:Str}:∀{l:List (Str×aek)},(l.map λp=>if p.1==n then(p.1,abx) else p).lookup x=if x==n then(l.lookup x).map λ_=>.free else l.lookup x
 | []=>by simp
 | p::l=>by
  rw[abt];obtain⟨y,k⟩:=p;have ih:=EJ (n:=n) (x:=x) (l:=l);by_cases hy:y=n
  ·subst hy;simp only[beq_self_eq_true,if_true];rw[abf,abf,ih];by_cases hx:x=y
   ·subst hx;simp
   ·have:(x==y)=false:=by simpa using hx
    simp[this]
  ·have y4:(y==n)=false:=by simpa using hy
   simp only[y4,abD,if_false];rw[abf,abf,ih];by_cases hx:x=y
   ·subst hx;simp[y4]
   ·have:(x==y)=false:=by simpa using hx
    simp[this]
theorem Bd.oo{N:a8}{sc:adB}{k:Nat}{n:Str}(B:Bd X N sc k)(hn:sc.names.lookup n=O .cell):Bd (oo X n) N (uJ sc n) k:=by
 have q:∀x kd,(uJ sc n).names.lookup x=O kd->(x=n/\kd=.free)\/(x≠n/\sc.names.lookup x=O kd):=λx kd h=>by
  unfold uJ at h;simp only[EJ] at h;by_cases hx:x=n
  ·subst hx;rw[hn] at h;simp at h;exact .inl ⟨rfl,h.symm⟩
  ·have:(x==n)=false:=by simpa using hx
   rw[this] at h;exact .inr ⟨hx,h⟩
 have ql:∀x,Loc (uJ sc n) x->x≠n/\Loc sc x:=λx h=>by
  rcases h with h | h
  ·rcases q x _ h with⟨_,z⟩ | ⟨z,h⟩
   ·cases z
   ·exact⟨z,.inl h⟩
  ·rcases q x _ h with⟨_,z⟩ | ⟨z,h⟩
   ·cases z
   ·exact⟨z,.inr h⟩
 exact⟨⟨⟨B.hN,λx h=>by
   rcases h with h | h | h
   ·rcases q x _ h with⟨_,z⟩ | ⟨_,h⟩
    ·cases z
    ·exact B.kH x (.inl h)
   ·rcases q x _ h with⟨_,z⟩ | ⟨_,h⟩
    ·cases z
    ·exact B.kH x (.inr (.inl h))
   ·rcases q x _ h with⟨z,_⟩ | ⟨_,h⟩
    ·rw[z];exact B.kH n (.inr (.inl hn))
    ·exact B.kH x (.inr (.inr h)),λx h=>B.loc x (ql x h).2,λx h=>by
   rcases q x _ h with⟨_,z⟩ | ⟨_,h⟩
   ·cases z
   ·exact B.gl x h,λx h=>by
   have:=(ql x h).1;refine⟨?_,(B.fn x (ql x h).2).2⟩
   rcases(B.fn x (ql x h).2).1 with z | z
   ·left
    show(X.fn x&& !(x==n))=true;rw[z]
    simpa using this
   ·exact .inr z,B.nd⟩,B.calm,B.room⟩,agP⟩
end
section
variable{P:abI}{w:acg}{K:aaJ}{mg:dE}{base:ade}
theorem VW{CX:mL}{k:Nat}{f:abc}{name qual:Str}{params:Arguments}{body:eN}{scope:adB}{dV kV doc pm bC ct oc:abh}{an od:d7}{gQ:Array hV}{N ps:a8}{sp:Sp}(lk:K.lookup f=O ⟨oc,od,.func (acw name qual params body scope dV kV doc pm an bC ct),gQ⟩)(hcd:adC K bC qual=true)(S:cZ N ps scope)(len:∀vs H Q E,sp vs H Q E->↑vs=↑ps)(ll:∀(A:acF) (outer:List Env) (s:aaR) (H:Hp) (vs:aE) (Q:VK) (E:XK),df k (A.deeper (aeC qual scope s.heap.objs.size f bC))->sp vs H Q E → ∃m,JR (eh CX P w K mg base N qual scope f bC A outer s H E) body m/\tS (eh CX P w K mg base N qual scope f bC A outer s H E) m { nx:=λ_ H'=>Q .aH H',rt:=Q } (start N vs) H) :
  ck P w K mg base CX (k+1) f (acw name qual params body scope dV kV doc pm an bC ct) ps sp:=by
 refine⟨len,λA outer s H args us vs Q E hr e0 hb r oB=>?_⟩;have hl:=len _ _ _ _ oB;have KX:K.In s.heap:=e0.mod.qr.keeps λb o e=>(e0.bs b o e).1
 have lim:s.heap.NoLimit:=e0.mod.nolimit.keeps λb o e=>(e0.bs b o e).1
 have sF:∀y∈ps.zip us,scope.names.lookup y.1=O .local\/(scope.names.lookup y.1=O .cell/\((agK (s.heap.objs.size+1) scope.names []).lookup y.1).isSome=true):=λ⟨n,v⟩ hy=>by
  rcases S.ie n (aee hy).1 with q | q
  ·exact .inl q
  ·exact .inr ⟨q,adY _ _ _ (.inl q)⟩
 refine aff hr.depth (KX _ _ lk) rfl S.co S.gen rfl (afN KX hcd) (hb _ _ _ _ ?_);refine aeo S.kind sF λenv he s1 x=>?_
 subst he;refine⟨lim.keeps x.toInCall.keep,codeAny_func ?_⟩;obtain⟨t,ht,hq⟩:=ll A outer s H vs Q E (hr.deeper _) oB;have I:Inv (eh CX P w K mg base N qual scope f bC A outer s H E) [] (start N vs) H s1:=z7 S hr.hd e0 hl r x;refine acp (ht.h [] s1 (start N vs) H _ I hq) (λfl s' hs=>?_) λe s' hs=>hs
 have fin:∀{H':Hp} {v:V} {u:abh},qo (eh CX P w K mg base N qual scope f bC A outer s H E) H' s'->RelV v u->Q v H'->CE outer P w H s Q u s':=
  λ{H' v u} J rv q=>⟨v,H',J.os,J.bare,J.base,J.aB,rv,q⟩
 cases fl with
 | ret u=>
  obtain⟨v,H',J,rv,q⟩:=hs;exact fin J rv q
 | next=>
  obtain⟨aj,H',J,q⟩:=hs;exact fin (v:=V.aH) (u:=abN) J rfl q
 | brk=>
  obtain⟨_,_,_,q⟩:=hs;exact ael q
 | cont=>
  obtain⟨_,_,_,q⟩:=hs;exact ael q
theorem SJ{x qual:Str}{st:ahH}{f:abc}{fd:acG}{N ps:a8}{k n np:Nat}{body:SM}(R:Env->Nat->Prop)(hn:↑N=n)(hp:↑ps=np)(F:iI K x qual st f fd)(S:cZ N ps (aQ st))(mD:∀L0 fa cd,R (aeC qual (aQ st) L0 fa cd) L0)(ll:∀{X:Cx},X.prog=P->X.w=w->X.K=K->X.mg=mg->X.base=base->Bd X N (aQ st) k->tP X->X.env.scope=aQ st->X.env.qual=qual++".<locals>."/\X.env.globals=abr/\X.env.code=fd.code->R X.env X.aD.heap.objs.size->JR X (eE st) body):ck P w K mg base (bN P w) (k+1) f fd ps (cE K mg np (fM body n np)):=by
 subst hn hp;obtain⟨oc,od,kV,doc,pm,an,bC,ct,gQ,rfl,lk,hcd⟩:=F.ex;refine VW lk hcd S (λvs H Q E h=>h.1) λA outer s H vs Q E hr h=>?_
 obtain⟨hl,φ,ph,args,hH,ra,h⟩:=h;refine⟨body,ll (X:=eh (bN P w) P w K mg base N qual (aQ st) f bC A outer s H E) rfl rfl rfl rfl rfl ⟨⟨⟨rfl,λ_ z=>z,λ_ z=>z,λ_ z=>z,λ_ _=>⟨.inl rfl,λ_ _ _ _ _=>trivial⟩,S.nd⟩,rfl,hr⟩,ahP⟩ ⟨rfl,rfl,rfl⟩ rfl ⟨rfl,rfl,rfl⟩ (mD _ _ _),?_⟩;have oK:↑args=↑vs:=↑ra;unfold fM at h;rw[if_pos (oK.trans hl),c3,oK] at h;refine⟨φ,ph,_,hH,bv.start (↑N-↑vs) ra,h.mono (λfl ph' h aq H1 aw s1=>?_) λx ph' h ak H' e s' r' dn th=>?_⟩
 ·cases fl with
  | rt w=>exact λv rv=>h aq H1 v aw s1 rv
  | nx aj=>exact λσ1 ij=>h aq H1 .aH aw s1 .aH
  | bk aj=>exact h.elim
  | ct aj=>exact h.elim
 ·obtain⟨C,dd,hm,CP,th⟩:=th;have hE:=h ak H' C dd r' dn hm CP;have key:abj (abG P w) (A.deeper (aeC qual (aQ st) s.heap.objs.size f bC)) (afV (aeC qual (aQ st) s.heap.objs.size f bC) e) (λ_ fE=>Flew P w outer H s C dd H' e fE) (λe' fE=>bN P w outer H s E e' fE) s':=by
   rcases th with th | ⟨pins,σ,H0,s0,I0,th⟩
   ·exact EB (X:=eh (bN P w) P w K mg base N qual (aQ st) f bC A outer s H E) rfl rfl rfl th
   ·exact EC (X:=eh (bN P w) P w K mg base N qual (aQ st) f bC A outer s H E) rfl rfl rfl I0 th
  exact acp key (λ_ fE q=>⟨C,dd,H',q,hE⟩) λ_ _ q=>q
end
end IL
namespace PySem
open Sem (wp)
namespace ZT
end ZT
end PySem
namespace IL
open PySem PySem.Spec PyProof.Rows L2
end IL
namespace PySem
open Sem (wp)
namespace ZL
end ZL
end PySem
namespace IL
open PySem PySem.Spec PyProof.Rows L2
end IL
namespace PyProof.Rows
open PySem PySem.Spec PySem.Calls PyProof.V
namespace KTD
end KTD
end PyProof.Rows
namespace PySem.Txt
end PySem.Txt
namespace IL
open PySem PySem.Spec PyProof.Rows L2
end IL
namespace PySem
open Sem (wp)
namespace W
end W
end PySem
namespace IL
open PySem PySem.Spec PyProof.Rows L2
open PySem PySem.Spec PyProof.Rows L2 PySem.W
open Builtin Builtin.ObjectAttr
open PySem PySem.Spec PyProof.Rows L2 PySem.W Builtin.ObjectAttr
end IL
namespace PySem
open Sem (wp)
open MeetsSeq SeqAt
namespace ZU
end ZU
end PySem
namespace IL
open PySem PySem.Spec PyProof.Rows L2
variable{H:Hp}{d:abc}
theorem VX{P:abI}{w:acg}{h:ade}{u:HO}(hu:gw u)(ok:cY P w H h d u):nU u<=sizeLine:=by
 cases u with
 | dK kvs=>exact ok.1
 | dT kvs=>exact ok.1
 | dU kvs=>exact ok.1
 | _=>exact hu.elim
theorem SK{prog:abI}{w:acg}{A:acF}{E:bR}{s:aaR}{od:Obj}{es:Array acV}{ep:Nat}{Q:bR}(hd:(d==acx)=false)(ho:s.heap.get? d=O od)(hc:od.cls=.type "dict")(og:od.data=.dict es ep)(B8:es.size<=abd)(h:Q (.int es.size (s.toks+1)) { s with toks:=s.toks+1+1 }):abj (abG prog w) A (call (.builtin "len") [.ref d]) Q E s:=by
 have hT:s.TypeIs (.ref d) "dict":=⟨_,ho,hc⟩
 rw[agp] at B8;refine afY kind_len plain_len entry_len (args_len1 _) ?_;unfold Builtin.«len»;refine aaH (m:=oneArg "len" _) (aaM ?_);refine aaH (m:=callSpecial? (.ref d) (abA "__len__")) (adi (name:=abA "__len__") hT F.slot_dict_len (acm F.slot_dict_len hT F.entry_dict_len ?_ (F.args_dict_len_1 _)));show abj _ _ (dictSize d >>= _) _ _ s;unfold dictSize;refine aaH (aaH (adQ ho og (aaM ?_)));show abj _ _ (Builtin.Dict.pendingCount d >>= _) _ _ s;refine aaH (wpAny_pendingCount_other hd ?_);refine afx ?_;rw[Nat.add_zero];show abj _ _ _ _ _ { s with toks:=s.toks+1 };refine aaH (abS (aaM ?_));refine aaH (wpAny_letGo ?_);show abj _ _ (if((es.size:Nat):Int)<0 then _ else _) _ _ _;rw[if_neg ∅];show abj _ _ (if((es.size:Nat):Int) >= 2 ^ 63 then _ else _) _ _ _;rw[if_neg ∅];exact aaH (wpAny_mkInt (aaM ⟨_,rfl,h⟩))
noncomputable def Jh:aE->Hp->VK->Prop:=λxs H Q=>∃d u,xs=[.ref d]/\H d=O u/\gw u/\Q (.int (nU u)) H
theorem Fm{X:Cx}:c4 X (.builtin "len") Jh:=by
 intro pins s σ H xs us Q I r h;obtain⟨d,u,rfl,hd,hu,h⟩:=h;obtain⟨v,rfl,rx⟩:=vals1 r;obtain rfl:v=abi d:=rx;have hk:=I.aB d u hd;obtain⟨ob,es,ep,h1,h2,h3,h4⟩:=GL hu hk;obtain⟨hl,_⟩:=AL hu hk h1 h3;exact SK h4 h1 h2 h3 (by rw[<- hl];exact VX hu hk) ⟨.int (nU u),H,I.kept λb u q=>q,⟨_,by rw[hl]⟩,h⟩
section
variable{X:Cx}{pins:List (abc×Obj)}{σ:L2.St}{H:Hp}{s:aaR}{A:acF}{E:bR}{φ:Nat->abc}{ph:PH}{i:Nat}{kws:aZ}{y:W}{v:V}{u:abh}
theorem HJ{Q:Bool->aaR->Prop}(hu:A.units+65<aep)(I:Inv X pins σ H s)(hH:aC X.K φ ph H)(hd:ph[i]? =O (.bY kws))(ry:aF X.K φ ↑ph H y v)(ru:L2.RelV v u)(hk:ik ph kws y=true)(h:∀s',Inv X pins σ H s'->Q (c5 kws y).isSome s'):abj (abG X.prog X.w) A (contains (.ref (φ i)) u) Q E s:=by
 have hT:=GO I hH hd;obtain⟨_,_,_,_,_,_,_,_,qE,_⟩:=xa I hH hd;unfold contains
 try with_reducible refine abS ?_
 refine aaH (acz hT afR.lookup ?_);show abj _ _ (if(O (ahs "dict.__contains__")==O abN)=true then _ else _) _ E s;rw[if_neg (by rw[afj];exact abg)];refine aaH (wpAny_callSpecialUnlessNone?_slot (name:=abA "__contains__") hT afR (acm afR hT entry_dict_contains ?_ (args_dict_contains _ _)));show abj _ _ (dictGet (φ i) u >>= _) _ _ s;refine aaH (Vq (by show A.units+1+64<aep;omega) I hH hd ry ru hk λs' ow ov I' ro fq=>?_);have e:=ro.isSome;cases ow with
 | some w'=>
  cases ov with
  | none=>exact fq.elim
  | some vv=>
   have:=h s' I';rw[e] at this;exact aaM ⟨_,rfl,acL this⟩
 | none=>
  cases ov with
  | none=>
   have:=h s' I';rw[e] at this;show abj _ _ (Builtin.Dict.pendingKey? (φ i) u >>= _) _ _ _;exact aaH (wpAny_pendingKey_other qE (aaM ⟨_,rfl,acL this⟩))
  | some vv=>exact fq.elim
end
noncomputable def yn(K:aaJ)(f:Bool->Bool):R2:=λx y H Q=>∃φ ph i kws k,aC K φ ph H/\y=.ref (φ i)/\ph[i]? =O (.bY kws)/\aF K φ ↑ph H k x/\ik ph kws k=true/\Q (.bl (f (c5 kws k).isSome)) H
section
variable{X:Cx}
theorem VY(hu:X.A.units+65<aep):bS X (acr .In) (yn X.K λb=>b):=by
 intro pins s σ H x y u v Q I rx ry h;obtain⟨φ,ph,i,kws,k,hH,rfl,hd,rk,hk,q⟩:=h;cases ry;show abj _ _ (contains (.ref (φ i)) u >>= _) _ _ s;exact aaH (HJ hu I hH hd rk rx hk λs' I'=>aaM ⟨.bl _,H,I',rfl,q⟩)
theorem SN(hu:X.A.units+65<aep):bS X (acr .NotIn) (yn X.K λb=> !b):=by
 intro pins s σ H x y u v Q I rx ry h;obtain⟨φ,ph,i,kws,k,hH,rfl,hd,rk,hk,q⟩:=h;cases ry;show abj _ _ (contains (.ref (φ i)) u >>= _) _ _ s;exact aaH (HJ hu I hH hd rk rx hk λs' I'=>aaM ⟨.bl _,H,I',rfl,q⟩)
end
noncomputable def oS:W->W->Po W:=λx y ph=>match jC y ph with
 | some p=>if ik ph p.2 x=true then O (.bl (c5 p.2 x).isSome,ph) else Z
 | none=>Z
noncomputable def ou:W->W->Po W:=λx y ph=>match jC y ph with
 | some p=>if ik ph p.2 x=true then O (.bl (!(c5 p.2 x).isSome),ph) else Z
 | none=>Z
variable{K:aaJ}
theorem Yc:dr K (yn K λb=>b) oS:=by
 intro φ ph H x y vx vy w ph' Q hH rx ry e k;unfold oS at e;split at e
 ·rename_i p hp;obtain⟨i,kws⟩:=p;obtain⟨rfl,hi,hd,rfl⟩:=rK hH ry hp;split at e
  ·rename_i hk;cases e;exact⟨φ,ph,i,kws,x,hH,rfl,hd,rx,hk,k φ H _ hH Step.refl (.bl _)⟩
  ·cases e
 ·cases e
theorem VZ:dr K (yn K λb=> !b) ou:=by
 intro φ ph H x y vx vy w ph' Q hH rx ry e k;unfold ou at e;split at e
 ·rename_i p hp;obtain⟨i,kws⟩:=p;obtain⟨rfl,hi,hd,rfl⟩:=rK hH ry hp;split at e
  ·rename_i hk;cases e;exact⟨φ,ph,i,kws,x,hH,rfl,hd,rx,hk,k φ H _ hH Step.refl (.bl _)⟩
  ·cases e
 ·cases e
section
variable{X:Cx}{b:acJ}{N:a8}{sc:adB}{k:Nat}
theorem eU.ZV(B:eU X N sc k)(h:acS .In b=false):Cp X .In b oS:=⟨⟨_,VY (AN B.room),Yc⟩,h⟩
theorem eU.Yd(B:eU X N sc k)(h:acS .NotIn b=false):Cp X .NotIn b ou:=⟨⟨_,SN (AN B.room),VZ⟩,h⟩
end
noncomputable def ox:ap->Po W:=λxs ph=>match xs with
 | [w]=>(jC w ph).map λp=>(.int ↑p.2,ph)
 | _=>Z
theorem HK:gK K Jh ox:=by
 intro φ ph H xs vs w ph' Q hH r e k;cases r with
 | nil=>cases e
 | cons r0 rr=>
  cases rr with
  | cons _ _=>cases e
  | nil=>
   obtain⟨⟨i,kws⟩,hp,e⟩:=aaP.mp e;cases e;obtain⟨rfl,hi,hd,rfl⟩:=rK hH r0 hp;obtain⟨kvs,q1,q2,_⟩:=hH.hp i _ hd;refine⟨_,_,rfl,q1,trivial,?_⟩;show Q (.int (↑kvs:Nat)) H;rw[<- q2.len];exact k φ H _ hH Step.refl (.int _)
theorem aC.Ye{φ:Nat->abc}{ph:PH}{i:Nat}{kws:aZ}{o:Obj}{u:HO}(h:aC K φ ph H)(hi:i<↑ph)(e:H (φ i)=O (.aL o u))(hu:gw u)(hw:ph[i]? =O (.ft kws)):aC K φ (ph.set i (.bY kws)) (upd H (φ i) u):=by
 obtain⟨o',kvs,hc,q,r,nd⟩:=h.hp i _ hw;rw[e] at q;cases q;refine⟨λj p ej=>?_,λj k hj hk z=>by rw[aby] at hj hk;exact h.inj j k hj hk z,λp hm=>(h.tb p hm).upd (λps z=>by rw[e] at z;cases z) λoc z=>by rw[e] at z;cases z⟩;rw[aby];by_cases hj:j=i
 ·subst hj;rw[abL hi] at ej;cases ej;exact⟨kvs,bX,r.cQ e hu hc,nd⟩
 ·rw[ace (adh hj)] at ej;exact Vl e hu hc (λz=>hj (h.inj j i (aaG.mp ej).1 hi z)) (h.hp j p ej)
noncomputable def BS(i:Nat)(kws:aZ)(L:Nat):Mo W:=λph=>if ph[i]? =O (.ft kws) then .ok (.ref L) (ph.set i (.bY kws)) else .no
noncomputable def mm(m:EM)(cap:eO)(g:GM)(c:TM)(e:EM):EM:=λσ=>au (m σ) λw ph=>match jC w ph with
 | some p=>au (fe (λ_=>true) g c e ↑ph (lr p.2) (gy cap σ)) (λ_=>BS p.1 p.2 ↑ph) (ph.set p.1 (.ft p.2)++[.lst []])
 | none=>.no
theorem Qy{φ:Nat->abc}{n:Nat}{o:Obj}{kvs:List (V×V)}{kws:aZ}(e:H d=O (.aL o (.dU kvs)))(r:dg K φ n H kws kvs):yF K (Dt d o (.dU kvs)) (lr kws) (λ_=>true) φ n H:=by
 intro bc ph2 H2 aR s2 _ j;have e2:=s2.aL _ _ _ e;have hl:nU (.dU kvs)=(lr kws).length:=by
  unfold lr;rw[aaI];exact r.len.symm
 refine⟨λw hw=>⟨⟨e2,by rw[hl];exact(aaG.mp hw).1⟩,λx gR hy=>?_⟩,λhn=>⟨e2,by rw[hl];simpa using hn⟩⟩;obtain⟨rfl,v,hE⟩:=hy;refine⟨aR,Step.refl,?_⟩;unfold lr at hw;rw[aaK] at hw;obtain⟨p,ew,fq,_⟩:=(r.mono s2).get (show kvs[j]? =O (x,v) from hE);rw[ew] at hw;cases hw;exact fq
section
variable{X:Cx}{tg elt o:acJ}{ifs:cc}{scope:adB}{pos:Pos}{N:a8}{cap:eO}{m:EM}{g:GM}{c:TM}{e:EM}
theorem Pk{σ:L2.St}{H:Hp}{Q:VK}(h:tM X (mm m cap g c e) σ H Q):sJ (Je X (tM X m)) cap (yK X.K g) (lQ X.K c) (yJ X.K e) σ H (QT X Q):=by
 obtain⟨φ,ph,ws,hH,hS,h⟩:=h;refine tM.bind hH hS h λw ph1 aq H1 v aw s1 r1 h=>?_
 cases hp:jC w ph1 with
 | none=>rw[hp] at h;exact h.elim
 | some p=>
  obtain⟨i,kws⟩:=p;rw[hp] at h;simp only[] at h;rw[c3] at h;obtain⟨rfl,hi,hd,rfl⟩:=rK aw r1 hp;obtain⟨kvs,Du,rk,nd⟩:=aw.hp i _ hd;have qL:gw (.dU kvs):=trivial;refine⟨aq i,_,rfl,Du,qL,λo ho nf D hD=>?_⟩;have sf:=k6 (K:=X.K) (φ:=aq) (n:=↑ph1) (y:=HO.aL o (.dU kvs)) Du (GK qL);have aR:aC X.K aq (ph1.set i (.ft kws)) (upd H1 (aq i) (.aL o (.dU kvs))):=aw.put hd rfl ⟨o,kvs,ho,bX,rk.mono sf,nd⟩;have hl:(ph1.set i (.ft kws)).length=↑ph1:=aby ..;have hJ:=Qy (K:=X.K) (φ:=aq) (n:=(ph1.set i (.ft kws)).length) (H:=upd H1 (aq i) (.aL o (.dU kvs))) (o:=o) (d:=aq i) (kws:=kws) bX (by rw[hl];exact rk.mono sf);refine E3 (ws:=ws) aR (by rw[hl];exact(hS.mono s1).mono sf) hJ hD ?_;rw[hl];refine Out.Run.mono h (λ_ ph2 h2 ak H' v r' dn rv=>?_) λ_ _ _=>trivial
  have yf:ak i=aq i:=dn.eq i hi;have Dv:H' (aq i)=O (.aL o (.dU kvs)):=dn.aL _ _ _ bX;have uI:↑ph1<=↑ph2:=dn.le;refine⟨aq i,o,_,Dv,qL,nf,?_⟩;unfold BS at h2;split at h2
  ·rename_i hw;have hi2:i<↑ph2:=aaS hi uI;have t1:=r'.Ye hi2 (by rw[yf];exact Dv) qL hw;rw[yf] at t1;have fF:(ph2.set i (PO.bY kws)).length=↑ph2:=aby ..;exact h2 ak _ v t1 (by rw[fF];exact s1.trans (O4 Du qL dn)) (by rw[fF];exact rv.cQ Dv qL ho)
  ·exact h2.elim
theorem F3{N':a8}(hc:X.calm=true)(cp:kL X N' cap scope)(ho:JE X o m)(hg:∀cl C aD aM ex,JG (blk X N' scope cl C aD aM ex) tg g)(ht:∀cl C aD aM ex,JF (blk X N' scope cl C aD aM ex) ifs c)(he:∀cl C aD aM ex,JE (blk X N' scope cl C aD aM ex) elt e)(hs:∀x,abX o X.env x=pure x:=by intro _;rfl):JE X (.ListComp elt [⟨tg,o,ifs,0⟩] scope pos) (mm m cap g c e):=
 ⟨λpins s σ H Q I h=>aY (GD hc cp (Sb ho.h) (λcl C aD aM ex=>g0 (hg cl C aD aM ex).h) (λcl C aD aM ex=>(ht cl C aD aM ex).h) (λcl C aD aM ex=>e0 (he cl C aD aM ex).h) hs pins s σ H _ I (Pk h)) λ_ _ q=>EP.cQ q⟩
end
end IL
namespace L2
open PySem PySem.SetTable
noncomputable def y6(n i:Nat):Nat:=(i*5+1) % n
noncomputable def kR(n:Nat):Nat->Nat->Nat
 | 0,i=>i
 | m+1,i=>kR n m (y6 n i)
noncomputable def Cr(n:Nat):Nat->Nat->List Nat
 | 0,_=>[]
 | m+1,i=>i::Cr n m (y6 n i)
theorem Av{n e:Nat}:∀{m i:Nat},e∈Cr n m i->∃k,k<m/\kR n k i=e
 | 0,_,h=>by cases h
 | m+1,i,h=>by
  rcases abk.mp h with h | h
  ·exact⟨0,∅,h.symm⟩
  ·obtain⟨k,hk,e⟩:=Av h;exact⟨k+1,∅,e⟩
noncomputable def iu(n:Nat):Bool:=decide (kR n n 0=0)&&(let o:=Cr n n 0;(abp n).all λe=>o.contains e)
theorem ZW:iu 8=true:=by decide +kernel
theorem Ji:iu 32=true:=by decide +kernel
theorem HL:iu 128=true:=by decide +kernel
theorem xf(n:Nat):∀a k i,kR n (a+k) i=kR n k (kR n a i)
 | 0,k,i=>by rw[acf];rfl
 | a+1,k,i=>by rw[aec];exact xf n a k (y6 n i)
theorem y8{n i e:Nat}(h:iu n=true)(hi:i<n)(he:e<n):∃k,k<n/\kR n k i=e:=by
 unfold iu at h;rw[aaZ,decide_eq_true_eq,abR] at h;obtain⟨h0,h1⟩:=h;obtain⟨a,ha,ea⟩:=Av (by simpa using h1 i (abv.mpr hi));obtain⟨b,hb,eb⟩:=Av (by simpa using h1 e (abv.mpr he));by_cases c:a<=b
 ·exact⟨b-a,∅,by rw[<- ea,<- xf,show a+(b-a)=b by omega,eb]⟩
 ·refine⟨n-a+b,∅,?_⟩;rw[<- ea,<- xf,show a+(n-a+b)=n+b by omega,xf,h0,eb]
theorem HM:∀{l S:aG},l.Nodup->(∀x∈l,x∈S)->↑l<=↑S
 | [],_,_,_=>aca _
 | a::l,S,hn,h=>by
  obtain⟨h1,h2⟩:=abY.mp hn;have ha:=h a abo;have ih:=HM (S:=S.erase a) h2 λx hx=>by
   have jk:x≠a:=λe=>h1 (by rw[<- e];exact hx)
   exact(ahe jk).mpr (h x (aba _ hx))
  rw[aeH ha] at ih;have:=aeR ha;simp only[abq];omega
variable{t:adz}
theorem zZ(hd:t.dummies= #[])(j:Nat):t.slot j=.empty\/∃i,t.slot j=.live i/\t.place[i]? =O j:=by
 unfold SetTable.slot;simp only;split
 ·next h=>exact .inr ⟨_,rfl,eq_of_beq h⟩
 ·rw[hd];exact .inl (by simp[has,below,below.go])
theorem Qz(hd:t.dummies= #[])(hp:t.place.size<=t.mask):∃e,e<t.mask+1/\t.slot e=.empty:=by
 by_cases c:∃e,e<t.mask+1/\t.slot e=.empty
 ·exact c
 ·exfalso
  have:=HM (l:=abp (t.mask+1)) (S:=t.place.toList) aex λx hx=>by
   rcases zZ hd x with h | ⟨i,_,h⟩
   ·exact(c ⟨x,abv.mp hx,h⟩).elim
   ·rw[<- agM] at h;exact aaL h
  rw[abz,acj] at this;omega
noncomputable def lp(t:adz)(p:Probe):Probe:={ p with j:=(leap t.mask p.i p.perturb).1,more:=runEnd t.mask (leap t.mask p.i p.perturb).1-(leap t.mask p.i p.perturb).1,i:=(leap t.mask p.i p.perturb).1,perturb:=(leap t.mask p.i p.perturb).2 }
noncomputable def gu(t:adz):Nat->Probe->Probe
 | 0,p=>p
 | n+1,p=>gu t n (lp t p)
section
variable{t:adz}{ahE:Nat->Int}{h:Int}(hd:t.dummies= #[])(hn:∀j i,t.slot j=.live i->(ahE i==h)=false)
include hd hn
theorem HN:∀(k fuel:Nat) (p:Probe),p.more=k->p.dummy=Z->(∃j,probe.go t ahE h (k+1+fuel) p=O (.empty j Z))\/probe.go t ahE h (k+1+fuel) p=probe.go t ahE h fuel (lp t p)
 | k,fuel,p,hk,hm=>by
  rw[aec];generalize hr:probe.go t ahE h fuel (lp t p)=R;unfold probe.go
  rcases zZ hd p.j with e | ⟨i,e,_⟩
  ·rw[e,hm];exact .inl ⟨_,rfl⟩
  ·rw[e];simp only[hn _ _ e,abD,if_false];cases k with
   | zero=>
    right
    unfold advance;rw[if_neg ∅,acf,<- hr];rfl
   | succ k=>
    have:=HN k fuel { p with j:=p.j+1,more:=p.more-1 } (by simp only;omega) hm;unfold advance;rw[if_pos ∅];rw[aec] at this ⊢;rw[<- hr];exact this
theorem F4:∀(n fuel:Nat) (p:Probe),p.more<=9->p.dummy=Z->t.slot (gu t n p).j=.empty->∃j,probe.go t ahE h (10*n+1+fuel) p=O (.empty j Z)
 | 0,fuel,p,_,hm,e=>by
  rw[show 10*0+1+fuel=fuel+1 by omega];unfold probe.go;rw[show t.slot p.j=.empty from e,hm];exact⟨_,rfl⟩
 | n+1,fuel,p,hk,hm,e=>by
  have:=HN hd hn p.more (10*n+1+(fuel+(9-p.more))) p rfl hm;rw[show p.more+1+(10*n+1+(fuel+(9-p.more)))=10*(n+1)+1+fuel by omega] at this
  rcases this with c | c
  ·exact c
  ·rw[c];refine F4 n _ (lp t p) ?_ hm e;show runEnd _ _-_<=9;unfold runEnd;split <;> omega
end
theorem wR(t:adz):∀(n:Nat) (p:Probe),(gu t n p).perturb=p.perturb / 32 ^ n/\(p.j=p.i->(gu t n p).j=(gu t n p).i)
 | 0,p=>⟨by simp[gu],λh=>h⟩
 | n+1,p=>by
  obtain⟨h1,h2⟩:=wR t n (lp t p);refine⟨?_,λ_=>h2 rfl⟩;show(gu t n (lp t p)).perturb=_;rw[h1];show p.perturb / 32 / 32 ^ n=_;rw[Nat.div_div_eq_div_mul,Nat.pow_succ,Nat.mul_comm]
theorem xg(t:adz):∀(a b:Nat) (p:Probe),gu t (a+b) p=gu t b (gu t a p)
 | 0,b,p=>by rw[acf];rfl
 | a+1,b,p=>by rw[aec];exact xg t a b (lp t p)
theorem AX(t:adz):∀(n:Nat) (p:Probe),p.perturb=0->(gu t n p).i=kR (t.mask+1) n p.i
 | 0,p,_=>rfl
 | n+1,p,h=>by
  show(gu t n (lp t p)).i=kR _ n (y6 _ p.i);rw[AX t n (lp t p) (by show p.perturb / 32=0;rw[h])];show kR _ n ((p.i*5+1+p.perturb / 32) % _)=_;rw[h];rfl
theorem HP(t:adz)(n:Nat)(p:Probe):(gu t (n+1) p).i<t.mask+1:=by
 rw[xg t n 1 p];exact Nat.mod_lt _ ∅
theorem GS(h:Int):bits h<2 ^ 64:=by
 unfold bits;have:=Int.emod_lt_of_pos h (show(0:Int)<2 ^ 64 by decide);have:=Int.emod_nonneg h (show(2 ^ 64:Int)≠0 by decide);omega
theorem Ox{ahE:Nat->Int}{h:Int}(hd:t.dummies= #[])(hn:∀j i,t.slot j=.live i->(ahE i==h)=false)(hp:t.place.size<=t.mask)(hc:iu (t.mask+1)=true):∃j,t.probe ahE h (t.probeStart h)=O (.empty j Z):=by
 obtain⟨e,he,hs⟩:=Qz hd hp;have p13:=wR t 13 (t.probeStart h);have h0:(gu t 13 (t.probeStart h)).perturb=0:=by
  rw[p13.1];exact Nat.div_eq_of_lt (afO (GS h) (by decide))
 obtain⟨k,hk,ek⟩:=y8 hc (HP t 12 (t.probeStart h)) he;have:=F4 hd hn (13+k) (10*turns t.mask-(10*(13+k)+1)) (t.probeStart h) (by
  show runEnd _ _-_<=9;unfold runEnd;split <;> omega) rfl (by
  rw[(wR t (13+k) (t.probeStart h)).2 rfl,xg,AX _ _ _ h0,ek];exact hs)
 rw[show 10*(13+k)+1+(10*turns t.mask-(10*(13+k)+1))=10*turns t.mask by unfold turns;omega] at this;exact this
noncomputable def yo(mask:Nat):Nat->Nat×Nat->Nat×Nat
 | 0,p=>p
 | n+1,p=>yo mask n (leap mask p.1 p.2)
theorem F5(t:adz):∀(n:Nat) (p:Probe),yo t.mask n (p.i,p.perturb)=((gu t n p).i,(gu t n p).perturb)
 | 0,_=>rfl
 | n+1,p=>F5 t n (lp t p)
theorem EK{mask:Nat}{owner:Array (Option Nat)}:∀(n fuel i q:Nat),(owner.getD (yo mask n (i,q)).1 (O 0)).isNone=true->n<fuel->∃j,layClean.free mask owner fuel i q=O j/\(owner.getD j (O 0)).isNone=true
 | n,0,_,_,_,h=>by omega
 | n,fuel+1,i,q,he,hn=>by
  unfold layClean.free;cases hf:(abp (runEnd mask i+1-i)).find? λk=>(owner.getD (i+k) (O 0)).isNone with
  | some k=>exact⟨i+k,rfl,by simpa using List.find?_some hf⟩
  | none=>
   cases n with
   | zero=>
    rw[List.find?_eq_none] at hf;have:=hf 0 (abv.mpr (by unfold runEnd;split <;> omega));exact(this (by simpa[yo] using he)).elim
   | succ n=>exact EK n fuel _ _ he ∅
theorem Pl{mask:Nat}{owner:Array (Option Nat)}{e:Nat}(h:Int)(hc:iu (mask+1)=true)(he:e<mask+1)(hn:(owner.getD e (O 0)).isNone=true):∃j,layClean.free mask owner (turns mask) (bits h % (mask+1)) (bits h)=O j/\(owner.getD j (O 0)).isNone=true:=by
 obtain⟨t,ht⟩:∃t:adz,t.mask=mask:=⟨{ SetTable.fresh 0 0 true with mask:=mask },rfl⟩
 subst ht;have h0:(gu t 13 (t.probeStart h)).perturb=0:=by
  rw[(wR t 13 (t.probeStart h)).1];exact Nat.div_eq_of_lt (afO (GS h) (by decide))
 obtain⟨k,hk,ek⟩:=y8 hc (HP t 12 (t.probeStart h)) he;refine EK (13+k) _ _ _ ?_ (by unfold turns;omega);have:=F5 t (13+k) (t.probeStart h);rw[show((t.probeStart h).i,(t.probeStart h).perturb)=(bits h % (t.mask+1),bits h) from rfl] at this;rw[this,xg,AX _ _ _ h0,ek];exact hn
theorem GU{α:Type}{f g:Nat->Option α}:∀{l:aG},(∀i∈l,g i=f i)->l.filterMap g=l.filterMap f
 | [],_=>rfl
 | a::l,h=>by
  rw[abM,abM,h a abo,GU λi hi=>h i (aba _ hi)]
theorem HQ{α:Type}{f g:Nat->Option α}{j:Nat}{x:α}(hs:∀i,i≠j->g i=f i)(hf:f j=Z)(hg:g j=O x):∀{l:aG},l.Nodup->j∈l->(l.filterMap g).length=(l.filterMap f).length+1
 | [],_,h=>by cases h
 | a::l,hn,h=>by
  obtain⟨h1,h2⟩:=abY.mp hn;by_cases e:a=j
  ·subst e;rw[abM,abM,hf,hg,GU (f:=f) λi hi=>hs i λz=>h1 (z▸hi)];rfl
  ·have hm:j∈l:=(abk.mp h).resolve_left λz=>e z.symm
   have ih:=HQ hs hf hg h2 hm;rw[abM,abM,hs a e];cases f a with
   | none=>exact ih
   | some y=>simp only[abq,ih]
theorem GV{α:Type}{f:Nat->Option α}:∀{l:aG},(l.filterMap f).length<↑l->∃e∈l,f e=Z
 | [],h=>by simp at h
 | a::l,h=>by
  rw[abM] at h;cases hf:f a with
  | none=>exact⟨a,abo,hf⟩
  | some y=>
   rw[hf] at h;simp only[abq] at h;obtain⟨e,he,z⟩:=GV (f:=f) (l:=l) ∅;exact⟨e,aba _ he,z⟩
noncomputable def nW(mask:Nat)(owner:Array (Option Nat)):List (Nat×Nat):=(abp (mask+1)).filterMap λj=>(owner.getD j Z).map (j,·)
structure Ow(mask k:Nat)(owner:Array (Option Nat)):Prop where
 sz:owner.size=mask+1
 n:(nW mask owner).length=k
 lt:∀p∈nW mask owner,p.2<k
theorem Ow.nil(mask:Nat):Ow mask 0 (Array.replicate (mask+1) Z):=by
 have:nW mask (Array.replicate (mask+1) Z)=[]:=by
  unfold nW;rw[List.filterMap_eq_nil_iff];intro j hj;simp[abK,Array.getElem?_replicate];split <;> rfl
 exact⟨by simp,by rw[this];rfl,by rw[this];intro p hp;cases hp⟩
theorem Ow.step{mask k:Nat}{owner:Array (Option Nat)}(o:Ow mask k owner)(h:Int)(hc:iu (mask+1)=true)(hk:k<mask+1):∃j,layClean.free mask owner (turns mask) (bits h % (mask+1)) (bits h)=O j/\Ow mask (k+1) (owner.setIfInBounds j (O k)):=by
 have h1:(nW mask owner).length<(abp (mask+1)).length:=by rw[o.n,abz];exact hk
 obtain⟨e,he,hz⟩:=GV h1;have he:=abv.mp he;have Lf:owner[e]? =O none:=by
  rw[Option.map_eq_none_iff,abK] at hz;rw[aeu (by rw[o.sz];exact he)] at hz ⊢;rw[aew] at hz;rw[hz]
 obtain⟨j,e1,e2⟩:=Pl (owner:=owner) h hc he (by rw[abK,Lf];rfl);rw[abK] at e2;have hj:owner[j]? =O none:=by
  cases hq:owner[j]? with
  | none=>rw[hq] at e2;cases e2
  | some x=>rw[hq] at e2;cases x with
   | none=>rfl
   | some y=>cases e2
 have dc:j<mask+1:=by
  have:=(acs.mp hj).1;rw[o.sz] at this;exact this
 have hs:∀i,i≠j->(owner.setIfInBounds j (O k)).getD i Z=owner.getD i none:=λi hi=>by
  rw[abK,abK,aeX (λz=>hi z.symm)]
 have hg:(owner.setIfInBounds j (O k)).getD j Z=O k:=by
  rw[abK,Array.getElem?_setIfInBounds_self_of_lt (by rw[o.sz];exact dc)];rfl
 have hf:owner.getD j Z=none:=by rw[abK,hj];rfl
 refine⟨j,e1,by rw[Array.size_setIfInBounds];exact o.sz,?_,λp hp=>?_⟩
 ·have:=HQ (f:=λj=>(owner.getD j Z).map (j,·)) (g:=λi=>((owner.setIfInBounds j (O k)).getD i Z).map (i,·)) (j:=j) (x:=(j,k)) (λi hi=>by simp only[hs i hi]) (by simp only[hf];rfl) (by simp only[hg];rfl) aex (abv.mpr dc);unfold nW;rw[this];exact congrArg (· +1) o.n
 ·obtain⟨i,hi,hp⟩:=acY.mp hp;by_cases c:i=j
  ·subst c;rw[hg] at hp;cases hp;exact acA k
  ·rw[hs i c] at hp;exact aem (o.lt p (acY.mpr ⟨i,hi,hp⟩))
theorem F6{mask:Nat}(hc:iu (mask+1)=true):∀(l:bI) (owner:Array (Option Nat)) (k:Nat),Ow mask k owner->k+↑l<=mask+1 →
  ∃HR,l.foldl (λacc h=>do
   let (owner,k) <- acc
   let j <- layClean.free mask owner (turns mask) (bits h % (mask+1)) (bits h)
   pure (owner.setIfInBounds j (O k),k+1)) (O (owner,k))=O (HR,k+↑l)/\Ow mask (k+↑l) HR
 | [],owner,k,o,_=>⟨owner,rfl,o⟩
 | h::l,owner,k,o,hk=>by
  simp only[abq] at hk ⊢;obtain⟨j,e,o'⟩:=o.step h hc ∅;obtain⟨ow,e2,o2⟩:=F6 hc l _ (k+1) o' ∅;refine⟨ow,?_,by rw[show k+(↑l+1)=k+1+↑l by omega];exact o2⟩;rw[List.foldl_cons,show k+(↑l+1)=k+1+↑l by omega,<- e2]
  congr 1
  show(layClean.free mask owner (turns mask) (bits h % (mask+1)) (bits h)).bind _=_;rw[e];rfl
theorem SO{mask finger moves:Nat}{led plain:Bool}{hashes:Array Int}(hc:iu (mask+1)=true)(hn:hashes.size<=mask+1):∃t order,laid mask finger moves led plain hashes=O (t,order)/\t.mask=mask/\t.dummies= #[]/\t.place.size=hashes.size/\order.size=hashes.size/\(∀x∈order.toList,x<hashes.size):=by
 obtain⟨ow,e,o⟩:=F6 hc hashes.toList _ 0 (Ow.nil mask) (by simpa using hn);rw[acf,acj] at e o;have e1:layClean mask hashes=O ow:=by
  unfold layClean;rw[<- Array.foldl_toList,e];rfl
 refine⟨_,_,by unfold laid;rw[e1];rfl,rfl,rfl,?_,?_,λx hx=>?_⟩
 ·simp only[aaV,aaI];exact o.n
 ·simp only[aaV,aaI];exact o.n
 ·have jm:x∈(nW mask ow).map (·.2):=hx;obtain⟨p,hp,rfl⟩:=aaX.mp jm;exact o.lt p hp
noncomputable def i9(n:Nat)(t:adz):Prop:=t.dummies= #[]/\t.place.size=n/\((t.mask=7/\n<5)\/(t.mask=31/\n<19)\/(t.mask=127/\n<77))
theorem i9.y8{n:Nat}(h:i9 n t):iu (t.mask+1)=true:=by
 obtain⟨_,_,⟨e,_⟩ | ⟨e,_⟩ | ⟨e,_⟩⟩:=h <;> rw[e]
 ·exact ZW
 ·exact Ji
 ·exact HL
theorem i9.fits{n:Nat}{t:adz}(h:i9 n t):t.fits n=true:=by
 obtain⟨h1,h2,h3⟩:=h;unfold SetTable.fits ahF;rw[h1,h2];simp;omega
theorem i9.odd{n:Nat}(h:i9 n t):t.gaveWay=false:=by
 unfold SetTable.gaveWay;obtain⟨_,_,⟨e,_⟩ | ⟨e,_⟩ | ⟨e,_⟩⟩:=h <;> rw[e] <;> rfl
section
variable{prog:abI}{w:acg}{A:acF}{E:bR}{s:aaR}{a:abc}{o:Obj}{es:Array (Int×abh)}{ep:Nat}{t:adz}
theorem NL{x:abh}{h:Int}{fuel:Nat}{Q:SetFound->aaR->Prop}(ho:s.heap.get? a=O o)(hd:o.data=.set es ep t)(ht:i9 es.size t)(hn:∀e∈es.toList,e.1≠h)(hq:∀j,Q (.free j false) s):abj (abG prog w) A (setSearchFrom a x h true (fuel+1) Z) Q E s:=by
 unfold setSearchFrom;refine aaH (aeZ ho hd ht.fits ?_)
 dsimp only
 rw[ht.odd];simp only[abD,if_false,agA];obtain⟨j,e⟩:=Ox (t:=t) (ahE:=λi=>(es[i]?.map (·.1)).getD 0) (h:=h) ht.1 (λj i hl=>by
  rcases zZ ht.1 j with z | ⟨i',z,hp⟩
  ·rw[z] at hl;cases hl
  ·rw[z] at hl;cases hl;have hi:i<es.size:=by rw[<- ht.2.1];exact(acs.mp hp).1
   have:=hn es[i] (by simp);rw[aeu hi]
   simpa using this) (by have:=ht.fits;have:=ht.2.2;have:=ht.2.1;omega) ht.y8
 split
 ·next met hm=>
  have:=e.symm.trans hm;cases this;exact aaM (hq j)
 ·next hm=>exact(hm _ e).elim
theorem Mm{b:abc}{ob:Obj}{its:eM}{n:Nat}{Q:Bool->aaR->Prop}(hb:s.heap.get? b=O ob)(hc:ob.cls=.type "tuple")(dq:ob.data=.seq its n)(hi:∀v∈its.toList,∃i tk,v=afc i tk)(h:Q true s):abj (abG prog w) A (hashByValue 8 (.ref b)) Q E s:=by
 have hT:s.TypeIs (.ref b) "tuple":=⟨ob,hb,hc⟩
 unfold hashByValue;refine aaH (acz hT aei.lookup ?_)
 dsimp only
 refine aaH (afT hb dq ?_)
 dsimp only[aew]
 refine aaH ?_;rw[<- aeJ];refine adw _ (λrest r s'=>r.1=Z/\s'=s/\∀v∈rest,∃i tk,v=afc i tk) _ ?_ ?_ _ _ ⟨rfl,rfl,hi⟩
 ·rintro v rest r s' ⟨hr,rfl,gg⟩;obtain⟨i,tk,rfl⟩:=gg v abo;refine aaH (aaM ?_);simp only[aej,abD,if_false];exact aaM ⟨rfl,rfl,λu ub=>gg u (aba _ ub)⟩
 ·rintro⟨r1,r2⟩ s' ⟨hr,rfl,_⟩;simp only at hr;subst hr;exact aaM h
end
theorem zE{α:Type}(xs:Array α)(p:Nat)(x:α):(insertAt xs p x).size=xs.size+1:=by
 unfold insertAt;simp;omega
theorem Nt{α:Type}{xs:Array α}{p:Nat}{x e:α}(h:e∈(insertAt xs p x).toList):e=x\/e∈xs.toList:=by
 unfold insertAt at h;simp only[Array.toList_append,Array.toList_push,Array.toList_extract,abF,aaT] at h
 rcases h with(h | h) | h
 ·right
  exact ahf (ahg h)
 ·exact .inl h
 ·right
  exact ahf (ahg h)
theorem NM{j:Nat}(h:t.dummies= #[]):(t.put j).1.dummies= #[]:=by
 unfold SetTable.put SetTable.has;simp[h]
noncomputable def ja(h:ade)(a:abc)(n:Nat)(hs:bI):Prop:=∃o es ep t,h.get? a=O o/\o.ExactSet/\o.data=.set es ep t/\es.size=n/\i9 n t/\∀e∈es.toList,e.1∈hs
theorem HS{α:Type}{f:Nat->Option α}:∀{l:aG},(∀x∈l,(f x).isSome=true)->(l.filterMap f).length=↑l
 | [],_=>rfl
 | x::l,h=>by
  obtain⟨y,hy⟩:=ach.mp (h x abo);rw[agg hy,abq,abq,HS λz hz=>h z (aba _ hz)]
theorem Eo{o:Obj}{es es':Array (Int×abh)}{ep:Nat}{t':adz}(hx:o.ExactSet)(hd:o.data=.set es ep t):∃lH,(agi es' t' o).data=.set es' lH t'/\(agi es' t' o).ExactSet:=by
 obtain⟨c,d,dat,sl⟩:=o;obtain⟨h1,h2,h3⟩:=hx;simp only at hd h1 h2 h3;subst hd h1 h2 h3;exact⟨_,rfl,rfl,rfl,rfl⟩
theorem Ei{o:Obj}{es es':Array (Int×abh)}{ep:Nat}{t':adz}(hd:o.data=.set es ep t):(agi es' t' o).isFreed=false:=by
 obtain⟨c,d,dat,sl⟩:=o;simp only at hd;subst hd;rfl
section
variable{prog:abI}{w:acg}{A:acF}{E:bR}{s:aaR}{a:abc}{o:Obj}{es:Array (Int×abh)}{ep:Nat}{t:adz}
theorem QA{wanted m:Nat}{Q:Unit->aaR->Prop}(ho:s.heap.get? a=O o)(hd:o.data=.set es ep t)(hf:t.fits es.size=true)(hm:sizeAbove wanted=m+1)(hc:iu (m+1)=true)(hn:es.size<=m+1)(hz:m+1<=abd)(h:∀es' t',es'.size=es.size->t'.mask=m->t'.dummies= #[]->t'.place.size=es.size->(∀e∈es'.toList,e∈es.toList)->Q () { s with heap:=s.heap.update a (agi es' t') }):abj (abG prog w) A (setRelay a wanted) Q E s:=by
 unfold setRelay;refine aaH (aeZ ho hd hf ?_)
 dsimp only
 rw[hm,if_neg ∅];refine aaH ?_;obtain⟨t',order,e,h1,h2,h3,h4,h5⟩:=SO (mask:=m) (finger:=t.finger) (moves:=t.movedTo m) (led:=t.led) (plain:=t.plain) (hashes:=es.map (·.1)) hc (by simpa using hn);have er:t.relaid (es.map (·.1)) wanted=O (t',order):=by
  unfold SetTable.relaid;rw[hm];exact e
 rw[er];rw[Array.size_map] at h3 h4 h5;have gg:∀x∈order.toList,es[x]?.isSome=true:=λx hx=>by
  have:=h5 x hx;simp[this]
 have hsz:(order.filterMap (es[·]?)).size=es.size:=by
  rw[<- h4,<- acj,agF,HS gg,acj]
 show abj _ _ (if((order.filterMap (es[·]?)).size != es.size)=true then _ else _) _ _ _;rw[if_neg (by rw[hsz];simp)];refine aaM ?_;refine wpAny_storeSet_of ho hd (h _ _ hsz h1 h2 h3 λx hx=>?_) (by rw[hsz];omega);rw[agF,acY] at hx;obtain⟨i,_,hi⟩:=hx;exact Array.mem_toList_iff.mpr (Array.mem_of_getElem? hi)
theorem i9.full{n:Nat}{t t':adz}(h:i9 n t)(hn:n+1<77)(hm:t'.mask=t.mask)(hd:t'.dummies= #[])(hp:t'.place.size=n+1):(t'.tooFull=false/\i9 (n+1) t')\/t'.tooFull=true/\t'.fits (n+1)=true/\∃m,sizeAbove (grown (n+1))=m+1/\iu (m+1)=true/\n+1<=m+1/\m+1<=128/\((m=7/\n+1<5)\/(m=31/\n+1<19)\/(m=127/\n+1<77)):=by
 obtain⟨h1,h2,h3⟩:=h;have e1:t'.tooFull=decide ((n+1)*5 >= t.mask*3):=by
  unfold SetTable.tooFull ahF;rw[hp,hd,hm];simp
 have e2:t'.fits (n+1)=decide (n+1<=t.mask):=by
  unfold SetTable.fits ahF;rw[hp,hd,hm];simp
 rw[e1,e2];unfold i9;rw[hd,hp,hm]
 rcases h3 with⟨e,h3⟩ | ⟨e,h3⟩ | ⟨e,h3⟩ <;> rw[e]
 ·by_cases c:n+1<5
  ·exact .inl ⟨by simp;omega,rfl,rfl,.inl ⟨rfl,c⟩⟩
  ·obtain rfl:n=4:=by omega
   exact .inr ⟨by decide,by decide,31,by decide,Ji,by decide,by decide,.inr (.inl ⟨rfl,by decide⟩)⟩
 ·by_cases c:n+1<19
  ·exact .inl ⟨by simp;omega,rfl,rfl,.inr (.inl ⟨rfl,c⟩)⟩
  ·obtain rfl:n=18:=by omega
   exact .inr ⟨by decide,by decide,127,by decide,HL,by decide,by decide,.inr (.inr ⟨rfl,by decide⟩)⟩
 ·exact .inl ⟨by simp;omega,rfl,rfl,.inr (.inr ⟨rfl,∅⟩)⟩
theorem QB{n fuel:Nat}{hs:bI}{b:abc}{ob:Obj}{its:eM}{k:Nat}{h:Int}{Q:Bool->aaR->Prop}(hS:ja s.heap a n hs)(hn:n+1<77)(hh:h∉hs)(hb:s.heap.get? b=O ob)(hc:ob.cls=.type "tuple")(dq:ob.data=.seq its k)(hi:∀v∈its.toList,∃i tk,v=afc i tk)(hq:∀h',ja h' a (n+1) (h::hs)->aed a s.heap h'->Q true { s with heap:=h' }):abj (abG prog w) A (setAddHashedIn a (.ref b) h (fuel+1)) Q E s:=by
 obtain⟨o,es,ep,t,ho,hx,hd,rfl,ht,hm⟩:=hS;unfold setAddHashedIn;refine aaH (aeZ ho hd ht.fits ?_)
 dsimp only
 have Dw:byScan (.ref b) es=false:=rfl;rw[Dw];simp only[abD,if_false];refine aaH (m:=setSearch a (.ref b) h true) (NL (fuel:=99999) ho hd ht (λe he z=>hh (z▸hm e he)) λj=>?_)
 dsimp only
 refine aaH (aeZ ho hd ht.fits ?_)
 dsimp only
 have fin:∀t':adz,t'.mask=t.mask->t'.dummies= #[]->t'.place.size=es.size+1->abj (abG prog w) A (do
   storeSet a (insertAt es (t.put j).2 (h,.ref b)) t'
   if !false&&t'.tooFull then setRelay a (grown (es.size+1))
   return true) Q E s:=λt' e1 e2 e3=>by
  refine aaH (wpAny_storeSet_of ho hd ?_ (by rw[zE];show es.size+1<=abd;rw[agp];omega));have hz:(insertAt es (t.put j).2 (h,abi b)).size=es.size+1:=zE _ _ _;obtain⟨lH,d1,d2⟩:=Eo (es':=insertAt es (t.put j).2 (h,abi b)) (t':=t') hx hd;have g1:=abT (agi (insertAt es (t.put j).2 (h,abi b)) t') ho (Ei hd);have yp:∀e∈(insertAt es (t.put j).2 (h,abi b)).toList,e.1∈h::hs:=λe he=>by
   rcases Nt he with rfl | he
   ·exact abo
   ·exact aba _ (hm e he)
  rcases ht.full hn e1 e2 e3 with⟨q1,q2⟩ | ⟨q1,q2,m,q3,q4,q5,q6,q7⟩
  ·rw[q1];simp only[ahk,abD,if_false];exact aaM (hq _ ⟨_,_,_,_,g1,d2,d1,hz,q2,yp⟩ (acP ..))
  ·rw[q1];simp only[Bool.not_false,ahD,if_true];refine aaH (QA (m:=m) g1 d1 (by rw[hz];exact q2) q3 q4 (by rw[hz];exact q5) (by rw[agp];omega) λes' t2 f1 f2 f3 f4 f5=>?_);obtain⟨ep2,d4,d5⟩:=Eo (es':=es') (t':=t2) d2 d1;have g2:=abT (agi es' t2) g1 (Ei d1);refine aaM (hq _ ⟨_,_,_,_,g2,d5,d4,by rw[f1,hz],⟨f3,by rw[f4,hz],by rw[f2];exact q7⟩,λe he=>yp e (f5 e he)⟩ ?_);exact(acP ..).trans (acP ..)
 have p1:(t.put j).1.mask=t.mask:=rfl;have p2:=NM (j:=j) ht.1;have p3:(t.put j).1.place.size=es.size+1:=by
  show(insertAt t.place _ j).size=_;rw[zE,ht.2.1]
 cases hpl:(t.put j).1.plain with
 | true=>
  simp only[if_true];exact aaH (Mm hb hc dq hi (by simpa using fin _ p1 p2 p3))
 | false=>
  simp only[abD,if_false];exact aaH (aaM (by simpa using fin _ p1 p2 p3))
end
open PySem PySem.SetTable PyProof.Rows
section
variable{prog:abI}{w:acg}{A:acF}{R:Result->aaR->Prop}{I:abc}{fp wr:List abc}{G:Array GenState->Array GenState->Prop}{n:Nat}{P:Nat->abh->Prop}{St:Nat->aaR->Prop}
theorem ja.kept{h h':ade}{a:abc}{m:Nat}{hs:bI}(x:ja h a m hs)(k:∀o,h.get? a=O o->h'.get? a=O o):ja h' a m hs:=by
 obtain⟨o,es,ep,t,ho,r⟩:=x;exact⟨o,es,ep,t,k o ho,r⟩
theorem F7:∀{ks:bI} {vs:aT},ItemsAre (aeT prog w) ks vs->∀v∈vs,∃i tk,v=afc i tk
 | _,_,.nil,v,h=>nomatch h
 | _,_,.cons (k:=k) e r,v,h=>by
  rcases abk.mp h with rfl | h
  ·obtain⟨t,rfl⟩:=Value.isInt_shape e;exact⟨k,t,rfl⟩
  ·exact F7 r v h
theorem Yf(W:WalksS prog w A.in1 I fp wr G n P St)(S:abc)(y9:S∉fp)(hu:A.in1.units<aep)(h₀:ade)(ks:Nat->List Int)(tZ:∀i v,P i v->∃b,v=.ref b/\b∉S::wr/\agb (aeT prog w) h₀ (ks i) b)(hb:n<77)(tR:∀i j,i<n->j<i->acu (aeT prog w) (ks i)≠acu (aeT prog w) (ks j)):∀(k i:Nat) (s:aaR),n-i=k->i<=n->St i s->(∀b o,b∉S::wr->h₀.get? b=O o->s.heap.get? b=O o) → ja s.heap S i ((abp i).map λj=>acu (aeT prog w) (ks j)) → (∀s',Moved (S::wr) G s s'->ja s'.heap S n ((abp n).map λj=>acu (aeT prog w) (ks j))->R (.ok (.ret .none)) s') → ahJ (abG prog w) A (.builtin "set.update.loop" ⟨[.ref S,.ref I],[]⟩) R s:=by
 have Lg:S∉wr:=λh=>y9 (W.sub _ h)
 have t9:∀b∈wr,b∈S::wr:=λb hb=>aba _ hb
 intro k
 induction k with
 | zero=>
  intro i s hk hi dM jY hS hR;obtain rfl:i=n:=by omega
  refine adN agu ?_;rw[adf aeP _];show abj _ A.in1 (ahj (.ref I) >>= _) _ _ s;refine aaH (W.done s _ _ dM λs' hm=>?_);show abj _ A.in1 (ret abN) _ _ s';exact aaM (hR s' (hm.mono t9) (hS.kept λo e=>hm.heap S o Lg e))
 | succ k ih=>
  intro i s hk hi dM jY hS hR;have cJ:i<n:=by omega
  refine adN agu ?_;rw[adf aeP _];show abj _ A.in1 (ahj (.ref I) >>= _) _ _ s;refine aaH (W.item i s _ _ cJ dM λv s' hP ZX hm=>?_);obtain⟨b,rfl,gE,ob,its,kk,kQ,qI,Lh,Li⟩:=tZ i v hP;have za:s'.heap.get? b=O ob:=hm.heap b ob (λz=>gE (t9 b z)) (jY b ob gE kQ);have uK:=hS.kept (h':=s'.heap) λo e=>hm.heap S o Lg e
  show abj _ A.in1 (afz [abi b] (setAdd S (.ref b)) >>= _) _ _ s';refine aaH (abS ?_);unfold setAdd;refine abS ?_;refine aaH (afL (knd:=aeT prog w) hu ⟨ob,its,kk,za,qI,Lh,Li⟩ ?_);unfold setAddHashed;refine abS ?_;refine QB (fuel:=99999) (s:={ s' with toks:=s'.toks+((ks i).length+1) }) uK ∅ (λz=>?_) za qI Lh (F7 Li) λh' ji kM=>?_
  ·obtain⟨j,hj,e⟩:=aaX.mp z;exact tR i j cJ (abv.mp hj) e.symm
  refine aaM ⟨ags aeP _,ih (i+1) _ ∅ cJ (W.frame _ s' _ _ ZX (Nat.le_add_right _ _) λc hc o e=>?_) (λc o hc e=>?_) ?_ λfE ZY ZZ=>?_⟩
  ·rw[kM.2 c (λh:c=S=>y9 (by rw[<- h];exact hc))];exact e
  ·show h'.get? c=O o;rw[kM.2 c (λh:c=S=>hc (by rw[h];exact abo))];exact hm.heap c o (λz=>hc (t9 c z)) (jY c o hc e)
  ·obtain⟨o,es,ep,t,q1,q2,q4,q5,q6,q7⟩:=ji;refine⟨o,es,ep,t,q1,q2,q4,q5,q6,λe he=>?_⟩;rw[List.range_succ,abZ]
   rcases abk.mp (q7 e he) with z | z
   ·rw[z];simp
   ·exact abQ _ z
  ·refine hR fE (Moved.trans W.gtrans ((hm.mono t9).then_heap (Nat.le_add_right _ _) λc o hc e=>?_) ZY) ZZ;rw[kM.2 c (λh:c=S=>hc (by rw[h];exact abo))];exact e
end
section
variable{prog:abI}{w:acg}{A:acF}{E:bR}{s:aaR}
noncomputable def kB(led:Bool):Obj:={ cls:=.type "set",dict:=Z,data:=.set #[] 0 (.fresh 0 0 led) }
theorem Pm{l:abc}{items:eM}{ks:Nat->List Int}{Q:bR}(hh:A.handled=Z)(hu:A.units+8<aep)(hl:s.heap.IsList l items)(tZ:∀i v,items[i]? =O v->∃b,v=.ref b/\agb (aeT prog w) s.heap (ks i) b)(hb:items.size<77)(tR:∀i j,i<items.size->j<i->acu (aeT prog w) (ks i)≠acu (aeT prog w) (ks j))(h:∀h' tk hs,ja h' s.heap.objs.size items.size hs->(∀b o,b<s.heap.objs.size->s.heap.get? b=O o->h'.get? b=O o)->Q (.ref s.heap.objs.size) { s with heap:=h',toks:=tk }) :
  abj (abG prog w) A (call (.type "set") [.ref l]) Q E s:=by
 obtain⟨c,tl,aay⟩:=acI.mro;have aao:=acI.made;have t9:=acI.sub;refine ahL (codeAny_of_tree ?_);show abj _ _ (callAny (.type "set") _) _ _ _;refine aaM ⟨Code.quiet_builtin _ (by decide +kernel),adN PySem.F.entry_type_call ?_⟩;rw[Around.under_plain (weight_type_call_type "set" [.ref l] []) rfl];have h1:=acI.notType;have h2:=acI.canCreate;have yR:=PySem.F.typeCall_set_1 (.ref l)
 repeat (any_goals (first | assumption | wp_step))
 refine aef (code_set_new_1 (.ref l) (E:=E) (Q₁:=λobj bT=>∃led:Bool,obj=.ref s.heap.objs.size/\bT={ s with heap:=s.heap.push (kB led) }) λled=>⟨led,rfl,rfl⟩) λr bT hr=>?_
 cases r with
 | error e=>exact hr
 | ok fl=>
  cases fl with
  | ret obj=>
   obtain⟨led,rfl,rfl⟩:=hr;have hS:(s.heap.push (kB led)).get? s.heap.objs.size=O (kB led):=abl _ rfl;have hT:Shared.TypeIs { s with heap:=s.heap.push (kB led) } (.ref s.heap.objs.size) "set":=⟨_,hS,rfl⟩
   have hli:=acI.init.lookup;have hbi:=acI.init.bind (.ref s.heap.objs.size)
   repeat (any_goals (first | assumption | wp_step))
   refine aef (codeAny_call_builtin (R:=wants (λr kX=>r=.none/\∃h' tk hs,kX={ s with heap:=h',toks:=tk }/\ja h' s.heap.objs.size items.size hs /\
     (∀b o,b<s.heap.objs.size->s.heap.get? b=O o->h'.get? b=O o)) E) acI.init.plain PySem.F.entry_set_init (check_set_init_1 hT ?_)) λaal kX Dx=>?_
   ·obtain⟨ol,yS,eS,nl,iN⟩:=hl;obtain⟨aaz,aap,aaq,aan⟩:=ol;simp only at eS iN;subst eS;subst iN;have Z0:=aaO (kB led) yS;have aaA:=PySem.F.sub_list_set;have aaB:=PySem.F.sub_list_frozenset;have jk:(ahI "list"==ahI "dict")=false:=by decide
    have jn:(s.heap.push (kB led)).IsList l items:=⟨_,Z0,rfl,nl,rfl⟩
    unfold Builtin.«set.__init__» noKeywords Builtin.Frozenset.updateFrom;generalize hPI:pyIter=PI
    wp_walk
    subst hPI;refine aeU jn ?_;refine aaH (wpAny_runValue ?_);have Lj:l<s.heap.objs.size:=aaU yS;have hh3:A.in1.in1.in1.handled=none:=by simp[hh]
    have hz:(s.heap.push (kB led)).objs.size=s.heap.objs.size+1:=Heap.size_push ..;have Z1:l≠(s.heap.push (kB led)).objs.size:=by rw[hz];exact abu (aem Lj)
    have y9:s.heap.objs.size∉[(s.heap.push (kB led)).objs.size,l]:=by
     rw[hz];simp only[abk,afn,or_false,not_or];exact⟨abu (acA _),acD Lj⟩
    refine Yf ((Walks.list hh3 _ l Z1 items).toS) s.heap.objs.size y9 (by simp only[Around.in1_units];omega) s.heap ks (λi v hv=>?V) hb tR (items.size-0) 0 _ ∅ (aca _)
     ⟨⟨_,abl _ rfl,rfl,rfl⟩,(jn.push _)⟩ (λb o hb e=>aaO _ (aaO _ e)) ?S0 ?R0
    case V=>
     obtain⟨b,rfl,hk⟩:=tZ i v hv;refine⟨b,rfl,?_,hk⟩;obtain⟨o,_,_,e,_⟩:=hk;have:=aaU e;rw[hz];simp only[abk,afn,or_false,not_or];exact⟨abu this,abu (aem this)⟩
    case S0=>exact⟨kB led,#[],0,_,aaO _ hS,⟨rfl,rfl,rfl⟩,rfl,rfl,⟨rfl,rfl,.inl ⟨rfl,by decide⟩⟩,λe he=>nomatch he⟩
    case R0=>
     intro s' hm uK;obtain⟨h',g',d',yQ,CC⟩:=s';obtain rfl:g'=s.gens:=hm.gens;obtain rfl:d'=s.drawn:=hm.drawn;obtain rfl:CC=s.os:=hm.os;show abj _ _ _ _ _ _;refine aaM ?_;show abj _ _ (ret abN) _ _ _;refine aaM ⟨rfl,h',yQ,_,rfl,uK,λb o hb e=>?_⟩;exact hm.heap b o (by rw[hz];simp only[abk,afn,or_false,not_or];exact⟨abu hb,abu (aem hb)⟩) (aaO _ (aaO _ e))
   ·cases aal with
    | error e=>exact Dx
    | ok aak=>
     cases aak with
     | ret r=>
      obtain⟨rfl,h',tk,hs,rfl,uK,qy⟩:=Dx
      repeat (any_goals (first | assumption | wp_step))
      exact h _ _ _ uK qy
     | _=>exact Dx.elim
  | _=>exact hr.elim
theorem MM{a:abc}{n:Nat}{hs:bI}{Q:bR}(hS:ja s.heap a n hs)(h:∀t,Q (.int n t) { s with toks:=t+1 }):abj (abG prog w) A (call (.builtin "len") [.ref a]) Q E s:=by
 obtain⟨o,es,ep,t,ho,hx,hd,rfl,ht,_⟩:=hS;have h3:=ht.2.2;exact call_len_set ho hx hd ht.fits (Int.lt_of_lt_of_le (show(es.size:Int)<77 by omega) (by decide)) (h _)
end
end L2
namespace IL
open PySem PySem.Spec PyProof.Rows L2
noncomputable def yq(a:abc)(n:Nat)(hs:bI):HO:=.ext λh=>ja h a n hs
noncomputable def iB(ks:bI):Int:=reduceHash (acd (ks.map hashInt))
abbrev Jj(H:Hp):aE->List bI->Prop:=aco λv ks=>∃b,v=.ref b/\H b=O (.tup (ks.map V.int))
noncomputable def Z2:aE->Hp->VK->Prop:=λxs H Q=>∃l vs bG,xs=[.ref l]/\H l=O (.lst vs)/\Jj H vs bG/\↑bG<77/\(bG.map iB).Nodup/\∀p hs,H p=Z->Q (.ref p) (upd H p (yq p ↑bG hs))
theorem F8{P:abI}{w:acg}:∀{ks:bI} {us:aT},Vals (ks.map V.int) us->ItemsAre (aeT P w) ks us
 | [],_,.nil=>.nil
 | k::ks,_,.cons r t=>by
  obtain⟨tk,rfl⟩:=r;exact .cons (by simp[aeT,ahX]) (F8 t)
section
variable{X:Cx}
theorem QC(hc:X.calm=true)(hu:X.A.units+64<aep):c4 X (.type "set") Z2:=by
 intro pins s σ H xs us Q I r h;obtain⟨l,vs,bG,rfl,hl,ht,hz,nd,h⟩:=h;obtain⟨u,rfl,rx⟩:=vals1 r;obtain rfl:u=abi l:=rx;have hA:X.A.handled=none:=I.ok.hd hc;have hn:=I.aB.fresh (aaN s.heap.objs.size);obtain⟨its,rv,pl,_⟩:=I.list (bH.of hl);have bV:its.toArray.size=↑bG:=by
  rw[aaV,<- ↑rv,adg ht]
 have tZ:∀i v,its.toArray[i]? =O v->∃b,v=.ref b/\agb (aeT X.prog X.w) s.heap (bG.getD i []) b:=λi v hv=>by
  have ux:its[i]? =O v:=by simpa using hv
  obtain⟨x,hx,rx⟩:=agR rv ux;obtain⟨ks,hk,b,rfl,hb⟩:=aco.left ht hx;obtain rfl:v=abi b:=rx;obtain⟨_,its',r',o,h1,h2,n,h3⟩:=(show cY X.prog X.w H s.heap b (.tup (ks.map V.int)) from I.aB b _ hb)
  refine⟨b,rfl,o,its'.toArray,n,h1,h2,h3,?_⟩;rw[acK,hk]
  simpa using F8 r'
 refine Pm (ks:=λi=>bG.getD i []) hA ∅ pl.isList tZ (by rw[bV];exact hz) (λi j hi hj z=>?_) λh' tk hs hS hk=>?_
 ·rw[bV] at hi;have e1:(bG.map iB)[i]? =O (iB (bG.getD i [])):=by rw[aaK,acK,abP hi];rfl
  have e2:(bG.map iB)[j]? =O (iB (bG.getD j [])):=by rw[aaK,acK,abP (afO hj hi)];rfl
  have z':iB (bG.getD i [])=iB (bG.getD j []):=z;have:=(adR (by rw[aaI];exact hi) nd).mp (e1.trans (by rw[z',e2]));omega
 ·rw[bV] at hS;exact⟨.ref s.heap.objs.size,_,I.laid (a:=s.heap.objs.size) (o:=yq s.heap.objs.size ↑bG hs) (t':=tk) (λb o e=>hk b o (aaU e) e) (aaN _) ⟨hS,(let ⟨o,_,_,_,e,_⟩:=hS;⟨o,e⟩),λh1 h2 q k=>ja.kept q k⟩,rfl,h _ hs hn⟩
noncomputable def Yg:aE->Hp->VK->Prop:=λxs H Q=>∃p n hs,xs=[.ref p]/\H p=O (yq p n hs)/\Q (.int n) H
theorem Pn:c4 X (.builtin "len") Yg:=by
 intro pins s σ H xs us Q I r h;obtain⟨p,n,hs,rfl,hp,h⟩:=h;obtain⟨u,rfl,rx⟩:=vals1 r;obtain rfl:u=abi p:=rx;obtain⟨hS,_,_⟩:=(show cY X.prog X.w H s.heap p (yq p n hs) from I.aB p _ hp)
 exact MM hS λt=>⟨.int n,H,I.tok _,⟨_,rfl⟩,h⟩
end
noncomputable def J5:W->Option Int
 | .int i=>O i
 | _=>Z
noncomputable def BU:W->Option bI
 | .tup ws=>ba J5 ws
 | _=>Z
noncomputable def xi(w:W):Po W:=λph=>match w with
 | .ref i=>match ph[i]? with
  | some (.lst ws)=>match ba BU ws with
   | some bG=>if ↑bG<77/\(bG.map iB).Nodup then O (.int ↑bG,ph) else Z
   | none=>Z
  | _=>Z
 | _=>Z
noncomputable def r8(m:EM):EM:=λσ=>au (m σ) λw=>lift (xi w)
section
variable{K:aaJ}{φ:Nat->abc}{n:Nat}{H:Hp}
theorem F9:∀{ws:ap} {vs:aE} {ks:bI},aN K φ n H ws vs->ba J5 ws=O ks->vs=ks.map V.int
 | [],_,_,.nil,h=>by cases h;rfl
 | w::ws,_,ks,.cons r t,h=>by
  unfold ba at h;split at h
  ·rename_i k kC h1 h2;cases h;cases r <;> first | (cases h1;done) | skip
   cases h1;rw[abt,F9 t h2]
  ·cases h
theorem Fn:∀{ws:ap} {vs:aE} {bG:List bI},aN K φ n H ws vs->ba BU ws=O bG->Jj H vs bG
 | [],_,_,.nil,h=>by cases h;exact .nil
 | w::ws,_,bG,.cons r t,h=>by
  unfold ba at h;split at h
  ·rename_i ks Zo h1 h2;cases h;cases r <;> first | (cases h1;done) | skip
   rename_i a us h0 r0;exact .cons ⟨_,rfl,by rw[<- F9 r0 h1];exact h0⟩ (Fn t h2)
  ·cases h
theorem step_any{p:abc}{o:HO}(hp:H p=Z):Step K φ n H φ n (upd H p o):=by
 refine⟨aaN _,λ_ _=>rfl,λa ys h=>?_,λa o u h=>?_⟩
 ·rw[aI (cC h hp)];exact h
 ·rw[aI (cC h hp)];exact h
theorem aC.any{ph:PH}{p:abc}{x:HO}(h:aC K φ ph H)(hp:H p=Z):aC K φ ph (upd H p x):=by
 refine⟨λi o e=>?_,h.inj,λp hm=>(h.tb p hm).new hp⟩;have hi:i<↑ph:=(aaG.mp e).1;obtain⟨y,ey,_⟩:=h.at hi;exact(h.hp i o e).mono (step_any hp) (aI (cC ey hp))
end
section
variable{X:Cx}{e:acJ}{m:EM}{p p2 pos mB:Pos}
theorem Fo(dM:isStar e=false)(hg:Gl X "len")(hm:X.mg "len"=Z)(Dy:Gl X "set")(zb:X.mg "set"=Z)(hc:X.calm=true)(hu:X.A.units+64<aep)(he:JE X e m):JE X (.Call (.Name "len" p) [.Call (.Name "set" p2) [e] [] mB] [] pos) (r8 m):=
 ⟨PE.imp (Ag Pn hg hm afZ (nz (EV (QC hc hu) Dy zb PyProof.Rows.boot_set (nz he.h sx (fQ dM)) (by decide) (by decide) (fQ dM) rfl) sx)) λσ H Q h=>by
  obtain⟨φ,ph,ws,hH,hS,h⟩:=h;refine tM.bind hH hS h λw ph1 aq H1 v aw s1 r1 h=>?_
  obtain⟨w',ph',e,k⟩:=run_lift h;unfold xi at e;cases r1 with
  | ref hi=>
   simp only at e;split at e
   ·rename_i dh hw;split at e
    ·rename_i bG hk;split at e
     ·rename_i hz;cases e;obtain⟨vs,hv,rv⟩:=aw.hp _ _ hw;refine⟨_,vs,bG,rfl,hv,Fn rv hk,hz.1,hz.2,λq hs hq=>?_⟩;exact⟨q,_,hs,rfl,bX,k aq _ _ (aw.any hq) (s1.trans (step_any hq)) (.int _)⟩
     ·cases e
    ·cases e
   ·cases e
  | _=>cases e⟩
end
end IL
local macro_rules | `(tactic| ac_nf) => `(tactic| push_cast [if_true])
local macro_rules | `(tactic| push_cast [$as:simpLemma,*]) => `(tactic| try simp only [IL.k9, IL.Se, IL.Sd, IL.fA, IL.Sf, IL.Vz, IL.VA, IL.XA, IL.XB, IL.hO, IL.VB, IL.i8, IL.Sg, IL.FX, IL.rY, IL.Qp, IL.VC, IL.rZ, IL.Bm, IL.AS, IL.Qq, IL.Ap, IL.AU, IL.Qr, IL.Pf, IL.xb, IL.Aq, IL.Sh, IL.AV, IL.VD, IL.Si, IL.VE, IL.Sj, IL.Fi, IL.wQ, IL.Sk, IL.Sl, IL.jN, IL.tW, IL.yl, IL.tX, IL.XD, IL.XF, IL.XG, IL.Zw, IL.Zx, IL.Zy, IL.Zz, IL.XM, IL.VF, IL.XN, IL.XO, IL.XQ, IL.ZA, IL.VG, IL.VH, IL.VI, IL.BQ, IL.XR, IL.Qo, IL.Vw, IL.Vx, IL.Vy, decide_true, decide_false, Bool.false_eq_true, Bool.not_true, Bool.not_false, IL.XU, IL.XW, IL.XX, IL.ZC, IL.ZD, IL.ZE, IL.mF, IL.ZF, IL.ZG, IL.ZH, IL.ZI, IL.ZJ, IL.ZK, IL.ZM, IL.ZN, IL.ZO, IL.ZP, IL.VJ, IL.VL, IL.VM, IL.VN, IL.VO, IL.VP, IL.XY, IL.XZ, IL.X0, IL.X1, IL.X2, IL.VQ, IL.X3, IL.Sn, IL.So, IL.Sq, IL.Sr, IL.ym, IL.ZR, IL.X6, IL.X7, IL.X8, IL.X9, IL.Ya, IL.HG, IL.HH, IL.FZ, IL.SD, IL.X5, IL.Jf, Bool.or_false, Bool.false_or, Bool.or_true, Bool.true_or, Bool.and_true, Bool.true_and, Bool.and_false, Bool.false_and, Nat.reduceSub, List.reduceReplicate, List.set_cons_zero, List.set_cons_succ, if_true, if_false, ↓reduceIte, String.reduceEq, reduceCtorEq, $as,*])
local macro_rules | `(⋯) => `(by decide +kernel)
local macro_rules | `(⇑$x) => `(some (.ref $x))
local macro_rules | `(↥$x) => `(some (.int $x))
local macro_rules | `(~~~$x) => `(Option.some (IL.W.fl (List.map IL.W.int $x)))
local macro_rules | `({$x:num}) => `(IL.eC (IL.W.int $x))
local macro_rules | `({-$x}) => `(IL.eC (IL.W.int (-$x)))
local macro_rules | `({$x:str}) => `(IL.eC (IL.W.str $x))
local macro_rules | `(letI $v:ident := ($x, $i); $b) => `(have $v {p : PySem.Pos} := $(Lean.mkIdent `B.jv) (pos := p) (x := $x) $i rfl (.inl (by decide +kernel)) (by decide +kernel); $b)
namespace IL.K25
open PySem PySem.Spec PyProof.Rows L2
theorem J6(us:aT)(hl:↑us=1):∃a,us=[a]:=List.length_eq_one_iff.mp hl
theorem J7(us:aT)(hl:↑us=2):∃a1 a2,us=[a1,a2]:=by
 cases us with
 | nil=>cases hl
 | cons a1 us=>
  obtain⟨a2,rfl⟩:=J6 us (agV hl);exact⟨a1,a2,rfl⟩
theorem J8(us:aT)(hl:↑us=3):∃a1 a2 a3,us=[a1,a2,a3]:=by
 cases us with
 | nil=>cases hl
 | cons a1 us=>
  obtain⟨a2,a3,rfl⟩:=J7 us (agV hl);exact⟨a1,a2,a3,rfl⟩
theorem J9(us:aT)(hl:↑us=4):∃a1 a2 a3 a4,us=[a1,a2,a3,a4]:=by
 cases us with
 | nil=>cases hl
 | cons a1 us=>
  obtain⟨a2,a3,a4,rfl⟩:=J8 us (agV hl);exact⟨a1,a2,a3,a4,rfl⟩
theorem Z3(us:aT)(hl:↑us=5):∃a1 a2 a3 a4 a5,us=[a1,a2,a3,a4,a5]:=by
 cases us with
 | nil=>cases hl
 | cons a1 us=>
  obtain⟨a2,a3,a4,a5,rfl⟩:=J9 us (agV hl);exact⟨a1,a2,a3,a4,a5,rfl⟩
noncomputable def top(i:Nat):Stmt:=PySem.Challenge.pw_boxwright_k25_whole_threaded.main.body.getD i (.Pass ⟨0,0,0,0⟩)
abbrev vF:Stmt:=top 13
abbrev vg:Stmt:=top 14
abbrev vN:Stmt:=top 15
abbrev vG:Stmt:=top 16
abbrev vO:Stmt:=top 17
abbrev vh:Stmt:=top 18
abbrev wU:Stmt:=top 7
abbrev vU:Stmt:=top 8
abbrev vd:Stmt:=top 5
abbrev vP:Stmt:=top 1
abbrev jt:Stmt:=top 2
abbrev xj:Stmt:=top 3
abbrev u7:Stmt:=top 9
abbrev vA:Stmt:=top 10
abbrev fy:Stmt:=top 11
abbrev we:Stmt:=top 23
abbrev vj:Stmt:=top 22
abbrev wg:Stmt:=top 19
abbrev wj:Stmt:=top 20
abbrev wm:Stmt:=top 21
abbrev vV:Stmt:=top 24
abbrev vH:Stmt:=top 25
abbrev vI:Stmt:=top 26
abbrev kq:Stmt:=top 27
noncomputable def vJ:SM:=(aA (cb (eT (ab dG (aa 1) (aV a7 (ae (aa 0) ag)))) (bB (ab af (aa 0) (aa 1))) cj) (bB {0}))
noncomputable def fx:ap->Mo W:=fM vJ 2 2
noncomputable def vk:SM:=(aA (cb (eT (ab a9 (ab bJ (aa 0) {4}) {3})) (bB (ab af (b9 (ae {2147483647} (ae (mP lB {2147483648}) (ae {65536} (ae (mP lB {1}) (ae {46341} (ae (mP lB {65537}) (ae {1} (ae {0} ag))))))))) (ab bJ (ab cN (aa 0) {4}) {8}))) cj) (aA (cb (eT (ab a9 (ab bJ (aa 0) {4}) {2})) (bB (ab lC (ab bJ (ab c7 (ab cN (aa 0) {4}) {48271}) {4294967296}) {2147483648})) cj) (aA (cb (eT (ab a9 (ab bJ (aa 0) {4}) {1})) (bB (ab lC (ab bJ (ab cN (aa 0) {4}) {100003}) {1000})) cj) (bB (ab lC (ab bJ (ab cN (aa 0) {4}) {19}) {6})))))
noncomputable def zA:ap->Mo W:=fM vk 1 1
noncomputable def vQ:SM:=(aA (aK (ab bJ (aa 0) {12}) (gN 3)) (aA (aK (ab bJ (ab c7 (ab cN (aa 0) {12}) {48271}) {2147483647}) (gN 4)) (aA (aK (ab bJ (aa 4) (aa 1)) (gN 5)) (aA (aK (ab bJ (ab cN (aa 4) {9}) (aa 1)) (gN 6)) (aA (aK (ab bJ (ab cN (aa 4) {81}) (aa 2)) (gN 7)) (aA (cb (eT (ab dG (aa 3) {5})) (aA (aK (ab af (b9 (ae {"sum"} (ae {"less"} (ae {"times"} (ae {"part"} (ae {"below"} (ae {"alike"} ag))))))) (ab bJ (ab cN (aa 4) {486}) {6})) (gN 8)) (bB (bp (ae {"do"} (ae (aa 5) (ae (aa 8) (ae (aa 6) (ae (ab bJ (ab cN (aa 4) {2916}) (aa 1)) ag)))))))) cj) (aA (aK (b9 (ae (bp (ae {"put"} (ae (aa 5) (ae (bh zA (ae (ab cN (aa 4) {9}) ag)) ag)))) (ae (bp (ae {"move"} (ae (aa 5) (ae (aa 6) ag)))) (ae (bp (ae {"pull"} (ae (aa 5) (ae (aa 7) ag)))) (ae (bp (ae {"push"} (ae (aa 7) (ae (aa 5) ag)))) ag))))) (gN 9)) (aA (aK (ab addW (aa 9) (b9 (ae (bp (ae {"take"} (ae (aa 5) ag))) (ae (bp (ae {"tell"} (ae (aa 5) ag))) (ae (bp (ae {"turn"} ag)) ag))))) (gN 9)) (bB (ab af (aa 9) (ab lC (aa 3) {5})))))))))))
noncomputable def zK:ap->Mo W:=fM vQ 10 3
noncomputable def vK:SM:=(aA (aK (cU (eB (ae (aa 2) ag)) [Z,O 1,O 3] (gN 0) (c9 (eT (ab gr (aa 0) (aa 1))) (c9 (eT (ab dZ (aa 0) (aa 2))) (fc (eT (ab a9 (aa 0) {0})) (eT (ab dZ (aa 1) (aa 2)))))) (aa 0)) (gN 4)) (aA (cb (eT (ab a9 (aa 4) (b9 ag))) (bB (eC .aH)) cj) (bB (ab af (aa 4) (ab bJ (aa 0) (aV a7 (ae (aa 4) ag)))))))
noncomputable def pe:ap->Mo W:=fM vK 5 4
noncomputable def vR:SM:=(aA (aK (ab bJ (ab c7 (aa 0) {48271}) {2147483647}) (gN 0)) (aA (aK (bh pe (ae (ab cN (aa 0) {8}) (ae (aa 1) (ae (aa 2) (ae (aa 3) ag))))) (gN 5)) (aA (aK (bh pe (ae (ab cN (aa 0) {800}) (ae (aa 1) (ae (aa 2) (ae (aa 3) ag))))) (gN 6)) (aA (cb (c9 (eT (ab jK (aa 5) (eC .aH))) (eT (ab a9 (ab bJ (aa 0) {8}) {0}))) (bB (bp (ae {"end"} ag))) cj) (aA (cb (eT (ab dG (ab bJ (aa 0) {8}) {4})) (bB (bp (ae {"if"} (ae (ab bJ (ab cN (aa 0) {80000}) (aa 4)) (ae (aa 5) (ae (aa 6) ag)))))) cj) (bB (bp (ae {"go"} (ae (aa 5) ag)))))))))
noncomputable def zL:ap->Mo W:=fM vR 7 5
noncomputable def zr:SM:=(gc (dW du d6 (aa 9) (ae (bh zK (ae (ab addW (ab c7 (ab af (aa 5) (ab addW (ab addW (ab c7 {4} (aa 8)) {1}) (ab bJ (aa 10) {2}))) (ab addW {1} (aa 10))) (aa 8)) (ae (aa 3) (ae (aa 4) ag)))) ag)))
noncomputable def u6:SM:=(aA (aK (ab c7 (b9 (ae (bp (ae {"turn"} ag)) ag)) (aV n8 (ae (ab dZ (aa 8) (aa 6)) ag))) (gN 9)) (aA (d9 (eB (ae (ab af (b9 (ae {0} (ae {0} (ae {1} (ae {2} (ae {3} ag)))))) (ab bJ (ab cN (ab af (aa 5) (ab c7 {4} (aa 8))) {4}) {5})) ag)) (gN 10) zr) (gc (dW du d6 (aa 7) (ae (bp (ae (aa 9) (ae (bh zL (ae (ab addW (ab af (aa 5) (ab addW (ab c7 {4} (aa 8)) {3})) (aa 8)) (ae (aa 8) (ae (aa 2) (ae (aa 6) (ae (aa 3) ag)))))) ag))) ag)))))
noncomputable def vm:SM:=(aA (aK (cU (eB (ae (ab c7 {4} (aa 2)) ag)) [Z,O 0,O 1] (gN 0) cF (ab addW (bh fx (ae (aa 1) (ae (ab addW (aa 2) (ab bJ (aa 0) {40})) ag))) (ab c7 {91} (ab cN (aa 0) {40})))) (gN 5)) (aA (aK (cU (eB (ae (aa 2) ag)) [Z,O 5] (gN 0) (eT (ab a9 (ab bJ (ab af (aa 1) (ab c7 {4} (aa 0))) {4}) {1})) (aa 0)) (gN 6)) (aA (aK (b9 ag) (gN 7)) (aA (d9 (eB (ae (aa 2) ag)) (gN 8) u6) (bB (aa 7))))))
noncomputable def zB:ap->Mo W:=fM vm 11 5
noncomputable def zM:SM:=(aA (aK (ab af (aa 0) (aa 1)) (gN 3)) (aA (cb (c9 (eT (ab gr (aV a7 (ae (ab af (aa 3) {0}) ag)) {0})) (eT (ab dC (ab af (ab af (aa 3) {1}) {0}) {"go"}))) (bB (aa 1)) cj) (aK (ab af (ab af (aa 3) {1}) {1}) (gN 1))))
noncomputable def wV:SM:=(aA (d9 (eB (ae (aV a7 (ae (aa 0) ag)) ag)) (gN 2) zM) (bB (aa 1)))
noncomputable def rV:ap->Mo W:=fM wV 4 2
noncomputable def vW:SM:=(aA (cb (eT (ab a9 (ab af (aa 0) {0}) {"go"})) (bB (bp (ae {"go"} (ae (ab af (aa 1) (ab af (aa 0) {1})) ag)))) cj) (aA (cb (eT (ab a9 (ab af (aa 0) {0}) {"if"})) (bB (bp (ae {"if"} (ae (ab af (aa 0) {1}) (ae (ab af (aa 1) (ab af (aa 0) {2})) (ae (ab af (aa 1) (ab af (aa 0) {3})) ag)))))) cj) (bB (aa 0))))
noncomputable def m9:ap->Mo W:=fM vW 2 2
noncomputable def ve:SM:=(aA (cb (eT (ab a9 (ab af (aa 0) {0}) {"go"})) (bB (b9 (ae (ab af (aa 0) {1}) ag))) cj) (aA (cb (eT (ab a9 (ab af (aa 0) {0}) {"if"})) (bB (b9 (ae (ab af (aa 0) {2}) (ae (ab af (aa 0) {3}) ag)))) cj) (bB (b9 ag))))
noncomputable def qS:ap->Mo W:=fM ve 1 1
noncomputable def pz:EM:=(ab af (aa 1) (aa 0))
noncomputable def pj:EM:=(bh qS (ae (ab af (aa 1) (aa 0)) ag))
noncomputable def zC:SM:=(cb (eT (ab fj (aa 4) (aa 2))) (aA (aK (eC .aH) (pN (aa 2) (aa 4))) (gc (dW du d6 (aa 3) (ae (aa 4) ag)))) cj)
noncomputable def vn:SM:=(cb (eT (ab fj (aa 7) (aa 2))) (aA (aK (aa 6) (pN (aa 2) (aa 7))) (gc (dW du d6 (aa 3) (ae (aa 7) ag)))) cj)
noncomputable def vp:SM:=(aA (aK (ab af (aa 3) (aa 5)) (gN 6)) (aA (aK (ab JZ (aa 5) {1}) (gN 5)) (d9 (cV (sX "aheads" 1 (jM "aheads" pz 1 (ae (aa 6) ag)) (jM "threaded" pj 1 (ae (aa 6) ag)))) (gN 7) vn)))
noncomputable def vS:SM:=(aA (aK yi (gN 2)) (aA (aK (b9 ag) (gN 3)) (aA (d9 (cV (aa 0)) (gN 4) zC) (aA (aK {0} (gN 5)) (aA (iq (eT (ab dG (aa 5) (aV a7 (ae (aa 3) ag)))) vp) (bB (aa 2)))))))
noncomputable def qZ:ap->Mo W:=fM vS 8 2
noncomputable def Aw:ap->Mo W:=tU "aheads" (b9 (ae {0} ag)) qZ
noncomputable def z4:SM:=(gc (dW du d6 (ab af (aa 1) (aa 3)) (ae (aa 2) ag)))
noncomputable def wo:SM:=(d9 (cV (ab af (aa 0) (aa 2))) (gN 3) z4)
noncomputable def xk:SM:=(aA (aK (cU (cV (aa 0)) [Z] (gN 0) cF (b9 ag)) (gN 1)) (aA (d9 (cV (aV ko (ae (bh Aw (ae (aa 0) ag)) ag))) (gN 2) wo) (bB (aa 1))))
noncomputable def AY:ap->Mo W:=fM xk 4 1
noncomputable def zp:SM:=(cb (fc (eT (ab gr (aa 2) {0})) (fc (eT (ab a9 (aV a7 (ae (aa 3) ag)) {1})) (eT (ab a9 (ab af (ab af (aa 0) (ab af (aa 3) {0})) {0}) {"go"})))) (aK (eC (.bl true)) (pN (aa 1) (aa 2))) cj)
noncomputable def u9:SM:=(aA (aK yi (gN 1)) (aA (d9 (mq (ae (bh AY (ae (cU (cV (aa 0)) [Z] (gN 0) cF (bh qS (ae (aa 0) ag))) ag)) ag)) (eA 2 [(gN 2),(gN 3)]) zp) (bB (aa 1))))
noncomputable def zw:ap->Mo W:=fM u9 4 1
noncomputable def vb:SM:=(aA (gc (dW du nD (aa 4) (ae (ab af (ab af (aa 0) (ab af (aa 5) {1})) {0}) ag))) (aK (ab af (aa 1) (ab af (aa 5) {1})) (gN 5)))
noncomputable def vB:SM:=(aA (aK (aV kn (ae (ab af (ab af (aa 0) (aa 3)) {0}) ag)) (gN 4)) (aA (aK (ab af (aa 1) (aa 3)) (gN 5)) (aA (iq (fc (eT (ab a9 (ab af (aa 5) {0}) {"go"})) (eT (ab dZ (ab af (aa 5) {1}) (aa 2)))) vb) (bB (bp (ae (aa 4) (ae (aa 5) ag)))))))
noncomputable def vC:ap->Mo W:=fM vB 6 4
noncomputable def zN:SM:=(aA (aK (bh zw (ae (aa 2) ag)) (gN 3)) (aA (aK (aV ko (ae (bh qZ (ae (b9 (ae {0} ag)) (ae (xO "threaded" 2) ag))) ag)) (gN 4)) (aA (aK (cU (cV (aa 4)) [Z,O 3] (gN 0) (eT (ab fj (aa 0) (aa 1))) (aa 0)) (gN 5)) (aA (aK (aV pO (ae (cU (mq (ae (aa 5) ag)) [Z,Z] (eA 2 [(gN 0),(gN 1)]) cF (bp (ae (aa 1) (ae (aa 0) ag)))) ag)) (gN 6)) (aA (aK (cU (cV (aa 5)) [Z,O 0,O 2,O 3] (gN 0) cF (bh vC (ae (aa 1) (ae (aa 2) (ae (aa 3) (ae (aa 0) ag)))))) (gN 7)) (bB (cU (cV (aa 7)) [Z,O 6] (gN 0) cF (bp (ae (ab af (aa 0) {0}) (ae (bh m9 (ae (ab af (aa 0) {1}) (ae (aa 1) ag))) ag))))))))))
noncomputable def l4:SM:=(aA (aK (cU (eB (ae (aV a7 (ae (aa 0) ag)) ag)) [Z,O 0] (gN 0) cF (bh rV (ae (aa 1) (ae (aa 0) ag)))) (gN 1)) (aA (aK (cU (cV (aa 0)) [Z,O 1] (gN 0) cF (bh m9 (ae (ab af (aa 0) {1}) (ae (aa 1) ag)))) (gN 2)) (BR zN)))
noncomputable def wu:ap->Mo W:=fM l4 8 1
noncomputable def wz:SM:=(aA (cb (eT (ab a9 (ab af (aa 0) {0}) {"go"})) (bB (b9 (ae (ab af (aa 0) {1}) ag))) cj) (bB (aV kn (ae (uu (aa 0) (sM {2}) sL) ag))))
noncomputable def rB:ap->Mo W:=fM wz 1 1
noncomputable def zt:SM:=(cb (c9 (iz (h9 (jW "int" (aa 2)))) (c9 (h9 (jW "bool" (aa 2))) (iz (eT (sy yH dG {0} (aa 2) (aV a7 (ae (aa 0) ag))))))) (bB (eC (.bl false))) cj)
noncomputable def zu:SM:=(aA (cb (c9 (iz (h9 (jW "tuple" (aa 1)))) (c9 (eT (ab dC (aV a7 (ae (aa 1) ag)) {2})) (iz (h9 (jW "list" (ab af (aa 1) {0})))))) (bB (eC (.bl false))) cj) (aA (cb (c9 (iz (h9 (jW "tuple" (ab af (aa 1) {1})))) (eT (ab fj (ab af (ab af (aa 1) {1}) {0}) (bp (ae {"go"} (ae {"if"} (ae {"end"} ag))))))) (bB (eC (.bl false))) cj) (d9 (cV (bh rB (ae (ab af (aa 1) {1}) ag))) (gN 2) zt)))
noncomputable def vq:SM:=(aA (cb (c9 (iz (h9 (jW "list" (aa 0)))) (eT (ab a9 (aa 0) (b9 ag)))) (bB (eC (.bl false))) cj) (aA (d9 (cV (aa 0)) (gN 1) zu) (bB (eC (.bl true)))))
noncomputable def zD:ap->Mo W:=fM vq 3 1
noncomputable def zF:SM:=(cb (fc (eT (ab a9 (aa 2) (aV a7 (ae (ab af (ab af (aa 0) (aa 1)) {0}) ag)))) (eT (ab a9 (ab af (ab af (ab af (aa 0) (aa 1)) {1}) {0}) {"go"}))) (aA (aK (ab af (ab af (ab af (aa 0) (aa 1)) {1}) {1}) (gN 1)) (aK {0} (gN 2))) cj)
noncomputable def wA:SM:=(aA (d9 (eB (ae (aV a7 (ae (aa 0) ag)) ag)) (gN 3) zF) (bB (bp (ae (aa 1) (ae (aa 2) ag)))))
noncomputable def l5:ap->Mo W:=fM wA 4 3
noncomputable def rC:SM:=(aA (aK (ab af (ab af (aa 0) (ab af (aa 2) {0})) {0}) (gN 4)) (aA (aK (ab af (ab af (aa 1) (ab af (aa 3) {0})) {0}) (gN 5)) (aA (cb (fc (eT (ab dG (ab af (aa 2) {1}) (aV a7 (ae (aa 4) ag)))) (eT (ab dG (ab af (aa 3) {1}) (aV a7 (ae (aa 5) ag))))) (aA (cb (eT (ab dC (ab af (aa 4) (ab af (aa 2) {1})) (ab af (aa 5) (ab af (aa 3) {1})))) (bB (eC .aH)) cj) (bB (b9 (ae (bp (ae (bp (ae (ab af (aa 2) {0}) (ae (ab addW (ab af (aa 2) {1}) {1}) ag))) (ae (bp (ae (ab af (aa 3) {0}) (ae (ab addW (ab af (aa 3) {1}) {1}) ag))) ag))) ag)))) cj) (aA (cb (c9 (eT (ab dG (ab af (aa 2) {1}) (aV a7 (ae (aa 4) ag)))) (eT (ab dG (ab af (aa 3) {1}) (aV a7 (ae (aa 5) ag))))) (bB (eC .aH)) cj) (aA (aK (ab af (ab af (aa 0) (ab af (aa 2) {0})) {1}) (gN 6)) (aA (aK (ab af (ab af (aa 1) (ab af (aa 3) {0})) {1}) (gN 7)) (aA (cb (c9 (eT (ab dC (uu (aa 6) sL (sM (mP lB {2}))) (uu (aa 7) sL (sM (mP lB {2}))))) (eT (ab dC (aV a7 (ae (aa 6) ag)) (aV a7 (ae (aa 7) ag))))) (bB (eC .aH)) cj) (bB (cU (lN (ae {2} (ae (aV a7 (ae (aa 6) ag)) ag))) [Z,O 6,O 7] (gN 0) cF (bp (ae (bp (ae (ab af (aa 1) (aa 0)) (ae {0} ag))) (ae (bp (ae (ab af (aa 2) (aa 0)) (ae {0} ag))) ag))))))))))))
noncomputable def pk:ap->Mo W:=fM rC 8 4
noncomputable def zG:SM:=(aA (aK (dW du tK (aa 3) ag) (gN 4)) (aA (aK (bh l5 (ae (aa 0) (ae (ab af (ab af (aa 4) {0}) {0}) (ae (ab af (ab af (aa 4) {0}) {1}) ag)))) (gN 5)) (aA (aK (bh l5 (ae (aa 1) (ae (ab af (ab af (aa 4) {1}) {0}) (ae (ab af (ab af (aa 4) {1}) {1}) ag)))) (gN 6)) (cb (eT (ab ou (bp (ae (aa 5) (ae (aa 6) ag))) (aa 2))) (aA (aK (eC (.bl true)) (BP (aa 2) (bp (ae (aa 5) (ae (aa 6) ag))))) (aA (aK (bh pk (ae (aa 0) (ae (aa 1) (ae (aa 5) (ae (aa 6) ag))))) (gN 7)) (aA (cb (eT (ab jK (aa 7) (eC .aH))) (bB (eC .aH)) cj) (gc (dW du nD (aa 3) (ae (aa 7) ag)))))) cj))))
noncomputable def wC:SM:=(aA (aK J2 (gN 2)) (aA (aK (b9 (ae (bp (ae (bp (ae {0} (ae {0} ag))) (ae (bp (ae {0} (ae {0} ag))) ag))) ag)) (gN 3)) (aA (iq (eT (ab dC (aa 3) (b9 ag))) zG) (bB (aa 2)))))
noncomputable def z5:ap->Mo W:=fM wC 8 2
noncomputable def vD:SM:=(aA (aK (ab af (bh l5 (ae (aa 0) (ae (aa 5) (ae {0} ag)))) {0}) (gN 5)) (aA (gc (dW du d6 (aa 2) (ae (bp (ae (aa 5) (ae (ab af (aa 4) {0}) (ae (ab af (aa 1) (aa 3)) ag)))) ag))) (cb (eT (ab fj (aa 5) (aa 1))) (gc (dW du d6 (aa 1) (ae (aa 5) ag))) cj)))
noncomputable def qW:SM:=(aA (aK (ab af (ab af (aa 0) (ab af (aa 1) (aa 3))) {1}) (gN 4)) (aA (d9 (cV (bh rB (ae (aa 4) ag))) (gN 5) vD) (aK (ab addW (aa 3) {1}) (gN 3))))
noncomputable def vE:SM:=(aA (aK (cU (cV (aa 2)) [Z,O 7] (gN 0) (eT (ab a9 (ab af (aa 0) {0}) (aa 1))) (aa 0)) (gN 8)) (cb (fc (eT (ab gr (aa 7) {0})) (c9 (eT (ab gr (aV a7 (ae (aa 8) ag)) {1})) (c9 (eT (ab a9 (ab af (ab af (aa 8) {0}) {1}) {"if"})) (eT (ab a9 (ab af (ab af (aa 8) {0}) {2}) (aa 7)))))) (gc (dW du d6 (aa 6) (ae (aa 7) ag))) cj))
noncomputable def vX:SM:=(aA (aK (b9 (ae {0} ag)) (gN 1)) (aA (aK (b9 ag) (gN 2)) (aA (aK {0} (gN 3)) (aA (iq (eT (ab dG (aa 3) (aV a7 (ae (aa 1) ag)))) qW) (aA (aK (b9 (ae {0} ag)) (gN 6)) (aA (d9 (cV (aV ko (ae (aa 1) ag))) (gN 7) vE) (bB (aa 6))))))))
noncomputable def zO:ap->Mo W:=fM vX 9 1
noncomputable def vL:SM:=(aA (cb (c9 (eT (ab dG (r8 (mm (aa 2) [Z,Z] (eA 2 [(gN 0),(gN 1)]) cF (aa 0))) (aV ox (ae (aa 2) ag)))) (eT (ab dG (r8 (mm (aa 2) [Z,Z] (eA 2 [(gN 0),(gN 1)]) cF (aa 1))) (aV ox (ae (aa 2) ag))))) (bB (eC (.bl false))) cj) (aA (aK (bh zO (ae (aa 0) ag)) (gN 3)) (aA (cb (eT (ab dC (aV a7 (ae (aa 1) ag)) (aV a7 (ae (aa 3) ag)))) (bB (eC (.bl false))) cj) (bB (aV tQ (ae (cU (lN (ae {1} (ae (aV a7 (ae (aa 1) ag)) ag))) [Z,O 2,O 3] (gN 0) cF (ab oS (bp (ae (bp (ae (ab af (aa 2) (aa 0)) (ae {0} ag))) (ae (bp (ae (aa 0) (ae {0} ag))) ag))) (aa 1))) ag))))))
noncomputable def zH:ap->Mo W:=fM vL 4 3
noncomputable def zx:SM:=(cb (fc (eT (ab a9 (ab af (ab af (aa 0) (aa 3)) {0}) (b9 ag))) (eT (ab a9 (ab af (ab af (ab af (aa 0) (aa 3)) {1}) {0}) {"go"}))) (bB (eC (.bl false))) cj)
noncomputable def zy:SM:=(d9 (cV (bh rB (ae (aa 2) ag))) (gN 3) zx)
noncomputable def vM:SM:=(aA (d9 (cV (aa 0)) (eA 2 [(gN 1),(gN 2)]) zy) (bB (eC (.bl true))))
noncomputable def zI:ap->Mo W:=fM vM 4 1
noncomputable def wW:SM:=(gc (dW du d6 (aa 7) (ae (bp (ae {"turn"} ag)) ag)))
noncomputable def pS:SM:=(aA (aK (ab addW {1} (ab bJ (bh fx (ae (aa 0) (ae {0} ag))) {7})) (gN 1)) (aA (cb (eT (ab a9 (ab bJ (ab cN (bh fx (ae (aa 0) (ae {0} ag))) {7}) {9}) {1})) (aK (ab addW {8} (ab bJ (ab cN (bh fx (ae (aa 0) (ae {0} ag))) {63}) {7})) (gN 1)) cj) (aA (aK (ab addW {2} (ab bJ (bh fx (ae (aa 0) (ae {1} ag))) {8})) (gN 2)) (aA (aK (bh zB (ae (aa 0) (ae {2} (ae (aa 1) (ae (aa 2) (ae (ab addW {1} (ab bJ (ab cN (bh fx (ae (aa 0) (ae {1} ag))) {8}) {12})) ag)))))) (gN 3)) (aA (aK (cU (cV (aa 3)) [Z,Z] (eA 2 [(gN 0),(gN 1)]) cF (bp (ae (aV kn (ae (aa 0) ag)) (ae (aa 1) ag)))) (gN 4)) (aA (aK (bh wu (ae (aa 4) ag)) (gN 5)) (aA (cb (c9 (eT (ab dC (aa 4) (aa 3))) (iz (h9 (bh zD (ae (aa 5) ag))))) (bB (eC (.bl false))) cj) (aA (aK (bh z5 (ae (aa 3) (ae (aa 5) ag))) (gN 6)) (aA (cb (c9 (eT (ab jK (aa 6) (eC .aH))) (c9 (iz (h9 (bh zH (ae (aa 3) (ae (aa 5) (ae (aa 6) ag)))))) (iz (h9 (bh zI (ae (aa 5) ag)))))) (bB (eC (.bl false))) cj) (aA (d9 (cV (aa 5)) (eA 2 [(gN 7),(gN 8)]) wW) (aA (gc (dW du d6 (aa 5) (ae (bp (ae (b9 ag) (ae (bp (ae {"end"} ag)) ag))) ag))) (bB (tE (ab a9 (aa 4) (aa 3)) (ab a9 (aV a7 (ae (bh wu (ae (aa 4) ag)) ag)) (ab lC (aV a7 (ae (aa 5) ag)) {1})))))))))))))))
noncomputable def sY:ap->Mo W:=fM pS 9 1
set_option genInjectivity false in
structure d0(K:aaJ)(mg:dE)(n:Str)(st:ahH)(ps:a8) where
 a:abc
 d:acG
 F:iI K n n st a d
 m:mg n= ⇑a
 b:Binds K d ps []
set_option genInjectivity false in
structure Tx(K:aaJ)(mg:dE) where
 iT:d0 K mg "_law_cell_at" vF ["_law_script","_law_k"]
 qT:d0 K mg "_law_number_by" vg ["_law_cell"]
 rg:d0 K mg "_law_row_by" vN ["_law_cell","_law_boxes","_law_slots"]
 pf:d0 K mg "_law_goal_by" vG ["_law_more","_law_block","_law_many","_law_turning"]
 rh:d0 K mg "_law_end_by" vO ["_law_cell","_law_block","_law_many","_law_turning","_law_boxes"]
 qU:d0 K mg "_law_blocks_by" vh ["_law_script","_law_first","_law_many","_law_boxes","_law_slots"]
 nv:d0 K mg "led_on" wU ["blocks","number"]
 kb:d0 K mg "with_ways" vU ["end","told"]
 ka:d0 K mg "further_blocks" vd ["end"]
 l0:d0 K mg "found_from" vP ["starts","further"]
 wX:abc
 rW:acG
 ny:iI K "aheads" "aheads" jt wX rW
 Ga:mg "aheads"= ⇑wX
 Gb:Binds K rW ["ways"] []
 r9:d0 K mg "comes" xj ["ways"]
 qR:d0 K mg "standing_within" u7 ["ends"]
 m7:d0 K mg "joined_block" vA ["blocks","ends","within","number"]
 wD:abc
 nh:acG
 l6:iI K "threaded" "threaded" fy wD nh
 z6:mg "threaded"= ⇑wD
 l4:Binds K nh ["blocks"] []
 nj:d0 K mg "_law_ways" we ["_law_end"]
 qV:d0 K mg "_law_is_blocks" vj ["_law_found"]
 nk:d0 K mg "_law_norm" wg ["_law_blocks","_law_block","_law_place"]
 rE:d0 K mg "_law_step" wj ["_law_old","_law_new","_law_one","_law_other"]
 rF:d0 K mg "_law_walk" wm ["_law_old","_law_new"]
 rm:d0 K mg "_law_heads" vV ["_law_old"]
 qX:d0 K mg "_law_numbers" vH ["_law_old","_law_new","_law_met"]
 qY:d0 K mg "_law_is_lean" vI ["_law_new"]
 xP:abc
 xQ:acG
 sZ:iI K "law" "law" kq xP xQ
 Yh:mg "law"= ⇑xP
 pS:Binds K xQ ["_law_script"] []
 rM:abc
 rN:abc
 Aa:Obj
 Fp:rW.code=.ref rM
 Fq:K.lookup rM=O Aa
 Fs:jw Aa=O rN
 Ft:rM≠rN
 Fu:(("aheads":Str),rM,rN)∈eG K
 Fv:∀p∈eG K,p.2.2=rN->p.1="aheads"
 Ab:iZ K "aheads"=O (jf jt)
 rp:abc
 rq:abc
 zP:Obj
 Ep:nh.code=.ref rp
 Er:K.lookup rp=O zP
 Es:jw zP=O rq
 Et:rp≠rq
 Eu:(("threaded":Str),rp,rq)∈eG K
 Ew:∀p∈eG K,p.2.2=rq->p.1="threaded"
 zQ:iZ K "threaded"=O (jf fy)
 Jk:mg "all"=Z
 HU:mg "bool"=Z
 HV:mg "dict"=Z
 zR:mg "enumerate"=Z
 BV:mg "int"=Z
 m8:mg "isinstance"=Z
 pT:mg "len"=Z
 pH:mg "list"=Z
 jy:mg "range"=Z
 BW:mg "set"=Z
 wY:mg "sorted"=Z
 AZ:mg "tuple"=Z
noncomputable def ed(K:aaJ)(n:Str)(st:ahH)(f:abc)(fd:acG):Prop:=abO K abr n=O ⇑f/\iI K n n st f fd
variable{K:aaJ}{st:ahH}
theorem HW{x:Str}{f:abc}{oc:abh}{od an:d7}{gQ:Array hV}{kV doc pm bC ct:abh}(a:abO K abr x=O ⇑f)(l:K.lookup f=O ⟨oc,od,.func (acw x x (iX st) (eE st) (aQ st) .none kV doc pm an bC ct),gQ⟩)(c:adC K bC x=true)(k:acT K (.ref f)=true):ed K x st f (acw x x (iX st) (eE st) (aQ st) .none kV doc pm an bC ct):=⟨a,xo l c k⟩
variable{mg:dE}
noncomputable def eK{h:ade}{x:Str}{f:abc}{fd:acG}{ps:a8}(KX:K.In h)(G:h.Ns abr mg)(H:ed K x st f fd)(hb:∀(kV doc pm:abh) (an:d7) (bC ct:abh) (us:aT),↑us=↑ps->bindArgs (acw x x (iX st) (eE st) (aQ st) .none kV doc pm an bC ct) ⟨us,[]⟩=pure (ps.zip us)):d0 K mg x st ps:=⟨f,fd,H.2,afu KX G H.1,H.2.binds hb⟩
abbrev JX(N:a8)(st:ahH)(k:Nat)(b:SM):Prop:=∀{X:Cx},Tx X.K X.mg->Bd X N (aQ st) k->tP X->X.env.scope=aQ st->JB X (eE st) b
variable{N:a8}{k:Nat}
theorem eQ{P:abI}{w:acg}{base:ade}{x:Str}{ps:a8}{n np:Nat}{b:SM}(T:Tx K mg)(D:d0 K mg x st ps)(hn:↑N=n)(hp:↑ps=np)(S:cZ N ps (aQ st))(hb:JX N st k b):ck P w K mg base (bN P w) (k+1) D.a D.d ps (cE K mg np (fM b n np)):=GF hn hp D.F S λ{X} h1 h2 h3 h4 h5 B hF aU=>by subst h3 h4;exact hb T B hF aU
section
variable{X:Cx}{N:a8}{sc:adB}{k:Nat}{e o:acJ}{es:cc}{mo m:EM}{am:AM}{p pos:Pos}
theorem dI{j:Nat}{fm:ap->Mo W}{x:Str}{st:ahH}{ps:a8}(B:Bd X N sc k)(D:d0 X.K X.mg x st ps)(F:ck X.prog X.w X.K X.mg X.base (bN X.prog X.w) j D.a D.d ps (cE X.K X.mg ↑ps fm))(hl:∀{xs:ap} {ph:PH},↑xs≠↑ps->fm xs ph=.no)(hg:sc.names.lookup x=O .globalImplicit)(ha:JA X (e::es) am)(hk:j<=k:=by decide)(hn:eJ (e::es)=true:=by rfl)(dq:(x==("__debug__":Str))=false:=by decide +kernel):JE X (.Call (.Name x p) (e::es) [] pos) (bh fm am):=jz hn dq F hl (B.room.mono hk) (B.gl _ hg) D.m D.F.kp D.b ha
theorem dO(B:Bd X N sc k)(T:Tx X.K X.mg)(hg:sc.names.lookup ("len":Str)=O .globalImplicit)(ha:JA X (e::es) am)(hn:eJ (e::es)=true:=by rfl):JE X (.Call (.Name "len" p) (e::es) [] pos) (aV a7 am):=nJ hn ⋯ ⋯ OV UM (B.gl _ hg) T.pT afZ ha
theorem kr(ho:JE X o mo)(ha:JA X (e::es) am)(gI:adT o "append" X.env (aez o X.env)=aez o X.env:=by rfl)(gJ:(p.endLine==pos.line)=true:=by rfl)(hn:eJ (e::es)=true:=by rfl)(hl:decide ((e::es).length<30)=true:=by rfl):JE X (.Call (.Attribute o "append" p) (e::es) [] pos) (dW du d6 mo am):=Bh hn hl adW PySem.F.slot_list_append PySem.F.type_list_append EW xG OW ho ha gI gJ
theorem ah(he:JE X e m)(ha:JA X es am)(h:isStar e=false:=by rfl):JA X (e::es) (ae m am):=Zf h he ha
end
variable{X:Cx}{N':a8}
theorem gi{sc scope:adB}{tg:acJ}{g:GM}(B:Bd X N sc k)(T:Tx X.K X.mg)(hc:∀y∈scope.names,y.2≠.cell)(nd:N'.Nodup)(h:∀{Y:Cx},Bd Y N' scope k->Tx Y.K Y.mg->JG Y tg g)(cl:List (Str×abc))(C:abc)(aD:aaR)(aM:Hp)(ex:List abc):JG (blk X N' scope cl C aD aM ex) tg g:=h (B.blk hc nd) T
theorem gj{sc scope:adB}{ifs:cc}{t:TM}(B:Bd X N sc k)(T:Tx X.K X.mg)(hc:∀y∈scope.names,y.2≠.cell)(nd:N'.Nodup)(h:∀{Y:Cx},Bd Y N' scope k->Tx Y.K Y.mg->JF Y ifs t)(cl:List (Str×abc))(C:abc)(aD:aaR)(aM:Hp)(ex:List abc):JF (blk X N' scope cl C aD aM ex) ifs t:=h (B.blk hc nd) T
theorem gk{sc scope:adB}{e:acJ}{m:EM}(B:Bd X N sc k)(T:Tx X.K X.mg)(hc:∀y∈scope.names,y.2≠.cell)(nd:N'.Nodup)(h:∀{Y:Cx},Bd Y N' scope k->Tx Y.K Y.mg->JE Y e m)(cl:List (Str×abc))(C:abc)(aD:aaR)(aM:Hp)(ex:List abc):JE (blk X N' scope cl C aD aM ex) e m:=h (B.blk hc nd) T
theorem Ac:qm (jf jt) "block" "ways":=⟨rfl,rfl,rfl,⋯,⋯,⋯,(λy h=>HD (l:=(jf jt).sc.names) ⋯ h),λ_ _ _ _ _ _=>rfl⟩
theorem zS:qm (jf fy) "number" "ends":=⟨rfl,rfl,rfl,⋯,⋯,⋯,(λy h=>HD (l:=(jf fy).sc.names) ⋯ h),λ_ _ _ _ _ _=>rfl⟩
section
variable{P:abI}{w:acg}{K:aaJ}{mg:dE}{base:ade}
theorem MN:cZ ["_law_script","_law_k"] ["_law_script","_law_k"] (aQ vF):=⟨rfl,rfl,rfl,⋯,rfl,⋯,⋯⟩
theorem Mn:JX ["_law_script","_law_k"] vF 0 vJ:=λ{X} T B hF aU=>
 letI v0:=("_law_script",0)
 letI v1:=("_law_k",1)
 (aJ (cM (bt i6 v1 (dO B T ⋯ (ah v0 av))) (aS (bQ (B.af v0 v1))) cL) (aS (bQ ao)))
theorem pd(T:Tx K mg):ck P w K mg base (bN P w) 1 T.iT.a T.iT.d ["_law_script","_law_k"] (cE K mg 2 (fM vJ 2 2)):=eQ T T.iT rfl rfl MN Mn
theorem Mp:cZ ["_law_cell"] ["_law_cell"] (aQ vg):=⟨rfl,rfl,rfl,⋯,rfl,⋯,⋯⟩
theorem L9:JX ["_law_cell"] vg 0 vk:=λ{X} T B hF aU=>
 letI v0:=("_law_cell",0)
 (aJ (cM (bt B.eq (dz v0 ao) ao) (aS (bQ (B.af (dN (ah ao (ah (sA ao) (ah ao (ah (sA ao) (ah ao (ah (sA ao) (ah ao (ah ao av))))))))) (dz (fR v0 ao) ao)))) cL) (aJ (cM (bt B.eq (dz v0 ao) ao) (aS (bQ (sC (dz (jx (fR v0 ao) ao) ao) ao))) cL) (aJ (cM (bt B.eq (dz v0 ao) ao) (aS (bQ (sC (dz (fR v0 ao) ao) ao))) cL) (aS (bQ (sC (dz (fR v0 ao) ao) ao))))))
theorem Mq(T:Tx K mg):ck P w K mg base (bN P w) 1 T.qT.a T.qT.d ["_law_cell"] (cE K mg 1 (fM vk 1 1)):=eQ T T.qT rfl rfl Mp L9
theorem M2:cZ ["_law_cell","_law_boxes","_law_slots","_law_kind","_law_more","_law_one","_law_other","_law_slot","_law_word","_law_some"] ["_law_cell","_law_boxes","_law_slots"] (aQ vN):=⟨rfl,rfl,rfl,⋯,rfl,⋯,⋯⟩
theorem MD:JX ["_law_cell","_law_boxes","_law_slots","_law_kind","_law_more","_law_one","_law_other","_law_slot","_law_word","_law_some"] vN 1 vQ:=λ{X} T B hF aU=>
 letI v0:=("_law_cell",0)
 letI v1:=("_law_boxes",1)
 letI v2:=("_law_slots",2)
 letI v3:=("_law_kind",3)
 letI v4:=("_law_more",4)
 letI v5:=("_law_one",5)
 letI v6:=("_law_other",6)
 letI v7:=("_law_slot",7)
 letI v8:=("_law_word",8)
 letI v9:=("_law_some",9)
 (aJ (B.bP 3 rfl (.inl ⋯) rfl (dz v0 ao)) (aJ (B.bP 4 rfl (.inl ⋯) rfl (dz (jx (fR v0 ao) ao) ao)) (aJ (B.bP 5 rfl (.inl ⋯) rfl (dz v4 v1)) (aJ (B.bP 6 rfl (.inl ⋯) rfl (dz (fR v4 ao) v1)) (aJ (B.bP 7 rfl (.inl ⋯) rfl (dz (fR v4 ao) v2)) (aJ (cM (bt i6 v3 ao) (aJ (B.bP 8 rfl (.inl ⋯) rfl (B.af (dN (ah cK (ah cK (ah cK (ah cK (ah cK (ah cK av))))))) (dz (fR v4 ao) ao))) (aS (bQ (cz (ah cK (ah v5 (ah v8 (ah v6 (ah (dz (fR v4 ao) v1) av))))))))) cL) (aJ (B.bP 9 rfl (.inl ⋯) rfl (dN (ah (cz (ah cK (ah v5 (ah (dI B T.qT (Mq T) cO ⋯ (ah (fR v4 ao) av)) av)))) (ah (cz (ah cK (ah v5 (ah v6 av)))) (ah (cz (ah cK (ah v5 (ah v7 av)))) (ah (cz (ah cK (ah v7 (ah v5 av)))) av)))))) (aJ (B.bP 9 rfl (.inl ⋯) rfl (gv v9 (dN (ah (cz (ah cK (ah v5 av))) (ah (cz (ah cK (ah v5 av))) (ah (cz (ah cK av)) av)))))) (aS (bQ (B.af v9 (sC v3 ao))))))))))))
theorem M3(T:Tx K mg):ck P w K mg base (bN P w) 2 T.rg.a T.rg.d ["_law_cell","_law_boxes","_law_slots"] (cE K mg 3 (fM vQ 10 3)):=eQ T T.rg rfl rfl M2 MD
theorem MO:cZ ["_law_more","_law_block","_law_many","_law_turning","_law_some"] ["_law_more","_law_block","_law_many","_law_turning"] (aQ vG):=⟨rfl,rfl,rfl,⋯,rfl,⋯,⋯⟩
theorem Mr:JX ["_law_more","_law_block","_law_many","_law_turning","_law_some"] vG 0 vK:=λ{X} T B hF aU=>
 letI v0:=("_law_more",0)
 letI v2:=("_law_many",2)
 letI v4:=("_law_some",4)
 (aJ (nC (i:=4) (by rw[B.hN];exact B.nd) (by rw[B.hN];rfl) (B.fn _ (.inl ⋯)).2 (by rw[aU];decide +kernel) B.calm (N':=["_law_k","_law_block","_law_turning"]) (Bd.cap B.hN aU ⋯) (l9 (B.gl _ ⋯) T.jy rfl (ah v2 av)) (gi B T ⋯ ⋯ λ{X} B T=>(B.cu 0 rfl (.inl rfl))) (gj B T ⋯ ⋯ λ{X} B T=>(xt (fh (fT (bt sN (B.jv 0 rfl (.inl rfl) ⋯) (B.jv 1 rfl (.inr (.inr rfl)) ⋯)) (fT (bt (B.yj (by with_unfolding_all rfl)) (B.jv 0 rfl (.inl rfl) ⋯) (B.jv 2 rfl (.inr (.inr rfl)) ⋯)) (eZ (fh (mf (bt B.eq (B.jv 0 rfl (.inl rfl) ⋯) ao) (eZ (bt (B.yj (by with_unfolding_all rfl)) (B.jv 1 rfl (.inr (.inr rfl)) ⋯) (B.jv 2 rfl (.inr (.inr rfl)) ⋯))))))))))) (gk B T ⋯ ⋯ λ{X} B T=>(B.jv 0 rfl (.inl rfl) ⋯)) (nr (by rw[aU];rfl) (by rw[aU];decide +kernel) rfl ⋯)) (aJ (cM (bt B.eq v4 (dN av)) (aS (bQ lb)) cL) (aS (bQ (B.af v4 (dz v0 (dO B T ⋯ (ah v4 av))))))))
theorem Ef(T:Tx K mg):ck P w K mg base (bN P w) 1 T.pf.a T.pf.d ["_law_more","_law_block","_law_many","_law_turning"] (cE K mg 4 (fM vK 5 4)):=eQ T T.pf rfl rfl MO Mr
theorem M4:cZ ["_law_cell","_law_block","_law_many","_law_turning","_law_boxes","_law_yes","_law_no"] ["_law_cell","_law_block","_law_many","_law_turning","_law_boxes"] (aQ vO):=⟨rfl,rfl,rfl,⋯,rfl,⋯,⋯⟩
theorem ME:JX ["_law_cell","_law_block","_law_many","_law_turning","_law_boxes","_law_yes","_law_no"] vO 1 vR:=λ{X} T B hF aU=>
 letI v0:=("_law_cell",0)
 letI v1:=("_law_block",1)
 letI v2:=("_law_many",2)
 letI v3:=("_law_turning",3)
 letI v4:=("_law_boxes",4)
 letI v5:=("_law_yes",5)
 letI v6:=("_law_no",6)
 (aJ (B.bP 0 rfl (.inl ⋯) rfl (dz (jx v0 ao) ao)) (aJ (B.bP 5 rfl (.inl ⋯) rfl (dI B T.pf (Ef T) cO ⋯ (ah (fR v0 ao) (ah v1 (ah v2 (ah v3 av)))))) (aJ (B.bP 6 rfl (.inl ⋯) rfl (dI B T.pf (Ef T) cO ⋯ (ah (fR v0 ao) (ah v1 (ah v2 (ah v3 av)))))) (aJ (cM (fh (fT (bt BG v5 lb) (eZ (bt B.eq (dz v0 ao) ao)))) (aS (bQ (cz (ah cK av)))) cL) (aJ (cM (bt i6 (dz v0 ao) ao) (aS (bQ (cz (ah cK (ah (dz (fR v0 ao) v4) (ah v5 (ah v6 av))))))) cL) (aS (bQ (cz (ah cK (ah v5 av))))))))))
theorem M5(T:Tx K mg):ck P w K mg base (bN P w) 2 T.rh.a T.rh.d ["_law_cell","_law_block","_law_many","_law_turning","_law_boxes"] (cE K mg 5 (fM vR 7 5)):=eQ T T.rh rfl rfl M4 ME
theorem Ms:cZ ["_law_script","_law_first","_law_many","_law_boxes","_law_slots","_law_cells","_law_turning","_law_blocks","_law_k","_law_rows","_law_j"] ["_law_script","_law_first","_law_many","_law_boxes","_law_slots"] (aQ vh):=⟨rfl,rfl,rfl,⋯,rfl,⋯,⋯⟩
theorem Ma:JX ["_law_script","_law_first","_law_many","_law_boxes","_law_slots","_law_cells","_law_turning","_law_blocks","_law_k","_law_rows","_law_j"] vh 2 vm:=λ{X} T B hF aU=>
 letI v2:=("_law_many",2)
 letI v3:=("_law_boxes",3)
 letI v4:=("_law_slots",4)
 have v5 {p:Pos}:=B.jv (pos:=p) (x:="_law_cells") 5 rfl (.inr (.inl ⋯)) ⋯;letI v6:=("_law_turning",6)
 letI v7:=("_law_blocks",7)
 letI v8:=("_law_k",8)
 letI v9:=("_law_rows",9)
 letI yI:=("_law_j",10)
 (aJ (B.BM 5 rfl (.inr ⋯) (by rw[aU];decide +kernel) (me B.calm (N':=["_law_k","_law_script","_law_first"]) (Bd.cap B.hN aU ⋯) (l9 (B.gl _ ⋯) T.jy rfl (ah (jx ao v2) av)) (gi B T ⋯ ⋯ λ{X} B T=>(B.cu 0 rfl (.inl rfl))) (gj B T ⋯ ⋯ λ{X} B T=>ir) (gk B T ⋯ ⋯ λ{X} B T=>(gv (jz rfl ⋯ (pd T) cO (B.room.mono (by decide)) (B.gl _ rfl) T.iT.m T.iT.F.kp T.iT.b (ah (B.jv 1 rfl (.inr (.inr rfl)) ⋯) (ah (gv (B.jv 2 rfl (.inr (.inr rfl)) ⋯) (dz (B.jv 0 rfl (.inl rfl) ⋯) ao)) av))) (jx ao (fR (B.jv 0 rfl (.inl rfl) ⋯) ao)))))) (aJ (nC (i:=6) (by rw[B.hN];exact B.nd) (by rw[B.hN];rfl) (B.fn _ (.inl ⋯)).2 (by rw[aU];decide +kernel) B.calm (N':=["_law_k","_law_cells"]) (Bd.cap B.hN aU ⋯) (l9 (B.gl _ ⋯) T.jy rfl (ah v2 av)) (gi B T ⋯ ⋯ λ{X} B T=>(B.cu 0 rfl (.inl rfl))) (gj B T ⋯ ⋯ λ{X} B T=>(xt (bt B.eq (dz (B.af (B.jv 1 rfl (.inr (.inr rfl)) ⋯) (jx ao (B.jv 0 rfl (.inl rfl) ⋯))) ao) ao))) (gk B T ⋯ ⋯ λ{X} B T=>(B.jv 0 rfl (.inl rfl) ⋯)) (nr (by rw[aU];rfl) (by rw[aU];decide +kernel) rfl ⋯)) (aJ (B.bP 7 rfl (.inl ⋯) rfl (dN av)) (aJ (B.gz (l9 (B.gl _ ⋯) T.jy rfl (ah v2 av)) (B.cu 8 rfl (.inl ⋯)) (aJ (B.bP 9 rfl (.inl ⋯) rfl (jx (dN (ah (cz (ah cK av)) av)) (sD rfl ⋯ ⋯ ON UW (B.gl _ ⋯) T.BV agW (ah (xp (B.yj (by with_unfolding_all rfl)) v8 v6) av)))) (aJ (B.gz (l9 (B.gl _ ⋯) T.jy rfl (ah (B.af (dN (ah ao (ah ao (ah ao (ah ao (ah ao av)))))) (dz (fR (B.af v5 (jx ao v8)) ao) ao)) av)) (B.cu 10 rfl (.inl ⋯)) (aS (iY rfl (kr v9 (ah (dI B T.rg (M3 T) cO ⋯ (ah (gv (jx (B.af v5 (gv (gv (jx ao v8) ao) (dz yI ao))) (gv ao yI)) v8) (ah v3 (ah v4 av)))) av))))) (aS (iY rfl (kr v7 (ah (cz (ah v9 (ah (dI B T.rh (M5 T) cO ⋯ (ah (gv (B.af v5 (gv (jx ao v8) ao)) v8) (ah v8 (ah v2 (ah v6 (ah v3 av)))))) av))) av))))))) (aS (bQ v7))))))
theorem Mt(T:Tx K mg):ck P w K mg base (bN P w) 3 T.qU.a T.qU.d ["_law_script","_law_first","_law_many","_law_boxes","_law_slots"] (cE K mg 5 (fM vm 11 5)):=eQ T T.qU rfl rfl Ms Ma
theorem Pq:cZ ["blocks","number","step","block"] ["blocks","number"] (aQ wU):=⟨rfl,rfl,rfl,⋯,rfl,⋯,⋯⟩
theorem NN:JX ["blocks","number","step","block"] wU 0 wV:=λ{X} T B hF aU=>
 letI v0:=("blocks",0)
 letI v1:=("number",1)
 letI v3:=("block",3)
 (aJ (B.gz (l9 (B.gl _ ⋯) T.jy rfl (ah (dO B T ⋯ (ah v0 av)) av)) (B.cu 2 rfl (.inl ⋯)) (aJ (B.bP 3 rfl (.inl ⋯) rfl (B.af v0 v1)) (aJ (cM (fh (fT (bt sN (dO B T ⋯ (ah (B.af v3 ao) av)) ao) (eZ (bt B.ne (B.af (B.af v3 ao) ao) cK)))) (aS (bQ v1)) cL) (aS (B.bP 1 rfl (.inl ⋯) rfl (B.af (B.af v3 ao) ao)))))) (aS (bQ v1)))
theorem Pr(T:Tx K mg):ck P w K mg base (bN P w) 1 T.nv.a T.nv.d ["blocks","number"] (cE K mg 2 (fM wV 4 2)):=eQ T T.nv rfl rfl Pq NN
theorem Nu:cZ ["end","told"] ["end","told"] (aQ vU):=⟨rfl,rfl,rfl,⋯,rfl,⋯,⋯⟩
theorem MP:JX ["end","told"] vU 0 vW:=λ{X} T B hF aU=>
 letI v0:=("end",0)
 letI v1:=("told",1)
 (aJ (cM (bt B.eq (B.af v0 ao) cK) (aS (bQ (cz (ah cK (ah (B.af v1 (B.af v0 ao)) av))))) cL) (aJ (cM (bt B.eq (B.af v0 ao) cK) (aS (bQ (cz (ah cK (ah (B.af v0 ao) (ah (B.af v1 (B.af v0 ao)) (ah (B.af v1 (B.af v0 ao)) av))))))) cL) (aS (bQ v0))))
theorem Ej(T:Tx K mg):ck P w K mg base (bN P w) 1 T.kb.a T.kb.d ["end","told"] (cE K mg 2 (fM vW 2 2)):=eQ T T.kb rfl rfl Nu MP
theorem Mg:cZ ["end"] ["end"] (aQ vd):=⟨rfl,rfl,rfl,⋯,rfl,⋯,⋯⟩
theorem L8:JX ["end"] vd 0 ve:=λ{X} T B hF aU=>
 letI v0:=("end",0)
 (aJ (cM (bt B.eq (B.af v0 ao) cK) (aS (bQ (dN (ah (B.af v0 ao) av)))) cL) (aJ (cM (bt B.eq (B.af v0 ao) cK) (aS (bQ (dN (ah (B.af v0 ao) (ah (B.af v0 ao) av))))) cL) (aS (bQ (dN av)))))
theorem Ec(T:Tx K mg):ck P w K mg base (bN P w) 1 T.ka.a T.ka.d ["end"] (cE K mg 1 (fM ve 1 1)):=eQ T T.ka rfl rfl Mg L8
theorem M6:cZ ["starts","further","found","queue","start","done","thing","other"] ["starts","further"] (aQ vP):=⟨rfl,rfl,rfl,⋯,rfl,⋯,⋯⟩
theorem MF:JX ["starts","further","found","queue","start","done","thing","other"] vP 2 vS:=λ{X} T B hF aU=>
 letI v0:=("starts",0)
 letI v2:=("found",2)
 letI v3:=("queue",3)
 letI v4:=("start",4)
 letI v5:=("done",5)
 letI v6:=("thing",6)
 letI v7:=("other",7)
 (aJ (B.bP 2 rfl (.inl ⋯) rfl Hu) (aJ (B.bP 3 rfl (.inl ⋯) rfl (dN av)) (aJ (B.gz (fC v0) (B.cu 4 rfl (.inl ⋯)) (aS (cM (bt (B.sP (by with_unfolding_all rfl)) v4 v2) (aJ (xq lb (B.AK v2 v4)) (aS (iY rfl (kr v3 (ah v4 av))))) cL))) (aJ (B.bP 5 rfl (.inl ⋯) rfl ao) (aJ (B.xr (bt i6 v5 (dO B T ⋯ (ah v3 av))) (aJ (B.bP 6 rfl (.inl ⋯) rfl (B.af v3 v5)) (aJ (B.Xv 5 rfl (.inl ⋯) ao) (aS (B.gz (fC (SG (HC T.Ab Ac B.room (by rw[B.hN];rfl) (B.kH _ (.inl ⋯)) (λa v cl s H hr=>(λ{X} (T:Tx X.K X.mg) (B:Bd X _ _ _)=>((B.af (B.jv 1 rfl (.inr (.inr rfl)) ⋯) (B.jv 0 rfl (.inl rfl) ⋯)):JE X (jf jt).bd pz)) (X:=kx X _ _ _ _ a v cl s H) T (Bd.Ld B Ac ⋯ a v cl s H hr)) rfl (ah v6 av) ⋯ ⋯) (HC T.zQ zS B.room (by rw[B.hN];rfl) (B.kH _ (.inl ⋯)) (λa v cl s H hr=>(λ{X} (T:Tx X.K X.mg) (B:Bd X _ _ _)=>((jz rfl ⋯ (Ec T) cO (B.room.mono (by decide)) (B.gl _ rfl) T.ka.m T.ka.F.kp T.ka.b (ah (B.af (B.jv 1 rfl (.inr (.inr rfl)) ⋯) (B.jv 0 rfl (.inl rfl) ⋯)) av)):JE X (jf fy).bd pj)) (X:=kx X _ _ _ _ a v cl s H) T (Bd.Ld B zS ⋯ a v cl s H hr)) rfl (ah v6 av) ⋯ ⋯))) (B.cu 7 rfl (.inl ⋯)) (aS (cM (bt (B.sP (by with_unfolding_all rfl)) v7 v2) (aJ (xq v6 (B.AK v2 v7)) (aS (iY rfl (kr v3 (ah v7 av))))) cL))))))) (aS (bQ v2)))))))
theorem Eg(T:Tx K mg):ck P w K mg base (bN P w) 3 T.l0.a T.l0.d ["starts","further"] (cE K mg 2 (fM vS 8 2)):=eQ T T.l0 rfl rfl M6 MF
theorem Pt:cZ ["ways"] ["ways"] (aQ jt):=⟨rfl,rfl,rfl,⋯,rfl,⋯,⋯⟩
theorem Pu(T:Tx K mg):ck P w K mg base (bN P w) 4 T.wX T.rW ["ways"] (cE K mg 1 Aw):=Sa (L:=jf jt) T.ny Pt rfl (λ_=>rfl) ⋯ T.Fp T.Fq T.Fs T.Ft T.Fu T.Fv T.Ab (λ_ _ _=>rfl) Ac.only (λ_=>rfl) (λ_=>rfl) ⋯ ⋯ (Eg T) T.l0.m T.l0.F.kp T.l0.b rfl λ_ _ _ _ _ _ _=>JE.h (dN (ah ao av))
theorem QD:cZ ["ways","told","block","further"] ["ways"] (aQ xj):=⟨rfl,rfl,rfl,⋯,rfl,⋯,⋯⟩
theorem Oy:JX ["ways","told","block","further"] xj 4 xk:=λ{X} T B hF aU=>
 letI v0:=("ways",0)
 letI v1:=("told",1)
 letI v2:=("block",2)
 letI v3:=("further",3)
 (aJ (nC (i:=1) (by rw[B.hN];exact B.nd) (by rw[B.hN];rfl) (B.fn _ (.inl ⋯)).2 (by rw[aU];decide +kernel) B.calm (N':=["block"]) (Bd.cap B.hN aU ⋯) (fC v0) (gi B T ⋯ ⋯ λ{X} B T=>(B.cu 0 rfl (.inl rfl))) (gj B T ⋯ ⋯ λ{X} B T=>ir) (gk B T ⋯ ⋯ λ{X} B T=>(dN av)) (nr (by rw[aU];rfl) (by rw[aU];decide +kernel) rfl ⋯)) (aJ (B.gz (fC (nJ rfl ⋯ ⋯ (z9 B.calm) AR (B.gl _ ⋯) T.wY boot_sorted (ah (jz rfl ⋯ (Pu T) Qm (B.room.mono (by decide)) (B.gl _ ⋯) T.Ga T.ny.kp T.Gb (ah v0 av)) av))) (B.cu 2 rfl (.inl ⋯)) (aS (B.gz (fC (B.af v0 v2)) (B.cu 3 rfl (.inl ⋯)) (aS (iY rfl (kr (B.af v1 v3) (ah v2 av))))))) (aS (bQ v1))))
theorem QE(T:Tx K mg):ck P w K mg base (bN P w) 5 T.r9.a T.r9.d ["ways"] (cE K mg 1 (fM xk 4 1)):=eQ T T.r9 rfl rfl QD Oy
theorem Mb:cZ ["ends","found","block","arrivals"] ["ends"] (aQ u7):=⟨rfl,rfl,rfl,⋯,rfl,⋯,⋯⟩
theorem L6:JX ["ends","found","block","arrivals"] u7 5 u9:=λ{X} T B hF aU=>
 letI v0:=("ends",0)
 letI v1:=("found",1)
 letI v2:=("block",2)
 letI v3:=("arrivals",3)
 (aJ (B.bP 1 rfl (.inl ⋯) rfl Hu) (aJ (B.gz (GH (B.gl _ ⋯) T.zR rfl (ah (dI B T.r9 (QE T) cO ⋯ (ah (me B.calm (N':=["end"]) (Bd.cap B.hN aU ⋯) (fC v0) (gi B T ⋯ ⋯ λ{X} B T=>(B.cu 0 rfl (.inl rfl))) (gj B T ⋯ ⋯ λ{X} B T=>ir) (gk B T ⋯ ⋯ λ{X} B T=>(jz rfl ⋯ (Ec T) cO (B.room.mono (by decide)) (B.gl _ rfl) T.ka.m T.ka.F.kp T.ka.b (ah (B.jv 0 rfl (.inl rfl) ⋯) av)))) av)) av)) (nI B.calm (gW (B.cu 2 rfl (.inl ⋯)) (gW (B.cu 3 rfl (.inl ⋯)) nB))) (aS (cM (fh (mf (bt sN v2 ao) (mf (bt B.eq (dO B T ⋯ (ah v3 av)) ao) (eZ (bt B.eq (B.af (B.af v0 (B.af v3 ao)) ao) cK))))) (aS (xq iA (B.AK v1 v2))) cL))) (aS (bQ v1))))
theorem Mc(T:Tx K mg):ck P w K mg base (bN P w) 6 T.qR.a T.qR.d ["ends"] (cE K mg 1 (fM u9 4 1)):=eQ T T.qR rfl rfl Mb L6
theorem MG:cZ ["blocks","ends","within","number","rows","end"] ["blocks","ends","within","number"] (aQ vA):=⟨rfl,rfl,rfl,⋯,rfl,⋯,⋯⟩
theorem Mh:JX ["blocks","ends","within","number","rows","end"] vA 0 vB:=λ{X} T B hF aU=>
 letI v0:=("blocks",0)
 letI v1:=("ends",1)
 letI v2:=("within",2)
 letI v3:=("number",3)
 letI v4:=("rows",4)
 letI v5:=("end",5)
 (aJ (B.bP 4 rfl (.inl ⋯) rfl (sD rfl ⋯ ⋯ (zY B.calm) AQ (B.gl _ ⋯) T.pH adu (ah (B.af (B.af v0 v3) ao) av))) (aJ (B.bP 5 rfl (.inl ⋯) rfl (B.af v1 v3)) (aJ (B.xr (fh (mf (bt B.eq (B.af v5 ao) cK) (eZ (bt (B.yj (by with_unfolding_all rfl)) (B.af v5 ao) v2)))) (aJ (iY rfl (Bh rfl rfl adW agj agk EX xG E6 v4 (ah (B.af (B.af v0 (B.af v5 ao)) ao) av))) (aS (B.bP 5 rfl (.inl ⋯) rfl (B.af v1 (B.af v5 ao)))))) (aS (bQ (cz (ah v4 (ah v5 av))))))))
theorem MH(T:Tx K mg):ck P w K mg base (bN P w) 1 T.m7.a T.m7.d ["blocks","ends","within","number"] (cE K mg 4 (fM vB 6 4)):=eQ T T.m7 rfl rfl MG Mh
theorem NO:cZ ["blocks","leads","ends","within","found","left","anew","joined"] ["blocks"] (aQ fy):=⟨rfl,rfl,rfl,⋯,rfl,⋯,⋯⟩
theorem MQ{X:Cx}(T:Tx X.K X.mg)(B:Bd X ["blocks","leads","ends","within","found","left","anew","joined"] (uJ (aQ fy) "ends") 6)(hF:tP X)(aU:X.env.scope=aQ fy)(jg:X.fn "ends"=false)(he:X.env.qual=("threaded":Str)++".<locals>."/\X.env.globals=abr/\X.env.code=T.nh.code)(hc:∃c0,X.env.cells.lookup ("ends":Str)=O c0/\X.aD.heap.objs.size<=c0/\aeF (jf fy).sc X.env=pure [(("ends":Str),c0)]):JB X ((eE fy).drop 2) zN:=
 have v2 {p:Pos}:=B.jv (pos:=p) (x:="ends") 2 rfl (.inr (.inr ⋯)) ⋯;letI v4:=("found",4)
 letI v5:=("left",5)
 letI v7:=("joined",7)
 (aJ (B.bP 3 rfl (.inr ⋯) rfl (dI B T.qR (Mc T) cO ⋯ (ah v2 av))) (aJ (B.bP 4 rfl (.inl ⋯) rfl (nJ rfl ⋯ ⋯ (z9 B.calm) AR (B.gl _ ⋯) T.wY boot_sorted (ah (dI B T.l0 (Eg T) cO ⋯ (ah (dN (ah ao av)) (ah (VV jg (by rw[B.hN];rfl) (by rw[aU];decide +kernel) hc.choose_spec T.zQ ⟨he.1,he.2.1,he.2.2.trans T.Ep⟩ T.Er T.Es T.Et T.Eu T.Ew zS.only rfl) av))) av))) (aJ (nC (i:=5) (by rw[B.hN];exact B.nd) (by rw[B.hN];rfl) (B.fn _ (.inl ⋯)).2 (by rw[aU];decide +kernel) B.calm (N':=["number","within"]) (Bd.cap B.hN aU ⋯) (fC v4) (gi B T ⋯ ⋯ λ{X} B T=>(B.cu 0 rfl (.inl rfl))) (gj B T ⋯ ⋯ λ{X} B T=>(xt (bt (B.sP (by with_unfolding_all rfl)) (B.jv 0 rfl (.inl rfl) ⋯) (B.jv 1 rfl (.inr (.inr rfl)) ⋯)))) (gk B T ⋯ ⋯ λ{X} B T=>(B.jv 0 rfl (.inl rfl) ⋯)) (nr (by rw[aU];rfl) (by rw[aU];decide +kernel) rfl ⋯)) (aJ (B.bP 6 rfl (.inr ⋯) rfl (sD rfl ⋯ ⋯ (O3 B.calm B.room.units) R5 (B.gl _ ⋯) T.HV PyProof.Rows.boot_dict (ah (me B.calm (N':=["place","number"]) (Bd.cap B.hN aU ⋯) (GH (B.gl _ ⋯) T.zR rfl (ah v5 av)) (gi B T ⋯ ⋯ λ{X} B T=>(nI B.calm (gW (B.cu 0 rfl (.inl rfl)) (gW (B.cu 1 rfl (.inl rfl)) nB)))) (gj B T ⋯ ⋯ λ{X} B T=>ir) (gk B T ⋯ ⋯ λ{X} B T=>(cz (ah (B.jv 1 rfl (.inl rfl) ⋯) (ah (B.jv 0 rfl (.inl rfl) ⋯) av))))) av))) (aJ (nC (i:=7) (by rw[B.hN];exact B.nd) (by rw[B.hN];rfl) (B.fn _ (.inl ⋯)).2 (by rw[aU];decide +kernel) B.calm (N':=["number","blocks","ends","within"]) (Bd.cap B.hN aU ⋯) (fC v5) (gi B T ⋯ ⋯ λ{X} B T=>(B.cu 0 rfl (.inl rfl))) (gj B T ⋯ ⋯ λ{X} B T=>ir) (gk B T ⋯ ⋯ λ{X} B T=>(jz rfl ⋯ (MH T) cO (B.room.mono (by decide)) (B.gl _ rfl) T.m7.m T.m7.F.kp T.m7.b (ah (B.jv 1 rfl (.inr (.inr rfl)) ⋯) (ah (B.jv 2 rfl (.inr (.inr rfl)) ⋯) (ah (B.jv 3 rfl (.inr (.inr rfl)) ⋯) (ah (B.jv 0 rfl (.inl rfl) ⋯) av)))))) (nr (by rw[aU];rfl) (by rw[aU];decide +kernel) rfl ⋯)) (aS (bQ (me B.calm (N':=["block","anew"]) (Bd.cap B.hN aU ⋯) (fC v7) (gi B T ⋯ ⋯ λ{X} B T=>(B.cu 0 rfl (.inl rfl))) (gj B T ⋯ ⋯ λ{X} B T=>ir) (gk B T ⋯ ⋯ λ{X} B T=>(cz (ah (B.af (B.jv 0 rfl (.inl rfl) ⋯) ao) (ah (jz rfl ⋯ (Ej T) cO (B.room.mono (by decide)) (B.gl _ rfl) T.kb.m T.kb.F.kp T.kb.b (ah (B.af (B.jv 0 rfl (.inl rfl) ⋯) ao) (ah (B.jv 1 rfl (.inr (.inr rfl)) ⋯) av))) av))))))))))))
theorem M7{X:Cx}(T:Tx X.K X.mg)(B:Bd X ["blocks","leads","ends","within","found","left","anew","joined"] (aQ fy) 6)(hF:tP X)(aU:X.env.scope=aQ fy)(he:X.env.qual=("threaded":Str)++".<locals>."/\X.env.globals=abr/\X.env.code=T.nh.code)(hc:∃c0,X.env.cells.lookup ("ends":Str)=O c0/\X.aD.heap.objs.size<=c0/\aeF (jf fy).sc X.env=pure [(("ends":Str),c0)]):JR X (eE fy) l4:=
 have v0 {p:Pos}:=B.jv (pos:=p) (x:="blocks") 0 rfl (.inr (.inl ⋯)) ⋯
 (GR (B.BM 1 rfl (.inr ⋯) (by rw[aU];decide +kernel) (me B.calm (N':=["number","blocks"]) (Bd.cap B.hN aU ⋯) (l9 (B.gl _ ⋯) T.jy rfl (ah (dO B T ⋯ (ah v0 av)) av)) (gi B T ⋯ ⋯ λ{X} B T=>(B.cu 0 rfl (.inl rfl))) (gj B T ⋯ ⋯ λ{X} B T=>ir) (gk B T ⋯ ⋯ λ{X} B T=>(jz rfl ⋯ (Pr T) cO (B.room.mono (by decide)) (B.gl _ rfl) T.nv.m T.nv.F.kp T.nv.b (ah (B.jv 1 rfl (.inr (.inr rfl)) ⋯) (ah (B.jv 0 rfl (.inl rfl) ⋯) av)))))) (GR (B.BM 2 rfl (.inr ⋯) (by rw[aU];decide +kernel) (me B.calm (N':=["block","leads"]) (Bd.cap B.hN aU ⋯) (fC v0) (gi B T ⋯ ⋯ λ{X} B T=>(B.cu 0 rfl (.inl rfl))) (gj B T ⋯ ⋯ λ{X} B T=>ir) (gk B T ⋯ ⋯ λ{X} B T=>(jz rfl ⋯ (Ej T) cO (B.room.mono (by decide)) (B.gl _ rfl) T.kb.m T.kb.F.kp T.kb.b (ah (B.af (B.jv 0 rfl (.inl rfl) ⋯) ao) (ah (B.jv 1 rfl (.inr (.inr rfl)) ⋯) av)))))) (SH (n:="ends") (MQ (X:=oo X "ends") T (B.oo ⋯) ⟨hF.st,hF.fr,hF.ex⟩ aU SI he hc))))
theorem Ey(T:Tx K mg):ck P w K mg base (bN P w) 7 T.wD T.nh ["blocks"] (cE K mg 1 (fM l4 8 1)):=SJ (λenv n=>∃c0,env.cells.lookup ("ends":Str)=O c0/\n<=c0/\aeF (jf fy).sc env=pure [(("ends":Str),c0)]) rfl rfl T.l6 NO (λL0 _ _=>by refine⟨_,rfl,?_,rfl⟩;repeat (first | exact aaN _ | apply agl)) λ{X} h1 h2 h3 h4 h5 B hF aU he hc=>by subst h3 h4;exact M7 T B hF aU he hc
theorem NP:cZ ["_law_end"] ["_law_end"] (aQ we):=⟨rfl,rfl,rfl,⋯,rfl,⋯,⋯⟩
theorem M8:JX ["_law_end"] we 0 wz:=λ{X} T B hF aU=>
 letI v0:=("_law_end",0)
 (aJ (cM (bt B.eq (B.af v0 ao) cK) (aS (bQ (dN (ah (B.af v0 ao) av)))) cL) (aS (bQ (sD rfl ⋯ ⋯ (zY B.calm) AQ (B.gl _ ⋯) T.pH adu (ah (BH v0 (AH ao) AG) av)))))
theorem zT(T:Tx K mg):ck P w K mg base (bN P w) 1 T.nj.a T.nj.d ["_law_end"] (cE K mg 1 (fM wz 1 1)):=eQ T T.nj rfl rfl NP M8
theorem Mu:cZ ["_law_found","_law_block","_law_goal"] ["_law_found"] (aQ vj):=⟨rfl,rfl,rfl,⋯,rfl,⋯,⋯⟩
theorem Md:JX ["_law_found","_law_block","_law_goal"] vj 1 vq:=λ{X} T B hF aU=>
 letI v0:=("_law_found",0)
 letI v1:=("_law_block",1)
 letI v2:=("_law_goal",2)
 (aJ (cM (fh (fT (lc (lg rfl (pM E0 adu ⋯ ⋯ rfl (B.gl _ ⋯) T.m8 (B.gl _ ⋯) T.pH v0))) (eZ (bt B.eq v0 (dN av))))) (aS (bQ iA)) cL) (aJ (B.gz (fC v0) (B.cu 1 rfl (.inl ⋯)) (aJ (cM (fh (fT (lc (lg rfl (pM ED agv ⋯ ⋯ rfl (B.gl _ ⋯) T.m8 (B.gl _ ⋯) T.AZ v1))) (fT (bt B.ne (dO B T ⋯ (ah v1 av)) ao) (eZ (lc (lg rfl (pM E0 adu ⋯ ⋯ rfl (B.gl _ ⋯) T.m8 (B.gl _ ⋯) T.pH (B.af v1 ao)))))))) (aS (bQ iA)) cL) (aJ (cM (fh (fT (lc (lg rfl (pM ED agv ⋯ ⋯ rfl (B.gl _ ⋯) T.m8 (B.gl _ ⋯) T.AZ (B.af v1 ao)))) (eZ (bt (B.sP (by with_unfolding_all rfl)) (B.af (B.af v1 ao) ao) (cz (ah cK (ah cK (ah cK av)))))))) (aS (bQ iA)) cL) (aS (B.gz (fC (dI B T.nj (zT T) cO ⋯ (ah (B.af v1 ao) av))) (B.cu 2 rfl (.inl ⋯)) (aS (cM (fh (fT (lc (lg rfl (pM Qa agW ⋯ ⋯ rfl (B.gl _ ⋯) T.m8 (B.gl _ ⋯) T.BV v2))) (fT (lg rfl (pM OX PyProof.Rows.boot_bool ⋯ ⋯ rfl (B.gl _ ⋯) T.m8 (B.gl _ ⋯) T.HU v2)) (eZ (lc (Qd Xp i6 (by with_unfolding_all rfl) ao v2 (dO B T ⋯ (ah v0 av)))))))) (aS (bQ iA)) cL))))))) (aS (bQ iA))))
theorem Mv(T:Tx K mg):ck P w K mg base (bN P w) 2 T.qV.a T.qV.d ["_law_found"] (cE K mg 1 (fM vq 3 1)):=eQ T T.qV rfl rfl Mu Md
theorem NQ:cZ ["_law_blocks","_law_block","_law_place","_law_step_here"] ["_law_blocks","_law_block","_law_place"] (aQ wg):=⟨rfl,rfl,rfl,⋯,rfl,⋯,⋯⟩
theorem M9:JX ["_law_blocks","_law_block","_law_place","_law_step_here"] wg 0 wA:=λ{X} T B hF aU=>
 letI v0:=("_law_blocks",0)
 letI v1:=("_law_block",1)
 letI v2:=("_law_place",2)
 (aJ (B.gz (l9 (B.gl _ ⋯) T.jy rfl (ah (dO B T ⋯ (ah v0 av)) av)) (B.cu 3 rfl (.inl ⋯)) (aS (cM (fh (mf (bt B.eq v2 (dO B T ⋯ (ah (B.af (B.af v0 v1) ao) av))) (eZ (bt B.eq (B.af (B.af (B.af v0 v1) ao) ao) cK)))) (aJ (B.bP 1 rfl (.inl ⋯) rfl (B.af (B.af (B.af v0 v1) ao) ao)) (aS (B.bP 2 rfl (.inl ⋯) rfl ao))) cL))) (aS (bQ (cz (ah v1 (ah v2 av))))))
theorem zU(T:Tx K mg):ck P w K mg base (bN P w) 1 T.nk.a T.nk.d ["_law_blocks","_law_block","_law_place"] (cE K mg 3 (fM wA 4 3)):=eQ T T.nk rfl rfl NQ M9
theorem NR:cZ ["_law_old","_law_new","_law_one","_law_other","_law_rows","_law_others","_law_end","_law_last"] ["_law_old","_law_new","_law_one","_law_other"] (aQ wj):=⟨rfl,rfl,rfl,⋯,rfl,⋯,⋯⟩
theorem Na:JX ["_law_old","_law_new","_law_one","_law_other","_law_rows","_law_others","_law_end","_law_last"] wj 0 rC:=λ{X} T B hF aU=>
 letI v0:=("_law_old",0)
 letI v1:=("_law_new",1)
 letI v2:=("_law_one",2)
 letI v3:=("_law_other",3)
 letI v4:=("_law_rows",4)
 letI v5:=("_law_others",5)
 have v6 {p:Pos}:=B.jv (pos:=p) (x:="_law_end") 6 rfl (.inr (.inl ⋯)) ⋯;have v7 {p:Pos}:=B.jv (pos:=p) (x:="_law_last") 7 rfl (.inr (.inl ⋯)) ⋯
 (aJ (B.bP 4 rfl (.inl ⋯) rfl (B.af (B.af v0 (B.af v2 ao)) ao)) (aJ (B.bP 5 rfl (.inl ⋯) rfl (B.af (B.af v1 (B.af v3 ao)) ao)) (aJ (cM (fh (mf (bt i6 (B.af v2 ao) (dO B T ⋯ (ah v4 av))) (eZ (bt i6 (B.af v3 ao) (dO B T ⋯ (ah v5 av)))))) (aJ (cM (bt B.ne (B.af v4 (B.af v2 ao)) (B.af v5 (B.af v3 ao))) (aS (bQ lb)) cL) (aS (bQ (dN (ah (cz (ah (cz (ah (B.af v2 ao) (ah (gv (B.af v2 ao) ao) av))) (ah (cz (ah (B.af v3 ao) (ah (gv (B.af v3 ao) ao) av))) av))) av))))) cL) (aJ (cM (fh (fT (bt i6 (B.af v2 ao) (dO B T ⋯ (ah v4 av))) (eZ (bt i6 (B.af v3 ao) (dO B T ⋯ (ah v5 av)))))) (aS (bQ lb)) cL) (aJ (B.bP 6 rfl (.inr ⋯) rfl (B.af (B.af v0 (B.af v2 ao)) ao)) (aJ (B.bP 7 rfl (.inr ⋯) rfl (B.af (B.af v1 (B.af v3 ao)) ao)) (aJ (cM (fh (fT (bt B.ne (BH v6 AG (AH (sA ao))) (BH v7 AG (AH (sA ao)))) (eZ (bt B.ne (dO B T ⋯ (ah v6 av)) (dO B T ⋯ (ah v7 av)))))) (aS (bQ lb)) cL) (aS (bQ (me B.calm (N':=["_law_k","_law_end","_law_last"]) (Bd.cap B.hN aU ⋯) (E4 (B.gl _ ⋯) T.jy rfl rfl (ah ao (ah (dO B T ⋯ (ah v6 av)) av))) (gi B T ⋯ ⋯ λ{X} B T=>(B.cu 0 rfl (.inl rfl))) (gj B T ⋯ ⋯ λ{X} B T=>ir) (gk B T ⋯ ⋯ λ{X} B T=>(cz (ah (cz (ah (B.af (B.jv 1 rfl (.inr (.inr rfl)) ⋯) (B.jv 0 rfl (.inl rfl) ⋯)) (ah ao av))) (ah (cz (ah (B.af (B.jv 2 rfl (.inr (.inr rfl)) ⋯) (B.jv 0 rfl (.inl rfl) ⋯)) (ah ao av))) av))))))))))))))
theorem NS(T:Tx K mg):ck P w K mg base (bN P w) 1 T.rE.a T.rE.d ["_law_old","_law_new","_law_one","_law_other"] (cE K mg 4 (fM rC 8 4)):=eQ T T.rE rfl rfl NR Na
theorem NT:cZ ["_law_old","_law_new","_law_met","_law_waiting","_law_pair","_law_one","_law_other","_law_more"] ["_law_old","_law_new"] (aQ wm):=⟨rfl,rfl,rfl,⋯,rfl,⋯,⋯⟩
theorem Nb:JX ["_law_old","_law_new","_law_met","_law_waiting","_law_pair","_law_one","_law_other","_law_more"] wm 1 wC:=λ{X} T B hF aU=>
 letI v0:=("_law_old",0)
 letI v1:=("_law_new",1)
 letI v2:=("_law_met",2)
 letI v3:=("_law_waiting",3)
 letI v4:=("_law_pair",4)
 letI v5:=("_law_one",5)
 letI v6:=("_law_other",6)
 letI v7:=("_law_more",7)
 (aJ (B.bP 2 rfl (.inl ⋯) rfl Vt) (aJ (B.bP 3 rfl (.inl ⋯) rfl (dN (ah (cz (ah (cz (ah ao (ah ao av))) (ah (cz (ah ao (ah ao av))) av))) av))) (aJ (B.xr (bt B.ne v3 (dN av)) (aJ (B.bP 4 rfl (.inl ⋯) rfl (RS adW PySem.F.slot_list_pop PySem.F.type_list_pop Ui xG UO v3)) (aJ (B.bP 5 rfl (.inl ⋯) rfl (dI B T.nk (zU T) cO ⋯ (ah v0 (ah (B.af (B.af v4 ao) ao) (ah (B.af (B.af v4 ao) ao) av))))) (aJ (B.bP 6 rfl (.inl ⋯) rfl (dI B T.nk (zU T) cO ⋯ (ah v1 (ah (B.af (B.af v4 ao) ao) (ah (B.af (B.af v4 ao) ao) av))))) (aS (cM (bt (B.Yd (by with_unfolding_all rfl)) (cz (ah v5 (ah v6 av))) v2) (aJ (xq iA (B.R8 v2 (cz (ah v5 (ah v6 av))))) (aJ (B.bP 7 rfl (.inl ⋯) rfl (dI B T.rE (NS T) cO ⋯ (ah v0 (ah v1 (ah v5 (ah v6 av)))))) (aJ (cM (bt BG v7 lb) (aS (bQ lb)) cL) (aS (iY rfl (Bh rfl rfl adW agj agk EX xG E6 v3 (ah v7 av))))))) cL)))))) (aS (bQ v2)))))
theorem NU(T:Tx K mg):ck P w K mg base (bN P w) 2 T.rF.a T.rF.d ["_law_old","_law_new"] (cE K mg 2 (fM wC 8 2)):=eQ T T.rF rfl rfl NT Nb
theorem Nv:cZ ["_law_old","_law_there","_law_ways_here","_law_at","_law_end","_law_goal","_law_found","_law_block","_law_some"] ["_law_old"] (aQ vV):=⟨rfl,rfl,rfl,⋯,rfl,⋯,⋯⟩
theorem MR:JX ["_law_old","_law_there","_law_ways_here","_law_at","_law_end","_law_goal","_law_found","_law_block","_law_some"] vV 1 vX:=λ{X} T B hF aU=>
 letI v0:=("_law_old",0)
 letI v1:=("_law_there",1)
 letI v2:=("_law_ways_here",2)
 letI v3:=("_law_at",3)
 letI v4:=("_law_end",4)
 letI v5:=("_law_goal",5)
 letI v6:=("_law_found",6)
 have v7 {p:Pos}:=B.jv (pos:=p) (x:="_law_block") 7 rfl (.inr (.inl ⋯)) ⋯;letI v8:=("_law_some",8)
 (aJ (B.bP 1 rfl (.inl ⋯) rfl (dN (ah ao av))) (aJ (B.bP 2 rfl (.inl ⋯) rfl (dN av)) (aJ (B.bP 3 rfl (.inl ⋯) rfl ao) (aJ (B.xr (bt i6 v3 (dO B T ⋯ (ah v1 av))) (aJ (B.bP 4 rfl (.inl ⋯) rfl (B.af (B.af v0 (B.af v1 v3)) ao)) (aJ (B.gz (fC (dI B T.nj (zT T) cO ⋯ (ah v4 av))) (B.cu 5 rfl (.inl ⋯)) (aJ (B.bP 5 rfl (.inl ⋯) rfl (B.af (dI B T.nk (zU T) cO ⋯ (ah v0 (ah v5 (ah ao av)))) ao)) (aJ (iY rfl (kr v2 (ah (cz (ah v5 (ah (B.af v4 ao) (ah (B.af v1 v3) av)))) av))) (aS (cM (bt (B.sP (by with_unfolding_all rfl)) v5 v1) (aS (iY rfl (kr v1 (ah v5 av)))) cL))))) (aS (B.bP 3 rfl (.inl ⋯) rfl (gv v3 ao)))))) (aJ (B.bP 6 rfl (.inl ⋯) rfl (dN (ah ao av))) (aJ (B.gz (fC (nJ rfl ⋯ ⋯ (z9 B.calm) AR (B.gl _ ⋯) T.wY boot_sorted (ah v1 av))) (B.cu 7 rfl (.inr ⋯)) (aJ (nC (i:=8) (by rw[B.hN];exact B.nd) (by rw[B.hN];rfl) (B.fn _ (.inl ⋯)).2 (by rw[aU];decide +kernel) B.calm (N':=["_law_way","_law_block"]) (Bd.cap B.hN aU ⋯) (fC v2) (gi B T ⋯ ⋯ λ{X} B T=>(B.cu 0 rfl (.inl rfl))) (gj B T ⋯ ⋯ λ{X} B T=>(xt (bt B.eq (B.af (B.jv 0 rfl (.inl rfl) ⋯) ao) (B.jv 1 rfl (.inr (.inr rfl)) ⋯)))) (gk B T ⋯ ⋯ λ{X} B T=>(B.jv 0 rfl (.inl rfl) ⋯)) (nr (by rw[aU];rfl) (by rw[aU];decide +kernel) rfl ⋯)) (aS (cM (fh (mf (bt sN v7 ao) (eZ (fh (fT (bt sN (dO B T ⋯ (ah v8 av)) ao) (fT (bt B.eq (B.af (B.af v8 ao) ao) cK) (eZ (bt B.eq (B.af (B.af v8 ao) ao) v7)))))))) (aS (iY rfl (kr v6 (ah v7 av)))) cL)))) (aS (bQ v6))))))))
theorem Nw(T:Tx K mg):ck P w K mg base (bN P w) 2 T.rm.a T.rm.d ["_law_old"] (cE K mg 1 (fM vX 9 1)):=eQ T T.rm rfl rfl Nv MR
theorem MS:cZ ["_law_old","_law_new","_law_met","_law_heads_here"] ["_law_old","_law_new","_law_met"] (aQ vH):=⟨rfl,rfl,rfl,⋯,rfl,⋯,⋯⟩
theorem Mw:JX ["_law_old","_law_new","_law_met","_law_heads_here"] vH 2 vL:=λ{X} T B hF aU=>
 letI v0:=("_law_old",0)
 letI v1:=("_law_new",1)
 have v2 {p:Pos}:=B.jv (pos:=p) (x:="_law_met") 2 rfl (.inr (.inl ⋯)) ⋯;have v3 {p:Pos}:=B.jv (pos:=p) (x:="_law_heads_here") 3 rfl (.inr (.inl ⋯)) ⋯
 (aJ (cM (fh (fT (bt i6 (Fo rfl (B.gl _ ⋯) T.pT (B.gl _ ⋯) T.BW B.calm B.room.units (F3 B.calm (N':=["_law_one","_law_other"]) (Bd.cap B.hN aU ⋯) v2 (gi B T ⋯ ⋯ λ{X} B T=>(nI B.calm (gW (B.cu 0 rfl (.inl rfl)) (gW (B.cu 1 rfl (.inl rfl)) nB)))) (gj B T ⋯ ⋯ λ{X} B T=>ir) (gk B T ⋯ ⋯ λ{X} B T=>(B.jv 0 rfl (.inl rfl) ⋯)))) (nJ rfl ⋯ ⋯ Fm HK (B.gl _ ⋯) T.pT afZ (ah v2 av))) (eZ (bt i6 (Fo rfl (B.gl _ ⋯) T.pT (B.gl _ ⋯) T.BW B.calm B.room.units (F3 B.calm (N':=["_law_one","_law_other"]) (Bd.cap B.hN aU ⋯) v2 (gi B T ⋯ ⋯ λ{X} B T=>(nI B.calm (gW (B.cu 0 rfl (.inl rfl)) (gW (B.cu 1 rfl (.inl rfl)) nB)))) (gj B T ⋯ ⋯ λ{X} B T=>ir) (gk B T ⋯ ⋯ λ{X} B T=>(B.jv 1 rfl (.inl rfl) ⋯)))) (nJ rfl ⋯ ⋯ Fm HK (B.gl _ ⋯) T.pT afZ (ah v2 av)))))) (aS (bQ iA)) cL) (aJ (B.bP 3 rfl (.inr ⋯) rfl (dI B T.rm (Nw T) cO ⋯ (ah v0 av))) (aJ (cM (bt B.ne (dO B T ⋯ (ah v1 av)) (dO B T ⋯ (ah v3 av))) (aS (bQ iA)) cL) (aS (bQ (nJ rfl ⋯ ⋯ (Ol B.calm) Ve (B.gl _ ⋯) T.Jk PyProof.Rows.boot_all (ah (me B.calm (N':=["_law_block","_law_met","_law_heads_here"]) (Bd.cap B.hN aU ⋯) (E4 (B.gl _ ⋯) T.jy rfl rfl (ah ao (ah (dO B T ⋯ (ah v1 av)) av))) (gi B T ⋯ ⋯ λ{X} B T=>(B.cu 0 rfl (.inl rfl))) (gj B T ⋯ ⋯ λ{X} B T=>ir) (gk B T ⋯ ⋯ λ{X} B T=>(xp (B.ZV (by with_unfolding_all rfl)) (cz (ah (cz (ah (B.af (B.jv 2 rfl (.inr (.inr rfl)) ⋯) (B.jv 0 rfl (.inl rfl) ⋯)) (ah ao av))) (ah (cz (ah (B.jv 0 rfl (.inl rfl) ⋯) (ah ao av))) av))) (B.jv 1 rfl (.inr (.inr rfl)) ⋯)))) av)))))))
theorem MT(T:Tx K mg):ck P w K mg base (bN P w) 3 T.qX.a T.qX.d ["_law_old","_law_new","_law_met"] (cE K mg 3 (fM vL 4 3)):=eQ T T.qX rfl rfl MS Mw
theorem MU:cZ ["_law_new","_law_rows","_law_end","_law_goal"] ["_law_new"] (aQ vI):=⟨rfl,rfl,rfl,⋯,rfl,⋯,⋯⟩
theorem Mx:JX ["_law_new","_law_rows","_law_end","_law_goal"] vI 1 vM:=λ{X} T B hF aU=>
 letI v0:=("_law_new",0)
 letI v2:=("_law_end",2)
 letI v3:=("_law_goal",3)
 (aJ (B.gz (fC v0) (nI B.calm (gW (B.cu 1 rfl (.inl ⋯)) (gW (B.cu 2 rfl (.inl ⋯)) nB))) (aS (B.gz (fC (dI B T.nj (zT T) cO ⋯ (ah v2 av))) (B.cu 3 rfl (.inl ⋯)) (aS (cM (fh (mf (bt B.eq (B.af (B.af v0 v3) ao) (dN av)) (eZ (bt B.eq (B.af (B.af (B.af v0 v3) ao) ao) cK)))) (aS (bQ iA)) cL))))) (aS (bQ iA)))
theorem MV(T:Tx K mg):ck P w K mg base (bN P w) 2 T.qY.a T.qY.d ["_law_new"] (cE K mg 1 (fM vM 4 1)):=eQ T T.qY rfl rfl MU Mx
theorem V0:cZ ["_law_script","_law_many","_law_boxes","_law_old","_law_handed","_law_new","_law_met","_law_rows","_law_end"] ["_law_script"] (aQ kq):=⟨rfl,rfl,rfl,⋯,rfl,⋯,⋯⟩
theorem QF:JX ["_law_script","_law_many","_law_boxes","_law_old","_law_handed","_law_new","_law_met","_law_rows","_law_end"] kq 7 pS:=λ{X} T B hF aU=>
 letI v0:=("_law_script",0)
 letI v1:=("_law_many",1)
 letI v2:=("_law_boxes",2)
 letI v3:=("_law_old",3)
 letI v4:=("_law_handed",4)
 letI v5:=("_law_new",5)
 letI v6:=("_law_met",6)
 letI v7:=("_law_rows",7)
 (aJ (B.bP 1 rfl (.inl ⋯) rfl (gv ao (dz (dI B T.iT (pd T) cO ⋯ (ah v0 (ah ao av))) ao))) (aJ (cM (bt B.eq (dz (fR (dI B T.iT (pd T) cO ⋯ (ah v0 (ah ao av))) ao) ao) ao) (aS (B.bP 1 rfl (.inl ⋯) rfl (gv ao (dz (fR (dI B T.iT (pd T) cO ⋯ (ah v0 (ah ao av))) ao) ao)))) cL) (aJ (B.bP 2 rfl (.inl ⋯) rfl (gv ao (dz (dI B T.iT (pd T) cO ⋯ (ah v0 (ah ao av))) ao))) (aJ (B.bP 3 rfl (.inl ⋯) rfl (dI B T.qU (Mt T) cO ⋯ (ah v0 (ah ao (ah v1 (ah v2 (ah (gv ao (dz (fR (dI B T.iT (pd T) cO ⋯ (ah v0 (ah ao av))) ao) ao)) av))))))) (aJ (nC (i:=4) (by rw[B.hN];exact B.nd) (by rw[B.hN];rfl) (B.fn _ (.inl ⋯)).2 (by rw[aU];decide +kernel) B.calm (N':=["_law_rows","_law_end"]) (Bd.cap B.hN aU ⋯) (fC v3) (gi B T ⋯ ⋯ λ{X} B T=>(nI B.calm (gW (B.cu 0 rfl (.inl rfl)) (gW (B.cu 1 rfl (.inl rfl)) nB)))) (gj B T ⋯ ⋯ λ{X} B T=>ir) (gk B T ⋯ ⋯ λ{X} B T=>(cz (ah (sD rfl ⋯ ⋯ (zY B.calm) AQ (B.gl _ rfl) T.pH adu (ah (B.jv 0 rfl (.inl rfl) ⋯) av)) (ah (B.jv 1 rfl (.inl rfl) ⋯) av)))) (nr (by rw[aU];rfl) (by rw[aU];decide +kernel) rfl ⋯)) (aJ (B.bP 5 rfl (.inl ⋯) rfl (jz rfl ⋯ (Ey T) cO (B.room.mono (by decide)) (B.gl _ ⋯) T.z6 T.l6.kp T.l4 (ah v4 av))) (aJ (cM (fh (fT (bt B.ne v4 v3) (eZ (lc (lg rfl (dI B T.qV (Mv T) cO ⋯ (ah v5 av))))))) (aS (bQ iA)) cL) (aJ (B.bP 6 rfl (.inl ⋯) rfl (dI B T.rF (NU T) cO ⋯ (ah v3 (ah v5 av)))) (aJ (cM (fh (fT (bt BG v6 lb) (fT (lc (lg rfl (dI B T.qX (MT T) cO ⋯ (ah v3 (ah v5 (ah v6 av)))))) (eZ (lc (lg rfl (dI B T.qY (MV T) cO ⋯ (ah v5 av)))))))) (aS (bQ iA)) cL) (aJ (B.gz (fC v5) (nI B.calm (gW (B.cu 7 rfl (.inl ⋯)) (gW (B.cu 8 rfl (.inl ⋯)) nB))) (aS (iY rfl (kr v7 (ah (cz (ah cK av)) av))))) (aJ (iY rfl (kr v5 (ah (cz (ah (dN av) (ah (cz (ah cK av)) av))) av))) (aS (bQ (Vc (xp B.eq v4 v3) (Vb (xp B.eq (dO B T ⋯ (ah (jz rfl ⋯ (Ey T) cO (B.room.mono (by decide)) (B.gl _ ⋯) T.z6 T.l6.kp T.l4 (ah v4 av)) av)) (sC (dO B T ⋯ (ah v5 av)) ao)))))))))))))))))
theorem V1(T:Tx K mg):ck P w K mg base (bN P w) 8 T.xP T.xQ ["_law_script"] (cE K mg 1 (fM pS 9 1)):=GF rfl rfl T.sZ V0 λ{X} h1 h2 h3 h4 h5 B hF aU=>by subst h3 h4;exact QF T B hF aU
end
local macro_rules | `(‹$n:num›) => match n.getNat with | 2 => `((fun _ _ _ _ _ _ us hl => by obtain ⟨_, _, e⟩ := J7 us hl; subst e; rfl)) | 1 => `((fun _ _ _ _ _ _ us hl => by obtain ⟨_, e⟩ := J6 us hl; subst e; rfl)) | 3 => `((fun _ _ _ _ _ _ us hl => by obtain ⟨_, _, _, e⟩ := J8 us hl; subst e; rfl)) | 4 => `((fun _ _ _ _ _ _ us hl => by obtain ⟨_, _, _, _, e⟩ := J9 us hl; subst e; rfl)) | _ => `((fun _ _ _ _ _ _ us hl => by obtain ⟨_, _, _, _, _, e⟩ := Z3 us hl; subst e; rfl))
theorem all_mk{l:agQ}{w:acg}{h:ade}{fa MW My Nc MX Nf Mz Pw Nx Mi Ng wH QG Me MI vY NV MA NW NX NY Ny MY MZ Bo rO nu rA ng:abc}{Nh MJ Nz Ni NA MK QH NZ MB NC SQ Mj M0 Oz ML OA OB OC N0 Nj Nk:acG}{Px Py N1 N2 V2 HX:d7}{Pz N3 V3:Array hV}{PB PC PD PJ Ad PK N4 N5 N6 N7 zV N8 V4 HY HZ Ia Bp Ib:abh}{Ae zW:Obj}(KX:K.In h)(G:h.Ns abr mg)(hfa:mg "law"= ⇑fa)(J_0:ed K "_law_cell_at" vF MW Nh)(J_1:ed K "_law_number_by" vg My MJ)(J_2:ed K "_law_row_by" vN Nc Nz)(J_3:ed K "_law_goal_by" vG MX Ni)(J_4:ed K "_law_end_by" vO Nf NA)(J_5:ed K "_law_blocks_by" vh Mz MK)(J_6:ed K "led_on" wU Pw QH)(J_7:ed K "with_ways" vU Nx NZ)(J_8:ed K "further_blocks" vd Mi MB)(J_9:ed K "found_from" vP Ng NC)(J_10:abO K abr "aheads"=O ⇑wH)(J_11:K.lookup wH=O ⟨PB,Px,.func (acw "aheads" "aheads" (iX jt) (eE jt) (aQ jt) .none PC PD PJ Py Ad PK),Pz⟩)(J_12:adC K Ad "aheads"=true)(J_13:acT K (.ref wH)=true)(J_14:ed K "comes" xj QG SQ)(J_15:ed K "standing_within" u7 Me Mj)(J_16:ed K "joined_block" vA MI M0)(J_17:abO K abr "threaded"=O ⇑vY)(J_18:K.lookup vY=O ⟨N4,N1,.func (acw "threaded" "threaded" (iX fy) (eE fy) (aQ fy) .none N5 N6 N7 N2 zV N8),N3⟩)(J_19:adC K zV "threaded"=true)(J_20:acT K (.ref vY)=true)(J_21:ed K "_law_ways" we NV Oz)(J_22:ed K "_law_is_blocks" vj MA ML)(J_23:ed K "_law_norm" wg NW OA)(J_24:ed K "_law_step" wj NX OB)(J_25:ed K "_law_walk" wm NY OC)(J_26:ed K "_law_heads" vV Ny N0)(J_27:ed K "_law_numbers" vH MY Nj)(J_28:ed K "_law_is_lean" vI MZ Nk)(J_29:abO K abr "law"=O ⇑Bo)(J_30:K.lookup Bo=O ⟨V4,V2,.func (acw "law" "law" (iX kq) (eE kq) (aQ kq) .none HY HZ Ia HX Bp Ib),V3⟩)(J_31:adC K Bp "law"=true)(J_32:acT K (.ref Bo)=true)(J_33:Ad=.ref rO)(J_34:K.lookup rO=O Ae)(J_35:jw Ae=O nu)(J_36:(rO==nu)=false)(J_37:zV=.ref rA)(J_38:K.lookup rA=O zW)(J_39:jw zW=O ng)(J_40:(rA==ng)=false)(J_41:eG K=[(("aheads":Str),rO,nu),(("threaded":Str),rA,ng)])(w6:(nu==ng)=false)(J_42:abO K abr "all"=O Z)(J_43:abO K abr "bool"=O Z)(J_44:abO K abr "dict"=O Z)(J_45:abO K abr "enumerate"=O Z)(J_46:abO K abr "int"=O Z)(J_47:abO K abr "isinstance"=O Z)(J_48:abO K abr "len"=O Z)(J_49:abO K abr "list"=O Z)(J_50:abO K abr "range"=O Z)(J_51:abO K abr "set"=O Z)(J_52:abO K abr "sorted"=O Z)(J_53:abO K abr "tuple"=O Z):∃fd:acG,(∀(s:aaR) (v:abh),BindsTo s fd ⟨[v],[]⟩ [("_law_script",v)])/\∀base:ade,K.In base->base.Ns abr mg->ck l.prog w K mg base (bN l.prog w) 8 fa fd ["_law_script"] (cE K mg 1 sY):=by
 have e:=hfa.symm.trans (afu KX G J_29);cases e;have ny:=xo (st:=jt) J_11 J_12 J_13;have l6:=xo (st:=fy) J_18 J_19 J_20;have sZ:=xo (st:=kq) J_30 J_31 J_32
 let T:Tx K mg:={
  iT:=eK KX G J_0 ‹2›,
  qT:=eK KX G J_1 ‹1›,
  rg:=eK KX G J_2 ‹3›,
  pf:=eK KX G J_3 ‹4›,
  rh:=eK KX G J_4 ‹5›,
  qU:=eK KX G J_5 ‹5›,
  nv:=eK KX G J_6 ‹2›,
  kb:=eK KX G J_7 ‹2›,
  ka:=eK KX G J_8 ‹1›,
  l0:=eK KX G J_9 ‹2›,
  wX:=wH,rW:=_,ny:=ny,Ga:=afu KX G J_10,Gb:=ny.binds (ps:=["ways"]) ‹1›,
  r9:=eK KX G J_14 ‹1›,
  qR:=eK KX G J_15 ‹1›,
  m7:=eK KX G J_16 ‹4›,
  wD:=vY,nh:=_,l6:=l6,z6:=afu KX G J_17,l4:=l6.binds (ps:=["blocks"]) ‹1›,
  nj:=eK KX G J_21 ‹1›,
  qV:=eK KX G J_22 ‹1›,
  nk:=eK KX G J_23 ‹3›,
  rE:=eK KX G J_24 ‹4›,
  rF:=eK KX G J_25 ‹2›,
  rm:=eK KX G J_26 ‹1›,
  qX:=eK KX G J_27 ‹3›,
  qY:=eK KX G J_28 ‹1›,
  xP:=fa,xQ:=_,sZ:=sZ,Yh:=afu KX G J_29,pS:=sZ.binds (ps:=["_law_script"]) ‹1›,
  rM:=rO,rN:=nu,Aa:=Ae,Fp:=J_33,Fq:=J_34,Fs:=J_35,Ft:=(λz=>absurd (z▸J_36:(nu==nu)=false) (by simp)),
  Fu:=(by rw[J_41];exact abo),Fv:=(λp hp e=>by rw[J_41] at hp;exact(abk.mp hp).elim (λz=>by rw[z]) (λz=>by rw[aaT.mp z] at e;exact absurd ((beq_iff_eq ..).mpr e.symm) (by rw[w6];exact abg))),
  Ab:=((FV ny J_10).trans rfl),
  rp:=rA,rq:=ng,zP:=zW,Ep:=J_37,Er:=J_38,Es:=J_39,Et:=(λz=>absurd (z▸J_40:(ng==ng)=false) (by simp)),
  Eu:=(by rw[J_41];exact aba _ abo),Ew:=(λp hp e=>by rw[J_41] at hp;exact(abk.mp hp).elim (λz=>by rw[z] at e;exact absurd ((beq_iff_eq ..).mpr e) (by rw[w6];exact abg)) (λz=>by rw[aaT.mp z])),
  zQ:=((FV l6 J_17).trans rfl),
  Jk:=abV KX G J_42,
  HU:=abV KX G J_43,
  HV:=abV KX G J_44,
  zR:=abV KX G J_45,
  BV:=abV KX G J_46,
  m8:=abV KX G J_47,
  pT:=abV KX G J_48,
  pH:=abV KX G J_49,
  jy:=abV KX G J_50,
  BW:=abV KX G J_51,
  wY:=abV KX G J_52,
  AZ:=abV KX G J_53 }
 exact⟨acw "law" "law" (iX kq) (eE kq) (aQ kq) .none HY HZ Ia HX Bp Ib,λs v=>.of_eq rfl,λbase _ _=>V1 T⟩
theorem QI{l:agQ}{q:abI}{loose:a8}{XP:(Str->Option abh)->ade->Prop}{YP:acg->ade->Prop}{d:DefRec}{K:Params->aaJ}(good:∀ns:bI,↑ns<=63->∃ph',sY [.fl (ns.map W.int)] []=.ok (.bl true) ph')(hn:l.most=O 63)(uo:d.params.defaults=[])(hY:∀(w:acg) (h:ade),YP w h->(K w.params).In h)(hK:∀w:acg,ahm (K w.params)=true)(hT:∀(w:acg) (h:ade),YP w h->∀p∈eG (K w.params),aes h p.2.1 p.2.2/\h.get? p.2.2=O (adk #[]))(F:∀(w:acg) (mg:dE) (fa:abc) (h:ade),(K w.params).In h->h.Ns abr mg->mg d.name= ⇑fa->∃fd:acG,(∀(s:aaR) (u:abh),BindsTo s fd ⟨[u],[]⟩ [("_law_script",u)])/\∀base:ade,(K w.params).In base->base.Ns abr mg->ck l.prog w (K w.params) mg base (bN l.prog w) 8 fa fd ["_law_script"] (cE (K w.params) mg 1 sY)):PySem.W.WalkO q loose XP YP l.row.toRowW d [] (λf vs=>PySem.call f vs):=RU 8 good hn uo ⟨rfl,by decide,by decide⟩ hY hK hT F
open PySem L2
variable{α β:Type}{ph ph':PH}
theorem az{m:Mo α}{f:α->Mo β}{a:α}{r:Out β}(h:m ph=.ok a ph')(k:f a ph'=r):au m f ph=r:=by
 unfold au;rw[h];exact k
variable{j:Nat}
theorem bo{l:List α}(h:j<↑l):∃x,l[j]? =O x:=⟨l[j],abP h⟩
theorem xu{a b:Int}(h1: -(2 ^ 64)<b)(h2:b<2 ^ 64):mulC a b=true:=by
 unfold mulC;rw[a6 h1,a6 h2];simp
theorem Bq{a b:Int}(h1: -(2 ^ 64)<a)(h2:a<2 ^ 64):mulC a b=true:=by
 unfold mulC;rw[a6 h1,a6 h2];simp
theorem Ex.set{a b:PH}(h:Ex a b){i:Nat}(hi:↑a<=i)(o:PO):Ex a (b.set i o):=by
 obtain⟨m,rfl⟩:=h;exact⟨m.set (i-↑a) o,by rw[agT _ _ hi]⟩
variable{i:Nat}
theorem dA{o:PO}(h:i≠j):(ph.set i o)[j]? =ph[j]? :=ace h
theorem fS{o o':PO}(h:ph[i]? =O o):(ph.set i o')[i]? =O o':=abL (aaG.mp h).1
theorem iC{o:PO}(h:ph[i]? =O o):i<↑ph:=(aaG.mp h).1
variable{im:IM}{σ:aO}{ph1:PH}{chk:PH->Bool}{r:Out Fl}
theorem f7{g:GM}{b:SM}{items:ap}(h:im σ ph=.ok (items,chk) ph1)(h2:dQ chk g b items σ ph1=r):d9 im g b σ ph=r:=by
 unfold d9;refine az h ?_;exact h2
variable{σ1:aO}
theorem mG{a b:SM}{k:Fl->Mo W}{P:Out W->Prop}(h:a σ ph=.ok (.nx σ1) ph1)(h2:P (au (b σ1) k ph1)):P (au (aA a b σ) k ph):=by
 have e:au (aA a b σ) k ph=au (b σ1) k ph1:=by
  rw[rZ,fA,bg h]
 rw[e];exact h2
noncomputable def iw(l:aG):ap:=l.map λx:Nat=>W.int x
theorem jA(l:aG):(iw l).length=↑l:=by simp[iw]
theorem Ic(l m:aG):iw (l++m)=iw l++iw m:=by simp[iw]
variable{l:aG}
theorem Br{w:W}(h:(iw l)[j]? =O w):∃x,l[j]? =O x/\w=.int x:=by
 unfold iw at h;rw[aaK] at h;obtain⟨x,e,rfl⟩:=aaP.mp h;exact⟨x,e,rfl⟩
theorem Jl{x:Nat}(h:l[j]? =O x):da (iw l) (j:Int)= ↥x:=by
 have:=(aaG.mp h).1;rw[gG _ _ (by rw[jA];exact this)];unfold iw;rw[aaK,h];rfl
abbrev _root_.bW:=List aG
noncomputable def Wy(ph:PH)(i:Nat)(G:bW):Prop:=∃rs:aG,ph[i]? =O (.lst (rs.map W.ref))/\↑rs=↑G/\∀(k r:Nat) g,rs[k]? =O r->G[k]? =O g->ph[r]? =O (.lst (iw g))
variable{G:bW}
theorem Wy.mono(h:Wy ph i G)(x:Ex ph ph'):Wy ph' i G:=by
 obtain⟨rs,h1,h2,h3⟩:=h;exact⟨rs,x.get h1,h2,λk r g a b=>x.get (h3 k r g a b)⟩
structure Ok(G:bW):Prop where
 pos:0<↑G
 top:↑G<=61
 lt:∀g∈G,∀x∈g,x<↑G
 few:∀g∈G,↑g<=3
theorem SR(ns:bI)(k:Nat)(ph:PH):fx [.fl (ns.map W.int),.int k] ph=.ok (.int (ns.getD k 0)) ph:=by
 unfold fx vJ
 push_cast [ZQ]
 by_cases h:k<↑ns
 ·have e:da (ns.map W.int) (k:Int)= ↥(ns.getD k 0):=by
   rw[gG _ _ (by simpa using h)];simp[h]
  rw[ixF e];simp[h,ay,fW,au]
 ·have e:ns.getD k 0=0:=by simp[Nat.le_of_not_lt h]
  simp[h,ay,fW,au,e]
theorem Yi(ns:bI)(k:Nat):fx [.fl (ns.map W.int),.int k]=ay (.int (ns.getD k 0)):=funext λph=>SR ns k ph
structure Nd where
 k:Nat
 p:Option Nat
 d:Nat
noncomputable def pw:Option Nat->W
 | none=>.aH
 | some q=>.int q
noncomputable def dH(L:List Nd):aZ:=L.map λx=>(W.int x.k,pw x.p)
abbrev ks(L:List Nd):aG:=L.map (·.k)
theorem Lk(L:List Nd)(k:Int):eP (dH L) (.int k)=true:=by
 unfold eP dH;rw[adp]
 left
 simp[qe,lR]
theorem SS(L:List Nd)(k:Nat):c5 (dH L) (.int k)=(L.find? λy=>decide (y.k=k)).map λy=>pw y.p:=by
 unfold c5 dH;rw[List.find?_map];rw[Option.map_map];have:((λp:W×W=>decide (p.1=W.int k))∘λx:Nd=>(W.int x.k,pw x.p))=λy:Nd=>decide (y.k=k):=by
  funext y
  simp only[aeO];by_cases h:y.k=k
  ·simp[h]
  ·have h2:¬W.int y.k=W.int k:=λz=>h (by have:=W.int.inj z;omega)
   simp[h,h2]
 rw[this];rfl
theorem Yj(L:List Nd)(k:Nat):(c5 (dH L) (.int k)).isSome=decide (k∈ks L):=by
 rw[SS,adM];by_cases h:k∈ks L
 ·obtain⟨x,hx,rfl⟩:=aaX.mp h;rw[a6 h,agm];exact⟨x,hx,by simp⟩
 ·rw[bU h];cases e:L.find? (λy=>decide (y.k=k)) with
  | none=>rfl
  | some x=>
   have h1:=List.find?_some e;have h2:=List.mem_of_find?_eq_some e;exact absurd (aaX.mpr ⟨x,h2,by simpa using h1⟩) h
theorem V5(L:List Nd)(x:Nd)(h:x.k∉ks L):c6 (dH L) (.int x.k) (pw x.p)=dH (L++[x]):=by
 unfold c6;have:((dH L).any λq=>decide (q.1=W.int x.k))=false:=by
  rw[List.any_eq_false];intro q hq;unfold dH at hq;obtain⟨r,hr,rfl⟩:=aaX.mp hq;rw[decide_eq_true_eq];intro z;have:=W.int.inj z;exact h (aaX.mpr ⟨r,hr,∅⟩)
 rw[this];unfold dH;simp
structure Ba(G:bW)(L:List Nd):Prop where
 zero:L[0]? =O ⟨0,Z,0⟩
 nd:(ks L).Nodup
 lt:∀x∈L,x.k<↑G
 ie:∀(i:Nat) (x:Nd),L[i]? =O x->i≠0->∃j y g,j<i/\L[j]? =O y/\x.p=O y.k/\x.d=y.d+1/\G[y.k]? =O g/\x.k∈g
 mono:∀(i j:Nat) (x y:Nd),i<=j->L[i]? =O x->L[j]? =O y->x.d<=y.d
structure Bf(G:bW)(L:List Nd)(c:Nat):Prop extends Ba G L where
 bound:∀t,L[c]? =O t->∀x∈L,x.d<=t.d+1
 closed:∀j y g,j<c->L[j]? =O y->G[y.k]? =O g->∀o∈g,∃x∈L,x.k=o/\x.d<=y.d+1
structure Bi(G:bW)(L:List Nd)(c:Nat)(t:Nd)(g:aG)(m:Nat):Prop extends Ba G L where
 at_:L[c]? =O t
 hg:G[t.k]? =O g
 bound:∀x∈L,x.d<=t.d+1
 closed:∀j y g,j<c->L[j]? =O y->G[y.k]? =O g->∀o∈g,∃x∈L,x.k=o/\x.d<=y.d+1
 part:∀o∈g.take m,o∈ks L
theorem Bf.start(G:bW)(h:0<↑G):Bf G [⟨0,Z,0⟩] 0:=by
 have one:∀{i:Nat} {x:Nd},[(⟨0,Z,0⟩:Nd)][i]? =O x->i=0/\x=⟨0,Z,0⟩:=λ{i x} e=>by
  cases i with
  | zero=>cases e;exact⟨rfl,rfl⟩
  | succ i=>cases e
 refine⟨⟨rfl,by simp,λx hx=>?_,λi x e n=>absurd (one e).1 n,λi j x y _ e1 e2=>?_⟩,λt _ x hx=>?_,λj y g hj=>absurd hj (Nat.not_lt_zero _)⟩
 ·rw[aaT.mp hx];exact h
 ·rw[(one e1).2,(one e2).2];exact aaN _
 ·rw[aaT.mp hx];exact aca _
variable{L:List Nd}{g:aG}
theorem Bf.enter{c:Nat}{t:Nd}(b:Bf G L c)(h:L[c]? =O t)(hg:G[t.k]? =O g):Bi G L c t g 0:=
 ⟨b.toBa,h,hg,b.bound t h,b.closed,λo ho=>by simp at ho⟩
theorem Bi.leave{c:Nat}{t:Nd}(b:Bi G L c t g ↑g):Bf G L (c+1):=by
 refine⟨b.toBa,λt' e x hx=>?_,λj y g' hj e hg o ho=>?_⟩
 ·have:=b.mono c (c+1) t t' (aeY _) b.at_ e;have:=b.bound x hx;omega
 ·by_cases hjc:j<c
  ·exact b.closed j y g' hjc e hg o ho
  ·have:j=c:=by omega
   subst this;rw[b.at_] at e;cases e;rw[b.hg] at hg;cases hg;obtain⟨x,hx,rfl⟩:=aaX.mp (b.part o (by rw[acC];exact ho));exact⟨x,hx,rfl,b.bound x hx⟩
variable{m o:Nat}
theorem Gd{o':Nat}(e:g[m]? =O o)(h:o'∈g.take (m+1)):o'∈g.take m\/o'=o:=by
 rw[List.take_succ,e] at h
 rcases abF.mp h with z | z
 ·exact .inl z
 ·exact .inr (by simpa using z)
theorem Bi.skip{c:Nat}{t:Nd}(b:Bi G L c t g m)(e:g[m]? =O o)(h:o∈ks L):Bi G L c t g (m+1):=
 ⟨b.toBa,b.at_,b.hg,b.bound,b.closed,λo' ho=>(Gd e ho).elim (b.part o') λz=>z▸h⟩
theorem sd{x y:Nd}(h:(L++[x])[i]? =O y):L[i]? =O y\/(i=↑L/\y=x):=by
 by_cases hi:i<↑L
 ·rw[abm hi] at h;exact .inl h
 ·have:=(aaG.mp h).1;simp at this;have:i=↑L:=by omega
  subst this;rw[afE] at h;cases h;exact .inr ⟨rfl,rfl⟩
theorem xl{x y:Nd}(h:L[i]? =O y):(L++[x])[i]? =O y:=by
 rw[abm (aaG.mp h).1];exact h
theorem Bi.add{c:Nat}{t:Nd}(b:Bi G L c t g m)(e:g[m]? =O o)(h:o∉ks L)(ho:o<↑G):Bi G (L++[⟨o,O t.k,t.d+1⟩]) c t g (m+1):=by
 have eS:c<↑L:=(aaG.mp b.at_).1;refine⟨⟨xl b.zero,?_,λx hx=>?_,λi x ei ni=>?_,λi j x y hij e1 e2=>?_⟩,xl b.at_,b.hg,λx hx=>?_,λj y g' hj ej hg o' fk=>?_,λo' fk=>?_⟩
 ·unfold ks;rw[abZ,adm];refine⟨b.nd,by simp,λa ha c hc=>?_⟩;have:c=o:=by simpa using hc
  rintro rfl;exact h (this▸ha)
 ·rcases abF.mp hx with z | z
  ·exact b.lt x z
  ·rw[aaT.mp z];exact ho
 ·rcases sd ei with z | ⟨rfl,rfl⟩
  ·obtain⟨j,y,g',h1,h2,h3⟩:=b.ie i x z ni;exact⟨j,y,g',h1,xl h2,h3⟩
  ·exact⟨c,t,g,eS,xl b.at_,rfl,rfl,b.hg,aaL e⟩
 ·rcases sd e1 with z1 | ⟨rfl,rfl⟩
  ·rcases sd e2 with z2 | ⟨rfl,rfl⟩
   ·exact b.mono i j x y hij z1 z2
   ·exact b.bound x (aaL z1)
  ·rcases sd e2 with z2 | ⟨rfl,rfl⟩
   ·have:=(aaG.mp z2).1;omega
   ·exact aaN _
 ·rcases abF.mp hx with z | z
  ·exact b.bound x z
  ·rw[aaT.mp z];exact aaN _
 ·have dc:j<↑L:=by omega
  have ej':L[j]? =O y:=by
   rcases sd ej with z | ⟨z,_⟩
   ·exact z
   ·omega
  obtain⟨x,hx,h3⟩:=b.closed j y g' hj ej' hg o' fk;exact⟨x,abQ _ hx,h3⟩
 ·unfold ks;rw[abZ]
  rcases Gd e fk with z | rfl
  ·exact abQ _ (b.part o' z)
  ·exact abJ _ (by simp)
theorem iV:∀{n:Nat} {S:aG},S.Nodup->(∀x∈S,x<n)->↑S<=n
 | 0,S,_,h=>by
  cases S with
  | nil=>simp
  | cons x S=>exact absurd (h x (by simp)) ∅
 | n+1,S,hd,h=>by
  by_cases hm:n∈S
  ·have:=iV (n:=n) (hd.erase n) λx hx=>by
    have:=h x (hd.mem_erase_iff.mp hx).2;have:x≠n:=(hd.mem_erase_iff.mp hx).1;omega
   rw[aeH hm] at this;omega
  ·have:=iV (n:=n) hd λx hx=>by
    have:=h x hx;have:x≠n:=λz=>hm (z▸hx)
    omega
   omega
theorem Ba.len(b:Ba G L):↑L<=↑G:=by
 have:=iV b.nd (n:=↑G) λx hx=>by obtain⟨y,hy,rfl⟩:=aaX.mp hx;exact b.lt y hy
 simpa using this
theorem sq{a b:SM}(h:a σ ph=.ok (.nx σ1) ph1)(h2:b σ1 ph1=r):aA a b σ ph=r:=by
 rw[rZ,bg h];exact h2
theorem bq{a b:SM}{k:Fl->Mo W}{r:Out W}(h:a σ ph=.ok (.nx σ1) ph1)(h2:au (b σ1) k ph1=r):au (aA a b σ) k ph=r:=mG (P:=λq=>q=r) h h2
theorem br{e:EM}{w:W}(h:e σ ph=.ok w ph1):au (bB e σ) fW ph=.ok w ph1:=by
 rw[AS,fA,bg h];rfl
theorem asg{e:EM}{w:W}(h:e σ ph=.ok w ph1):aK e (gN i) σ ph=.ok (.nx (σ.set i (O w))) ph1:=by
 rw[AU,bg h];rfl
theorem eV{t:TM}{a b:SM}(h:t σ ph=.ok true ph1)(h2:a σ ph1=r):cb t a b σ ph=r:=by
 rw[Bm,bg h];exact h2
theorem b8{t:TM}{a b:SM}(h:t σ ph=.ok false ph1)(h2:b σ ph1=r):cb t a b σ ph=r:=by
 rw[Bm,bg h];exact h2
theorem retS{e:EM}{w:W}(h:e σ ph=.ok w ph1):bB e σ ph=.ok (.rt w) ph1:=by
 rw[AS,bg h];rfl
variable{ws:ap}
theorem oU{o:EM}{e:EM}{w:W}(ho:o σ=ay (.ref i))(oV:∃oN,ph[i]? =O (.lst oN))(he:e σ ph=.ok w ph1)(hi:ph1[i]? =O (.lst ws))(hz:↑ws<1000000):gc (dW du d6 o (ae e ag)) σ ph=.ok (.nx σ) (ph1.set i (.lst (ws++[w]))):=by
 obtain⟨oN,h0⟩:=oV;rw[Ap,wQ,ho];rw[fA,k9,fA,bg (r6 h0),fA,Aq,fA,bg he];rw[xb,k9,k9,bg (wb hi (aaS hz (by decide)) w)];rfl
theorem il{a b:SM}{w:W}(h:a σ ph=.ok (.rt w) ph1):au (aA a b σ) fW ph=.ok w ph1:=by
 rw[rZ,fA,bg h];rfl
variable{wi:Nat}
theorem Jm{b:Nat}(h:Wy ph wi G)(e:G[b]? =O g):∃r,(∀ph',Ex ph ph'->lift (af (.ref wi) (.int b)) ph'=.ok (.ref r) ph')/\ph[r]? =O (.lst (iw g)):=by
 obtain⟨rs,h1,h2,h3⟩:=h;have hb:b<↑rs:=by rw[h2];exact(aaG.mp e).1
 obtain⟨r,hr⟩:∃r,rs[b]? =O r:=bo hb;refine⟨r,λph' x=>gZ (x.get h1) ?_,h3 b r g hr e⟩;rw[gG _ _ (by rw[aaI];exact hb),aaK,hr];rfl
structure Fd(ph H:PH)(di qi:Nat)(L:List Nd):Prop where
 ex:Ex ph H
 ld:↑ph<=di
 lq:↑ph<=qi
 ne:di≠qi
 d:H[di]? =O (.aX (dH L))
 q:H[qi]? =O (.lst (iw (ks L)))
variable{H:PH}{di qi:Nat}
theorem Fd.add(f:Fd ph H di qi L)(x:Nd):Fd ph ((H.set di (.aX (dH (L++[x])))).set qi (.lst (iw (ks (L++[x]))))) di qi (L++[x]):=by
 refine⟨Ex.set (Ex.set f.ex f.ld _) f.lq _,f.ld,f.lq,f.ne,?_,?_⟩
 ·rw[dA (adh f.ne)];exact fS f.d
 ·exact fS (by rw[dA f.ne];exact f.q)
theorem Ka{x:Nd}(f:Fd ph H di qi L)(hx:x.k∉ks L)(hl:↑L<100):lift (qg (.ref di) (.int x.k) (pw x.p)) H=.ok () (H.set di (.aX (dH (L++[x]))))/\lift (lA (du (.ref qi))) (H.set di (.aX (dH (L++[x]))))=.ok () (H.set di (.aX (dH (L++[x]))))/\lift (d6 (.ref qi) [.int x.k]) (H.set di (.aX (dH (L++[x]))))=.ok .aH ((H.set di (.aX (dH (L++[x])))).set qi (.lst (iw (ks (L++[x]))))):=by
 have h2:(H.set di (.aX (dH (L++[x]))))[qi]? =O (.lst (iw (ks L))):=by rw[dA f.ne];exact f.q
 refine⟨?_,r6 h2,?_⟩
 ·rw[F1 f.d (Lk L _) (by unfold dH;rw[aaI];exact aaS hl (by decide)),V5 L x hx]
 ·rw[wb h2 (by rw[jA,aaI];exact aaS hl (by decide))];simp[ks,iw]
theorem Bs(f:Fd ph H di qi L)(k:Nat):lift (fj (.int k) (.ref di)) H=.ok (.bl (!decide (k∈ks L))) H:=by
 rw[F0 f.d (Lk L _),Yj]
variable{s0 s1 s4 s5:dP}
theorem V6{c:Nat}{t:Nd}(f:Fd ph H di qi L)(b:Bi G L c t g m)(e:g[m]? =O o)(hG:Ok G)(ho:o<↑G):∃H' L',vn [s0,s1,⇑di,⇑qi,s4,s5,↥(t.k:Int),↥o] H=.ok (.nx [s0,s1,⇑di,⇑qi,s4,s5,↥(t.k:Int),↥o]) H'/\Fd ph H' di qi L'/\Bi G L' c t g (m+1)/\∀r,r≠di->r≠qi->H'[r]? =H[r]? :=by
 have hl:↑L<100:=by have:=b.len;have:=hG.top;omega
 unfold vn;by_cases h:o∈ks L
 ·refine⟨H,L,?_,f,b.skip e h,λ_ _ _=>rfl⟩;ac_nf;rw[bg (Bs f o)];simp only[a6 h];ac_nf
 ·obtain⟨p1,p2,p3⟩:=Ka (x:=⟨o,O t.k,t.d+1⟩) f h hl
  dsimp only[pw] at p1 p3
  refine⟨_,_,?_,f.add ⟨o,O t.k,t.d+1⟩,b.add e h ho,λr h1 h2=>by rw[dA (adh h2),dA (adh h1)]⟩;ac_nf;rw[bg (Bs f o)];simp only[bU h];ac_nf;rw[bg p1];ac_nf;rw[bg p2,bg p3];rfl
noncomputable def yr(ph:PH)(G:bW)(fw:W):Prop:=∀(s0 s2 s3 s4 s5 s7:dP) (H:PH) (tk:Nat) (g:aG),Ex ph H->G[tk]? =O g →
 ∃r H1,sX "aheads" 1 (jM "aheads" pz 1 (ae (aa 6) ag)) (jM "threaded" pj 1 (ae (aa 6) ag)) [s0,O fw,s2,s3,s4,s5,↥tk,s7] H=.ok (.ref r) H1/\Ex H H1/\H1[r]? =O (.lst (iw g))/\(r<↑ph\/↑H<=r)
theorem OD(hw:Wy ph wi G):yr ph G (.fn "aheads" [.ref wi]):=λs0 s2 s3 s4 s5 s7 H tk g x hg=>by
 obtain⟨r,h,hr⟩:=Jm hw hg;refine⟨r,H,?_,Ex.refl _,x.get hr,.inl (iC hr)⟩;show jM "aheads" pz 1 (ae (aa 6) ag) [s0,O (.fn "aheads" [.ref wi]),s2,s3,s4,s5,↥tk,s7] H=_;have e2:pz [↥tk,⇑wi] H=.ok (.ref r) H:=by
  unfold pz;ac_nf;exact h H x
 unfold jM;simp only[agw,agx,yk,if_true];ac_nf;unfold uB dJ;simp only[e2]
theorem Fd.mono{H1:PH}(f:Fd ph H di qi L)(x:Ex H H1):Fd ph H1 di qi L:=⟨f.ex.trans x,f.ld,f.lq,f.ne,x.get f.d,x.get f.q⟩
variable{s6 s7:dP}
theorem V7{fw:W}{c:Nat}{t:Nd}(hw:yr ph G fw)(hG:Ok G)(f:Fd ph H di qi L)(b:Bf G L c)(hc:L[c]? =O t):∃H' L' Dz mV,vp [s0,O fw,⇑di,⇑qi,s4,↥c,s6,s7] H=.ok (.nx [s0,O fw,⇑di,⇑qi,s4,↥((c+1:Nat):Int),Dz,mV]) H'/\Fd ph H' di qi L'/\Bf G L' (c+1)/\c<↑L':=by
 have ht:t.k<↑G:=b.lt t (aaL hc);obtain⟨g,hg⟩:∃g,G[t.k]? =O g:=bo ht;obtain⟨r,H1,hr,x1,uL,hro⟩:=hw s0 ⇑di ⇑qi s4 (↥((c:Int)+1)) s7 H t.k g f.ex hg;have hq:da (iw (ks L)) (c:Int)= ↥(t.k:Int):=Jl (by unfold ks;rw[aaK,hc];rfl);have oW:g∈G:=aaL hg;have f1:=f.mono x1;have d1:=iC f.d;have d2:=iC f.q;have CJ:r≠di/\r≠qi:=by have:=f.ld;have:=f.lq;omega
 obtain⟨aj,H',e,L',mV,rfl,f',b',oJ⟩:=gX (chk:=λp=>decide (p[r]? =O (.lst (iw g)))) (g:=gN 7) (b:=vn)
  (λm σ H=>∃L' mV,σ=[s0,O fw,⇑di,⇑qi,s4,↥((c:Int)+1),↥(t.k:Int),mV]/\Fd ph H di qi L'/\Bi G L' c t g m/\H[r]? =O (.lst (iw g)))
  (iw g) [s0,O fw,⇑di,⇑qi,s4,↥((c:Int)+1),↥(t.k:Int),s7] H1
  (λm σ H DA=>by obtain⟨_,_,_,_,_,q⟩:=DA;exact a6 q)
  (λm x σ H hm DC=>by
   obtain⟨L',mV,e,f,b,q⟩:=DC;subst e;obtain⟨o,ho,rfl⟩:=Br hm;obtain⟨H',L2,e1,f1,b1,q1⟩:=V6 (s0:=s0) (s1:=O fw) (s4:=s4) (s5:= ↥((c:Int)+1)) f b ho hG (hG.lt g oW o (aaL ho));exact⟨_,_,rfl,_,_,e1,_,.inl rfl,L2,_,rfl,f1,b1,by rw[q1 r CJ.1 CJ.2];exact q⟩)
  ⟨L,s7,rfl,f1,b.enter hc hg,uL⟩
 rw[jA] at b';refine⟨H',L',↥(t.k:Int),mV,?_,f',b'.leave,(aaG.mp b'.at_).1⟩;unfold vp;refine sq (σ1:=[s0,O fw,⇑di,⇑qi,s4,↥c,↥(t.k:Int),s7]) (asg (gZ f.q hq)) (sq (σ1:=[s0,O fw,⇑di,⇑qi,s4,↥((c:Int)+1),↥(t.k:Int),s7]) rfl ?_);rw[f7 (fB hr uL) e];rfl
noncomputable def Found(ph:PH)(G:bW)(r:Out W):Prop:=∃di ph' L,r=.ok (.ref di) ph'/\Ex ph ph'/\ph'[di]? =O (.aX (dH L))/\Bf G L ↑L
theorem GW{fw:W}{si:Nat}(hw:yr ph G fw)(hG:Ok G)(hs:ph[si]? =O (.lst [.int 0])):Found ph G (qZ [.ref si,fw] ph):=by
 unfold qZ vS;rw[tW];refine mG (P:=Found ph G) (σ1:=[⇑si,O fw,⇑↑ph,Z,Z,Z,Z,Z]) (ph1:=ph++[.aX []]) rfl ?_;refine mG (σ1:=[⇑si,O fw,⇑↑ph,O (.ref (ph++[PO.aX []]).length),Z,Z,Z,Z]) (ph1:=ph++[.aX []]++[.lst []]) rfl ?_;have f0:Fd ph (ph++[.aX []]++[.lst []]) ↑ph (ph++[PO.aX []]).length []:=⟨(Ex.one _ _).trans (Ex.one _ _),aaN _,by simp,by simp,(Ex.one _ _).get (bD _ _),bD _ _⟩
 generalize hqi:(ph++[PO.aX []]).length=qi at f0;generalize (ph++[.aX []]++[.lst []])=H0 at f0;have f1:=f0.add ⟨0,Z,0⟩;obtain⟨p1,p2,p3⟩:=Ka (x:=⟨0,Z,0⟩) f0 (by simp) (by simp)
 dsimp only[pw] at p1 p3
 rw[show((0:Nat):Int)=0 from rfl] at p1 p3;have qK:H0[si]? =O (.lst [.int 0]):=f0.ex.get hs;have e1:dQ (λp=>decide (p[si]? =O (.lst [W.int 0]))) (gN 4) zC [.int 0] [⇑si,O fw,⇑↑ph,⇑qi,Z,Z,Z,Z] H0 =
   .ok (.nx [⇑si,O fw,⇑↑ph,⇑qi,↥0,Z,Z,Z]) ((H0.set ↑ph (.aX (dH ([]++[⟨0,Z,0⟩])))).set qi (.lst (iw (ks ([]++[⟨0,Z,0⟩]))))):=by
  unfold dQ;simp only[qK,decide_true,if_true];unfold zC;have n0:=Bs f0 0;rw[show((0:Nat):Int)=0 from rfl] at n0;ac_nf;rw[bg n0];ac_nf;simp only[aeD,afn,decide_false,Bool.not_false,if_true];rw[bg p1];ac_nf;rw[bg p2,bg p3];have C4:=f1.ex.get hs;unfold dQ;rw[if_pos (a6 C4)]
 refine mG (f7 (fB rfl qK) e1) ?_;refine mG (σ1:=[⇑si,O fw,⇑↑ph,⇑qi,↥0,↥0,Z,Z]) rfl ?_;generalize ((H0.set ↑ph (.aX (dH ([]++[⟨0,Z,0⟩])))).set qi (.lst (iw (ks ([]++[⟨0,Z,0⟩])))))=H1 at f1;obtain⟨aj,H',e,L,s6,s7,c,rfl,f,b,eS⟩:=wG (t:=eT (ab dG (aa 5) (aV a7 (ae (aa 3) ag)))) (b:=vp)
  (λk σ H=>∃L s6 s7 c,σ=[⇑si,O fw,⇑↑ph,⇑qi,↥0,↥((c:Nat):Int),s6,s7]/\Fd ph H ↑ph qi L/\Bf G L c/\k+c=↑G/\c<=↑L)
  (λσ H=>∃L s6 s7 c,σ=[⇑si,O fw,⇑↑ph,⇑qi,↥0,↥((c:Nat):Int),s6,s7]/\Fd ph H ↑ph qi L/\Bf G L c/\c=↑L)
  (λk σ H DD=>by
   obtain⟨L,s6,s7,c,e,f,b,hk,eS⟩:=DD;subst e;have et:eT (ab dG (aa 5) (aV a7 (ae (aa 3) ag))) [⇑si,O fw,⇑↑ph,⇑qi,↥0,↥((c:Nat):Int),s6,s7] H=.ok (decide (c<↑L)) H:=by
    ac_nf
    rw[bg (gY f.q)];ac_nf;rw[jA,aaI]
    congr 1
    simp
   by_cases h:c<↑L
   ·right
    obtain⟨t,ht⟩:∃t,L[c]? =O t:=bo h;obtain⟨H',L',Dz,mV,e1,f1,b1,uM⟩:=V7 (s0:= ⇑si) (s4:= ↥0) (s6:=s6) (s7:=s7) hw hG f b ht;have:=b.len;refine⟨H,by rw[et,a6 h],_,H',e1,_,.inl rfl,k-1,∅,L',Dz,mV,c+1,rfl,f1,b1,∅,uM⟩
   ·left
    exact⟨H,by rw[et,bU h],L,s6,s7,c,rfl,f,b,∅⟩)
  ↑G _ H1 ⟨[]++[⟨0,Z,0⟩],Z,Z,0,rfl,f1,Bf.start G hG.pos,∅,aca _⟩
 refine mG e ?_;exact⟨↑ph,H',L,rfl,f.ex,f.d,eS▸b⟩
noncomputable def qp(H:PH)(i lo hi:Nat)(e:Option ap)(w:W):Prop:=match e with
 | none=>w=.aH
 | some c=>∃r,w=.ref r/\lo<=r/\r<hi/\r≠i/\H[r]? =O (.lst c)
structure TbW(H:PH)(i lo hi:Nat)(ws:ap)(E:List (Option ap)):Prop where
 at_:H[i]? =O (.lst ws)
 len:↑ws=↑E
 li:lo<=i
 ih:i<hi
 ent:∀(k:Nat) w e,ws[k]? =O w->E[k]? =O e->qp H i lo hi e w
 inj:∀(k k' r:Nat),ws[k]? = ⇑r->ws[k']? = ⇑r->k=k'
noncomputable def Tb(H:PH)(i lo hi:Nat)(E:List (Option ap)):Prop:=∃ws,TbW H i lo hi ws E
variable{H':PH}{lo hi:Nat}
theorem qp.mono{Ll fZ:Nat}{e:Option ap}{w:W}(h:qp H i lo hi e w)(k:∀j,lo<=j->j<hi->H'[j]? =H[j]?)(h1:Ll<=lo)(h2:hi<=fZ):qp H' i Ll fZ e w:=by
 cases e with
 | none=>exact h
 | some c=>obtain⟨r,e1,e2,e3,e4,e5⟩:=h;exact⟨r,e1,∅,∅,e4,by rw[k r e2 e3];exact e5⟩
theorem Tb.mono{H H':PH}{i lo hi:Nat}{E:List (Option ap)}(t:Tb H i lo hi E)(k:∀j,lo<=j->j<hi->H'[j]? =H[j]?):Tb H' i lo hi E:=by
 obtain⟨ws,t⟩:=t;exact⟨ws,by rw[k i t.li t.ih];exact t.at_,t.len,t.li,t.ih,λj w e a b=>(t.ent j w e a b).mono k (aaN _) (aaN _),t.inj⟩
theorem Yk(x:Ex H H')(h:hi<=↑H):∀j,j<hi->H'[j]? =H[j]? :=λj hj=>by
 obtain⟨m,rfl⟩:=x;rw[abm ∅]
theorem Tb.ex{E:List (Option ap)}(t:Tb H i lo hi E)(x:Ex H H')(h:hi<=↑H):Tb H' i lo hi E:=t.mono λj _ hj=>Yk x h j hj
theorem Tb.put{E:List (Option ap)}{c:ap}(t:Tb H i lo hi E)(h:E[k]? =O (O c)):∃r,lift (af (.ref i) (.int k)) H=.ok (.ref r) H/\H[r]? =O (.lst c)/\lo<=r/\r<hi/\r≠i/\∀c',Tb (H.set r (.lst c')) i lo hi (E.set k (O c')):=by
 obtain⟨ws,t⟩:=t;have hk:k<↑ws:=by rw[t.len];exact(aaG.mp h).1
 obtain⟨w,hw⟩:∃w,ws[k]? =O w:=bo hk;obtain⟨r,rfl,h1,h2,h3,h4⟩:=t.ent k w _ hw h;refine⟨r,gZ t.at_ (by rw[gG _ _ hk];exact hw),h4,h1,h2,h3,λc'=>⟨ws,by rw[dA h3];exact t.at_,by rw[aby];exact t.len,t.li,t.ih,λj w' e a b=>?_,t.inj⟩⟩;by_cases hj:j=k
 ·subst hj;rw[hw] at a;cases a;rw[abL (by rw[<- t.len];exact hk)] at b;cases b;exact⟨r,rfl,h1,h2,h3,fS h4⟩
 ·rw[ace (adh hj)] at b;have q:=t.ent j w' e a b;cases e with
  | none=>exact q
  | some c2=>
   obtain⟨r',rfl,q1,q2,q3,q4⟩:=q;refine⟨r',rfl,q1,q2,q3,?_⟩;rw[dA (λz=>hj (t.inj j k r (by rw[z];exact a) hw))];exact q4
theorem iy{l:List α}{x y:α}(h:(l++[x])[i]? =O y):(i<↑l/\l[i]? =O y)\/(i=↑l/\y=x):=by
 by_cases hi:i<↑l
 ·rw[abm hi] at h;exact .inl ⟨hi,h⟩
 ·have:=(aaG.mp h).1;simp at this;have:i=↑l:=by omega
  subst this;rw[afE] at h;cases h;exact .inr ⟨rfl,rfl⟩
theorem GX(as:List α)(h:α->W){cap:eO}{g:GM}{e:EM}{ph0:PH}(iO:im σ ph0=.ok (as.map h,chk) ph)(uH:∀ph',Ex ph ph'->chk ph'=true)(hz:↑as<=1000)(P:Nat->Option ap->Prop)(S:aO->Prop)(h0:S (gy cap σ))(step:∀j x,as[j]? =O x->∀σ H,S σ->Ex ph H->↑ph<↑H->∃σ1,g (h x) σ H=.ok σ1 H/\S σ1/\∃w H2 c,e σ1 H=.ok w H2/\Ex H H2/\P j c/\qp H2 ↑ph ↑H ↑H2 c w):∃ph' E,cU im cap g cF e σ ph0=.ok (.ref ↑ph) ph'/\Ex ph ph'/\↑E=↑as/\(∀j c,E[j]? =O c->P j c)/\Tb ph' ↑ph ↑ph ↑ph' E:=by
 rw[As,bg iO];obtain⟨om,aj,ph',ec,hS,x1,x2,x3,x5,E,x6,x7,x4⟩:=rL (chk:=chk) (g:=g) (c:=cF) (e:=e) ↑ph
  (λk acc σ H=>S σ/\Ex ph H/\H[↑ph]? =O (.lst acc)/\↑acc=k/\(∀(a b r:Nat),acc[a]? = ⇑r->acc[b]? = ⇑r->a=b) /\
   ∃E:List (Option ap),↑E=k/\(∀(j:Nat) c,E[j]? =O c->P j c)/\∀(j:Nat) w c,acc[j]? =O w->E[j]? =O c->qp H ↑ph ↑ph ↑H c w)
  (as.map h) 0 [] (gy cap σ) (ph++[.lst []]) (λj acc σ H hI=>uH _ hI.2.1)
  (λj y acc σ H hj hI=>by
   rw[acf] at hI ⊢;obtain⟨hS,x1,x2,x3,x5,E,x6,x7,x4⟩:=hI;rw[aaK] at hj;obtain⟨x,hx,rfl⟩:=aaP.mp hj;have dc:=(aaG.mp hx).1;have hpl:=iC x2;obtain⟨σ1,e1,ij,w,H2,c,e2,y1,hP,y2⟩:=step j x hx σ H hS x1 hpl;have y1l:=y1.len;have old:∀k,↑ph<k->(H2.set ↑ph (.lst (acc++[w])))[k]? =H2[k]? :=λk hk=>dA ∅
   have fresh:∀{a r:Nat},acc[a]? = ⇑r->w=.ref r->False:=λ{a r} ha hw=>by
    have hal:=(aaG.mp ha).1;obtain⟨ca,hca⟩:∃ca,E[a]? =O ca:=bo ∅;have q:=x4 a _ ca ha hca;subst hw;cases ca with
    | none=>cases q
    | some c0=>
     obtain⟨r',q1,q2,q3,_⟩:=q;cases q1;cases c with
     | none=>cases y2
     | some c2=>
      obtain⟨r',z1,z2,_⟩:=y2;cases z1;omega
   refine⟨σ1,H,e1,true,H,rfl,.inr ⟨rfl,w,H2,e2,y1.get x2,aaS (by omega:↑acc<1001) (by decide),ij,Ex.set (x1.trans y1) (aaN _) _,fS (y1.get x2),by simp[x3],λa b r ha hb=>?_,E++[c],by simp[x6],λi c' dX=>?_,λi w' c' DE dX=>?_⟩⟩
   ·rcases iy ha with⟨_,zc⟩ | ⟨ha0,zc⟩
    ·rcases iy hb with⟨_,gE⟩ | ⟨mW,gE⟩
     ·exact x5 a b r zc gE
     ·exact(fresh zc gE.symm).elim
    ·rcases iy hb with⟨_,gE⟩ | ⟨mW,gE⟩
     ·exact(fresh gE zc.symm).elim
     ·rw[ha0,mW]
   ·rcases iy dX with⟨_,z⟩ | ⟨z0,z⟩
    ·exact x7 i c' z
    ·rw[z,z0,x6];exact hP
   ·rw[aby]
    rcases iy DE with⟨hi,DF⟩ | ⟨hi,DF⟩
    ·rcases iy dX with⟨_,uM⟩ | ⟨z,_⟩
     ·have q:=x4 i w' c' DF uM;cases c' with
      | none=>exact q
      | some c0=>
       obtain⟨r,q1,q2,q3,q4,q5⟩:=q;refine⟨r,q1,q2,∅,q4,?_⟩;rw[old r ∅];exact y1.get q5
     ·omega
    ·rcases iy dX with⟨z,_⟩ | ⟨_,uM⟩
     ·omega
     ·rw[DF,uM];cases c with
      | none=>exact y2
      | some c0=>
       obtain⟨r,q1,q2,q3,q4,q5⟩:=y2;exact⟨r,q1,∅,q3,q4,by rw[old r ∅];exact q5⟩)
  ⟨h0,Ex.one _ _,bD _ _,rfl,λa b r z=>by simp at z,[],rfl,λj c z=>by simp at z,λj w c z=>by simp at z⟩
 rw[acf,aaI] at x3 x6;exact⟨ph',E,bg ec,x1,x6,x7,om,x2,by rw[x3,x6],aaN _,iC x2,x4,x5⟩
theorem GY{m:Mo α}{a:α}(h:m ph=.ok a ph'):dJ m ph=.ok a ph':=by
 unfold dJ;rw[h]
theorem QJ(hw:Wy ph wi G)(hG:Ok G):Found ph G (Aw [.ref wi] ph):=by
 show Found ph G (au (dJ ((b9 (ae {0} ag)) [⇑wi])) (λw1=>dJ (qZ [w1,.fn "aheads" [.ref wi]])) ph);have e1:dJ ((b9 (ae {0} ag)) [⇑wi]) ph=.ok (.ref ↑ph) (ph++[.lst [.int 0]]):=rfl;rw[bg e1];obtain⟨di,ph',L,e,x,h1,h2⟩:=GW (OD (hw.mono (Ex.one ph (.lst [.int 0])))) hG (bD ph (.lst [.int 0]));exact⟨di,ph',L,GY e,(Ex.one _ _).trans x,h1,h2⟩
theorem xm(n:Nat):ez 0 n=(abp n).map λi:Nat=>W.int i:=by
 unfold ez;apply adV;intro i _;simp
noncomputable def gM(E:bW)(o b:Nat):bW:=match E[o]? with
 | some c=>E.set o (c++[b])
 | none=>E
noncomputable def iE(E:bW)(b:Nat)(g:aG):bW:=g.foldl (λE o=>gM E o b) E
noncomputable def EE(E:bW):List (Option ap):=E.map λl=>O (iw l)
theorem QK(E:bW)(o b:Nat):(gM E o b).length=↑E:=by
 unfold gM;split
 ·rw[aby]
 ·rfl
theorem Bt{E:bW}{c:aG}(h:E[k]? =O c):(EE E)[k]? =O (O (iw c)):=by
 unfold EE;rw[aaK,h];rfl
noncomputable def Sm(E:bW)(N:Nat):Prop:=∀l∈E,↑l<=N
theorem Sm.add{E:bW}{N b:Nat}(h:Sm E N):Sm (gM E o b) (N+1):=λl hl=>by
 unfold gM at hl;split at hl
 ·rename_i c hc
  rcases List.mem_or_eq_of_mem_set hl with z | z
  ·exact agl (h l z)
  ·rw[z];have:=h c (aaL hc);simp;omega
 ·exact agl (h l hl)
theorem V8{b:Nat}{E:bW}{N:Nat}(t:Tb H i lo hi (EE E))(ho:o<↑E)(hN:Sm E N)(hN2:N<1000)(x:Ex ph H)(hl:↑ph<=lo):∃r H',lift (af (.ref i) (.int o)) H=.ok (.ref r) H/\lift (lA (du (.ref r))) H=.ok () H/\lift (d6 (.ref r) [.int b]) H=.ok .aH H'/\Tb H' i lo hi (EE (gM E o b))/\Ex ph H'/\↑H'=↑H/\∀j,(j<lo\/hi<=j)->H'[j]? =H[j]? :=by
 obtain⟨c,hc⟩:∃c,E[o]? =O c:=bo ho;obtain⟨r,h1,h2,h3,h4,h5,h6⟩:=t.put (Bt hc);have hz:=hN c (aaL hc);refine⟨r,_,h1,r6 h2,wb h2 (by rw[jA];exact aaS (by omega:↑c<1000) (by decide)) _,?_,Ex.set x ∅ _,by rw[aby],λj hj=>dA ∅⟩;have:=h6 (iw (c++[b]));rw[Ic] at this;unfold gM;simp only[hc];unfold EE at this ⊢;rw[List.map_set,Ic];exact this
noncomputable def up(L:aG)(n:Nat):aG:=(abp n).filter λk=>decide (k∈L)
theorem Ie{L:aG}{n:Nat}(hn:L.Nodup)(hl:∀x∈L,x<n):mE (L.map λk:Nat=>(k:Int))=(up L n).map λk:Nat=>(k:Int):=by
 refine(AO (List.Perm.map _ ?_) ?_).symm
 ·refine(afK (adF _ aex) hn).mpr λa=>?_
  rw[abW,abv,decide_eq_true_eq];exact⟨λh=>h.2,λh=>⟨hl a h,h⟩⟩
 ·exact agn _ (λa b h=>by omega) (adF _ List.pairwise_lt_range)
theorem Ig(b:Ba G L)(hG:Ok G)(hd:H[di]? =O (.aX (dH L))):lift (ko [.ref di]) H=.ok (.ref ↑H) (H++[.lst (iw (up (ks L) ↑G))]):=by
 have h1:pQ (dH L)=O (L.map λx=>W.int x.k):=by
  unfold pQ;have:((dH L).all λp=> !lR p.1)=true:=by
   rw[abR];intro p hp;unfold dH at hp;obtain⟨x,_,rfl⟩:=aaX.mp hp;rfl
  rw[if_pos this];unfold dH;rw[abU];rfl
 have h2:ba oa (L.map λx=>W.int x.k)=O (L.map λx=>(x.k:Int)):=k7 oa (λx:Nd=>W.int x.k) (λx:Nd=>(x.k:Int)) (λ_=>rfl) L;have hl:=b.len;have ht:=hG.top;have h3:ko [.ref di] H=O (.ref ↑H,H++[.lst (iw (up (ks L) ↑G))]):=by
  unfold ko;simp only[sU hd,h1,acn,h2];rw[if_pos (by rw[aaI];omega)];have e:(L.map λx=>(x.k:Int))=(ks L).map λk:Nat=>(k:Int):=by unfold ks;rw[abU];rfl
  rw[e,Ie b.nd (λx hx=>by obtain⟨y,hy,rfl⟩:=aaX.mp hx;exact b.lt y hy)];unfold iw;rw[abU];rfl
 unfold lift;rw[h3]
theorem pq{l:List α}{o:α}(e:l[m]? =O o):l.take (m+1)=l.take m++[o]:=by
 rw[List.take_succ,e];rfl
noncomputable def fL(G:bW)(b:Nat):aG:=G[b]?.getD []
noncomputable def jb(G E:bW)(bs:aG):bW:=bs.foldl (λE b=>iE E b (fL G b)) E
theorem PL(E:bW)(b o:Nat)(g:aG):iE E b (g++[o])=gM (iE E b g) o b:=by unfold iE;rw[List.foldl_append];rfl
theorem Ge(E:bW)(b:Nat):∀g:aG,(iE E b g).length=↑E:=by
 intro g
 induction g generalizing E with
 | nil=>rfl
 | cons o g ih=>exact(ih (gM E o b)).trans (QK E o b)
theorem OE(G E:bW)(b:Nat)(bs:aG):jb G E (bs++[b])=iE (jb G E bs) b (fL G b):=by unfold jb;rw[List.foldl_append];rfl
theorem Fw(G:bW):∀(bs:aG) (E:bW),(jb G E bs).length=↑E:=by
 intro bs
 induction bs with
 | nil=>intro E;rfl
 | cons b bs ih=>intro E;exact(ih _).trans (Ge E b _)
structure mH(ph H0 H:PH)(i lo hi:Nat)(E:bW)(N:Nat):Prop where
 t:Tb H i lo hi (EE E)
 sm:Sm E N
 ex:Ex ph H
 out:∀j,(j<lo\/hi<=j)->H[j]? =H0[j]?
 ln:↑H=↑H0
theorem mH.add{ph H0 H:PH}{i lo hi o b N:Nat}{E:bW}(k:mH ph H0 H i lo hi E N)(ho:o<↑E)(hN:N<1000)(hl:↑ph<=lo):∃r H',lift (af (.ref i) (.int o)) H=.ok (.ref r) H/\lift (lA (du (.ref r))) H=.ok () H/\lift (d6 (.ref r) [.int b]) H=.ok .aH H'/\mH ph H0 H' i lo hi (gM E o b) (N+1):=by
 obtain⟨r,H',h1,h2,h3,h4,h5,h6,h7⟩:=V8 (b:=b) k.t ho k.sm hN k.ex hl;exact⟨r,H',h1,h2,h3,h4,k.sm.add,h5,λj hj=>(h7 j hj).trans (k.out j hj),h6.trans k.ln⟩
theorem V9{n:Nat}{E:List (Option ap)}(hl:↑E=n)(h:∀(j:Nat) c,E[j]? =O c->c=O []):E=EE (aaY n []):=by
 apply adO
 intro j;unfold EE;rw[aaK,adS];by_cases hj:j<n
 ·obtain⟨c,hc⟩:∃c,E[j]? =O c:=bo ∅;rw[hc,h j c hc,if_pos hj];rfl
 ·rw[if_neg hj,acl ∅];rfl
theorem SU{m:EM}(hw:Wy ph wi G)(hG:Ok G)(hm:m σ ph=.ok (.ref wi) ph):∃ph',cU (cV m) [Z] (gN 0) cF (b9 ag) σ ph=.ok (.ref ↑ph) ph'/\Ex ph ph'/\Tb ph' ↑ph ↑ph ↑ph' (EE (aaY ↑G [])):=by
 obtain⟨rs,h1,h2,h3⟩:=hw;have ht:=hG.top;obtain⟨ph',E,e,x,hE,hP,t⟩:=GX rs W.ref (cap:=[Z]) (g:=gN 0) (e:=b9 ag) (fB hm h1) (λp x=>a6 (x.get h1)) ∅ (λ_ c=>c=O []) (λσ=>∃o,σ=[o]) ⟨Z,rfl⟩
  (λj r hj σ H hS y cJ=>by
   obtain⟨o,rfl⟩:=hS;refine⟨_,rfl,⟨_,rfl⟩,.ref ↑H,H++[.lst []],O [],rfl,Ex.one _ _,rfl,↑H,rfl,aaN _,by simp,∅,bD _ _⟩)
 refine⟨ph',e,x,?_⟩;rw[<- V9 (by rw[hE,h2]) hP];exact t
theorem Sm.rep(n:Nat):Sm (aaY n []) 0:=λl hl=>by rw[List.eq_of_mem_replicate hl];exact aaN _
variable{ti:Nat}{o3:dP}
theorem QL{H0:PH}{b N:Nat}{E:bW}(hG:Ok G)(hw:Wy ph wi G)(hb:b<↑G)(k:mH ph H0 H ti lo hi E N)(hE:↑E=↑G)(hN:N+3<1000)(hl:↑ph<=lo):∃H' lU N',wo [⇑wi,⇑ti,↥b,o3] H=.ok (.nx [⇑wi,⇑ti,↥b,lU]) H'/\N'<=N+3/\mH ph H0 H' ti lo hi (iE E b (fL G b)) N':=by
 obtain⟨g,hg⟩:∃g,G[b]? =O g:=bo hb;have mQ:fL G b=g:=by unfold fL;rw[hg];rfl
 have oW:=aaL hg;obtain⟨r,hr,uL⟩:=Jm hw hg;have hf:=hG.few g oW;obtain⟨aj,H',e,lU,rfl,k'⟩:=gX (chk:=λp=>decide (p[r]? =O (.lst (iw g)))) (g:=gN 3) (b:=z4)
  (λm σ H=>∃lU,σ=[⇑wi,⇑ti,↥b,lU]/\mH ph H0 H ti lo hi (iE E b (g.take m)) (N+m))
  (iw g) [⇑wi,⇑ti,↥b,o3] H (λm σ H DA=>by obtain⟨_,_,k⟩:=DA;exact a6 (k.ex.get uL))
  (λm x σ H hm DC=>by
   obtain⟨lU,e,k⟩:=DC;subst e;obtain⟨o,ho,rfl⟩:=Br hm;have hml:=(aaG.mp ho).1;obtain⟨r2,H',h1,h2,h3,k'⟩:=k.add (o:=o) (b:=b) (by rw[Ge,hE];exact hG.lt g oW o (aaL ho)) ∅ hl;rw[<- PL,<- pq ho] at k';refine⟨_,_,rfl,.nx [⇑wi,⇑ti,↥b,↥o],H',?_,_,.inl rfl,↥o,rfl,k'⟩;unfold z4;ac_nf;refine az h1 (az h2 (az h3 ?_));rfl)
  ⟨o3,rfl,by rw[List.take_zero];exact k⟩
 rw[jA,acC] at k';rw[mQ];refine⟨H',lU,N+↑g,?_,∅,k'⟩;unfold wo;rw[f7 (fB (i:=r) (by
  rw[hO];show lift (af (.ref wi) (.int b)) H=_;exact hr H k.ex) (k.ex.get uL)) e]
theorem SV(hw:Wy ph wi G)(hG:Ok G):∃(i:Nat) (L:List Nd) (ph':PH),AY [.ref wi] ph=.ok (.ref i) ph'/\Ex ph ph'/\Bf G L ↑L/\Tb ph' i ↑ph ↑ph' (EE (jb G (aaY ↑G []) (up (ks L) ↑G)))/\Sm (jb G (aaY ↑G []) (up (ks L) ↑G)) 200:=by
 obtain⟨H1,e1,x1,t1⟩:=SU (m:=aa 0) (σ:=[⇑wi,Z,Z,Z]) hw hG rfl;obtain⟨di,H2,L,e2,x2,hd,b⟩:=QJ (hw.mono x1) hG;have e3:=Ig b.toBa hG hd;have ht:=hG.top;generalize zd:up (ks L) ↑G=bs at e3;have Dw:∀x∈bs,x<↑G:=λx hx=>by
  rw[<- zd] at hx;unfold up at hx;exact abv.mp (abW.mp hx).1
 have hbl:↑bs<=61:=by
  rw[<- zd];unfold up;have:=acX (λk=>decide (k∈ks L)) (abp ↑G);rw[abz] at this;omega
 have x3:Ex H2 (H2++[.lst (iw bs)]):=Ex.one _ _;have l1:=x1.len;have l2:=x2.len;have k0:mH ph (H2++[.lst (iw bs)]) (H2++[.lst (iw bs)]) ↑ph ↑ph ↑H1 (aaY ↑G []) 0:=
  ⟨(t1.ex x2 (aaN _)).ex x3 ∅,Sm.rep _,(x1.trans x2).trans x3,λ_ _=>rfl,rfl⟩
 have hq:(H2++[PO.lst (iw bs)])[↑H2]? =O (.lst (iw bs)):=bD _ _;obtain⟨aj,H',e4,o2,o3,N,rfl,hN,k⟩:=gX (chk:=λp=>decide (p[↑H2]? =O (.lst (iw bs)))) (g:=gN 2) (b:=wo)
  (λj σ H=>∃o2 o3 N,σ=[⇑wi,⇑↑ph,o2,o3]/\N<=3*j/\mH ph (H2++[.lst (iw bs)]) H ↑ph ↑ph ↑H1 (jb G (aaY ↑G []) (bs.take j)) N)
  (iw bs) [⇑wi,⇑↑ph,Z,Z] (H2++[.lst (iw bs)])
  (λj σ H DD=>by obtain⟨_,_,_,_,_,k⟩:=DD;exact a6 (by rw[k.out _ (.inr l2)];exact hq))
  (λj x σ H hj zz4=>by
   obtain⟨o2,o3,N,e,hN,k⟩:=zz4;subst e;obtain⟨bb,hb,rfl⟩:=Br hj;have dc:=(aaG.mp hb).1;obtain⟨H',lU,N',e,hN',k'⟩:=QL (o3:=o3) hG hw (Dw bb (aaL hb)) k (by rw[Fw,afe]) ∅ (aaN _);rw[<- OE,<- pq hb] at k';exact⟨_,_,rfl,_,_,e,_,.inl rfl,_,lU,N',rfl,∅,k'⟩)
  ⟨Z,Z,0,rfl,aaN _,k0⟩
 rw[jA] at hN k;rw[acC] at k;have kl:=k.ln;refine⟨↑ph,L,H',?_,k.ex,b,?_,λl hl=>abw (k.sm l (by rw[<- zd];exact hl)) ∅⟩
 ·unfold AY xk;rw[jN];refine mG (P:=λr=>r=.ok (.ref ↑ph) H') (σ1:=[⇑wi,⇑↑ph,Z,Z]) (ph1:=H1) ?_ ?_
  ·exact(bg e1).trans rfl
  ·refine mG (P:=λr=>r=.ok (.ref ↑ph) H') (f7 (fB (i:=↑H2) ?_ hq) e4) rfl;ac_nf;refine az e2 ?_;ac_nf;exact e3
 ·rw[zd];obtain⟨ws,t⟩:=k.t;have hh:↑H1<=↑H':=by rw[kl];simp;omega
  exact⟨ws,t.at_,t.len,t.li,by have:=t.ih;omega,λk w c hw hc=>(t.ent k w c hw hc).mono (λ_ _ _=>rfl) (aaN _) hh,t.inj⟩
inductive Wd where
 | sum | less | times | part | below | alike
inductive Row where
 | ua (a:Int) (w:Wd) (b c:Int)
 | put (a n:Int)
 | move (a b:Int)
 | pull (a b:Int)
 | push (a b:Int)
 | take (a:Int)
 | tell (a:Int)
 | turn
inductive En where
 | go (k:Nat)
 | iff (v:Int) (a b:Nat)
 | fin
structure dj where
 rs:List Row
 en:En
noncomputable def En.to:En->List Nat
 | .go k=>[k]
 | .iff _ a b=>[a,b]
 | .fin=>[]
noncomputable def En.mp(h:Nat->Nat):En->En
 | .go k=>.go (h k)
 | .iff v a b=>.iff v (h a) (h b)
 | .fin=>.fin
abbrev _root_.bM:=List dj
noncomputable def cH(B:bM):Nat->Nat->Nat
 | 0,k=>k
 | f+1,k=>match B[k]? with
  | some ⟨[],.go j⟩=>cH B f j
  | _=>k
theorem Ih{B:bM}(hB:∀(k:Nat) b,B[k]? =O b->∀j∈b.en.to,j<↑B):∀{n k:Nat},k<↑B->cH B n k<↑B
 | 0,k,h=>h
 | n+1,k,h=>by
  unfold cH;split
  ·rename_i j hb;exact Ih hB (hB k _ hb j (by simp[En.to]))
  ·exact h
noncomputable def Way(E:List En):aG->Prop
 | []=>False
 | [_]=>True
 | k::j::l=>E[k]? =O (.go j)/\Way E (j::l)
noncomputable def rowsOf(B:bM)(l:aG):List Row:=l.flatMap λk=>match B[k]? with | some b=>b.rs | none=>[]
noncomputable def bu(B:bM):List En:=B.map λb=>b.en.mp (cH B ↑B)
variable{B:bM}
theorem pB{b:dj}(h:B[k]? =O b):(bu B)[k]? =O (b.en.mp (cH B ↑B)):=by
 unfold bu;rw[aaK,h];rfl
noncomputable def DG(b:dj):Prop:=∃rs,b.rs=.turn::rs
noncomputable def fN(B:bM):Prop:=∀(k:Nat) b,B[k]? =O b->∀j∈b.en.to,j<↑B/\(k<j\/(∃c,B[j]? =O c/\DG c)\/DG b)
variable{ph2:PH}
theorem ax{e:EM}{r:AM}{w:W}(h:e σ ph=.ok w ph1)(h2:r σ ph1=.ok ws ph2):ae e r σ ph=.ok (w::ws) ph2:=az h (az h2 rfl)
variable{y:String}{c:Bool}
theorem wq(x:String)(h:aa i σ=ay (.tup (.str x::ws)))(hc:decide (x=y)=c):eT (ab a9 (ab af (aa i) {0}) (eC (.str y))) σ ph=.ok c ph:=by
 rw[i8,hO,hO,h,<- hc];ac_nf
theorem tF{a b:TM}(h:a σ ph=.ok false ph1):fc a b σ ph=.ok false ph1:=az h rfl
theorem tT{a b:TM}{r:Out Bool}(h:a σ ph=.ok true ph1)(h2:b σ ph1=r):fc a b σ ph=r:=az h h2
noncomputable def ze(v:Int):Prop:= -(2 ^ 32)<=v/\v<=2 ^ 32
noncomputable def Wd.s:Wd->String
 | .sum=>"sum"
 | .less=>"less"
 | .times=>"times"
 | .part=>"part"
 | .below=>"below"
 | .alike=>"alike"
noncomputable def Row.w:Row->W
 | .ua a w b c=>.tup [.str "do",.int a,.str w.s,.int b,.int c]
 | .put a n=>.tup [.str "put",.int a,.int n]
 | .move a b=>.tup [.str "move",.int a,.int b]
 | .pull a b=>.tup [.str "pull",.int a,.int b]
 | .push a b=>.tup [.str "push",.int a,.int b]
 | .take a=>.tup [.str "take",.int a]
 | .tell a=>.tup [.str "tell",.int a]
 | .turn=>.tup [.str "turn"]
noncomputable def En.w:En->W
 | .go k=>.tup [.str "go",.int k]
 | .iff v a b=>.tup [.str "if",.int v,.int a,.int b]
 | .fin=>.tup [.str "end"]
noncomputable def ls:Row->Prop
 | .put _ n=>ze n
 | _=>True
theorem Lm{a b:SM}{w:W}(h:a σ ph=.ok (.rt w) ph1):aA a b σ ph=.ok (.rt w) ph1:=by
 rw[rZ,bg h];rfl
theorem eI{g z:Int}{e:EM}(h:e σ ph=.ok (.int g) ph1)(hc:decide (g=z)=c):eT (ab a9 e (eC (.int z))) σ ph=.ok c ph1:=by
 rw[i8,hO,fA,bg h,<- hc];ac_nf
noncomputable def bw(rs:aG)(B:bM):ap:=ahU (λr b=>W.tup [.ref r,b.en.w]) rs B
structure lE(H:PH)(i:Nat)(rs:aG)(B:bM):Prop where
 at_:H[i]? =O (.lst (bw rs B))
 len:↑rs=↑B
 jZ:∀(k r:Nat) b,rs[k]? =O r->B[k]? =O b->H[r]? =O (.lst (b.rs.map Row.w))
noncomputable def cx(H:PH)(i:Nat)(B:bM):Prop:=∃rs,lE H i rs B
theorem cx.mono(h:cx H i B)(x:Ex H H'):cx H' i B:=by
 obtain⟨rs,h⟩:=h;exact⟨rs,x.get h.at_,h.len,λk r b a c=>x.get (h.jZ k r b a c)⟩
variable{rs:aG}
theorem lj(h:↑rs=↑B):(bw rs B).length=↑B:=by
 unfold bw;rw[ahr,h,Nat.min_self]
theorem pU{r:Nat}{b:dj}(h1:rs[k]? =O r)(h2:B[k]? =O b):(bw rs B)[k]? =O (W.tup [.ref r,b.en.w]):=by
 unfold bw;rw[List.getElem?_zipWith,h1,h2]
theorem cx.ix{b:dj}(h:cx H i B)(hb:B[k]? =O b):∃r,(∀H',Ex H H'->lift (af (.ref i) (.int k)) H'=.ok (.tup [.ref r,b.en.w]) H')/\H[r]? =O (.lst (b.rs.map Row.w)):=by
 obtain⟨rs,h⟩:=h;have hk:k<↑B:=(aaG.mp hb).1;obtain⟨r,hr⟩:∃r,rs[k]? =O r:=bo (by rw[h.len];exact hk);refine⟨r,λH' x=>gZ (x.get h.at_) ?_,h.jZ k r b hr hb⟩;rw[gG _ _ (by rw[lj h.len];exact hk)];exact pU hr hb
theorem cx.a7{H:PH}{i:Nat}{B:bM}(h:cx H i B):lift (a7 [.ref i]) H=.ok (.int (↑B:Int)) H:=by
 obtain⟨rs,h⟩:=h;rw[gY h.at_,lj h.len]
structure bZ(M:Nat)(B:bM):Prop where
 pos:0<↑B
 top:↑B<=60
 lt:∀(k:Nat) b,B[k]? =O b->∀j∈b.en.to,j<↑B
 rows:∀b∈B,b.rs.length<=M/\∀r∈b.rs,ls r
theorem QM{E:bW}{b x:Nat}{c:aG}(h:E[k]? =O c):∃c',(gM E o b)[k]? =O c'/\(x∈c'↔x∈c\/(k=o/\x=b)):=by
 unfold gM;cases e:E[o]? with
 | none=>
  refine⟨c,h,⟨.inl,λz=>z.elim id λz=>?_⟩⟩;rw[z.1,e] at h;cases h
 | some d=>
  simp only;by_cases hk:o=k
  ·subst hk;rw[e] at h;cases h;refine⟨c++[b],abL (aaG.mp e).1,?_⟩;simp
  ·refine⟨c,by rw[ace hk];exact h,⟨.inl,λz=>z.elim id λz=>absurd z.1.symm hk⟩⟩
theorem Gf{b k x:Nat}:∀{g:aG} {E:bW} {c:aG},E[k]? =O c->∃c',(iE E b g)[k]? =O c'/\(x∈c'↔x∈c\/(k∈g/\x=b))
 | [],E,c,h=>⟨c,h,by simp⟩
 | o::g,E,c,h=>by
  obtain⟨c1,h1,e1⟩:=QM (o:=o) (b:=b) (x:=x) h;obtain⟨c2,h2,e2⟩:=Gf (b:=b) (x:=x) (g:=g) h1;refine⟨c2,h2,e2.trans ?_⟩;rw[e1,abk];constructor
  ·rintro((h | ⟨h,h'⟩) | ⟨h,h'⟩)
   ·exact .inl h
   ·exact .inr ⟨.inl h,h'⟩
   ·exact .inr ⟨.inr h,h'⟩
  ·rintro(h | ⟨h | h,h'⟩)
   ·exact .inl (.inl h)
   ·exact .inl (.inr ⟨h,h'⟩)
   ·exact .inr ⟨h,h'⟩
theorem Gg{G:bW}{k x:Nat}:∀{bs:aG} {E:bW} {c:aG},E[k]? =O c->∃c',(jb G E bs)[k]? =O c'/\(x∈c'↔x∈c\/(x∈bs/\k∈fL G x))
 | [],E,c,h=>⟨c,h,by simp⟩
 | b::bs,E,c,h=>by
  obtain⟨c1,h1,e1⟩:=Gf (b:=b) (x:=x) (g:=fL G b) h;obtain⟨c2,h2,e2⟩:=Gg (G:=G) (x:=x) (bs:=bs) h1;refine⟨c2,h2,e2.trans ?_⟩;rw[e1,abk];constructor
  ·rintro((h | ⟨h,h'⟩) | ⟨h,h'⟩)
   ·exact .inl h
   ·exact .inr ⟨.inl h',h'▸h⟩
   ·exact .inr ⟨.inr h,h'⟩
  ·rintro(h | ⟨h | h,h'⟩)
   ·exact .inl (.inl h)
   ·exact .inl (.inr ⟨h▸h',h⟩)
   ·exact .inr ⟨h,h'⟩
theorem Tb.wy(t:Tb H i lo hi (EE G)):Wy H i G:=by
 obtain⟨ws,t⟩:=t;have hl:↑ws=↑G:=by rw[t.len];unfold EE;rw[aaI]
 have mS:∀(k:Nat) w,ws[k]? =O w->∃r g,w=.ref r/\G[k]? =O g/\H[r]? =O (.lst (iw g)):=λk w hw=>by
  have hk:=(aaG.mp hw).1;obtain⟨g,hg⟩:∃g,G[k]? =O g:=bo ∅;obtain⟨r,e,_,_,_,hr⟩:=t.ent k w _ hw (Bt hg);exact⟨r,g,e,hg,hr⟩
 have j0:ws=(ws.map λw=>match w with | .ref r=>r | _=>0).map W.ref:=by
  rw[abU]
  conv=>lhs;rw[<- List.map_id' ws]
  apply adV
  intro w hw;obtain⟨k,hk⟩:=abb.mp hw;obtain⟨r,g,rfl,_⟩:=mS k w hk;rfl
 refine⟨_,by rw[t.at_,<- j0],by rw[aaI];exact hl,λk r g hr hg=>?_⟩;rw[aaK] at hr;obtain⟨w,hw,rfl⟩:=aaP.mp hr;obtain⟨r,g',rfl,qM,h⟩:=mS k w hw;rw[hg] at qM;cases qM;exact h
theorem Yl{E:List (Option ap)}(hl:↑E=↑G)(h:∀(j:Nat) c,E[j]? =O c->c=O (iw (fL G j))):E=EE G:=by
 apply adO
 intro j;unfold EE;rw[aaK];by_cases hj:j<↑G
 ·obtain⟨c,hc⟩:∃c,E[j]? =O c:=bo ∅;obtain⟨g,hg⟩:∃g,G[j]? =O g:=bo hj;rw[hc,h j c hc,hg];unfold fL;rw[hg];rfl
 ·rw[acl ∅,acl ∅];rfl
theorem ext{o:EM}{e:EM}{us:ap}(ho:o σ=ay (.ref i))(oV:∃oN,ph[i]? =O (.lst oN))(he:e σ ph=.ok (.ref j) ph1)(hi:ph1[i]? =O (.lst ws))(hj:ph1[j]? =O (.lst us))(hz:↑ws+↑us<=10000000):gc (dW du nD o (ae e ag)) σ ph=.ok (.nx σ) (ph1.set i (.lst (ws++us))):=by
 obtain⟨oN,h0⟩:=oV;rw[Ap,wQ,ho];rw[fA,k9,fA,bg (r6 h0),fA,Aq,fA,bg he];rw[xb,k9,k9,bg (Ov hi hj (abw hz (by decide)))];rfl
noncomputable def mk(l:aG):aZ:=l.map λk:Nat=>(W.int k,W.bl true)
theorem BX(l:aG)(k:Int):eP (mk l) (.int k)=true:=by
 unfold eP;have:(mk l).all (λp=> !lR p.1)=true:=by
  rw[abR];intro p hp;obtain⟨x,_,rfl⟩:=aaX.mp hp;rfl
 rw[this];rfl
theorem Jo(l:aG)(k:Nat):(c5 (mk l) (.int k)).isSome=decide (k∈l):=by
 unfold c5 mk;rw[adM,acH,agm];simp only[decide_eq_true_eq];constructor
 ·rintro⟨p,hp,e⟩;obtain⟨x,hx,rfl⟩:=aaX.mp hp;injection e with e
  have:x=k:=by omega
  rw[<- this];exact hx
 ·intro h;exact⟨_,acb h,rfl⟩
noncomputable def ins(l:aG)(k:Nat):aG:=if k∈l then l else l++[k]
theorem A0{x:Nat}:x∈ins l k↔x∈l\/x=k:=by
 unfold ins;split
 ·rename_i h;exact⟨.inl,λh'=>h'.elim id λe=>e▸h⟩
 ·simp
theorem Wa(l:aG)(k:Nat):c6 (mk l) (.int k) (.bl true)=mk (ins l k):=by
 unfold c6 ins;have e:((mk l).any λp=>decide (p.1=.int k))=decide (k∈l):=by
  rw[acH,acB];simp only[decide_eq_true_eq];constructor
  ·rintro⟨p,hp,e⟩;obtain⟨x,hx,rfl⟩:=aaX.mp hp;injection e with e
   have:x=k:=by omega
   rw[<- this];exact hx
  ·intro h;exact⟨_,acb h,rfl⟩
 rw[e];by_cases h:k∈l
 ·rw[if_pos (a6 h),if_pos h];unfold mk;rw[abU];apply adV;intro x _;simp only[aeO];split
  ·rfl
  ·rfl
 ·rw[if_neg (by rw[bU h];exact abg),if_neg h];unfold mk;rw[abZ];rfl
theorem Ln{n:Nat}{e:EM}(h:e σ ph=.ok (.int n) ph):eT (ab gr e {0}) σ ph=.ok (decide (0<n)) ph:=by
 rw[i8,hO,fA,bg h];ac_nf
 congr 1
 exact decide_eq_decide.mpr ∅
theorem neS(x:String){e:EM}(h:e σ ph=.ok (.str x) ph)(hc:(!decide (x=y))=c):eT (ab dC e (eC (.str y))) σ ph=.ok c ph:=by
 rw[i8,hO,fA,bg h,<- hc];ac_nf
noncomputable def En.x:En->String
 | .go _=>"go"
 | .iff _ _ _=>"if"
 | .fin=>"end"
theorem oy(e:En)(H:PH):lift (af e.w (.int 0)) H=.ok (.str e.x) H:=by cases e <;> rfl
variable{bi M:Nat}
theorem Ym(hB:bZ M B)(hA:cx ph bi B)(hk:k<↑B):rV [.ref bi,.int k] ph=.ok (.int ((cH B ↑B k:Nat):Int)) ph:=by
 have ht:=hB.top;have zf:eB (ae (aV a7 (ae (aa 0) ag)) ag) [⇑bi,↥k,Z,Z] ph=.ok (ez 0 ↑B,λ_=>true) ph:=mj (j:=↑B) (ax (az (ax rfl rfl) hA.a7) rfl) ∅ ∅;unfold rV wV;rw[tW]
 rcases Ar (chk:=λ_=>true) (g:=gN 2) (b:=zM)
  (λw H=>w=.int ((cH B ↑B k:Nat):Int)/\H=ph)
  (λj σ H=>∃(k':Nat) (o2 o3:dP),σ=[⇑bi,↥k',o2,o3]/\H=ph/\k'<↑B/\j<=↑B/\cH B ↑B k=cH B (↑B-j) k')
  (ez 0 ↑B) 0 [⇑bi,↥k,Z,Z] ph (λ_ _ _ _=>rfl)
  (λj x σ H hj zz=>by
   obtain⟨k',o2,o3,rfl,rfl,qy,_,hl⟩:=zz;rw[acf] at hl ⊢;have dc:j<↑B:=by have:=(aaG.mp hj).1;rw[px] at this;exact this
   obtain⟨b,hb⟩:∃b,B[k']? =O b:=bo qy;obtain⟨ri,gV,kS⟩:=hA.ix hb;have e1:↑B-j=(↑B-(j+1))+1:=by omega
   refine⟨_,_,rfl,?_⟩;have a1:aK (ab af (aa 0) (aa 1)) (gN 3) [⇑bi,↥k',O x,o3] H=.ok (.nx [⇑bi,↥k',O x,O (.tup [.ref ri,b.en.w])]) H:=asg (gV H (Ex.refl _));have t1:eT (ab gr (aV a7 (ae (ab af (aa 3) {0}) ag)) {0}) [⇑bi,↥k',O x,O (.tup [.ref ri,b.en.w])] H=.ok (decide (0<b.rs.length)) H:=Ln (az (ax rfl rfl) ((gY kS).trans (by rw[aaI])));have t2:∀{c:Bool},(!decide (b.en.x="go"))=c->eT (ab dC (ab af (ab af (aa 3) {1}) {0}) {"go"}) [⇑bi,↥k',O x,O (.tup [.ref ri,b.en.w])] H=.ok c H:=λhc=>neS b.en.x (oy b.en H) hc
   unfold zM;obtain⟨rs,en⟩:=b;cases rs with
   | cons r rs=>
    refine⟨_,_,sq a1 (Lm (eV (by rw[rY];exact az t1 rfl) (retS rfl))),.inr ⟨_,rfl,?_,rfl⟩⟩;rw[hl,e1];unfold cH;rw[hb]
   | nil=>
    have stop:cH B (↑B-j) k'=k'->(!decide (En.x en="go"))=true->∃f ph2,aA (aK (ab af (aa 0) (aa 1)) (gN 3)) (aA (cb (c9 (eT (ab gr (aV a7 (ae (ab af (aa 3) {0}) ag)) {0})) (eT (ab dC (ab af (ab af (aa 3) {1}) {0}) {"go"}))) (bB (aa 1)) cj) (aK (ab af (ab af (aa 3) {1}) {1}) (gN 1))) [⇑bi,↥k',O x,o3] H=.ok f ph2/\f=.rt (.int ((cH B ↑B k:Nat):Int))/\ph2=H:=λq1 q2=>
     ⟨_,_,sq a1 (Lm (eV (by rw[rY];exact az t1 (t2 q2)) (retS rfl))),by rw[hl,q1],rfl⟩
    cases en with
    | go g=>
     refine⟨_,_,sq a1 (sq (b8 (by rw[rY];exact az t1 (t2 rfl)) rfl) (asg (w:=.int g) rfl)),.inl ⟨_,.inl rfl,g,_,_,rfl,rfl,hB.lt k' _ hb g (by simp[En.to]),∅,?_⟩⟩;rw[hl,e1]
     conv=>lhs;unfold cH
     rw[hb]
    | iff v a c=>
     obtain⟨f,ph2,q1,q2,q3⟩:=stop (by rw[e1];unfold cH;rw[hb]) rfl;exact⟨f,ph2,q1,.inr ⟨_,q2,rfl,q3⟩⟩
    | fin=>
     obtain⟨f,ph2,q1,q2,q3⟩:=stop (by rw[e1];unfold cH;rw[hb]) rfl;exact⟨f,ph2,q1,.inr ⟨_,q2,rfl,q3⟩⟩)
  ⟨k,Z,Z,rfl,rfl,hk,∅,rfl⟩ with⟨aj,H',e,k',o2,o3,rfl,rfl,_,_,hl⟩ | ⟨w,H',e,rfl,rfl⟩
 ·rw[px,acf,Nat.sub_self] at hl;refine bq (f7 zf e) (br ?_);rw[hl];rfl
 ·exact il (f7 zf e)
theorem Ii{tw:W}(e:En)(h:Nat->Nat)(ht:∀t∈e.to,lift (af tw (.int t)) H=.ok (.int (h t:Int)) H):m9 [e.w,tw] H=.ok (e.mp h).w H:=by
 unfold m9 vW;rw[tW];cases e with
 | go k=>exact il (eV (wq "go" rfl rfl) (retS (az (ax rfl (ax (ht k (by simp[En.to])) rfl)) rfl)))
 | iff v a b=>exact bq (b8 (wq "if" rfl rfl) rfl) (il (eV (wq "if" rfl rfl) (retS (az (ax rfl (ax rfl (ax (ht a (by simp[En.to])) (ax (ht b (by simp[En.to])) rfl)))) rfl))))
 | fin=>exact bq (b8 (wq "end" rfl rfl) rfl) (bq (b8 (wq "end" rfl rfl) rfl) rfl)
theorem Fx(e:En)(ph:PH):qS [e.w] ph=.ok (.ref ↑ph) (ph++[.lst (iw e.to)]):=by
 unfold qS ve;rw[jN];cases e with
 | go k=>exact il (eV (wq "go" rfl rfl) (retS rfl))
 | iff v a b=>exact bq (b8 (wq "if" rfl rfl) rfl) (il (eV (wq "if" rfl rfl) (retS rfl)))
 | fin=>exact bq (b8 (wq "end" rfl rfl) rfl) (bq (b8 (wq "end" rfl rfl) rfl) rfl)
theorem GZ(as:List α)(h:α->W){cap:eO}{g:GM}{e:EM}{ph0:PH}(iO:im σ ph0=.ok (as.map h,chk) ph)(uH:∀ph',Ex ph ph'->chk ph'=true)(hz:↑as<=1000)(P:Nat->W->PH->Prop)(hP:∀j w H H',P j w H->(∀r o,r≠↑ph->H[r]? =O o->H'[r]? =O o)->P j w H')(S:aO->Prop)(h0:S (gy cap σ))(step:∀j x,as[j]? =O x->∀σ H,S σ->Ex ph H->↑ph<↑H->∃σ1,g (h x) σ H=.ok σ1 H/\S σ1/\∃w H2,e σ1 H=.ok w H2/\Ex H H2/\P j w H2):∃ph' ws,cU im cap g cF e σ ph0=.ok (.ref ↑ph) ph'/\Ex ph ph'/\ph'[↑ph]? =O (.lst ws)/\↑ws=↑as/\∀j w,ws[j]? =O w->P j w ph':=by
 rw[As,bg iO];obtain⟨om,aj,ph',ec,hS,x1,x2,x3,x4⟩:=rL (chk:=chk) (g:=g) (c:=cF) (e:=e) ↑ph
  (λk acc σ H=>S σ/\Ex ph H/\H[↑ph]? =O (.lst acc)/\↑acc=k/\∀(j:Nat) w,acc[j]? =O w->P j w H)
  (as.map h) 0 [] (gy cap σ) (ph++[.lst []]) (λj acc σ H hI=>uH _ hI.2.1)
  (λj y acc σ H hj hI=>by
   rw[acf] at hI ⊢;obtain⟨hS,x1,x2,x3,x4⟩:=hI;rw[aaK] at hj;obtain⟨x,hx,rfl⟩:=aaP.mp hj;have dc:=(aaG.mp hx).1;obtain⟨σ1,e1,ij,w,H2,e2,y1,y2⟩:=step j x hx σ H hS x1 (iC x2);have keep:∀r o,r≠↑ph->H2[r]? =O o->(H2.set ↑ph (.lst (acc++[w])))[r]? =O o:=λr o hr ho=>(dA (adh hr)).trans ho
   refine⟨σ1,H,e1,true,H,rfl,.inr ⟨rfl,w,H2,e2,y1.get x2,aaS (by omega:↑acc<1001) (by decide),ij,Ex.set (x1.trans y1) (aaN _) _,fS (y1.get x2),by simp[x3],λi w' DE=>?_⟩⟩
   rcases iy DE with⟨_,z⟩ | ⟨z0,z⟩
   ·exact hP i w' H _ (x4 i w' z) λr o hr ho=>keep r o hr (y1.get ho)
   ·rw[z,z0,x3];exact hP j w H2 _ y2 keep)
  ⟨h0,Ex.one _ _,bD _ _,rfl,λj w z=>by simp at z⟩
 rw[acf,aaI] at x3;exact⟨ph',om,bg ec,x1,x2,x3,x4⟩
theorem set_same{o:PO}(h:H[i]? =O o):H.set i o=H:=by
 obtain⟨hl,e⟩:=aaG.mp h;rw[<- e];exact List.set_getElem_self hl
noncomputable def wB(T:bW)(E:List En)(k:Nat):Bool:=match T[k]? with
 | some [b]=>decide (0<k)&&(match E[b]? with
  | some (.go _)=>true
  | _=>false)
 | _=>false
noncomputable def wl(T:bW)(E:List En)(n:Nat):aG:=(abp n).filter (wB T E)
noncomputable def bK(E:List En):bW:=E.map En.to
noncomputable def cW(G:bW)(L:List Nd):bW:=jb G (aaY ↑G []) (up (ks L) ↑G)
theorem G0(T:bW)(E:List En)(j:Nat):wl T E (j+1)=if wB T E j=true then wl T E j++[j] else wl T E j:=by
 unfold wl;rw[List.range_succ,afS];simp only[ada,List.filter_nil];split
 ·rfl
 ·rw[aci]
variable{E:List En}
theorem BY{T:bW}{n:Nat}(h:k∈wl T E n):k<n/\wB T E k=true:=by
 unfold wl at h;have:=abW.mp h;exact⟨abv.mp this.1,this.2⟩
theorem G1{x:Nat}(hk:k<↑G):∃c,(cW G L)[k]? =O c/\(x∈c↔x∈up (ks L) ↑G/\k∈fL G x):=by
 obtain⟨c,h1,h2⟩:=Gg (G:=G) (k:=k) (x:=x) (bs:=up (ks L) ↑G) (E:=aaY ↑G []) (c:=[]) (by rw[adS,if_pos hk]);exact⟨c,h1,by rw[h2];simp⟩
theorem hU{L:aG}{n:Nat}:k∈up L n↔k<n/\k∈L:=by
 unfold up;rw[abW,abv,decide_eq_true_eq]
theorem Z4{e:En}:e.x="go"↔∃j,e=.go j:=by
 cases e with
 | go j=>exact⟨λ_=>⟨j,rfl⟩,λ_=>rfl⟩
 | iff v a b=>exact⟨λz=>absurd z (by simp[En.x]),λ⟨j,z⟩=>nomatch z⟩
 | fin=>exact⟨λz=>absurd z (by simp[En.x]),λ⟨j,z⟩=>nomatch z⟩
variable{ei:Nat}
theorem Wb{r:Nat}{T:bW}{c:aG}{o1:dP}(hE:H[ei]? =O (.lst (E.map En.w)))(hr:H[r]? =O (.lst (iw c)))(hc:T[k]? =O c)(cJ:∀b∈c,b<↑E):fc (eT (ab gr (aa 2) {0})) (fc (eT (ab a9 (aV a7 (ae (aa 3) ag)) {1})) (eT (ab a9 (ab af (ab af (aa 0) (ab af (aa 3) {0})) {0}) {"go"}))) [⇑ei,o1,↥k,⇑r] H=.ok (wB T E k) H:=by
 have t1:eT (ab gr (aa 2) {0}) [⇑ei,o1,↥k,⇑r] H=.ok (decide (0<k)) H:=Ln rfl;unfold wB;rw[hc];by_cases hk:0<k
 ·rw[a6 hk] at t1;refine tT t1 ?_;have t2:∀(d:Bool),decide ((↑c:Int)=1)=d->eT (ab a9 (aV a7 (ae (aa 3) ag)) {1}) [⇑ei,o1,↥k,⇑r] H=.ok d H:=λd hd=>eI (az (ax rfl rfl) ((gY hr).trans (by rw[jA]))) hd
  match c,hr,cJ,t2 with
  | [],_,_,t2=>exact tF (t2 _ rfl)
  | _::_::l,_,_,t2=>exact tF (t2 _ (bU (by simp only[abq];omega)))
  | [b],hr,cJ,t2=>
   refine tT (t2 _ rfl) ?_;have hb:=cJ b (by simp);obtain⟨e,he⟩:∃e,E[b]? =O e:=bo hb;have i1:ab af (aa 3) {0} [⇑ei,o1,↥k,⇑r] H=.ok (.int b) H:=az rfl (az rfl (gZ hr rfl));have i2:ab af (aa 0) (ab af (aa 3) {0}) [⇑ei,o1,↥k,⇑r] H=.ok e.w H:=az rfl (az i1 (gZ hE (by rw[gG _ _ (by rw[aaI];exact hb),aaK,he];rfl)));have i3:ab af (ab af (aa 0) (ab af (aa 3) {0})) {0} [⇑ei,o1,↥k,⇑r] H=.ok (.str e.x) H:=az i2 (az rfl (oy e H));simp only[he,a6 hk,ahG];rw[i8,hO,fA,bg i3];ac_nf
   congr 1
   cases e <;> rfl
 ·rw[bU hk] at t1;have:(match O c with
   | some [b]=>decide (0<k)&&(match E[b]? with
    | some (.go _)=>true
    | _=>false)
   | _=>false)=false:=by
   rw[bU hk];split <;> simp
  exact(tF t1).trans (by rw[this])
theorem QN(hE:ph[ei]? =O (.lst (E.map En.w)))(hG:Ok (bK E)):∃ph' L,zw [.ref ei] ph=.ok (.ref ↑ph) ph'/\Ex ph ph'/\Bf (bK E) L ↑L/\ph'[↑ph]? =O (.aX (mk (wl (cW (bK E) L) E ↑E))):=by
 have hn:(bK E).length=↑E:=aaI _;have ht:=hG.top;obtain⟨H1,e1⟩:∃H1,H1=ph++[PO.aX []]:=⟨_,rfl⟩
 have x1:Ex ph H1:=e1▸Ex.one _ _;have l1:↑H1=↑ph+1:=by rw[e1];simp
 have DH:=x1.get hE;obtain⟨H2,EE2,e2,x2,fF,hP2,t2⟩:=GX E En.w (ph:=H1) (cap:=[Z]) (g:=gN 0) (e:=bh qS (ae (aa 0) ag)) (σ:=[⇑ei,⇑↑ph,Z,Z]) (fB (m:=aa 0) (ph:=H1) rfl DH) (λp x=>a6 (x.get DH)) ∅ (λj c=>c=O (iw (fL (bK E) j))) (λσ=>∃o,σ=[o]) ⟨Z,rfl⟩
  (λj e hj σ H hS y cJ=>by
   obtain⟨o,rfl⟩:=hS;refine⟨_,rfl,⟨_,rfl⟩,.ref ↑H,(H++[PO.lst (iw e.to)]:PH),O (iw e.to),az (ax rfl rfl) (Fx e H),Ex.one _ _,by unfold fL bK;rw[aaK,hj];rfl,↑H,rfl,aaN _,by simp,∅,bD _ _⟩)
 rw[Yl (by rw[fF,hn]) hP2] at t2;obtain⟨ti,L,H3,e3,x3,b,tt,sm⟩:=SV t2.wy hG;have l2:=x2.len;have l3:=x3.len;obtain⟨T,zg⟩:∃T,T=cW (bK E) L:=⟨_,rfl⟩
 have mX:↑T=↑E:=by rw[zg];unfold cW;rw[Fw,afe,hn]
 have tt:Tb H3 ti ↑H2 ↑H3 (EE T):=by rw[zg];exact tt
 obtain⟨ws,tw⟩:=tt;have hE3:H3[ei]? =O (.lst (E.map En.w)):=x3.get (x2.get DH);have aaC:=iC hE;have DI:H3[↑ph]? =O (.aX []):=x3.get (x2.get (by rw[e1];exact bD _ _));have hti:=tw.li;obtain⟨aj,H',e4,o2,o3,rfl,rfl⟩:=gX (chk:=λp=>decide (p[ti]? =O (.lst ws))) (g:=eA 2 [gN 2,gN 3]) (b:=zp)
  (λj σ H=>∃o2 o3,σ=[⇑ei,⇑↑ph,o2,o3]/\H=H3.set ↑ph (.aX (mk (wl T E j))))
  (i7 ws) [⇑ei,⇑↑ph,Z,Z] H3
  (λj σ H zz=>by obtain⟨_,_,_,rfl⟩:=zz;exact a6 ((dA ∅).trans tw.at_))
  (λj x σ H hj zz=>by
   obtain⟨o2,o3,rfl,rfl⟩:=zz;obtain⟨w,hw,rfl⟩:=Sv hj;have dc:j<↑E:=by rw[<- mX];have:=(aaG.mp hw).1;have:=tw.len;unfold EE at this;rw[aaI] at this;omega
   obtain⟨c,hc⟩:∃c,T[j]? =O c:=bo ∅;obtain⟨r,rfl,r1,r2,r3,r4⟩:=tw.ent j w _ hw (Bt hc);refine⟨_,_,rfl,?_⟩;have cJ:∀b∈c,b<↑E:=λb hb=>by
    obtain⟨c',dX,q⟩:=G1 (G:=bK E) (L:=L) (k:=j) (x:=b) ∅;rw[<- zg,hc] at dX;cases dX;have:=(hU.mp (q.mp hb).1).1;omega
   have test:=Wb (o1:= ⇑↑ph) (H:=H3.set ↑ph (.aX (mk (wl T E j)))) (ei:=ei) (r:=r) (k:=j) (E:=E) (T:=T) (c:=c) ((dA ∅).trans hE3) ((dA ∅).trans r4) hc cJ;unfold zp;by_cases hw:wB T E j=true
   ·rw[hw] at test;have ha:aK (eC (.bl true)) (pN (aa 1) (aa 2)) [⇑ei,⇑↑ph,↥j,⇑r] (H3.set ↑ph (.aX (mk (wl T E j))))=.ok (.nx [⇑ei,⇑↑ph,↥j,⇑r]) ((H3.set ↑ph (.aX (mk (wl T E j)))).set ↑ph (.aX (c6 (mk (wl T E j)) (.int j) (.bl true)))):=by
     rw[AU];refine az rfl ?_;rw[FZ];refine az (az rfl (az rfl (az (F1 (fS DI) (BX _ _) (by unfold mk;rw[aaI];unfold wl;exact Nat.lt_of_le_of_lt (acX _ _) (by rw[abz];exact aaS (show j<1000 by omega) (by decide))) _) rfl))) rfl
    refine⟨_,_,eV test ha,_,.inl rfl,↥j,⇑r,rfl,?_⟩;rw[Wa,ahT,G0,if_pos hw]
    congr 3
    unfold ins;rw[if_neg (λz=>absurd (BY z).1 (acR _))]
   ·have hw:wB T E j=false:=by simpa using hw
    rw[hw] at test;refine⟨_,_,b8 test rfl,_,.inl rfl,↥j,⇑r,rfl,?_⟩;rw[G0,if_neg (by rw[hw];exact abg)])
  ⟨Z,Z,rfl,by
   rw[show mk (wl T E 0)=[] from rfl];exact(set_same DI).symm⟩
 have jT:↑ws=↑E:=by have:=tw.len;unfold EE at this;rw[aaI] at this;omega
 rw[Sw,jT] at e4;refine⟨_,L,?_,Ex.set (x1.trans (x2.trans x3)) (aaN _) _,b,by rw[<- zg];exact fS DI⟩;unfold zw u9;rw[jN];refine bq (ph1:=H1) (σ1:=[⇑ei,⇑↑ph,Z,Z]) (by rw[e1];rfl) (bq (f7 (Fj (i:=ti) (ws:=ws) (ph':=H3) ?_ tw.at_) e4) rfl);exact ax (az (ax e2 rfl) e3) rfl
theorem Fy(h:ph[i]? =O (.lst ws)):lift (kn [.ref i]) ph=.ok (.ref ↑ph) (ph++[.lst ws]):=by
 have e:kn [.ref i] ph=pL [.ref i] ph:=by
  unfold kn;simp only[xN h]
 have:=Qs h;unfold lift at this ⊢;rw[e];exact this
theorem SW(hE:ph[ei]? =O (.lst (E.map En.w))):yr ph (bK E) (.fn "threaded" [.ref ei]):=λs0 s2 s3 s4 s5 s7 H tk g x hg=>by
 have qM:∃e,E[tk]? =O e/\e.to=g:=by
  unfold bK at hg;rw[aaK] at hg;exact aaP.mp hg
 obtain⟨e,he,rfl⟩:=qM;refine⟨↑H,H++[.lst (iw e.to)],?_,Ex.one _ _,bD _ _,.inr (aaN _)⟩;have mS:da (E.map En.w) (tk:Int)=O e.w:=by rw[gG _ _ (by rw[aaI];exact(aaG.mp he).1),aaK,he];rfl
 have e2:pj [↥tk,⇑ei] H=.ok (.ref ↑H) (H++[.lst (iw e.to)]):=by
  unfold pj;exact az (ax (az rfl (az rfl (gZ (x.get hE) mS))) rfl) (Fx e H)
 show jM "threaded" pj 1 (ae (aa 6) ag) [s0,O (.fn "threaded" [.ref ei]),s2,s3,s4,s5,↥tk,s7] H=_;unfold jM;simp only[agw,agx,yk,if_true];refine az (ax rfl rfl) ?_;unfold uB dJ;simp only[e2]
variable{L':List Nd}
theorem Fz(b:Bf G L ↑L)(b':Bf G L' ↑L'):∀x∈ks L,x∈ks L':=by
 have key:∀(i:Nat) x,L[i]? =O x->x.k∈ks L':=λi=>by
  induction i using afD with
  | ind i ih=>
   intro x hx;by_cases hi:i=0
   ·subst hi;rw[b.zero] at hx;cases hx;exact aaX.mpr ⟨_,aaL b'.zero,rfl⟩
   ·obtain⟨j,y,g,h1,h2,_,_,h5,h6⟩:=b.ie i x hx hi;obtain⟨y',oE,e⟩:=aaX.mp (ih j h1 y h2);obtain⟨j',mY⟩:=abb.mp oE;obtain⟨x',jm,e',_⟩:=b'.closed j' y' g (aaG.mp mY).1 mY (by rw[e];exact h5) x.k h6;exact aaX.mpr ⟨x',jm,e'⟩
 intro x hx;obtain⟨y,hy,rfl⟩:=aaX.mp hx;obtain⟨i,hi⟩:=abb.mp hy;exact key i y hi
theorem up_eq(b:Bf G L ↑L)(b':Bf G L' ↑L'):up (ks L) ↑G=up (ks L') ↑G:=by
 unfold up;apply List.filter_congr;intro k _;exact decide_eq_decide.mpr ⟨Fz b b' k,Fz b' b k⟩
structure Wi(E:List En)(F W:aG):Prop where
 lt:∀x∈F,x<↑E
 nd:F.Nodup
 cl:∀x∈F,∀e,E[x]? =O e->∀t∈e.to,t∈F
 one:∀k∈W,∃b∈F,E[b]? =O (.go k)/\∀b'∈F,∀e,E[b']? =O e->k∈e.to->b'=b
 zero:0∈F/\0∉W
theorem Yn(hG:Ok (bK E))(b:Bf (bK E) L ↑L):Wi E (up (ks L) ↑E) (wl (cW (bK E) L) E ↑E):=by
 have hn:(bK E).length=↑E:=aaI _;have iP:∀{x:Nat} {e:En},E[x]? =O e->(bK E)[x]? =O e.to:=λ{x e} h=>by unfold bK;rw[aaK,h];rfl
 refine⟨λx hx=>(hU.mp hx).1,?_,λx hx e he t ht=>?_,λk hk=>?_,?_,?_⟩
 ·unfold up;exact adF _ aex
 ·obtain⟨h1,h2⟩:=hU.mp hx;obtain⟨y,hy,rfl⟩:=aaX.mp h2;obtain⟨i,hi⟩:=abb.mp hy;obtain⟨x',jm,e',_⟩:=b.closed i y _ (aaG.mp hi).1 hi (iP he) t ht;have:=b.lt x' jm;exact hU.mpr ⟨∅,aaX.mpr ⟨x',jm,e'⟩⟩
 ·obtain⟨h1,h2⟩:=BY hk;unfold wB at h2;split at h2
  ·rename_i b0 hT;rw[aaZ] at h2;have mem:∀x,x∈[b0]↔x∈up (ks L) ↑E/\k∈fL (bK E) x:=λx=>by
    obtain⟨c,hc,q⟩:=G1 (G:=bK E) (L:=L) (k:=k) (x:=x) ∅;rw[hT] at hc;cases hc;rw[<- hn];exact q
   obtain⟨m1,m2⟩:=(mem b0).mp (by simp);refine⟨b0,m1,?_,λb' za e he hke=>?_⟩
   ·cases he:E[b0]? with
    | none=>rw[he] at h2;cases h2.2
    | some e=>
     rw[he] at h2;cases e with
     | go j=>
      unfold fL at m2;rw[iP he] at m2;have:k=j:=by simpa[En.to] using m2
      rw[this]
     | iff v a c=>cases h2.2
     | fin=>cases h2.2
   ·have:=(mem b').mpr ⟨za,by unfold fL;rw[iP he];exact hke⟩
    simpa using this
  ·cases h2
 ·exact hU.mpr ⟨by have:=hG.pos;omega,aaX.mpr ⟨_,aaL b.zero,rfl⟩⟩
 ·intro z;have h2:=(BY z).2;unfold wB at h2;split at h2
  ·simp at h2
  ·cases h2
theorem Gh{E:List En}:∀{l:aG} {z j:Nat},Way E l->l.getLast? =O z->E[z]? =O (.go j)->Way E (l++[j])
 | [k],z,j,h,hz,he=>by
  have:k=z:=by simpa using hz
  subst this;exact⟨he,trivial⟩
 | k::k2::l,z,j,h,hz,he=>⟨h.1,Gh (l:=k2::l) h.2 (by simpa[List.getLast?_cons_cons] using hz) he⟩
theorem xv{E:List En}:∀{l:aG} {i x y:Nat},Way E l->l[i]? =O x->l[i+1]? =O y->E[x]? =O (.go y)
 | [k],i,x,y,h,h1,h2=>by cases h2
 | k::k2::l,0,x,y,h,h1,h2=>by
  cases h1;cases h2;exact h.1
 | k::k2::l,i+1,x,y,h,h1,h2=>xv (l:=k2::l) h.2 h1 h2
variable{F:aG}{z:Nat}
theorem SX{W:aG}(w:Wi E F W){k0:Nat}(h:Way E l)(hF:∀x∈l,x∈F)(h0:l[0]? =O k0)(uN:k0∉W)(hn:l.Nodup)(hz:l.getLast? =O z)(he:E[z]? =O (.go j))(hj:j∈W):j∉l:=λhm=>by
 obtain⟨i,hi⟩:=abb.mp hm;have uO:=(aaG.mp hi).1;cases i with
 | zero=>rw[h0] at hi;cases hi;exact uN hj
 | succ i=>
  obtain⟨x,hx⟩:∃x,l[i]? =O x:=bo ∅;obtain⟨b,_,_,hb⟩:=w.one j hj;have e1:x=b:=hb x (hF x (aaL hx)) _ (xv h hx hi) (by simp[En.to]);have Lo:l[↑l-1]? =O z:=by rw[<- List.getLast?_eq_getElem?];exact hz
  have e2:z=b:=hb z (hF z (aaL Lo)) _ he (by simp[En.to]);have jm:=hx;rw[e1,<- e2] at jm;obtain⟨q1,q2⟩:=aaG.mp jm;obtain⟨q3,q4⟩:=aaG.mp Lo;have:=(List.getElem_inj hn).mp (q2.trans q4.symm);omega
structure Jn(E:List En)(F W:aG)(k:Nat)(l:aG):Prop where
 way:Way E l
 mZ:∀x∈l,x∈F
 hd:l[0]? =O k
 nd:l.Nodup
 wt:∀(i:Nat) x,l[i+1]? =O x->x∈W
theorem PM(B:bM)(l:aG){b:dj}(h:B[j]? =O b):rowsOf B (l++[j])=rowsOf B l++b.rs:=by
 unfold rowsOf;rw[afF];simp[h]
theorem Ax{B:bM}{M:Nat}(hB:bZ M B):∀(l:aG),(rowsOf B l).length<=M*↑l
 | []=>by simp[rowsOf]
 | k::l=>by
  have ih:=Ax hB l;unfold rowsOf at ih ⊢;rw[adn,aaQ,abq,Nat.mul_succ];cases h:B[k]? with
  | none=>simp only[aeL];omega
  | some b=>
   have:=(hB.rows b (aaL h)).1;simp only;omega
theorem SY(hB:bZ M B):∀r∈rowsOf B l,ls r:=λr hr=>by
 unfold rowsOf at hr;obtain⟨k,_,hk⟩:=afo.mp hr;cases h:B[k]? with
 | none=>rw[h] at hk;cases hk
 | some b=>rw[h] at hk;exact(hB.rows b (aaL h)).2 r hk
structure JC(ph:PH)(bi ei wi M:Nat)(B:bM)(E:List En)(W:aG):Prop where
 ok:bZ M B
 hM:M<=100
 at_:cx ph bi B
 ends:ph[ei]? =O (.lst (E.map En.w))
 el:↑E=↑B
 win:ph[wi]? =O (.aX (mk W))
theorem QO{W:aG}(c:JC ph bi ei wi M B E W)(w:Wi E F W)(x:Ex ph H)(hk:k∈F)(uN:k∉W):∃H' l z e,vC [.ref bi,.ref ei,.ref wi,.int k] H=.ok (.tup [.ref ↑H,e.w]) H'/\Ex H H'/\H'[↑H]? =O (.lst ((rowsOf B l).map Row.w))/\Jn E F W k l/\l.getLast? =O z/\E[z]? =O e/\∀j,e=.go j->j∉W:=by
 have hkE:=w.lt k hk;have ht:=c.ok.top;have hel:=c.el;obtain⟨b,hb⟩:∃b,B[k]? =O b:=bo ∅;obtain⟨e0,qN⟩:∃e0,E[k]? =O e0:=bo hkE;obtain⟨ri,gV,kS⟩:=c.at_.ix hb;have endAt:∀{j:Nat} {e:En} {H:PH},Ex ph H->E[j]? =O e->lift (af (.ref ei) (.int j)) H=.ok e.w H:=λ{j e H} x he=>gZ (x.get c.ends) (by rw[gG _ _ (by rw[aaI];exact(aaG.mp he).1),aaK,he];rfl)
 obtain⟨H1,e1⟩:∃H1,H1=H++[PO.lst (b.rs.map Row.w)]:=⟨_,rfl⟩
 have x1:Ex H H1:=e1▸Ex.one _ _;have g1:H1[↑H]? =O (.lst (b.rs.map Row.w)):=by rw[e1];exact bD _ _
 have aar:↑F<=↑E:=by
  have:=iV w.nd w.lt;exact this
 obtain⟨aj,H',e,l,z,en,rfl,j1,j2,j3,j4,j5,j6⟩:=wG (t:=fc (eT (ab a9 (ab af (aa 5) {0}) {"go"})) (eT (ab dZ (ab af (aa 5) {1}) (aa 2)))) (b:=vb)
  (λm σ K=>∃l z en,σ=[⇑bi,⇑ei,⇑wi,↥k,⇑↑H,O (En.w en)]/\Jn E F W k l/\l.getLast? =O z/\E[z]? =O en/\Ex H K/\K[↑H]? =O (.lst ((rowsOf B l).map Row.w))/\m+↑l=↑E+1)
  (λσ K=>∃l z en,σ=[⇑bi,⇑ei,⇑wi,↥k,⇑↑H,O (En.w en)]/\Jn E F W k l/\l.getLast? =O z/\E[z]? =O en/\Ex H K/\K[↑H]? =O (.lst ((rowsOf B l).map Row.w))/\∀j,en=.go j->j∉W)
  (λm σ K zz=>by
   obtain⟨l,z,en,rfl,j1,j2,j3,j4,j5,j6⟩:=zz;have uP:z∈F:=j1.mZ z (ahh j2);have fJ:↑l<=↑E:=abw (iV j1.nd λy hy=>w.lt y (j1.mZ y hy)) (aaN _);have t1:∀(d:Bool),decide (en.x="go")=d->eT (ab a9 (ab af (aa 5) {0}) {"go"}) [⇑bi,⇑ei,⇑wi,↥k,⇑↑H,O (En.w en)] K=.ok d K:=λd hd=>by
    rw[i8,hO,fA,bg (show ab af (aa 5) {0} [⇑bi,⇑ei,⇑wi,↥k,⇑↑H,O (En.w en)] K=.ok (.str en.x) K from oy en K),<- hd];ac_nf
   cases en with
   | go j=>
    have DJ:j∈F:=w.cl z uP _ j3 j (by simp[En.to]);have t2:eT (ab dZ (ab af (aa 5) {1}) (aa 2)) [⇑bi,⇑ei,⇑wi,↥k,⇑↑H,O (En.go j).w] K=.ok (decide (j∈W)) K:=by
     rw[i8,hO];refine az (az rfl (az rfl (Sz ((x.trans j4).get c.win) (BX W _)))) ?_;rw[Jo];rfl
    by_cases hj:j∈W
    ·right
     have iD:=SX w j1.way j1.mZ j1.hd uN j1.nd j2 j3 hj;obtain⟨bj,jp⟩:∃bj,B[j]? =O bj:=bo (by have:=w.lt j DJ;omega);obtain⟨ej,Lp⟩:∃ej,E[j]? =O ej:=bo (w.lt j DJ);obtain⟨rj,Z5,hrj⟩:=c.at_.ix jp;rw[a6 hj] at t2;have aas:=Ax c.ok l;have aat:=(c.ok.rows bj (aaL jp)).1;have hM:=c.hM;have gE:(rowsOf B l).length<=6100:=by
      have:=Nat.mul_le_mul hM (show ↑l<=61 by omega);omega
     have body:vb [⇑bi,⇑ei,⇑wi,↥k,⇑↑H,O (En.go j).w] K=.ok (.nx [⇑bi,⇑ei,⇑wi,↥k,⇑↑H,O ej.w]) (K.set ↑H (.lst ((rowsOf B l).map Row.w++bj.rs.map Row.w))):=by
      unfold vb;refine sq (ext (j:=rj) rfl ⟨_,j5⟩ (ph1:=K) (az (az rfl (az rfl (Z5 K (x.trans j4)))) rfl) j5 ((x.trans j4).get hrj) (by rw[aaI,aaI];omega)) (asg (az rfl (az rfl (endAt (Ex.set (x.trans j4) x.len _) Lp))))
     refine⟨K,tT (t1 _ rfl) t2,_,_,body,_,.inl rfl,m-1,∅,l++[j],j,ej,rfl,⟨Gh j1.way j2 j3,λy hy=>?_,?_,?_,λi y hy=>?_⟩,by simp,Lp,Ex.set j4 (aaN _) _,?_,by simp;omega⟩
     ·rcases abF.mp hy with q | q
      ·exact j1.mZ y q
      ·rw[aaT.mp q];exact DJ
     ·rw[abm (aaG.mp j1.hd).1];exact j1.hd
     ·rw[adm];exact⟨j1.nd,by simp,λa ha d hd=>by rw[aaT.mp hd];exact λq=>iD (q▸ha)⟩
     ·rcases iy hy with⟨_,q⟩ | ⟨_,q⟩
      ·exact j1.wt i y q
      ·rw[q];exact hj
     ·rw[fS j5,PM B l jp,abZ]
    ·left
     rw[bU hj] at t2;exact⟨K,tT (t1 _ rfl) t2,l,z,_,rfl,j1,j2,j3,j4,j5,λj' mY=>by cases mY;exact hj⟩
   | iff v a d=>
    left
    exact⟨K,tF (t1 _ rfl),l,z,_,rfl,j1,j2,j3,j4,j5,λj' mY=>nomatch mY⟩
   | fin=>
    left
    exact⟨K,tF (t1 _ rfl),l,z,_,rfl,j1,j2,j3,j4,j5,λj' mY=>nomatch mY⟩)
  ↑E [⇑bi,⇑ei,⇑wi,↥k,⇑↑H,O (En.w e0)] H1 ⟨[k],k,e0,rfl,⟨trivial,λy hy=>by rw[aaT.mp hy];exact hk,rfl,by simp,λi y hy=>by simp at hy⟩,by simp,qN,x1,by rw[g1];simp[rowsOf,hb],by simp⟩
 refine⟨H',l,z,en,?_,j4,j5,j1,j2,j3,j6⟩;unfold vC vB;rw[tX];refine bq (ph1:=H1) (σ1:=[⇑bi,⇑ei,⇑wi,↥k,⇑↑H,Z]) ?_ (bq (ph1:=H1) (σ1:=[⇑bi,⇑ei,⇑wi,↥k,⇑↑H,O (En.w e0)]) (asg (az rfl (az rfl (endAt (x.trans x1) qN)))) (bq e rfl));refine asg (az (ax (az (az rfl (az rfl (gV H x))) rfl) rfl) ?_);rw[e1];exact Fy (x.get kS)
theorem Ij(rs:aG)(B:bM):bw rs B=(rs.zip B).map λp=>W.tup [.ref p.1,p.2.en.w]:=by
 unfold bw;rw[List.zip,List.map_zipWith]
theorem S1(h:↑rs=↑B)(f:dj->α):(rs.zip B).map (λp=>f p.2)=B.map f:=by
 rw[show(λp:Nat×dj=>f p.2)=f∘Prod.snd from rfl,<- abU,List.map_snd_zip ∅]
theorem S2 (hB : bZ M B) : Ok (bK (bu B)) := by
  have hl : (bK (bu B)).length = B.length := by unfold bK bu; rw [aaI, aaI]
  have := hB.pos;have := hB.top;refine ⟨by omega, by omega, fun g hg x hx => ?_, fun g hg => ?_⟩
  · unfold bK bu at hg
    rw [abU] at hg;obtain ⟨b, hb, rfl⟩ := aaX.mp hg;obtain ⟨k, hk⟩ := abb.mp hb;have key : ∀ t ∈ b.en.to, cH B B.length t < B.length := fun t ht => Ih hB.lt (hB.lt k b hk t ht)
    rw [hl];simp only [aeO] at hx;cases he : b.en with
    | go j => rw [he] at hx key; have : x = cH B B.length j := by simpa [En.mp, En.to] using hx
              rw [this]; exact key j (by simp [En.to])
    | iff v a c =>
      rw [he] at hx key;have : x = cH B B.length a \/ x = cH B B.length c := by simpa [En.mp, En.to] using hx
      rcases this with z | z
      · rw [z]; exact key a (by simp [En.to])
      · rw [z]; exact key c (by simp [En.to])
    | fin => rw [he] at hx; simp [En.mp, En.to] at hx
  · unfold bK at hg
    obtain ⟨e, _, rfl⟩ := aaX.mp hg;cases e <;> simp [En.to]
variable{o4 o5 o6 o7:dP}
theorem S3{o1 o2:dP}(hB:bZ M B)(hA:cx ph bi B):∃ph',cU (eB (ae (aV a7 (ae (aa 0) ag)) ag)) [Z,O 0] (gN 0) cF (bh rV (ae (aa 1) (ae (aa 0) ag))) [⇑bi,o1,o2,o3,o4,o5,o6,o7] ph=.ok (.ref ↑ph) ph'/\Ex ph ph'/\ph'[↑ph]? =O (.lst (iw ((abp ↑B).map (cH B ↑B)))):=by
 have ht:=hB.top;obtain⟨ph',e,x⟩:=iW (abp ↑B) (λi:Nat=>W.int i) (im:=eB (ae (aV a7 (ae (aa 0) ag)) ag)) (cap:=[Z,O 0]) (g:=gN 0) (c:=cF) (e:=bh rV (ae (aa 1) (ae (aa 0) ag))) (σ:=[⇑bi,o1,o2,o3,o4,o5,o6,o7]) (ph0:=ph) (ph:=ph) (chk:=λ_=>true)
  (by rw[<- xm];exact mj (j:=↑B) (ax (az (ax rfl rfl) hA.a7) rfl) ∅ ∅) (λ_ _=>rfl) (by rw[abz];exact abw ht (by decide))
  (λk=> ↥((cH B ↑B k:Nat):Int)) (λσ=>∃o,σ=[o,⇑bi]) ⟨Z,rfl⟩
  (λk hk σ K zz hx=>by
   obtain⟨o,rfl⟩:=zz;exact⟨_,rfl,⟨_,rfl⟩,true,K,rfl,Ex.refl _,.inr ⟨rfl,_,K,az (ax rfl (ax rfl rfl)) (Ym hB (hA.mono hx) (abv.mp hk)),Ex.refl _,rfl⟩⟩)
 rw[nE] at x;refine⟨ph',e,(Ex.one _ _).trans x,?_⟩;have:=x.get (bD ph _);rw[this];unfold iw;rw[abU];rfl
theorem td{x:Nat}(h:H[i]? =O (.lst (iw l)))(hk:l[k]? =O x):lift (af (.ref i) (.int k)) H=.ok (.int x) H:=gZ h (Jl hk)
theorem Wc{li:Nat}{o2:dP}(hB:bZ M B)(hA:cx ph bi B)(hl:ph[li]? =O (.lst (iw ((abp ↑B).map (cH B ↑B))))):∃ph',cU (cV (aa 0)) [Z,O 1] (gN 0) cF (bh m9 (ae (ab af (aa 0) {1}) (ae (aa 1) ag))) [⇑bi,⇑li,o2,o3,o4,o5,o6,o7] ph=.ok (.ref ↑ph) ph'/\Ex ph ph'/\ph'[↑ph]? =O (.lst ((bu B).map En.w)):=by
 have ht:=hB.top;obtain⟨rs,h⟩:=hA;obtain⟨ph',e,x⟩:=iW (rs.zip B) (λp=>W.tup [.ref p.1,p.2.en.w]) (im:=cV (aa 0)) (cap:=[Z,O 1]) (g:=gN 0) (c:=cF) (e:=bh m9 (ae (ab af (aa 0) {1}) (ae (aa 1) ag))) (σ:=[⇑bi,⇑li,o2,o3,o4,o5,o6,o7]) (ph0:=ph) (ph:=ph) (chk:=λp=>decide (p[bi]? =O (.lst (bw rs B))))
  (by rw[<- Ij];exact fB rfl h.at_) (λp x=>a6 (x.get h.at_)) (by rw[agX];exact abw (agz _ _) (abw ht (by decide)))
  (λp=>O (p.2.en.mp (cH B ↑B)).w) (λσ=>∃o,σ=[o,⇑li]) ⟨Z,rfl⟩
  (λp hp σ K zz hx=>by
   obtain⟨o,rfl⟩:=zz;obtain⟨k,hk⟩:=abb.mp (aee hp).2;refine⟨_,rfl,⟨_,rfl⟩,true,K,rfl,Ex.refl _,.inr ⟨rfl,_,K,az (ax rfl (ax rfl rfl)) (Ii p.2.en (cH B ↑B) λt ht=>td (hx.get hl) ?_),Ex.refl _,rfl⟩⟩;rw[aaK,afB (hB.lt k _ hk t ht)];rfl)
 rw[nE,S1 h.len (λb=>(b.en.mp (cH B ↑B)).w)] at x;refine⟨ph',e,(Ex.one _ _).trans x,?_⟩;rw[x.get (bD ph _)];unfold bu;rw[abU];rfl
theorem Gi:∀(ps d:aZ),(∀p∈d++ps,∃k:Int,p.1=.int k)->((d++ps).map (·.1)).Nodup->(d++ps).length<=1000->nT d ps=O (d++ps)
 | [],d,_,_,_=>by rw[aci];rfl
 | p::ps,d,h1,h2,h3=>by
  have hk:eP d p.1=true:=by
   obtain⟨k,hk⟩:=h1 p (by simp);unfold eP;rw[hk,adp]
   left
   rw[aaZ,abR];refine⟨rfl,λq hq=>?_⟩;obtain⟨j,hj⟩:=h1 q (abQ _ hq);rw[hj];rfl
  have hp:c6 d p.1 p.2=d++[p]:=by
   unfold c6;have:(d.any λq=>decide (q.1=p.1))=false:=by
    rw[List.any_eq_false];intro q hq;rw[decide_eq_true_eq];intro z;rw[abZ,adm] at h2;exact h2.2.2 q.1 (acb hq) p.1 (by simp) z
   rw[this];rfl
  unfold nT;rw[if_pos ⟨hk,aaS (show ↑d<1001 by simp at h3;omega) (by decide)⟩,hp];have e:d++p::ps=d++[p]++ps:=by simp
  rw[e] at h1 h2 h3 ⊢;exact Gi ps (d++[p]) h1 h2 h3
theorem S4{ps:aZ}(hn:(ps.map (·.1)).Nodup){k v:W}(h:(k,v)∈ps):c5 ps k=O v:=by
 unfold c5
 induction ps with
 | nil=>cases h
 | cons p ps ih=>
  rw[abt,abY] at hn;rw[acW]
  rcases abk.mp h with rfl | h
  ·simp
  ·have:¬p.1=k:=λz=>hn.1 (z▸acb (f:=(·.1)) h)
   simp only[this,decide_false];exact ih hn.2 h
noncomputable def iQ(l:aG):aZ:=(abp ↑l).map λi=>((iw l).getD i .aH,W.int i)
theorem Bu(h:l[i]? =O k):(iQ l)[i]? =O (W.int k,W.int i):=by
 have hi:=(aaG.mp h).1;unfold iQ;rw[aaK,afB hi];simp only[abH];rw[acK];unfold iw;rw[aaK,h];rfl
theorem G2{p:W×W}(h:p∈iQ l):∃i k:Nat,l[i]? =O k/\p=(W.int k,W.int i):=by
 obtain⟨i,hi⟩:=abb.mp h;have hl:i<↑l:=by have:=(aaG.mp hi).1;unfold iQ at this;rw[aaI,abz] at this;exact this
 obtain⟨k,hk⟩:∃k,l[i]? =O k:=bo hl;rw[Bu hk] at hi;exact⟨i,k,hk,(abE hi).symm⟩
theorem G3(l:aG):(iQ l).length=↑l:=by unfold iQ;rw[aaI,abz]
theorem Gj(l:aG):(iQ l).map (·.1)=iw l:=by
 apply adO
 intro i;by_cases hi:i<↑l
 ·obtain⟨k,hk⟩:∃k,l[i]? =O k:=bo hi;rw[aaK,Bu hk];unfold iw;rw[aaK,hk];rfl
 ·rw[acl (by rw[aaI,G3];omega),acl (by rw[jA];omega)]
theorem Jp(h:l.Nodup):(iw l).Nodup:=by
 unfold iw;exact agn _ (λa b lS z=>lS (by have:=W.int.inj z;omega)) h
theorem We(l:aG)(k:Int):eP (iQ l) (.int k)=true:=by
 unfold eP;rw[adp]
 left
 rw[aaZ,abR];refine⟨rfl,λq hq=>?_⟩;obtain⟨i,j,_,rfl⟩:=G2 hq;rfl
variable{fi:Nat}{s2 s3:dP}
theorem Wf(hl:ph[fi]? =O (.lst (iw l)))(hn:l.Nodup)(hz:↑l<=100):∃di ph',aV pO (ae (cU (mq (ae (aa 5) ag)) [Z,Z] (eA 2 [(gN 0),(gN 1)]) cF (bp (ae (aa 1) (ae (aa 0) ag)))) ag) [s0,s1,s2,s3,s4,⇑fi,s6,s7] ph=.ok (.ref di) ph'/\Ex ph ph'/\ph'[di]? =O (.aX (iQ l)):=by
 obtain⟨ph1,e,x⟩:=iW (abp ↑l) (λi:Nat=>W.tup [.int i,(iw l).getD i .aH]) (im:=mq (ae (aa 5) ag)) (cap:=[Z,Z]) (g:=eA 2 [(gN 0),(gN 1)]) (c:=cF) (e:=bp (ae (aa 1) (ae (aa 0) ag))) (σ:=[s0,s1,s2,s3,s4,⇑fi,s6,s7]) (ph0:=ph) (ph:=ph) (chk:=λp=>decide (p[fi]? =O (.lst (iw l))))
  (by
   rw[Fj (i:=fi) (ws:=iw l) (ph':=ph) rfl hl];unfold i7;rw[jA]) (λp x=>a6 (x.get hl)) (by rw[abz];exact abw hz (by decide))
  (λi=>O (.tup [(iw l).getD i .aH,.int i])) (λσ=>∃a b,σ=[a,b]) ⟨Z,Z,rfl⟩
  (λi hi σ K zz hx=>by
   obtain⟨a,b,rfl⟩:=zz;exact⟨_,rfl,⟨_,_,rfl⟩,true,K,rfl,Ex.refl _,.inr ⟨rfl,_,K,rfl,Ex.refl _,rfl⟩⟩)
 rw[nE] at x;have h1:=x.get (bD ph _);refine⟨↑ph1,ph1++[.aX (iQ l)],az (ax e rfl) (Qu (ps:=iQ l) h1 ?_ ?_),((Ex.one _ _).trans x).trans (Ex.one _ _),bD _ _⟩
 ·exact k7 sS (λi:Nat=>W.tup [(iw l).getD i .aH,.int i]) (λi:Nat=>((iw l).getD i .aH,W.int i)) (λ_=>rfl) (abp ↑l)
 ·refine Gi (iQ l) [] (λp hp=>?_) (by rw[aeK,Gj];exact Jp hn) (by rw[aeK,G3];omega);obtain⟨i,k,_,rfl⟩:=G2 hp;exact⟨_,rfl⟩
theorem S5(h:H[di]? =O (.aX (iQ l)))(hn:l.Nodup)(hk:l[i]? =O k):lift (af (.ref di) (.int k)) H=.ok (.int i) H:=
 Sy h (We l _) (S4 (by rw[Gj];exact Jp hn) (aaL (Bu hk)))
theorem Gk{ws:List β}{f:α->β}{Q:Nat->α->Prop}(h:∀(j:Nat) w,ws[j]? =O w->∃d,w=f d/\Q j d):∃D:List α,ws=D.map f/\∀(j:Nat) d,D[j]? =O d->Q j d:=by
 induction ws generalizing Q with
 | nil=>exact⟨[],rfl,λj d z=>by simp at z⟩
 | cons w ws ih=>
  obtain⟨d,e,q⟩:=h 0 w rfl;obtain⟨D,e2,q2⟩:=ih (Q:=λj=>Q (j+1)) λj w hw=>h (j+1) w (by simpa using hw)
  refine⟨d::D,by rw[e,e2];rfl,λj d' hd=>?_⟩;cases j with
  | zero=>cases hd;exact q
  | succ j=>exact q2 j d' (by simpa using hd)
structure JD where
 r:Nat
 l:aG
 e:En
noncomputable def JD.w(d:JD):W:=.tup [.ref d.r,d.e.w]
variable{W0:aG}{a b:EM}
theorem Z6(h:H[i]? =O (.aX (mk W0)))(ha:a σ=ay (.int j))(hb:b σ=ay (.ref i)):eT (ab fj a b) σ H=.ok (!decide (j∈W0)) H:=by
 rw[i8,hO,ha,hb];refine az (az rfl (az rfl (F0 h (BX W0 _)))) ?_;rw[Jo];rfl
noncomputable def kT(F W0:aG):aG:=F.filter λk=> !decide (k∈W0)
theorem nF:k∈kT F W0↔k∈F/\k∉W0:=by
 unfold kT;rw[abW];simp
theorem Wg(hf:ph[fi]? =O (.lst (iw F)))(hw:ph[wi]? =O (.aX (mk W0)))(hz:↑F<=100):∃ph',cU (cV (aa 4)) [Z,O 3] (gN 0) (eT (ab fj (aa 0) (aa 1))) (aa 0) [s0,s1,s2,⇑wi,⇑fi,s5,s6,s7] ph=.ok (.ref ↑ph) ph'/\Ex ph ph'/\ph'[↑ph]? =O (.lst (iw (kT F W0))):=by
 obtain⟨ph',e,x⟩:=iW F (λi:Nat=>W.int i) (im:=cV (aa 4)) (cap:=[Z,O 3]) (g:=gN 0) (c:=eT (ab fj (aa 0) (aa 1))) (e:=aa 0) (σ:=[s0,s1,s2,⇑wi,⇑fi,s5,s6,s7]) (ph0:=ph) (ph:=ph) (chk:=λp=>decide (p[fi]? =O (.lst (iw F))))
  (fB rfl hf) (λp x=>a6 (x.get hf)) (abw hz (by decide))
  (λk=>if k∈W0 then Z else ↥k) (λσ=>∃o,σ=[o,⇑wi]) ⟨Z,rfl⟩
  (λk hk σ K zz hx=>by
   obtain⟨o,rfl⟩:=zz;have t:=Z6 (a:=aa 0) (b:=aa 1) (j:=k) (σ:=[↥k,⇑wi]) (hx.get hw) rfl rfl;refine⟨_,rfl,⟨_,rfl⟩,_,K,t,Ex.refl _,?_⟩;by_cases hk:k∈W0
   ·exact .inl ⟨by rw[a6 hk];rfl,if_pos hk⟩
   ·exact .inr ⟨by rw[bU hk];rfl,_,K,rfl,Ex.refl _,if_neg hk⟩)
 refine⟨ph',e,(Ex.one _ _).trans x,?_⟩;rw[x.get (bD ph _)]
 congr 2
 unfold iw kT
 clear x e hf hw hz
 induction F with
 | nil=>rfl
 | cons k F ih=>
  by_cases hk:k∈W0
  ·simp[hk,ih]
  ·simp[hk,ih]
variable{t:Nat}
theorem S6(w:Wi E F W0){e:En}(hz:z∈F)(he:E[z]? =O e)(hg:∀j,e=.go j->j∉W0)(ht:t∈e.to):t∈kT F W0:=by
 refine nF.mpr ⟨w.cl z hz e he t ht,λhW=>?_⟩;obtain⟨b,hb,mQ,oj⟩:=w.one t hW;have:=oj z hz e he ht;subst this;rw[he] at mQ;cases mQ;exact hg t rfl hW
theorem QP{m:SM}{w:W}(h:m σ ph=.ok (.rt w) ph1):BR m σ ph=.ok (.rt w) ph1:=GY h
theorem QQ{L:aG}{n:Nat}(hn:0<n)(h0:0∈L)(hw:0∉W0):(kT (up L n) W0)[0]? =O 0:=by
 obtain⟨m,rfl⟩:∃m,n=m+1:=⟨n-1,∅⟩
 unfold kT up;rw[agG,ada,if_pos (a6 h0),ada,if_pos (by rw[bU hw];rfl)];rfl
abbrev FB(B:bM)(L:List Nd):aG:=up (ks L) ↑B
abbrev WB(B:bM)(L:List Nd):aG:=wl (cW (bK (bu B)) L) (bu B) ↑B
abbrev LB(B:bM)(L:List Nd):aG:=kT (FB B L) (WB B L)
noncomputable def aW(B:bM)(L:List Nd)(D:List JD):bM:=D.map λd=>⟨rowsOf B d.l,d.e.mp ((LB B L).idxOf ·)⟩
structure TD(B:bM)(L:List Nd)(D:List JD):Prop where
 bf:Bf (bK (bu B)) L ↑L
 wi:Wi (bu B) (FB B L) (WB B L)
 len:↑D=(LB B L).length
 at_:∀(j:Nat) d,D[j]? =O d->∃k z,(LB B L)[j]? =O k/\Jn (bu B) (FB B L) (WB B L) k d.l/\d.l.getLast? =O z/\(bu B)[z]? =O d.e/\∀i,d.e=.go i->i∉WB B L
 uQ:∀(j:Nat) d,D[j]? =O d->∀t∈d.e.to,t∈LB B L
theorem EL (hB : bZ M B) (hM : M <= 100) (hA : cx ph bi B) : ∃ nb ph' L D rs, wu [.ref bi] ph = .ok (.ref nb) ph' /\ Ex ph ph' /\ lE ph' nb rs (aW B L D) /\ TD B L D /\ bZ (M * B.length) (aW B L D) /\ ph.length <= nb /\ ∀ r ∈ rs, ph.length <= r := by
  have ht := hB.top;have hp := hB.pos;have hG := S2 hB;have jq : (bu B).length = B.length := by unfold bu; rw [aaI]
  have mX : (bK (bu B)).length = B.length := by unfold bK; rw [aaI, jq]
  obtain ⟨E, hE⟩ : ∃ E, E = bu B := ⟨_, rfl⟩
  obtain ⟨H1, e1, x1, g1⟩ := S3 (o1 := none) (o2 := none) (o3 := none) (o4 := none) (o5 := none) (o6 := none) (o7 := none) hB hA;obtain ⟨H2, e2, x2, g2⟩ := Wc (o2 := none) (o3 := none) (o4 := none) (o5 := none) (o6 := none) (o7 := none) hB (hA.mono x1) g1;rw [<- hE] at g2 hG jq mX;obtain ⟨H3, L, e3, x3, bL, g3⟩ := QN g2 hG;obtain ⟨W0, hW⟩ : ∃ W0, W0 = wl (cW (bK E) L) E E.length := ⟨_, rfl⟩
  obtain ⟨F, hF⟩ : ∃ F, F = up (ks L) E.length := ⟨_, rfl⟩
  have w := Yn hG bL;rw [<- hW, <- hF] at w;rw [<- hW] at g3;have uR := x3.get g2
  -- found
  obtain ⟨di, H4, L', e4, x4, d4, Lq⟩ := GW (SW (ph := H3 ++ [.lst [.int 0]]) ((Ex.one _ _).get uR)) hG (bD H3 (.lst [.int 0]));have e5 := Ig Lq.toBa hG d4;rw [up_eq Lq bL, mX, <- jq, <- hF] at e5;obtain ⟨H5, DK⟩ : ∃ H5, H5 = H4 ++ [PO.lst (iw F)] := ⟨_, rfl⟩
  have x5 : Ex H3 H5 := DK ▸ ((Ex.one _ _).trans x4).trans (Ex.one _ _);have g5 : H5[H4.length]? = some (.lst (iw F)) := by rw [DK]; exact bD _ _
  rw [<- DK] at e5;have hFl : F.length <= 100 := by have := iV w.nd w.lt; omega
  -- left
  obtain ⟨H6, e6, x6, g6⟩ := Wg (s0 := ⇑bi) (s1 := ⇑ph.length) (s2 := ⇑H1.length) (s5 := none) (s6 := none) (s7 := none) g5 (x5.get g3) hFl;obtain ⟨lf, oX⟩ : ∃ lf, lf = kT F W0 := ⟨_, rfl⟩
  rw [<- oX] at g6;have DL : lf.Nodup := by rw [oX]; exact adF _ w.nd
  have fJ : lf.length <= E.length := by
    have := iV DL (n := E.length) fun x hx => by rw [oX] at hx; exact w.lt x (nF.mp hx).1
    exact this
  -- anew
  obtain ⟨ai, H7, e7, x7, g7⟩ := Wf (s0 := ⇑bi) (s1 := ⇑ph.length) (s2 := ⇑H1.length) (s3 := ⇑H2.length) (s4 := ⇑H4.length) (s6 := none) (s7 := none) g6 DL (by omega);have lV : Ex H3 H7 := (x5.trans x6).trans x7;have jc : JC H7 bi H1.length H2.length M B E W0 := ⟨hB, hM, hA.mono (((x1.trans x2).trans x3).trans lV), lV.get uR, jq, lV.get g3⟩
  -- joined
  obtain ⟨H8, ws, e8, x8, g8, jT, hP⟩ := GZ lf (fun i : Nat => W.int (i : Int)) (ph := H7) (ph0 := H7) (im := cV (aa 5)) (cap := [none, some 0, some 2, some 3]) (g := gN 0) (e := bh vC (ae (aa 1) (ae (aa 2) (ae (aa 3) (ae (aa 0) ag))))) (σ := [⇑bi, ⇑ph.length, ⇑H1.length, ⇑H2.length, ⇑H4.length, ⇑H5.length, ⇑ai, none]) (chk := fun p => decide (p[H5.length]? = some (.lst (iw lf))))
    (fB rfl (x7.get g6)) (fun p x => a6 (x.get (x7.get g6))) (by omega)
    (fun j w0 H => ∃ d : JD, w0 = d.w /\ (d.r ≠ H7.length /\ ph.length <= d.r) /\ H[d.r]? = some (.lst ((rowsOf B d.l).map Row.w)) /\ ∃ k z, lf[j]? = some k /\ Jn E F W0 k d.l /\ d.l.getLast? = some z /\ E[z]? = some d.e /\ ∀ j, d.e = .go j -> j ∉ W0)
    (fun j w0 H H' q keep => by
      obtain ⟨d, q1, q2, q3, q4⟩ := q;exact ⟨d, q1, q2, keep d.r _ q2.1 q3, q4⟩)
    (fun σ => ∃ o, σ = [o, ⇑bi, ⇑H1.length, ⇑H2.length]) ⟨none, rfl⟩
    (fun j k hj σ H hS y cJ => by
      obtain ⟨o, rfl⟩ := hS;have hk := aaL hj;rw [oX] at hk;obtain ⟨qD, C5⟩ := nF.mp hk;obtain ⟨H', l, z, e, q1, q2, q3, q4, q5, q6, q7⟩ := QO jc w y qD C5;exact ⟨_, rfl, ⟨_, rfl⟩, _, H', az (ax rfl (ax rfl (ax rfl (ax rfl rfl)))) q1, q2, ⟨H.length, l, e⟩, rfl, ⟨by show H.length ≠ H7.length; omega, by show ph.length <= H.length; have := (((x1.trans x2).trans x3).trans lV).len; have := y.len; omega⟩, q3, k, z, hj, q4, q5, q6, q7⟩)
  obtain ⟨D, hD, uS⟩ := Gk (f := JD.w) (Q := fun j (d : JD) => ph.length <= d.r /\ H8[d.r]? = some (.lst ((rowsOf B d.l).map Row.w)) /\ ∃ k z, lf[j]? = some k /\ Jn E F W0 k d.l /\ d.l.getLast? = some z /\ E[z]? = some d.e /\ ∀ j, d.e = .go j -> j ∉ W0) fun j w0 hw0 => by
    obtain ⟨d, q1, q2, q3, q4⟩ := hP j w0 hw0;exact ⟨d, q1, q2.2, q3, q4⟩
  have zh : D.length = lf.length := by rw [<- jT, hD, aaI]
  subst hD;have uP : ∀ {j : Nat} {d : JD}, D[j]? = some d -> ∀ t ∈ d.e.to, t ∈ lf := fun {j d} hd t ht => by
    obtain ⟨_, _, k, z, q1, q2, q3, q4, q5⟩ := uS j d hd;rw [oX];exact S6 w (q2.mZ z (ahh q3)) q4 q5 ht
  have idx : ∀ {t : Nat}, t ∈ lf -> lf[lf.idxOf t]? = some t := fun {t} h => by
    rw [abP (adt h), List.getElem_idxOf]
  -- the blocks anew
  obtain ⟨H9, e9, x9⟩ := iW D JD.w (im := cV (aa 7)) (cap := [none, some 6]) (g := gN 0) (c := cF) (e := bp (ae (ab af (aa 0) {0}) (ae (bh m9 (ae (ab af (aa 0) {1}) (ae (aa 1) ag))) ag))) (σ := [⇑bi, ⇑ph.length, ⇑H1.length, ⇑H2.length, ⇑H4.length, ⇑H5.length, ⇑ai, ⇑H7.length]) (ph0 := H8) (ph := H8) (chk := fun p => decide (p[H7.length]? = some (.lst (D.map JD.w))))
    (fB rfl g8) (fun p x => a6 (x.get g8)) (by exact abw (show D.length <= 1000 by omega) (by decide))
    (fun d => some (.tup [.ref d.r, (d.e.mp (lf.idxOf ·)).w])) (fun σ => ∃ o, σ = [o, ⇑ai]) ⟨none, rfl⟩
    (fun d hd σ K zz hx => by
      obtain ⟨o, rfl⟩ := zz;obtain ⟨j, hj⟩ := abb.mp hd;exact ⟨_, rfl, ⟨_, rfl⟩, true, K, rfl, Ex.refl _, .inr ⟨rfl, _, K, az (ax rfl (ax (az (ax rfl (ax rfl rfl)) (Ii d.e (lf.idxOf ·) fun t ht => S5 ((x8.trans hx).get g7) DL (idx (uP hj t ht)))) rfl)) rfl, Ex.refl _, rfl⟩⟩)
  rw [nE] at x9;have g9 := x9.get (bD H8 _);have Lr : Ex H8 H9 := (Ex.one _ _).trans x9;have eF : F = FB B L := by rw [hF, jq]
  have eW : W0 = WB B L := by rw [hW, jq, hE]
  have eL : lf = LB B L := by rw [oX, eF, eW]
  have Ls : aW B L D = D.map fun d => (⟨rowsOf B d.l, d.e.mp (lf.idxOf ·)⟩ : dj) := by unfold aW; rw [eL]
  have Lu : Ex ph H8 := (((x1.trans x2).trans x3).trans lV).trans x8;refine ⟨H8.length, H9, L, D, D.map JD.r, ?_, Lu.trans Lr, ?_, ?_, ?_, Lu.len, fun r hr => ?_⟩
  · unfold wu l4
    rw [jN];refine bq (asg e1) (bq (asg e2) (az (QP ?_) rfl));unfold zN;refine sq (asg (az (ax rfl rfl) e3)) (sq (asg (ph1 := H5) (az (ax (az (ax (ph1 := H3 ++ [.lst [.int 0]]) rfl (ax rfl rfl)) e4) rfl) e5)) (sq (asg e6) (sq (asg e7) (sq (asg e8) (retS e9)))))
  · rw [Ls]
    refine ⟨?_, by rw [aaI, aaI], fun k r b hr hb => ?_⟩
    · rw [g9]
      congr 2
      unfold bw;rw [agY, agH, List.zipWith_self]
    · rw [aaK] at hr hb
      obtain ⟨d, hd, rfl⟩ := aaP.mp hr;rw [hd] at hb;cases hb;exact Lr.get (uS k d hd).2.1
  · refine ⟨by rw [<- hE]; exact bL, by rw [<- hE, <- eF, <- eW]; exact w, by rw [<- eL]; exact zh, fun j d hd => ?_, fun j d hd t ht => by rw [<- eL]; exact uP hd t ht⟩
    rw [<- eL, <- hE, <- eF, <- eW];exact (uS j d hd).2.2
  · rw [Ls]
    have yp : 0 ∈ lf := by rw [oX]; exact nF.mpr w.zero
    have Z7 : 0 < lf.length := aeR yp;refine ⟨by rw [aaI]; omega, by rw [aaI]; omega, fun k b hb j hj => ?_, fun b hb => ?_⟩
    · rw [aaK] at hb
      obtain ⟨d, hd, rfl⟩ := aaP.mp hb;rw [aaI, zh];have hj : j ∈ (d.e.mp (lf.idxOf ·)).to := hj;have key : ∀ t ∈ d.e.to, lf.idxOf t < lf.length := fun t ht => adt (uP hd t ht)
      cases he : d.e with
      | go t => rw [he] at hj key; have : j = lf.idxOf t := by simpa [En.mp, En.to] using hj
                rw [this]; exact key t (by simp [En.to])
      | iff v a c =>
        rw [he] at hj key;have : j = lf.idxOf a \/ j = lf.idxOf c := by simpa [En.mp, En.to] using hj
        rcases this with z | z
        · rw [z]; exact key a (by simp [En.to])
        · rw [z]; exact key c (by simp [En.to])
      | fin => rw [he] at hj; simp [En.mp, En.to] at hj
    · obtain ⟨d, hd, rfl⟩ := aaX.mp hb
      obtain ⟨j, hj⟩ := abb.mp hd;obtain ⟨_, _, k, z, q1, q2, _⟩ := uS j d hj;have h1 := Ax hB d.l;have h2 : d.l.length <= B.length := by
        have := iV q2.nd (n := E.length) fun x hx => w.lt x (q2.mZ x hx)
        omega
      exact ⟨abw h1 (Nat.mul_le_mul_left _ h2), SY hB⟩
  · obtain ⟨d, hd, rfl⟩ := aaX.mp hr
    obtain ⟨j, hj⟩ := abb.mp hd;exact (uS j d hj).1
theorem op{f:W->W->Po W}{x y:W}{r:Out W}(ha:a σ ph=.ok x ph1)(hb:b σ ph1=.ok y ph2)(hf:lift (f x y) ph2=r):ab f a b σ ph=r:=az ha (az hb hf)
theorem md{i j:Int}(ha:a σ ph=.ok (.int i) ph1)(hb:b σ ph1=.ok (.int j) ph2)(h:j≠0):ab bJ a b σ ph=.ok (.int (i.fmod j)) ph2:=op ha hb (congrFun (XI h) ph2)
theorem dv{i j:Int}(ha:a σ ph=.ok (.int i) ph1)(hb:b σ ph1=.ok (.int j) ph2)(h:j≠0)(h':j.natAbs<2 ^ 64):ab cN a b σ ph=.ok (.int (i.fdiv j)) ph2:=op ha hb (congrFun (XJ h h') ph2)
theorem ad{i j:Int}(ha:a σ ph=.ok (.int i) ph1)(hb:b σ ph1=.ok (.int j) ph2):ab addW a b σ ph=.ok (.int (i+j)) ph2:=op ha hb rfl
theorem sb{i j:Int}(ha:a σ ph=.ok (.int i) ph1)(hb:b σ ph1=.ok (.int j) ph2):ab lC a b σ ph=.ok (.int (i-j)) ph2:=op ha hb rfl
theorem ml{i j:Int}(ha:a σ ph=.ok (.int i) ph1)(hb:b σ ph1=.ok (.int j) ph2)(h:mulC i j=true):ab c7 a b σ ph=.ok (.int (i*j)) ph2:=op ha hb (by rw[HH];exact congrFun (XH h) ph2)
theorem ltI{i z:Int}{e:EM}(h:e σ ph=.ok (.int i) ph1)(hc:decide (i<z)=c):eT (ab dG e (eC (.int z))) σ ph=.ok c ph1:=by
 rw[i8,hO,fA,bg h,<- hc];rfl
theorem Bv{w:W}{m:AM}{e:EM}{i:Int}(hm:m σ ph=.ok ws ph1)(hz:↑ws<=1000000)(he:e σ (ph1++[.lst ws])=.ok (.int i) (ph1++[.lst ws]))(hi:da ws i=O w):ab af (b9 m) e σ ph=.ok w (ph1++[.lst ws]):=by
 refine op (x:=.ref ↑ph1) (ph1:=ph1++[.lst ws]) ?_ he (gZ (bD _ _) hi);rw[AV];exact az hm (HE ws ph1 (small hz))
theorem mn{a n:Int}(hn:0<n):∃m:Nat,(m:Int)<n/\a.fmod n=(m:Int):=by
 have q:=pg a n hn;exact⟨(a.fmod n).toNat,∅,∅⟩
theorem xw{v:Int}(h1: -4294967296<=v)(h2:v<=4294967296):ze v:=⟨∅,∅⟩
theorem Yo(c:Int)(ph:PH):∃v ph',zA [.int c] ph=.ok (.int v) ph'/\Ex ph ph'/\ze v:=by
 unfold zA vk;rw[jN];have m4:∀{σ:aO} {H:PH},aa 0 σ=ay (.int c)->ab bJ (aa 0) {4} σ H=.ok (.int (c.fmod 4)) H:=λ{σ H} h=>md (by rw[h];rfl) rfl (by decide)
 have d4:∀{σ:aO} {H:PH},aa 0 σ=ay (.int c)->ab cN (aa 0) {4} σ H=.ok (.int (c.fdiv 4)) H:=λ{σ H} h=>dv (by rw[h];rfl) rfl (by decide) (by decide)
 by_cases h3:c.fmod 4=3
 ·obtain⟨m,hm,em⟩:=mn (a:=c.fdiv 4) (n:=8) (by decide);obtain⟨v,hv,sv⟩:∃v,[(2147483647:Int),-2147483648,65536,-1,46341,-65537,1,0][m]? =O v/\ze v:=by
   have:m=0\/m=1\/m=2\/m=3\/m=4\/m=5\/m=6\/m=7:=by omega
   rcases this with rfl | rfl | rfl | rfl | rfl | rfl | rfl | rfl <;> exact⟨_,rfl,xw (by decide) (by decide)⟩
  refine⟨v,_,il (eV (eI (m4 rfl) (a6 h3)) (retS (Bv (ws:=[(2147483647:Int),-2147483648,65536,-1,46341,-65537,1,0].map W.int) (i:=(m:Int)) (ph1:=ph) rfl (adA rfl) ?_ ?_))),Ex.one _ _,sv⟩
  ·rw[<- em];exact md (d4 rfl) rfl (by decide)
  ·rw[gG _ _ (by simp;omega),aaK,hv];rfl
 ·by_cases h2:c.fmod 4=2
  ·refine⟨_,ph,bq (b8 (eI (m4 rfl) (bU h3)) rfl) (il (eV (eI (m4 rfl) (a6 h2)) (retS (sb (md (ml (d4 rfl) rfl (xu (by decide) (by decide))) rfl (by decide)) rfl)))),Ex.refl _,?_⟩;have q:=pg (c.fdiv 4*48271) 4294967296 (by decide);exact xw ∅ ∅
  ·by_cases h1:c.fmod 4=1
   ·refine⟨_,ph,bq (b8 (eI (m4 rfl) (bU h3)) rfl) (bq (b8 (eI (m4 rfl) (bU h2)) rfl) (il (eV (eI (m4 rfl) (a6 h1)) (retS (sb (md (d4 rfl) rfl (by decide)) rfl))))),Ex.refl _,?_⟩;have q:=pg (c.fdiv 4) 100003 (by decide);exact xw ∅ ∅
   ·refine⟨_,ph,bq (b8 (eI (m4 rfl) (bU h3)) rfl) (bq (b8 (eI (m4 rfl) (bU h2)) rfl) (bq (b8 (eI (m4 rfl) (bU h1)) rfl) (br (sb (md (d4 rfl) rfl (by decide)) rfl)))),Ex.refl _,?_⟩;have q:=pg (c.fdiv 4) 19 (by decide);exact xw ∅ ∅
variable{bx sl:Int}
theorem Wh(c:Int)(hb:0<bx/\bx<100)(hs:0<sl/\sl<100)(ph:PH):∃r ph',zK [.int c,.int bx,.int sl] ph=.ok (Row.w r) ph'/\Ex ph ph'/\ls r:=by
 have mW:bx≠0:=by omega
 have qK:sl≠0:=by omega
 obtain⟨kd,zi⟩:∃kd,kd=c.fmod 12:=⟨_,rfl⟩
 obtain⟨mo,hmo⟩:∃mo,mo=(c.fdiv 12*48271).fmod 2147483647:=⟨_,rfl⟩
 obtain⟨on,hon⟩:∃on,on=mo.fmod bx:=⟨_,rfl⟩
 obtain⟨ot,qB⟩:∃ot,ot=(mo.fdiv 9).fmod bx:=⟨_,rfl⟩
 obtain⟨so,hso⟩:∃so,so=(mo.fdiv 81).fmod sl:=⟨_,rfl⟩
 obtain⟨fP,e5⟩:∃fP:aO,fP=[↥c,↥bx,↥sl,↥kd,↥mo,↥on,↥ot,↥so,Z,Z]:=⟨_,rfl⟩
 have pre:∀{b:SM} {r:Out W},au (b fP) fW ph=r->au (aA (aK (ab bJ (aa 0) {12}) (gN 3)) (aA (aK (ab bJ (ab c7 (ab cN (aa 0) {12}) {48271}) {2147483647}) (gN 4)) (aA (aK (ab bJ (aa 4) (aa 1)) (gN 5)) (aA (aK (ab bJ (ab cN (aa 4) {9}) (aa 1)) (gN 6)) (aA (aK (ab bJ (ab cN (aa 4) {81}) (aa 2)) (gN 7)) b)))) [↥c,↥bx,↥sl,Z,Z,Z,Z,Z,Z,Z]) fW ph=r:=λ{b r} h=>by
  refine bq (σ1:=[↥c,↥bx,↥sl,↥kd,Z,Z,Z,Z,Z,Z]) (by rw[zi];exact asg (md rfl rfl (by decide))) (bq (σ1:=[↥c,↥bx,↥sl,↥kd,↥mo,Z,Z,Z,Z,Z]) (by rw[hmo];exact asg (md (ml (dv rfl rfl (by decide) (by decide)) rfl (xu (by decide) (by decide))) rfl (by decide))) (bq (σ1:=[↥c,↥bx,↥sl,↥kd,↥mo,↥on,Z,Z,Z,Z]) (by rw[hon];exact asg (md rfl rfl mW)) (bq (σ1:=[↥c,↥bx,↥sl,↥kd,↥mo,↥on,↥ot,Z,Z,Z]) (by rw[qB];exact asg (md (dv rfl rfl (by decide) (by decide)) rfl mW)) (bq (σ1:=fP) (by rw[e5,hso];exact asg (md (dv rfl rfl (by decide) (by decide)) rfl qK)) h))))
 have qk:=pg c 12 (by decide);rw[<- zi] at qk;unfold zK vQ;rw[yl];by_cases h5:kd<5
 ·obtain⟨m,hm,em⟩:=mn (a:=mo.fdiv 486) (n:=6) (by decide);obtain⟨wd,hw⟩:∃wd:Wd,[(.str "sum":W),.str "less",.str "times",.str "part",.str "below",.str "alike"][m]? =O (.str wd.s):=by
   have:m=0\/m=1\/m=2\/m=3\/m=4\/m=5:=by omega
   rcases this with rfl | rfl | rfl | rfl | rfl | rfl
   ·exact⟨.sum,rfl⟩
   ·exact⟨.less,rfl⟩
   ·exact⟨.times,rfl⟩
   ·exact⟨.part,rfl⟩
   ·exact⟨.below,rfl⟩
   ·exact⟨.alike,rfl⟩
  refine⟨.ua on wd ot ((mo.fdiv 2916).fmod bx),ph++[PO.lst [.str "sum",.str "less",.str "times",.str "part",.str "below",.str "alike"]],pre ?_,Ex.one _ _,trivial⟩;subst e5;refine il (eV (ltI rfl (a6 h5)) (sq (asg (Bv (ws:=[.str "sum",.str "less",.str "times",.str "part",.str "below",.str "alike"]) (w:=.str wd.s) (i:=(m:Int)) (ph1:=ph) rfl (adA rfl) ?_ ?_)) (retS (az (ax rfl (ax rfl (ax rfl (ax rfl (ax (md (dv rfl rfl (by decide) (by decide)) rfl mW) rfl))))) rfl))))
  ·rw[<- em];exact md (dv rfl rfl (by decide) (by decide)) rfl (by decide)
  ·rw[gG _ _ (by simp;omega)];exact hw
 ·obtain⟨v,H1,e1,x1,sv⟩:=Yo (mo.fdiv 9) ph;obtain⟨m,em⟩:∃m:Nat,kd-5=(m:Int):=⟨(kd-5).toNat,∅⟩
  obtain⟨r,hr,ok⟩:∃r:Row,[(Row.put on v).w,(Row.move on ot).w,(Row.pull on so).w,(Row.push so on).w,(Row.take on).w,(Row.tell on).w,Row.turn.w][m]? =O r.w/\ls r:=by
   have:m=0\/m=1\/m=2\/m=3\/m=4\/m=5\/m=6:=by omega
   rcases this with rfl | rfl | rfl | rfl | rfl | rfl | rfl
   ·exact⟨_,rfl,sv⟩
   all_goals exact⟨_,rfl,trivial⟩
  obtain⟨H2,e2⟩:∃H2,H2=H1++[PO.lst [(Row.put on v).w,(Row.move on ot).w,(Row.pull on so).w,(Row.push so on).w]]:=⟨_,rfl⟩
  obtain⟨H3,e3⟩:∃H3,H3=H2++[PO.lst [(Row.take on).w,(Row.tell on).w,Row.turn.w]]:=⟨_,rfl⟩
  obtain⟨H4,e4⟩:∃H4,H4=H3++[PO.lst [(Row.put on v).w,(Row.move on ot).w,(Row.pull on so).w,(Row.push so on).w,(Row.take on).w,(Row.tell on).w,Row.turn.w]]:=⟨_,rfl⟩
  have x2:Ex H1 H2:=e2▸Ex.one _ _;have x3:Ex H2 H3:=e3▸Ex.one _ _;have x4:Ex H3 H4:=e4▸Ex.one _ _;have g2:H2[↑H1]? =O (PO.lst [(Row.put on v).w,(Row.move on ot).w,(Row.pull on so).w,(Row.push so on).w]):=by rw[e2];exact bD _ _
  have g3:H3[↑H2]? =O (PO.lst [(Row.take on).w,(Row.tell on).w,Row.turn.w]):=by rw[e3];exact bD _ _
  have g4:H4[↑H3]? =O (PO.lst [(Row.put on v).w,(Row.move on ot).w,(Row.pull on so).w,(Row.push so on).w,(Row.take on).w,(Row.tell on).w,Row.turn.w]):=by rw[e4];exact bD _ _
  refine⟨r,H4,pre ?_,((x1.trans x2).trans x3).trans x4,ok⟩;subst e5;refine bq (b8 (ltI rfl (bU h5)) rfl) (bq (ph1:=H2) (σ1:=[↥c,↥bx,↥sl,↥kd,↥mo,↥on,↥ot,↥so,Z,⇑↑H1]) ?_ (bq (ph1:=H4) (σ1:=[↥c,↥bx,↥sl,↥kd,↥mo,↥on,↥ot,↥so,Z,⇑↑H3]) ?_ (br ?_)))
  ·refine(asg (w:=.ref ↑H1) (ph1:=H2) ?_).trans rfl;rw[AV];refine az (ax (w:=(Row.put on v).w) (ph1:=H1) (az (ax rfl (ax rfl (ax (az (ax (dv rfl rfl (by decide) (by decide)) rfl) e1) rfl))) rfl) (ax (w:=(Row.move on ot).w) (ph1:=H1) rfl (ax (w:=(Row.pull on so).w) (ph1:=H1) rfl (ax (w:=(Row.push so on).w) (ph1:=H1) rfl rfl)))) ?_;rw[e2];exact HE _ H1 (small (by simp))
  ·refine(asg (w:=.ref ↑H3) (ph1:=H4) (op (x:=.ref ↑H1) (ph1:=H2) (y:=.ref ↑H2) (ph2:=H3) rfl ?_ ?_)).trans rfl
   ·rw[e3];rfl
   ·rw[Ss (x3.get g2) g3 (small (by simp)),e4];rfl
  ·refine op (x:=.ref ↑H3) (ph1:=H4) (y:=.int m) (ph2:=H4) rfl (by rw[<- em];exact sb rfl rfl) (gZ g4 ?_);have:=(aaG.mp hr).1;rw[gG _ _ this];exact hr
theorem Wj(l:aG):iw l=(l.map λx:Nat=>(x:Int)).map W.int:=by unfold iw;rw[abU];rfl
theorem DM(h:H[i]? =O (.lst (iw l)))(ha:a σ H=.ok (.int k) H)(hb:b σ H=.ok (.ref i) H):ab dZ a b σ H=.ok (.bl (decide (k∈l))) H:=by
 refine op ha hb ?_;rw[SA h (k7 (dat H 40) (λx:Nat=>W.int x) (λx:Nat=>ahR (x:Int)) (λx=>sV H 40 x) l) (sV H 40 k),agU]
 congr 2
 rw[acH,acB,decide_eq_true_eq];constructor
 ·rintro⟨x,hx,e⟩;simp only[aeO,xM,decide_eq_true_eq] at e;have:x=k:=by omega
  exact this▸hx
 ·intro hk;exact⟨k,hk,by simp only[aeO,xM,decide_true]⟩
theorem tB{e:EM}(h:e σ ph=.ok (.bl c) ph1):eT e σ ph=.ok c ph1:=az h rfl
theorem kG{a b:TM}{x y:Bool}(ha:a σ ph=.ok x ph)(hb:b σ ph=.ok y ph):c9 a b σ ph=.ok (x||y) ph:=by
 rw[rY];refine az ha ?_;cases x
 ·exact hb
 ·rfl
theorem xW{a b:TM}{x y:Bool}(ha:a σ ph=.ok x ph)(hb:b σ ph=.ok y ph):fc a b σ ph=.ok (x&&y) ph:=by
 rw[FX];refine az ha ?_;cases x
 ·rfl
 ·exact hb
theorem ym(b:SM)(n:Nat)(x y z u v:W):fM b n 5 [x,y,z,u,v]=au (b (O x::O y::O z::O u::O v::aaY (n-5) Z)) fW:=(rfl)
noncomputable def Gl(n blk:Nat)(TL:aG)(g:Nat):Prop:=g<n/\(blk<g\/g∈TL\/blk∈TL)
variable{TL:aG}
theorem Ik{blk n:Nat}(mo:Int)(ht:ph[ti]? =O (.lst (iw TL)))(hn:n<=60):∃o ph',pe [.int mo,.int blk,.int n,.ref ti] ph=.ok (pw o) ph'/\Ex ph ph'/\(∀g,o=O g->Gl n blk TL g)/\(o=Z↔∀g,g<n->¬(blk<g\/g∈TL\/(g=0/\blk∈TL))):=by
 obtain⟨p,hp⟩:∃p:Nat->Bool,p=λg=>decide (blk<g)||(decide (g∈TL)||(decide (g=0)&&decide (blk∈TL))):=⟨_,rfl⟩
 have pt:∀g,p g=true↔(blk<g\/g∈TL\/(g=0/\blk∈TL)):=λg=>by rw[hp];simp
 obtain⟨H1,e1,x1⟩:=iW (abp n) (λi:Nat=>W.int i) (im:=eB (ae (aa 2) ag)) (cap:=[Z,O 1,O 3]) (g:=gN 0) (c:=c9 (eT (ab gr (aa 0) (aa 1))) (c9 (eT (ab dZ (aa 0) (aa 2))) (fc (eT (ab a9 (aa 0) {0})) (eT (ab dZ (aa 1) (aa 2)))))) (e:=aa 0) (σ:=[↥mo,↥blk,↥n,⇑ti,Z]) (ph0:=ph) (ph:=ph) (chk:=λ_=>true)
  (by rw[<- xm];exact mj (j:=n) rfl ∅ ∅) (λ_ _=>rfl) (by rw[abz];exact abw hn (by decide))
  (λg=>if p g=true then ↥g else Z) (λσ=>∃o,σ=[o,↥blk,⇑ti]) ⟨Z,rfl⟩
  (λg hg σ K zz hx=>by
   obtain⟨o,rfl⟩:=zz;have hT:=hx.get ht;have i1:eT (ab gr (aa 0) (aa 1)) [↥g,↥blk,⇑ti] K=.ok (decide (blk<g)) K:=by
    refine tB (op rfl rfl ?_);show Out.ok (W.bl (decide ((blk:Int)<(g:Int)))) K=_
    congr 2
    exact decide_eq_decide.mpr ∅
   have i2:eT (ab dZ (aa 0) (aa 2)) [↥g,↥blk,⇑ti] K=.ok (decide (g∈TL)) K:=tB (DM hT rfl rfl);have i3:eT (ab a9 (aa 0) {0}) [↥g,↥blk,⇑ti] K=.ok (decide (g=0)) K:=eI (z:=0) rfl (decide_eq_decide.mpr ∅);have i4:eT (ab dZ (aa 1) (aa 2)) [↥g,↥blk,⇑ti] K=.ok (decide (blk∈TL)) K:=tB (DM hT rfl rfl);have tt:(c9 (eT (ab gr (aa 0) (aa 1))) (c9 (eT (ab dZ (aa 0) (aa 2))) (fc (eT (ab a9 (aa 0) {0})) (eT (ab dZ (aa 1) (aa 2)))))) [↥g,↥blk,⇑ti] K=.ok (p g) K:=by
    have e:p g=(decide (blk<g)||(decide (g∈TL)||(decide (g=0)&&decide (blk∈TL)))):=by rw[hp]
    rw[e];exact kG i1 (kG i2 (xW i3 i4))
   refine⟨_,rfl,⟨_,rfl⟩,_,K,tt,Ex.refl _,?_⟩;cases hpg:p g
   ·exact .inl ⟨rfl,if_neg abg⟩
   ·exact .inr ⟨rfl,_,K,rfl,Ex.refl _,if_pos rfl⟩)
 obtain⟨l,hl⟩:∃l,l=(abp n).filter p:=⟨_,rfl⟩
 have DN:(abp n).filterMap (λg=>if p g=true then O (W.int g) else Z)=iw l:=by
  rw[hl];unfold iw;rw[<- agZ,aha];rfl
 rw[DN] at x1;have g1:H1[↑ph]? =O (.lst (iw l)):=x1.get (bD ph _);have Lv:Ex ph H1:=(Ex.one _ _).trans x1;have hln:↑l<=60:=by rw[hl];have:=acX p (abp n);rw[abz] at this;omega
 have g2:(H1++[PO.lst []])[↑ph]? =O (.lst (iw l)):=(Ex.one _ _).get g1;have et:eT (ab a9 (aa 4) (b9 ag)) [↥mo,↥blk,↥n,⇑ti,⇑↑ph] H1=.ok (iw l).isEmpty (H1++[.lst []]):=tB (op (x:=.ref ↑ph) (y:=.ref ↑H1) (ph2:=H1++[.lst []]) rfl rfl (Jg (eq_nil g2 (bD _ _) (k7 (dat _ 39) (λx:Nat=>W.int x) (λx:Nat=>ahR (x:Int)) (λx=>sV _ 39 x) l))));unfold pe vK;rw[tX];cases hc:l with
 | nil=>
  rw[hc] at et;refine⟨Z,H1++[.lst []],bq (asg e1) (il (eV et (retS rfl))),Lv.trans (Ex.one _ _),λg hg=>(nomatch hg),⟨λ_ g hg q=>?_,λ_=>rfl⟩⟩;have:g∈l:=by rw[hl];exact abW.mpr ⟨abv.mpr hg,(pt g).mpr q⟩
  rw[hc] at this;cases this
 | cons a l2=>
  have Z7:0<↑l:=by rw[hc];simp
  obtain⟨m,hm,em⟩:=mn (a:=mo) (n:=(↑l:Int)) ∅;obtain⟨g,hg⟩:∃g,l[m]? =O g:=bo ∅;have oW:=aaL hg;rw[hl] at oW;obtain⟨q1,q2⟩:=abW.mp oW;have q1:=abv.mp q1;have q2:=(pt g).mp q2;have et:eT (ab a9 (aa 4) (b9 ag)) [↥mo,↥blk,↥n,⇑ti,⇑↑ph] H1=.ok false (H1++[.lst []]):=by rw[et,hc];rfl
  refine⟨O g,H1++[.lst []],bq (asg e1) (bq (b8 et rfl) (br (op (x:=.ref ↑ph) (y:=.int m) (ph2:=H1++[.lst []]) rfl ?_ (td g2 hg)))),Lv.trans (Ex.one _ _),λg' qM=>?_,⟨λz=>(nomatch z),λz=>absurd q2 (z g q1)⟩⟩
  ·rw[<- em];refine md rfl (az (ax rfl rfl) ((gY g2).trans (by rw[jA]))) ∅
  ·cases qM;exact⟨q1,q2.imp id λz=>z.imp id λz=>z.2⟩
theorem mw{o:Option Nat}(h:aa i σ=ay (pw o)):eT (ab jK (aa i) (eC .aH)) σ ph=.ok o.isNone ph:=by
 rw[i8,hO,h];cases o <;> rfl
theorem Yp{blk n:Nat}(c:Int)(hb:0<bx/\bx<100)(ht:ph[ti]? =O (.lst (iw TL)))(hn:n<=60):∃e ph',zL [.int c,.int blk,.int n,.ref ti,.int bx] ph=.ok (En.w e) ph'/\Ex ph ph'/\∀g∈e.to,Gl n blk TL g:=by
 obtain⟨d,hd⟩:∃d,d=(c*48271).fmod 2147483647:=⟨_,rfl⟩
 obtain⟨o1,H1,e1,x1,q1,z1⟩:=Ik (blk:=blk) (n:=n) (d.fdiv 8) ht hn;obtain⟨o2,H2,e2,x2,q2,z2⟩:=Ik (blk:=blk) (n:=n) (d.fdiv 800) (x1.get ht) hn;have hz:o1=Z↔o2=none:=z1.trans z2.symm;have DO:=x1.trans x2;have t1:eT (ab a9 (ab bJ (aa 0) {8}) {0}) [↥d,↥blk,↥n,⇑ti,↥bx,O (pw o1),O (pw o2)] H2=.ok (decide (d.fmod 8=0)) H2:=eI (md rfl rfl (by decide)) rfl;have tt:c9 (eT (ab jK (aa 5) (eC .aH))) (eT (ab a9 (ab bJ (aa 0) {8}) {0})) [↥d,↥blk,↥n,⇑ti,↥bx,O (pw o1),O (pw o2)] H2=.ok (o1.isNone||decide (d.fmod 8=0)) H2:=by
  exact kG (mw rfl) t1
 have pre:∀{b:SM} {r:Out W},au (b [↥d,↥blk,↥n,⇑ti,↥bx,O (pw o1),O (pw o2)]) fW H2=r->au (aA (aK (ab bJ (ab c7 (aa 0) {48271}) {2147483647}) (gN 0)) (aA (aK (bh pe (ae (ab cN (aa 0) {8}) (ae (aa 1) (ae (aa 2) (ae (aa 3) ag))))) (gN 5)) (aA (aK (bh pe (ae (ab cN (aa 0) {800}) (ae (aa 1) (ae (aa 2) (ae (aa 3) ag))))) (gN 6)) b)) [↥c,↥blk,↥n,⇑ti,↥bx,Z,Z]) fW ph=r:=λ{b r} h=>
  bq (σ1:=[↥d,↥blk,↥n,⇑ti,↥bx,Z,Z]) (by rw[hd];exact asg (md (ml rfl rfl (xu (by decide) (by decide))) rfl (by decide))) (bq (asg (az (ax (dv rfl rfl (by decide) (by decide)) (ax rfl (ax rfl (ax rfl rfl)))) e1)) (bq (asg (az (ax (dv rfl rfl (by decide) (by decide)) (ax rfl (ax rfl (ax rfl rfl)))) e2)) h))
 unfold zL vR;rw[ym];by_cases h0:o1.isNone=true\/d.fmod 8=0
 ·refine⟨.fin,H2,pre (il (eV (tt.trans ?_) (retS rfl))),DO,λg hg=>by cases hg⟩
  rcases h0 with h | h
  ·rw[h];rfl
  ·rw[a6 h,Bool.or_true]
 ·obtain⟨g1,Lw⟩:∃g1,o1=O g1:=by
   cases o1 with
   | none=>exact absurd (.inl rfl) h0
   | some g=>exact⟨g,rfl⟩
  obtain⟨g2,Dy⟩:∃g2,o2=O g2:=by
   cases o2 with
   | none=>rw[Lw] at hz;exact absurd (hz.mpr rfl) (λz=>nomatch z)
   | some g=>exact⟨g,rfl⟩
  have hd8:¬d.fmod 8=0:=λz=>h0 (.inr z)
  subst Lw Dy;have tt:c9 (eT (ab jK (aa 5) (eC .aH))) (eT (ab a9 (ab bJ (aa 0) {8}) {0})) [↥d,↥blk,↥n,⇑ti,↥bx,O (pw (O g1)),O (pw (O g2))] H2=.ok false H2:=tt.trans (by rw[bU hd8];rfl);by_cases h4:d.fmod 8<4
  ·refine⟨.iff ((d.fdiv 80000).fmod bx) g1 g2,H2,pre (bq (b8 tt rfl) (il (eV (ltI (md rfl rfl (by decide)) (a6 h4)) (retS (az (ax rfl (ax (md (dv rfl rfl (by decide) (by decide)) rfl ∅) (ax rfl (ax rfl rfl)))) rfl))))),DO,λg hg=>?_⟩;have:g=g1\/g=g2:=by simpa[En.to] using hg
   rcases this with rfl | rfl
   ·exact q1 _ rfl
   ·exact q2 _ rfl
  ·refine⟨.go g1,H2,pre (bq (b8 tt rfl) (bq (b8 (ltI (md rfl rfl (by decide)) (bU h4)) rfl) (br rfl))),DO,λg hg=>?_⟩;have:g=g1:=by simpa[En.to] using hg
   rw[this];exact q1 _ rfl
theorem Yq(ns:bI)(i:Int)(h:0<=i):fx [.fl (ns.map W.int),.int i]=ay (.int (ns.getD i.toNat 0)):=by
 have:=Yi ns i.toNat;rw[Int.toNat_of_nonneg h] at this;exact this
variable{ns:bI}
theorem cl{i:Int}(ha:a σ ph=.ok (.fl (ns.map W.int)) ph1)(hb:b σ ph1=.ok (.int i) ph2)(h:0<=i):bh fx (ae a (ae b ag)) σ ph=.ok (.int (ns.getD i.toNat 0)) ph2:=az (ax ha (ax hb rfl)) (congrFun (Yq ns i h) ph2)
noncomputable def cv(ns:bI)(k:Nat):Int:=ns.getD (2+(k:Int).fmod 40).toNat 0+91*(k:Int).fdiv 40
noncomputable def Cs(ns:bI)(n:Nat):bI:=(abp (4*n)).map (cv ns)
theorem Wl(ns:bI)(n:Nat):(Cs ns n).length=4*n:=by unfold Cs;rw[aaI,abz]
theorem xR{l:bI}{x:Int}(h:H[i]? =O (.lst (l.map W.int)))(hk:l[k]? =O x)(ha:a σ ph=.ok (.ref i) H)(hb:b σ H=.ok (.int k) H):ab af a b σ ph=.ok (.int x) H:=by
 refine op ha hb (gZ h ?_);have:=(aaG.mp hk).1;rw[gG _ _ (by rw[aaI];exact this),aaK,hk];rfl
theorem S7{n:Nat}(hn:n<=60):∃ph',cU (eB (ae (ab c7 {4} (aa 2)) ag)) [Z,O 0,O 1] (gN 0) cF (ab addW (bh fx (ae (aa 1) (ae (ab addW (aa 2) (ab bJ (aa 0) {40})) ag))) (ab c7 {91} (ab cN (aa 0) {40}))) [~~~ns,↥2,↥n,↥bx,↥sl,Z,Z,Z,Z,Z,Z] ph=.ok (.ref ↑ph) ph'/\Ex ph ph'/\ph'[↑ph]? =O (.lst ((Cs ns n).map W.int)):=by
 obtain⟨ph',e,x⟩:=iW (abp (4*n)) (λi:Nat=>W.int i) (im:=eB (ae (ab c7 {4} (aa 2)) ag)) (cap:=[Z,O 0,O 1]) (g:=gN 0) (c:=cF) (e:=ab addW (bh fx (ae (aa 1) (ae (ab addW (aa 2) (ab bJ (aa 0) {40})) ag))) (ab c7 {91} (ab cN (aa 0) {40}))) (σ:=[~~~ns,↥2,↥n,↥bx,↥sl,Z,Z,Z,Z,Z,Z]) (ph0:=ph) (ph:=ph) (chk:=λ_=>true)
  (by
   rw[<- xm];have:=mj (m:=ae (ab c7 {4} (aa 2)) ag) (σ:=[~~~ns,↥2,↥n,↥bx,↥sl,Z,Z,Z,Z,Z,Z]) (ph:=ph) (ph':=ph) (j:=4*(n:Int)) (ax (ml rfl rfl (Bq (by decide) (by decide))) rfl) ∅ ∅;rw[show(4*(n:Int)).toNat=4*n by omega] at this;exact this) (λ_ _=>rfl) (by rw[abz];exact abw (show 4*n<=240 by omega) (by decide))
  (λk=> ↥(cv ns k)) (λσ=>∃o,σ=[o,~~~ns,↥2]) ⟨Z,rfl⟩
  (λk hk σ K zz hx=>by
   obtain⟨o,rfl⟩:=zz;have q:=pg (k:Int) 40 (by decide);refine⟨_,rfl,⟨_,rfl⟩,true,K,rfl,Ex.refl _,.inr ⟨rfl,_,K,ad (cl rfl (ad rfl (md rfl rfl (by decide))) ∅) (ml rfl (dv rfl rfl (by decide) (by decide)) (Bq (by decide) (by decide))),Ex.refl _,rfl⟩⟩)
 rw[nE] at x;refine⟨ph',e,(Ex.one _ _).trans x,?_⟩;rw[x.get (bD ph _)];unfold Cs;rw[abU];rfl
noncomputable def uT(C:bI)(n:Nat):aG:=(abp n).filter λk=>decide ((C.getD (4*k) 0).fmod 4=1)
theorem four(hb:b σ ph=.ok (.int k) ph):ab c7 {4} b σ ph=.ok (.int ((4*k:Nat):Int)) ph:=by
 rw[ml rfl hb (Bq (by decide) (by decide)),Int.natCast_mul];rfl
variable{ci:Nat}
theorem PN{n:Nat}{C:bI}(hn:n<=60)(hc:ph[ci]? =O (.lst (C.map W.int)))(hl:↑C=4*n):∃ph',cU (eB (ae (aa 2) ag)) [Z,O 5] (gN 0) (eT (ab a9 (ab bJ (ab af (aa 1) (ab c7 {4} (aa 0))) {4}) {1})) (aa 0) [s0,s1,↥n,s3,s4,⇑ci,Z,Z,Z,Z,Z] ph=.ok (.ref ↑ph) ph'/\Ex ph ph'/\ph'[↑ph]? =O (.lst (iw (uT C n))):=by
 obtain⟨ph',e,x⟩:=iW (abp n) (λi:Nat=>W.int i) (im:=eB (ae (aa 2) ag)) (cap:=[Z,O 5]) (g:=gN 0) (c:=eT (ab a9 (ab bJ (ab af (aa 1) (ab c7 {4} (aa 0))) {4}) {1})) (e:=aa 0) (σ:=[s0,s1,↥n,s3,s4,⇑ci,Z,Z,Z,Z,Z]) (ph0:=ph) (ph:=ph) (chk:=λ_=>true)
  (by rw[<- xm];exact mj (j:=n) rfl ∅ ∅) (λ_ _=>rfl) (by rw[abz];exact abw hn (by decide))
  (λk=>if(C.getD (4*k) 0).fmod 4=1 then ↥k else Z) (λσ=>∃o,σ=[o,⇑ci]) ⟨Z,rfl⟩
  (λk hk σ K zz hx=>by
   obtain⟨o,rfl⟩:=zz;have hk:=abv.mp hk;have hC:C[4*k]? =O (C.getD (4*k) 0):=by rw[acK,abP ∅];rfl
   refine⟨_,rfl,⟨_,rfl⟩,_,K,eI (md (xR (hx.get hc) hC rfl (four rfl)) rfl (by decide)) rfl,Ex.refl _,?_⟩;by_cases h:(C.getD (4*k) 0).fmod 4=1
   ·exact .inr ⟨a6 h,_,K,rfl,Ex.refl _,if_pos h⟩
   ·exact .inl ⟨bU h,if_neg h⟩)
 have DN:(abp n).filterMap (λk=>if(C.getD (4*k) 0).fmod 4=1 then O (W.int k) else Z)=iw (uT C n):=by
  unfold iw uT;rw[<- agZ,aha];refine congrArg (λF=>List.filterMap F (abp n)) (funext λk=>?_);by_cases h:(C.getD (4*k) 0).fmod 4=1
  ·rw[if_pos h,if_pos (a6 h)];rfl
  ·rw[if_neg h,if_neg (by rw[bU h];exact abg)]
 rw[DN] at x;exact⟨ph',e,(Ex.one _ _).trans x,x.get (bD ph _)⟩
structure DB(n:Nat)(TL:aG)(k:Nat)(b:dj):Prop where
 rl:b.rs.length<=4
 ro:∀r∈b.rs,ls r
 tr:k∈TL->DG b
 gl:∀j∈b.en.to,Gl n k TL j
abbrev ip(ns:bI)(n:Nat)(bx sl:Int)(ci ti bi:Nat)(o8 o9 o10:dP):aO:=[~~~ns,↥2,↥n,↥bx,↥sl,⇑ci,⇑ti,⇑bi,o8,o9,o10]
variable{ri:Nat}
theorem S8{K1 K:PH}{n:Nat}{C:bI}{pre:List Row}{o10:dP}(hb:0<bx/\bx<100)(hs:0<sl/\sl<100)(hC:K1[ci]? =O (.lst (C.map W.int)))(hl:↑C=4*n)(hk:k<n)(kS:↑K1<=ri)(x:Ex K1 K)(hr:K[ri]? =O (.lst (pre.map Row.w)))(hm:m<=3)(hp:↑pre<=1)(hpo:∀r∈pre,ls r):∃K' rs lF,dQ (λ_=>true) (gN 10) zr (ez 0 m) (ip ns n bx sl ci ti bi (↥k) ⇑ri o10) K=.ok (.nx (ip ns n bx sl ci ti bi (↥k) ⇑ri lF)) K'/\Ex K1 K'/\K'[ri]? =O (.lst ((pre++rs).map Row.w))/\↑rs=m/\∀r∈pre++rs,ls r:=by
 obtain⟨aj,K',e,rs,lF,rfl,q1,q2,q3,q4⟩:=gX (chk:=λ_=>true) (g:=gN 10) (b:=zr)
  (λj σ K=>∃rs lF,σ=ip ns n bx sl ci ti bi (↥k) ⇑ri lF/\Ex K1 K/\K[ri]? =O (.lst ((pre++rs).map Row.w))/\↑rs=j/\∀r∈pre++rs,ls r)
  (ez 0 m) (ip ns n bx sl ci ti bi (↥k) ⇑ri o10) K (λ_ _ _ _=>rfl)
  (λj y σ K hj zz=>by
   obtain⟨rs,lF,rfl,q1,q2,q3,q4⟩:=zz;obtain⟨hj1,rfl⟩:=FY hj;rw[Int.zero_add];have hjm:j % 2<2:=Nat.mod_lt _ (by decide);obtain⟨v,hv⟩:∃v,C[4*k+1+j % 2]? =O v:=bo ∅;have fm:((j:Int)).fmod 2=((j % 2:Nat):Int):=by
    rw[afJ _ (by decide)];rfl
   obtain⟨r,K2,e1,x1,ok⟩:=Wh (v*(1+(j:Int))+(k:Int)) hb hs K;refine⟨_,_,rfl,_,_,oU rfl ⟨_,q2⟩ (az (ax (ad (ml (xR (k:=4*k+1+j % 2) (q1.get hC) hv rfl ?_) (ad rfl rfl) (xu ∅ ∅)) rfl) (ax rfl (ax rfl rfl))) e1) (x1.get q2) (by rw[aaI,aaQ];omega),_,.inl rfl,rs++[r],_,rfl,Ex.set (q1.trans x1) kS _,?_,by simp[q3],λr' oJ=>?_⟩
   ·refine(ad (ad (four rfl) rfl) (md rfl rfl (by decide))).trans ?_;rw[fm];rfl
   ·rw[fS (x1.get q2)];simp
   ·rw[<- acO] at oJ
    rcases abF.mp oJ with z | z
    ·exact q4 r' z
    ·rw[aaT.mp z];exact ok)
  ⟨[],o10,rfl,x,by rw[aci];exact hr,rfl,by rw[aci];exact hpo⟩
 rw[px] at q3;exact⟨K',rs,lF,e,q1,q2,q3,q4⟩
theorem S9(h:↑rs=↑B)(r:Nat)(b:dj):bw (rs++[r]) (B++[b])=bw rs B++[W.tup [.ref r,b.en.w]]:=by
 unfold bw;rw[List.zipWith_append h];rfl
theorem Yr{n:Nat}{o9 o10:dP}(ht:H[ti]? =O (.lst (iw TL))):∃pre H',ab c7 (b9 (ae (bp (ae {"turn"} ag)) ag)) (aV n8 (ae (ab dZ (aa 8) (aa 6)) ag)) (ip ns n bx sl ci ti bi (↥k) o9 o10) H=.ok (.ref (↑H+1)) H'/\Ex (H++[.lst [Row.turn.w]]) H'/\H'[↑H+1]? =O (.lst (List.map Row.w pre))/\↑pre<=1/\(∀r∈pre,ls r)/\(k∈TL->pre=[.turn]):=by
 obtain⟨H1,e1⟩:∃H1,H1=H++[PO.lst [Row.turn.w]]:=⟨_,rfl⟩
 have x1:Ex H H1:=e1▸Ex.one _ _;have g1:H1[↑H]? =O (PO.lst [Row.turn.w]):=by rw[e1];exact bD _ _
 have l1:↑H1=↑H+1:=by rw[e1];simp
 have i1:aV n8 (ae (ab dZ (aa 8) (aa 6)) ag) (ip ns n bx sl ci ti bi (↥k) o9 o10) H1=.ok (.int (if k∈TL then 1 else 0)) H1:=by
  refine az (ax (DM (x1.get ht) rfl rfl) rfl) ?_;by_cases h:k∈TL
  ·rw[a6 h,if_pos h];rfl
  ·rw[bU h,if_neg h];rfl
 have e2:b9 (ae (bp (ae {"turn"} ag)) ag) (ip ns n bx sl ci ti bi (↥k) o9 o10) H=.ok (.ref ↑H) H1:=by rw[e1];rfl
 by_cases h:k∈TL
 ·rw[if_pos h] at i1;refine⟨[.turn],H1++[.lst [Row.turn.w]],op e2 i1 ?_,by rw[<- e1];exact Ex.one _ _,by rw[<- l1];exact bD _ _,aaN _,λr hr=>by rw[aaT.mp hr];trivial,λ_=>rfl⟩;rw[F2 g1 (by decide) (by decide) (small (adA rfl)),<- l1];rfl
 ·rw[if_neg h] at i1;refine⟨[],H1++[.lst []],op e2 i1 ?_,by rw[<- e1];exact Ex.one _ _,by rw[<- l1];exact bD _ _,aca _,λr hr=>(nomatch hr),λz=>absurd z h⟩;rw[F2 g1 (by decide) (by decide) (small (adA rfl)),<- l1];rfl
theorem QR(ns:bI){n:Nat}(hn:n<=60)(hn0:0<n)(hb:0<bx/\bx<100)(hs:0<sl/\sl<100):∃bi ph' B,zB [.fl (ns.map W.int),.int 2,.int n,.int bx,.int sl] ph=.ok (.ref bi) ph'/\Ex ph ph'/\cx ph' bi B/\↑B=n/\bZ 4 B/\fN B:=by
 obtain⟨H1,e1,x1,g1⟩:=S7 (ph:=ph) (ns:=ns) (bx:=bx) (sl:=sl) hn;have DP:=Wl ns n;obtain⟨C,hC⟩:∃C,C=Cs ns n:=⟨_,rfl⟩
 rw[<- hC] at g1 DP;obtain⟨H2,e2,x2,g2⟩:=PN (s0:= ~~~ns) (s1:= ↥2) (s3:= ↥bx) (s4:= ↥sl) hn g1 DP;obtain⟨TL,hT⟩:∃TL,TL=uT C n:=⟨_,rfl⟩
 rw[<- hT] at g2;have uU:=x2.get g1;obtain⟨H3,e3⟩:∃H3,H3=H2++[PO.lst []]:=⟨_,rfl⟩
 have x3:Ex H2 H3:=e3▸Ex.one _ _;have g3:H3[↑H2]? =O (PO.lst []):=by rw[e3];exact bD _ _
 obtain⟨aj,H',e4,B,rs,o8,o9,o10,rfl,xh,j7,uV,j0,m3⟩:=gX (chk:=λ_=>true) (g:=gN 8) (b:=u6)
  (λk σ H=>∃B rs o8 o9 o10,σ=ip ns n bx sl ↑ph ↑H1 ↑H2 o8 o9 o10/\Ex H2 H/\lE H ↑H2 rs B/\↑B=k/\(∀r∈rs,↑H2<r)/\∀(j:Nat) b,B[j]? =O b->DB n TL j b)
  (ez 0 n) (ip ns n bx sl ↑ph ↑H1 ↑H2 Z Z Z) H3 (λ_ _ _ _=>rfl)
  (λk y σ H hk zz=>by
   obtain⟨B,rs,o8,o9,o10,rfl,xh,j7,uV,j0,m3⟩:=zz;obtain⟨qD,rfl⟩:=FY hk;rw[Int.zero_add];have hbl:=iC j7.at_;obtain⟨pre,K2,p1,p2,p3,p4,p5,p6⟩:=Yr (ns:=ns) (n:=n) (bx:=bx) (sl:=sl) (ci:=↑ph) (bi:=↑H2) (o9:=o9) (o10:=o10) (k:=k) (xh.get g2);obtain⟨K1,DQ⟩:∃K1,K1=H++[PO.lst [Row.turn.w]]:=⟨_,rfl⟩
   rw[<- DQ] at p2;have l1:↑K1=↑H+1:=by rw[DQ];simp
   have uW:Ex H K1:=DQ▸Ex.one _ _;obtain⟨v,hv⟩:∃v,C[4*k]? =O v:=bo ∅;obtain⟨K3,DR⟩:∃K3,K3=K2++[PO.lst ([(0:Int),0,1,2,3].map W.int)]:=⟨_,rfl⟩
   have DS:Ex K2 K3:=DR▸Ex.one _ _;obtain⟨q,hq,eq⟩:=mn (a:=v.fdiv 4) (n:=5) (by decide);obtain⟨m,hm,hm3⟩:∃m:Nat,[(0:Int),0,1,2,3][q]? =O (m:Int)/\m<=3:=by
    have:q=0\/q=1\/q=2\/q=3\/q=4:=by omega
    rcases this with rfl | rfl | rfl | rfl | rfl
    ·exact⟨0,rfl,∅⟩
    ·exact⟨0,rfl,∅⟩
    ·exact⟨1,rfl,∅⟩
    ·exact⟨2,rfl,∅⟩
    ·exact⟨3,rfl,∅⟩
   have xx:Ex H2 K3:=((xh.trans uW).trans p2).trans DS;have im:eB (ae (ab af (b9 (ae {0} (ae {0} (ae {1} (ae {2} (ae {3} ag)))))) (ab bJ (ab cN (ab af (aa 5) (ab c7 {4} (aa 8))) {4}) {5})) ag) (ip ns n bx sl ↑ph ↑H1 ↑H2 (↥k) (⇑(↑H+1)) o10) K2=.ok (ez 0 m,λ_=>true) K3:=by
    refine mj (j:=(m:Int)) (ax ?_ rfl) ∅ ∅;rw[DR];refine Bv (ws:=[(0:Int),0,1,2,3].map W.int) (i:=(q:Int)) (ph1:=K2) rfl (adA rfl) ?_ ?_
    ·rw[<- DR,<- eq];exact md (dv (xR (k:=4*k) (xx.get uU) hv rfl (four rfl)) rfl (by decide) (by decide)) rfl (by decide)
    ·rw[gG _ _ (by simp;omega),aaK,hm];rfl
   obtain⟨K4,Lx,lF,i1,i2,i3,i4,i5⟩:=S8 (ns:=ns) (n:=n) (k:=k) (ti:=↑H1) (bi:=↑H2) (o10:=o10) hb hs ((xh.trans uW).get uU) DP qD (ri:=↑H+1) ∅ (p2.trans DS) (DS.get p3) hm3 p4 p5;have Ly:Ex H2 K4:=(xh.trans uW).trans i2;obtain⟨v3,hv3⟩:∃v3,C[4*k+3]? =O v3:=bo ∅;obtain⟨en,K5,n1,n2,n3⟩:=Yp (ti:=↑H1) (blk:=k) (n:=n) (v3+(k:Int)) hb (Ly.get g2) hn;have DT:Ex H K5:=(uW.trans i2).trans n2;have gb:K5[↑H2]? =O (.lst (bw rs B)):=DT.get j7.at_;have gV:ab addW (ab af (aa 5) (ab addW (ab c7 {4} (aa 8)) {3})) (aa 8) (ip ns n bx sl ↑ph ↑H1 ↑H2 (↥k) (⇑(↑H+1)) lF) K4=.ok (.int (v3+(k:Int))) K4:=ad (xR (k:=4*k+3) (Ly.get uU) hv3 rfl ((ad (four rfl) rfl).trans rfl)) rfl;have body:u6 (ip ns n bx sl ↑ph ↑H1 ↑H2 (↥k) o9 o10) H=.ok (.nx (ip ns n bx sl ↑ph ↑H1 ↑H2 (↥k) (⇑(↑H+1)) lF)) (K5.set ↑H2 (.lst (bw rs B++[W.tup [.ref (↑H+1),en.w]]))):=by
    unfold u6;exact sq (asg p1) (sq (f7 im i1) (oU rfl ⟨_,i2.get (uW.get j7.at_)⟩ (az (ax rfl (ax (az (ax gV (ax rfl (ax rfl (ax rfl (ax rfl rfl))))) n1) rfl)) rfl) gb (by rw[lj j7.len];omega)))
   refine⟨_,_,rfl,_,_,body,_,.inl rfl,B++[⟨pre++Lx,en⟩],rs++[↑H+1],_,_,_,rfl,Ex.set (xh.trans DT) (aaN _) _,⟨?_,by simp[j7.len],λj r b hr jp=>?_⟩,by simp[uV],λr hr=>?_,λj b jp=>?_⟩
   ·rw[fS gb,S9 j7.len]
   ·rcases iy hr with⟨hj,hr⟩ | ⟨hj,rfl⟩
    ·rcases iy jp with⟨_,jp⟩ | ⟨hj2,_⟩
     ·rw[dA (abu (j0 r (aaL hr)))];exact DT.get (j7.jZ j r b hr jp)
     ·have:=j7.len;omega
    ·rcases iy jp with⟨hj2,_⟩ | ⟨_,rfl⟩
     ·have:=j7.len;omega
     ·rw[dA ∅];exact n2.get i3
   ·rcases abF.mp hr with z | z
    ·exact j0 r z
    ·rw[aaT.mp z];omega
   ·rcases iy jp with⟨_,jp⟩ | ⟨hj,rfl⟩
    ·exact m3 j b jp
    ·rw[hj,uV];exact⟨by simp only[aaQ];omega,i5,λhk=>⟨Lx,by rw[p6 hk];rfl⟩,n3⟩)
  ⟨[],[],Z,Z,Z,rfl,x3,⟨g3,rfl,λk r b z=>by simp at z⟩,rfl,λr hr=>(nomatch hr),λj b z=>by simp at z⟩
 rw[px] at uV;have aaD:∀j∈TL,j<n:=λj hj=>by rw[hT] at hj;unfold uT at hj;exact abv.mp (abW.mp hj).1
 refine⟨↑H2,H',B,?_,(x1.trans x2).trans xh,⟨rs,j7⟩,uV,⟨∅,∅,λk b iJ j hj=>?_,λb hb=>?_⟩,λk b iJ j hj=>?_⟩
 ·unfold zB vm;rw[ym];exact bq (asg e1) (bq (asg e2) (bq (ph1:=H3) (σ1:=ip ns n bx sl ↑ph ↑H1 ↑H2 Z Z Z) (by rw[e3];rfl) (bq (f7 (mj (j:=n) rfl ∅ ∅) e4) rfl)))
 ·have:=((m3 k b iJ).gl j hj).1;omega
 ·obtain⟨k,hk⟩:=abb.mp hb;exact⟨(m3 k b hk).rl,(m3 k b hk).ro⟩
 ·obtain⟨q1,q2⟩:=(m3 k b iJ).gl j hj;refine⟨∅,?_⟩
  rcases q2 with z | z | z
  ·exact .inl z
  ·obtain⟨c,hc⟩:∃c,B[j]? =O c:=bo ∅;exact .inr (.inl ⟨c,hc,(m3 j c hc).tr z⟩)
  ·exact .inr (.inr ((m3 k b iJ).tr z))
theorem Ys(ph:PH)(s:String):dat ph 40 (.str (abA s))=O (.str (abA s)):=by
 unfold dat;rw[if_pos (so s)]
theorem cT(H:PH)(n:Nat)(s:String):dat H n (.str (abA s))=O (.str (abA s)):=by
 have:=Ys H s;cases n <;> exact this
theorem cX{n:Nat}{ds:List aeN}(h:ba (dat H n) ws=O ds):dat H (n+1) (.tup ws)=O (.tuple ds):=by
 show(ba (dat H n) ws).map PyData.tuple=_;rw[h];rfl
theorem kf{n:Nat}{ds:List aeN}(hi:H[i]? =O (.lst ws))(h:ba (dat H n) ws=O ds):dat H (n+1) (.ref i)=O (.list ds):=by
 unfold dat;simp only[hi,h];rfl
theorem mc{f:α->Option β}{a:α}{l:List α}{b:β}{m:List β}(h:f a=O b)(h2:ba f l=O m):ba f (a::l)=O (b::m):=by
 unfold ba;rw[h,h2]
theorem Wm{s8:dP}(hA:cx ph bi B)(hl:↑B<=60):∃ph',cU (cV (aa 3)) [Z,Z] (eA 2 [(gN 0),(gN 1)]) cF (bp (ae (aV kn (ae (aa 0) ag)) (ae (aa 1) ag))) [s0,s1,s2,⇑bi,s4,s5,s6,s7,s8] ph=.ok (.ref ↑ph) ph'/\Ex ph ph'/\cx ph' ↑ph B:=by
 obtain⟨rs,h⟩:=hA;obtain⟨ph',ws,e,x,g,jT,hP⟩:=GZ (rs.zip B) (λp=>W.tup [.ref p.1,p.2.en.w]) (ph:=ph) (ph0:=ph) (im:=cV (aa 3)) (cap:=[Z,Z]) (g:=eA 2 [(gN 0),(gN 1)]) (e:=bp (ae (aV kn (ae (aa 0) ag)) (ae (aa 1) ag))) (σ:=[s0,s1,s2,⇑bi,s4,s5,s6,s7,s8]) (chk:=λp=>decide (p[bi]? =O (.lst (bw rs B))))
  (by rw[<- Ij];exact fB rfl h.at_) (λp x=>a6 (x.get h.at_)) (by rw[agX];omega)
  (λj w H=>∃d:Nat×dj,w=W.tup [.ref d.1,d.2.en.w]/\d.1≠↑ph/\H[d.1]? =O (.lst (d.2.rs.map Row.w))/\B[j]? =O d.2)
  (λj w H H' q keep=>by
   obtain⟨d,q1,q2,q3,q4⟩:=q;exact⟨d,q1,q2,keep d.1 _ q2 q3,q4⟩)
  (λσ=>∃a b,σ=[a,b]) ⟨Z,Z,rfl⟩
  (λj p hj σ H hS y cJ=>by
   obtain⟨a,b,rfl⟩:=hS;have hz:=List.getElem?_zip_eq_some.mp hj;exact⟨_,rfl,⟨_,_,rfl⟩,_,_,az (ax (az (ax rfl rfl) (Fy (y.get (h.jZ j p.1 p.2 hz.1 hz.2)))) (ax rfl rfl)) rfl,Ex.one _ _,(↑H,p.2),rfl,by show ↑H≠↑ph;omega,bD _ _,hz.2⟩)
 obtain⟨D,hD,hQ⟩:=Gk (f:=λd:Nat×dj=>W.tup [.ref d.1,d.2.en.w]) (Q:=λj (d:Nat×dj)=>ph'[d.1]? =O (.lst (d.2.rs.map Row.w))/\B[j]? =O d.2) λj w hw=>by
  obtain⟨d,q1,_,q3,q4⟩:=hP j w hw;exact⟨d,q1,q3,q4⟩
 have zh:↑D=↑B:=by
  rw[hD,aaI,agX,h.len,Nat.min_self] at jT;exact jT
 have hB:B=D.map Prod.snd:=by
  apply adO
  intro j;rw[aaK];by_cases hj:j<↑D
  ·obtain⟨d,hd⟩:∃d,D[j]? =O d:=bo hj;rw[hd,(hQ j d hd).2];rfl
  ·rw[acl ∅,acl ∅];rfl
 refine⟨ph',e,x,D.map Prod.fst,?_,by rw[aaI,zh],λk r b hr hb=>?_⟩
 ·rw[g,hD]
  congr 2
  unfold bw;rw[hB,agY,agH,List.zipWith_self]
 ·rw[aaK] at hr;obtain⟨d,hd,rfl⟩:=aaP.mp hr;have:=(hQ k d hd).2;rw[hb] at this;cases this;exact(hQ k d hd).1
abbrev Ps:=Nat×Nat
noncomputable def cB(p:Ps):W:=.tup [.int p.1,.int p.2]
noncomputable def eD(B:bM)(p:Ps):Ps:=match B[p.1]? with
 | some ⟨rs,.go t⟩=>if p.2=↑rs then(t,0) else p
 | _=>p
noncomputable def cf(B:bM):Nat->Ps->Ps
 | 0,p=>p
 | n+1,p=>cf B n (eD B p)
theorem Ct{i j:Int}(ha:a σ ph=.ok (.int i) ph1)(hb:b σ ph1=.ok (.int j) ph2)(hc:decide (i=j)=c):eT (ab a9 a b) σ ph=.ok c ph2:=tB (op ha hb (by rw[BQ,hc];rfl))
theorem qO(x:String){e:EM}(h:e σ ph=.ok (.str x) ph)(hc:decide (x=y)=c):eT (ab a9 e (eC (.str y))) σ ph=.ok c ph:=by
 rw[i8,hO,fA,bg h,<- hc];ac_nf
theorem nL{b:dj}(hA:cx ph bi B)(hb:B[k]? =O b):∃ri,ph[ri]? =O (.lst (b.rs.map Row.w))/\∀{a c:EM} {σ:aO} {H:PH},Ex ph H->a σ H=.ok (.ref bi) H->c σ H=.ok (.int k) H → ab af (ab af a c) {0} σ H=.ok (.ref ri) H/\ab af (ab af a c) {1} σ H=.ok b.en.w H:=by
 obtain⟨ri,gV,kS⟩:=hA.ix hb;exact⟨ri,kS,λ{a c σ H} x ha hc=>⟨op (op ha hc (gV H x)) rfl rfl,op (op ha hc (gV H x)) rfl rfl⟩⟩
theorem Bw{b p:Nat}(hB:bZ M B)(hA:cx ph bi B)(hb:b<↑B):l5 [.ref bi,.int b,.int p] ph=.ok (cB (cf B ↑B (b,p))) ph:=by
 have ht:=hB.top;have zf:eB (ae (aV a7 (ae (aa 0) ag)) ag) [⇑bi,↥b,↥p,Z] ph=.ok (ez 0 ↑B,λ_=>true) ph:=mj (j:=↑B) (ax (az (ax rfl rfl) hA.a7) rfl) ∅ ∅;unfold l5 wA;rw[yl];obtain⟨aj,H',e,q,o3,rfl,rfl,hq,hl⟩:=gX (chk:=λ_=>true) (g:=gN 3) (b:=zF)
  (λj σ H=>∃(q:Ps) (o3:dP),σ=[⇑bi,↥(q.1:Int),↥(q.2:Int),o3]/\H=ph/\q.1<↑B/\cf B ↑B (b,p)=cf B (↑B-j) q)
  (ez 0 ↑B) [⇑bi,↥b,↥p,Z] ph (λ_ _ _ _=>rfl)
  (λj x σ H hj zz=>by
   obtain⟨q,o3,rfl,rfl,hq,hl⟩:=zz;have dc:j<↑B:=by have:=(aaG.mp hj).1;rw[px] at this;exact this
   obtain⟨⟨rs,en⟩,d3⟩:∃b,B[q.1]? =O b:=bo hq;obtain⟨ri,kS,gV⟩:=nL hA d3;have e1:↑B-j=(↑B-(j+1))+1:=by omega
   obtain⟨i1,i2⟩:=gV (a:=aa 0) (c:=aa 1) (σ:=[⇑bi,↥(q.1:Int),↥(q.2:Int),O x]) (Ex.refl H) rfl rfl;have t1:eT (ab a9 (aa 2) (aV a7 (ae (ab af (ab af (aa 0) (aa 1)) {0}) ag))) [⇑bi,↥(q.1:Int),↥(q.2:Int),O x] H=.ok (decide (q.2=↑rs)) H:=by
    refine Ct (i:=(q.2:Int)) (j:=(↑rs:Int)) rfl (az (ax i1 rfl) ((gY kS).trans (by rw[aaI]))) ?_;rw[decide_eq_decide];omega
   have t2:eT (ab a9 (ab af (ab af (ab af (aa 0) (aa 1)) {1}) {0}) {"go"}) [⇑bi,↥(q.1:Int),↥(q.2:Int),O x] H=.ok (decide (en.x="go")) H:=by
    exact qO en.x (op i2 rfl (oy en H)) rfl
   refine⟨_,_,rfl,?_⟩;unfold zF;by_cases hc:q.2=↑rs
   ·rw[a6 hc] at t1;cases en with
    | go g=>
     refine⟨_,_,eV (tT t1 (t2.trans rfl)) (sq (asg (w:=.int g) (op i2 rfl rfl)) (asg rfl)),_,.inl rfl,(g,0),_,rfl,rfl,hB.lt _ _ d3 g (by simp[En.to]),?_⟩;rw[hl,e1]
     conv=>lhs;unfold cf eD
     rw[d3]
     dsimp only
     rw[if_pos hc]
    | iff v a c=>
     refine⟨_,_,b8 (tT t1 (t2.trans rfl)) rfl,_,.inl rfl,q,_,rfl,rfl,hq,?_⟩;rw[hl,e1]
     conv=>lhs;unfold cf eD
     rw[d3]
    | fin=>
     refine⟨_,_,b8 (tT t1 (t2.trans rfl)) rfl,_,.inl rfl,q,_,rfl,rfl,hq,?_⟩;rw[hl,e1]
     conv=>lhs;unfold cf eD
     rw[d3]
   ·rw[bU hc] at t1;refine⟨_,_,b8 (tF t1) rfl,_,.inl rfl,q,_,rfl,rfl,hq,?_⟩;rw[hl,e1]
    conv=>lhs;unfold cf eD
    rw[d3];cases en with
    | go g=>dsimp only;rw[if_neg hc]
    | iff v a c=>rfl
    | fin=>rfl)
  ⟨(b,p),Z,rfl,rfl,hb,rfl⟩
 rw[px,Nat.sub_self] at hl;refine bq (f7 zf e) (br ?_);rw[hl];rfl
abbrev Pp:=Ps×Ps
noncomputable def b7(x:Pp):W:=.tup [cB x.1,cB x.2]
noncomputable def cR(M:List Pp):aZ:=M.map λx=>(b7 x,.bl true)
theorem Gm{x y:Pp}(h:b7 x=b7 y):x=y:=by
 obtain⟨⟨a,b⟩,c,d⟩:=x;obtain⟨⟨a',b'⟩,c',d'⟩:=y;simp only[b7,cB,W.tup.injEq,aia,W.int.injEq,and_true] at h;obtain⟨⟨h1,h2⟩,h3,h4⟩:=h;rw[show a=a' by omega,show b=b' by omega,show c=c' by omega,show d=d' by omega]
theorem Yt(ph:PH)(x y:Pp):dS ph (b7 x) (b7 y)=O (decide (b7 x=b7 y)):=by
 have e:dS ph (b7 x) (b7 y)=O (abe (.tuple [.tuple [.int x.1.1,.int x.1.2],.tuple [.int x.2.1,.int x.2.2]]) (.tuple [.tuple [.int y.1.1,.int y.1.2],.tuple [.int y.2.1,.int y.2.2]])):=rfl;rw[e]
 congr 1
 have:decide (b7 x=b7 y)=decide (x=y):=by rw[decide_eq_decide];exact⟨Gm,λh=>by rw[h]⟩
 rw[this];obtain⟨⟨a,b⟩,c,d⟩:=x;obtain⟨⟨a',b'⟩,c',d'⟩:=y;have hi:∀m n:Nat,((m:Int)==(n:Int))=decide (m=n):=λm n=>by
  rw[acH,beq_iff_eq,decide_eq_true_eq];omega
 simp[abe,abn,hi,Prod.mk.injEq]
theorem Gn(M:List Pp)(x:Pp):((cR M).any λp=>decide (p.1=b7 x))=decide (x∈M):=by
 unfold cR;rw[agU];rw[acH,acB,decide_eq_true_eq];constructor
 ·rintro⟨y,hy,h⟩;rw[Gm (of_decide_eq_true h)] at hy;exact hy
 ·exact λh=>⟨x,h,a6 rfl⟩
theorem Gp(M:List Pp)(x:Pp):(c5 (cR M) (b7 x)).isSome=decide (x∈M):=by
 unfold c5;rw[adM,<- Gn,acH,agm,acB]
theorem A2(ph:PH)(M:List Pp)(x:Pp):ik ph (cR M) (b7 x)=true:=by
 unfold ik;rw[aaZ,abR];refine⟨rfl,λp hp=>?_⟩;obtain⟨q,_,rfl⟩:=aaX.mp hp;rw[aaZ,decide_eq_true_eq];exact⟨rfl,Yt ph q x⟩
theorem QS{M:List Pp}{x:Pp}(h:x∉M):c6 (cR M) (b7 x) (.bl true)=cR (M++[x]):=by
 unfold c6;rw[Gn,bU h];simp[cR]
theorem Ta{M:List Pp}(h:H[i]? =O (.bY (cR M)))(x:Pp):lift (ou (b7 x) (.ref i)) H=.ok (.bl (!decide (x∈M))) H:=by
 unfold lift ou;simp only[sW h,A2,if_true,Gp]
theorem Wn{M:List Pp}(h:H[i]? =O (.bY (cR M)))(x:Pp):lift (oS (b7 x) (.ref i)) H=.ok (.bl (decide (x∈M))) H:=by
 unfold lift oS;simp only[sW h,A2,if_true,Gp]
theorem G4{M:List Pp}(h:H[i]? =O (.bY (cR M))):lift (ox [.ref i]) H=.ok (.int (↑M:Int)) H:=by
 unfold lift ox;simp only[sW h,abH];unfold cR;rw[aaI]
theorem Tc{M:List Pp}{x:Pp}(h:H[i]? =O (.bY (cR M)))(hx:x∉M)(hz:↑M<1000):lift (qj (.ref i) (b7 x) (.bl true)) H=.ok () (H.set i (.bY (cR (M++[x])))):=by
 rw[Qv h (A2 _ _ _) (by intro z;cases z) (by unfold cR;rw[aaI];exact aaS hz (by decide)),QS hx]
theorem oz{i j:Int}(ha:a σ ph=.ok (.int i) ph1)(hb:b σ ph1=.ok (.int j) ph2)(hc:decide (i<j)=c):eT (ab dG a b) σ ph=.ok c ph2:=tB (op ha hb (by rw[<- hc];rfl))
theorem ne_self{w:W}{d:aeN}(h:dat ph 40 w=O d)(hd:abe d d=true):lift (dC w w) ph=.ok (.bl false) ph:=by
 unfold lift dC dS;simp only[h,hd];rfl
theorem Yu(H:PH)(r:Row):∃d,dat H 40 r.w=O d/\abe d d=true:=by
 cases r with
 | ua a w b c=>exact⟨_,cX (mc (cT _ _ _) (mc rfl (mc (cT _ _ _) (mc rfl (mc rfl rfl))))),by simp[abe,abn]⟩
 | put a n=>exact⟨_,cX (mc (cT _ _ _) (mc rfl (mc rfl rfl))),by simp[abe,abn]⟩
 | move a b=>exact⟨_,cX (mc (cT _ _ _) (mc rfl (mc rfl rfl))),by simp[abe,abn]⟩
 | pull a b=>exact⟨_,cX (mc (cT _ _ _) (mc rfl (mc rfl rfl))),by simp[abe,abn]⟩
 | push a b=>exact⟨_,cX (mc (cT _ _ _) (mc rfl (mc rfl rfl))),by simp[abe,abn]⟩
 | take a=>exact⟨_,cX (mc (cT _ _ _) (mc rfl rfl)),by simp[abe,abn]⟩
 | tell a=>exact⟨_,cX (mc (cT _ _ _) (mc rfl rfl)),by simp[abe,abn]⟩
 | turn=>exact⟨_,cX (mc (cT _ _ _) rfl),by simp[abe,abn]⟩
theorem G5{rs:List Row}{r:Row}{c:EM}(h:H[ri]? =O (.lst (rs.map Row.w)))(hk:rs[k]? =O r)(ha:a σ H=.ok (.ref ri) H)(hc:c σ H=.ok (.int k) H):ab af a c σ H=.ok r.w H:=
 op ha hc (gZ h (by rw[gG _ _ (by rw[aaI];exact(aaG.mp hk).1),aaK,hk];rfl))
section
variable{ph:PH}{bi ni:Nat}{B NB:bM}{p q:Ps}{b c:dj}
theorem QU{r:Row}(hA:cx ph bi B)(hN:cx ph ni NB)(hb:B[p.1]? =O b)(hc:NB[q.1]? =O c)(h1:b.rs[p.2]? =O r)(h2:c.rs[q.2]? =O r):pk [.ref bi,.ref ni,cB p,cB q] ph=.ok (.ref ↑ph) (ph++[.lst [b7 ((p.1,p.2+1),(q.1,q.2+1))]]):=by
 obtain⟨r1,oR,x1⟩:=nL hA hb;obtain⟨r2,kP,x2⟩:=nL hN hc;have l1:=(aaG.mp h1).1;have l2:=(aaG.mp h2).1;obtain⟨d,hd,lT⟩:=Yu ph r;unfold pk rC;rw[tX];refine bq (asg (x1 (Ex.refl ph) rfl rfl).1) (bq (asg (x2 (Ex.refl ph) rfl rfl).1) (il (eV (tT (oz (i:=(p.2:Int)) (j:=(b.rs.length:Int)) rfl (az (ax rfl rfl) ((gY oR).trans (by rw[aaI]))) (a6 ∅))
  (oz (i:=(q.2:Int)) (j:=(c.rs.length:Int)) rfl (az (ax rfl rfl) ((gY kP).trans (by rw[aaI]))) (a6 ∅))) (sq (b8 (tB (op (G5 oR h1 rfl rfl) (G5 kP h2 rfl rfl) (ne_self hd lT))) rfl) (retS ?_)))))
 rfl
theorem Yv(e:En)(hg:∀t,e≠.go t)(g:Nat->Nat)(H:PH):∃w d,lift (yL e.w Z (O (-2))) H=.ok w H/\lift (yL (e.mp g).w Z (O (-2))) H=.ok w H/\dat H 40 w=O d/\abe d d=true:=by
 cases e with
 | go t=>exact(hg t rfl).elim
 | iff v a c=>exact⟨.tup [.str "if",.int v],_,rfl,rfl,cX (mc (cT _ _ _) (mc rfl rfl)),by simp[abe,abn]⟩
 | fin=>exact⟨.tup [],_,rfl,rfl,rfl,by simp[abe,abn]⟩
noncomputable def En.n:En->Nat
 | .go _=>2
 | .iff _ _ _=>4
 | .fin=>1
theorem Bx(e:En)(H:PH):lift (a7 [e.w]) H=.ok (.int e.n) H:=by cases e <;> rfl
theorem Z8(e:En)(g:Nat->Nat):(e.mp g).n=e.n:=by cases e <;> rfl
theorem QV{g:Nat->Nat}(hA:cx ph bi B)(hN:cx ph ni NB)(hb:B[p.1]? =O b)(hc:NB[q.1]? =O c)(h1:p.2=b.rs.length)(h2:q.2=c.rs.length)(hg:∀t,b.en≠.go t)(he:c.en=b.en.mp g):∃i ph',pk [.ref bi,.ref ni,cB p,cB q] ph=.ok (.ref i) ph'/\Ex ph ph'/\↑ph<=i/\ph'[i]? =O (.lst (b.en.to.map λt=>b7 ((t,0),(g t,0)))):=by
 obtain⟨r1,oR,x1⟩:=nL hA hb;obtain⟨r2,kP,x2⟩:=nL hN hc;obtain⟨w,d,s1,s2,hd,lT⟩:=Yv b.en hg g ph;rw[<- he] at s2;have f1:∀{σ:aO},aa 2 σ=ay (cB p)->aa 4 σ=ay (.ref r1)->eT (ab dG (ab af (aa 2) {1}) (aV a7 (ae (aa 4) ag))) σ ph=.ok false ph:=λ{σ} z1 z2=>
  oz (i:=(p.2:Int)) (j:=(b.rs.length:Int)) (op (by rw[z1];rfl) rfl rfl) (az (ax (by rw[z2];rfl) rfl) ((gY oR).trans (by rw[aaI]))) (bU ∅)
 have f2:∀{σ:aO},aa 3 σ=ay (cB q)->aa 5 σ=ay (.ref r2)->eT (ab dG (ab af (aa 3) {1}) (aV a7 (ae (aa 5) ag))) σ ph=.ok false ph:=λ{σ} z1 z2=>
  oz (i:=(q.2:Int)) (j:=(c.rs.length:Int)) (op (by rw[z1];rfl) rfl rfl) (az (ax (by rw[z2];rfl) rfl) ((gY kP).trans (by rw[aaI]))) (bU ∅)
 obtain⟨Ea,Lz⟩:∃Ea:aO,Ea=[⇑bi,⇑ni,O (cB p),O (cB q),⇑r1,⇑r2,O b.en.w,O c.en.w]:=⟨_,rfl⟩
 have tail:∃ph',cU (lN (ae {2} (ae (aV a7 (ae (aa 6) ag)) ag))) [Z,O 6,O 7] (gN 0) cF (bp (ae (bp (ae (ab af (aa 1) (aa 0)) (ae {0} ag))) (ae (bp (ae (ab af (aa 2) (aa 0)) (ae {0} ag))) ag))) Ea ph=.ok (.ref ↑ph) ph'/\Ex (ph++[.lst (b.en.to.map λt=>b7 ((t,0),(g t,0)))]) ph':=by
  subst Lz;have iO:lN (ae {2} (ae (aV a7 (ae (aa 6) ag)) ag)) [⇑bi,⇑ni,O (cB p),O (cB q),⇑r1,⇑r2,O b.en.w,O c.en.w] ph=.ok (ez 2 ((b.en.n:Int)-2).toNat,λ_=>true) ph:=
   HF (ax rfl (ax (az (ax rfl rfl) (Bx _ _)) rfl)) (by decide) (by decide) ∅ (by cases b.en <;> simp[En.n])
  have LA:=he;generalize c.en=ce at iO LA ⊢;subst LA;cases gm:b.en with
  | go t=>exact(hg t gm).elim
  | iff v a a2=>
   rw[gm] at iO;have key:=iW [(2,a),(3,a2)] (λx:Nat×Nat=>W.int x.1) (cap:=[Z,O 6,O 7]) (g:=gN 0) (c:=cF) (e:=bp (ae (bp (ae (ab af (aa 1) (aa 0)) (ae {0} ag))) (ae (bp (ae (ab af (aa 2) (aa 0)) (ae {0} ag))) ag))) iO (λ_ _=>rfl) (show 2<=abd by decide)
    (λx=>O (b7 ((x.2,0),(g x.2,0)))) (λσ=>∃o,σ=[o,O (En.iff v a a2).w,O ((En.iff v a a2).mp g).w]) ⟨Z,rfl⟩
    (λx hx σ H zz y=>by
     obtain⟨o,rfl⟩:=zz
     rcases abk.mp hx with rfl | hx
     ·exact⟨_,rfl,⟨_,rfl⟩,true,H,rfl,Ex.refl _,.inr ⟨rfl,_,H,rfl,Ex.refl _,rfl⟩⟩
     ·rw[aaT.mp hx];exact⟨_,rfl,⟨_,rfl⟩,true,H,rfl,Ex.refl _,.inr ⟨rfl,_,H,rfl,Ex.refl _,rfl⟩⟩)
   exact key
  | fin=>
   rw[gm] at iO;exact iW ([]:aG) (λx=>W.int x) iO (λ_ _=>rfl) (by decide) (λ_=>Z) (λ_=>True) trivial (λx hx=>nomatch hx)
 obtain⟨ph',e9,x9⟩:=tail;refine⟨↑ph,ph',?_,(Ex.one _ _).trans x9,aaN _,x9.get (bD _ _)⟩;unfold pk rC;rw[tX];refine bq (asg (x1 (Ex.refl ph) rfl rfl).1) (bq (asg (x2 (Ex.refl ph) rfl rfl).1) (bq (b8 (tF (f1 rfl rfl)) rfl) (bq (b8 (kG (f1 rfl rfl) (f2 rfl rfl)) rfl) (bq (asg (x1 (Ex.refl ph) rfl rfl).2) (bq (asg (x2 (Ex.refl ph) rfl rfl).2) (bq (b8 (kG (tB (op (ph1:=ph) (x:=w) (y:=w) ?_ ?_ (ne_self hd lT))) (tB (op (az (ax rfl rfl) (Bx _ _)) (az (ax rfl rfl) (Bx _ _)) ?_))) rfl) (br ?_)))))))
 ·exact s1
 ·exact s2
 ·rw[he,Z8];exact ne_self rfl (by simp[abe])
 ·rw[Lz] at e9;exact e9
end
noncomputable def LC(p:Ps):PyData:=.tuple [.int p.1,.int p.2]
noncomputable def LD(x:Pp):PyData:=.tuple [LC x.1,LC x.2]
theorem Jq(H:PH):∀l:List Pp,ba (dat H 39) (l.map b7)=O (l.map LD)
 | []=>rfl
 | x::l=>mc rfl (Jq H l)
theorem ne_nil{l:List Pp}(h:H[wi]? =O (.lst (l.map b7)))(hv:aa 3 σ=ay (.ref wi)):eT (ab dC (aa 3) (b9 ag)) σ H=.ok (!l.isEmpty) (H++[.lst []]):=by
 refine tB (op (x:=.ref wi) (y:=.ref ↑H) (ph1:=H) (ph2:=H++[.lst []]) (by rw[hv];rfl) rfl ?_);have e1:dat (H++[.lst []]) 40 (.ref wi)=O (.list (l.map LD)):=kf ((Ex.one _ _).get h) (Jq _ l);have e2:dat (H++[.lst []]) 40 (.ref ↑H)=O (.list []):=kf (bD H (.lst [])) rfl;unfold lift dC dS;simp only[e1,e2];cases l with
 | nil=>simp[abe,abn]
 | cons x l=>simp[abe,abn]
theorem Yw{x:W}(h:H[i]? =O (.lst (ws++[x])))(hv:aa k σ=ay (.ref i)):dW du tK (aa k) ag σ H=.ok x (H.set i (.lst ws)):=by
 rw[wQ,hv,k9,bg (r6 h),xb,k9];unfold lift tK;simp[h]
noncomputable def sc(B NB:bM)(x:Pp):List Pp:=match B[x.1.1]?,NB[x.2.1]? with
 | some b,O c=>if x.1.2<b.rs.length then[((x.1.1,x.1.2+1),(x.2.1,x.2.2+1))] else ahU (λt u=>((t,0),(u,0))) b.en.to c.en.to
 | _,_=>[]
noncomputable def n2(B NB:bM)(x:Pp):Pp:=(cf B ↑B x.1,cf NB NB.length x.2)
structure DU(B NB:bM)(R0 R:Pp->Prop)(K:Nat):Prop where
 lt:∀x,R0 x->x.1.1<↑B/\x.2.1<NB.length
 nm:∀x,R0 x->R (n2 B NB x)
 st:∀x,R x->(∃b c r,B[x.1.1]? =O b/\NB[x.2.1]? =O c/\b.rs[x.1.2]? =O r/\c.rs[x.2.2]? =O r)\/∃b c g,B[x.1.1]? =O b/\NB[x.2.1]? =O c/\x.1.2=b.rs.length/\x.2.2=c.rs.length/\(∀t,b.en≠.go t)/\c.en=b.en.mp g
 nx:∀x,R x->∀y∈sc B NB x,R0 y
 zero:R0 ((0,0),(0,0))
 top:∀M:List Pp,M.Nodup->(∀x∈M,R x)->↑M<=K
theorem By(e:En)(g:Nat->Nat):ahU (λt u=>(((t,0),(u,0)):Pp)) e.to (e.mp g).to=e.to.map λt=>((t,0),(g t,0)):=by
 cases e <;> rfl
theorem Wo(B NB:bM)(x:Pp):(sc B NB x).length<=2:=by
 unfold sc;split
 ·rename_i b c _ _;split
  ·simp
  ·rw[ahr];have:b.en.to.length<=2:=by cases b.en <;> simp[En.to]
   omega
 ·simp
variable{ni:Nat}{NB:bM}
theorem Wq{R0 R:Pp->Prop}{K:Nat}(S:DU B NB R0 R K)(hA:cx ph bi B)(hN:cx ph ni NB){x:Pp}(hx:R x):∃i ph',pk [.ref bi,.ref ni,cB x.1,cB x.2] ph=.ok (.ref i) ph'/\Ex ph ph'/\↑ph<=i/\ph'[i]? =O (.lst ((sc B NB x).map b7)):=by
 rcases S.st x hx with⟨b,c,r,h1,h2,h3,h4⟩ | ⟨b,c,g,h1,h2,h3,h4,h5,h6⟩
 ·refine⟨_,_,QU hA hN h1 h2 h3 h4,Ex.one _ _,aaN _,?_⟩;have e:sc B NB x=[((x.1.1,x.1.2+1),(x.2.1,x.2.2+1))]:=by
   unfold sc;rw[h1,h2]
   dsimp only
   rw[if_pos (aaG.mp h3).1]
  rw[e];exact bD _ _
 ·obtain⟨i,ph',e,q1,q2,q3⟩:=QV hA hN h1 h2 h3 h4 h5 h6;refine⟨i,ph',e,q1,q2,?_⟩;have e:sc B NB x=b.en.to.map λt=>((t,0),(g t,0)):=by
   unfold sc;rw[h1,h2]
   dsimp only
   rw[if_neg ∅,h6,By]
  rw[q3,e,abU];rfl
structure Wk(B NB:bM)(R0 R:Pp->Prop)(M Q:List Pp):Prop where
 q0:∀x∈Q,R0 x
 nd:M.Nodup
 ok:∀x∈M,R x
 cl:∀x∈M,∀y∈sc B NB x,n2 B NB y∈M\/y∈Q
 st:n2 B NB ((0,0),(0,0))∈M\/((0,0),(0,0))∈Q
theorem Z9{o i e:EM}{fY kK:PH}{w ow iw:W}(he:e σ ph=.ok w ph1)(ho:o σ ph1=.ok ow ph2)(hi:i σ ph2=.ok iw fY)(hs:lift (qj ow iw w) fY=.ok () kK):aK e (BP o i) σ ph=.ok (.nx σ) kK:=
 az he (az (az ho (az hi (az hs rfl))) rfl)
variable{m1 m2:Nat}
theorem Wr{K:Nat}{R0 R:Pp->Prop}(S:DU B NB R0 R K)(hK:K<=900)(hB:bZ m1 B)(dw:bZ m2 NB)(hA:cx ph bi B)(hN:cx ph ni NB):∃ph' M,z5 [.ref bi,.ref ni] ph=.ok (.ref ↑ph) ph'/\Ex ph ph'/\ph'[↑ph]? =O (.bY (cR M))/\Wk B NB R0 R M []:=by
 obtain⟨p1,lW⟩:∃p1,p1=ph++[PO.bY []]:=⟨_,rfl⟩
 have l1:↑p1=↑ph+1:=by rw[lW];simp
 have x1:Ex ph p1:=lW▸Ex.one _ _;obtain⟨p2,fG⟩:∃p2,p2=p1++[PO.lst [b7 ((0,0),(0,0))]]:=⟨_,rfl⟩
 have x2:Ex ph p2:=fG▸x1.trans (Ex.one _ _);obtain⟨aj,H',e,M,o4,o5,o6,o7,rfl,x',g1,W⟩:=wG (t:=eT (ab dC (aa 3) (b9 ag))) (b:=zG)
  (λk σ H=>∃(M Q:List Pp) (o4 o5 o6 o7:dP),σ=[⇑bi,⇑ni,⇑↑ph,⇑(↑ph+1),o4,o5,o6,o7]/\Ex ph H/\H[↑ph]? =O (.bY (cR M))/\H[↑ph+1]? =O (.lst (Q.map b7))/\Wk B NB R0 R M Q/\k=3*(K+1-↑M)+↑Q/\↑Q<=2*↑M+1)
  (λσ H=>∃(M:List Pp) (o4 o5 o6 o7:dP),σ=[⇑bi,⇑ni,⇑↑ph,⇑(↑ph+1),o4,o5,o6,o7]/\Ex ph H/\H[↑ph]? =O (.bY (cR M))/\Wk B NB R0 R M [])
  (λk σ H zz=>by
   obtain⟨M,Q,o4,o5,o6,o7,rfl,x,g1,g2,W,hk,hQ⟩:=zz;have hM:=S.top M W.nd W.ok;have et:=ne_nil (σ:=[⇑bi,⇑ni,⇑↑ph,⇑(↑ph+1),o4,o5,o6,o7]) g2 rfl
   rcases List.eq_nil_or_concat Q with rfl | ⟨Q',y,LF⟩
   ·exact .inl ⟨_,et,M,_,_,_,_,rfl,x.trans (Ex.one _ _),(Ex.one _ _).get g1,W⟩
   ·rw[List.concat_eq_append] at LF;subst LF;have et':eT (ab dC (aa 3) (b9 ag)) [⇑bi,⇑ni,⇑↑ph,⇑(↑ph+1),o4,o5,o6,o7] H=.ok true (H++[.lst []]):=by rw[et];simp
    refine .inr ⟨_,et',?_⟩;obtain⟨H1,aw⟩:∃H1,H1=H++[PO.lst []]:=⟨_,rfl⟩
    have x1':Ex ph H1:=aw▸x.trans (Ex.one _ _);have uU:H1[↑ph]? =O (.bY (cR M)):=by rw[aw];exact(Ex.one _ _).get g1
    have uR:H1[↑ph+1]? =O (.lst (Q'.map b7++[b7 y])):=by rw[aw];exact(Ex.one _ _).get (by rw[g2,abZ];rfl)
    rw[<- aw];obtain⟨H2,aR⟩:∃H2,H2=H1.set (↑ph+1) (.lst (Q'.map b7)):=⟨_,rfl⟩
    have zj:Ex ph H2:=aR▸Ex.set x1' ∅ _;have a1:H2[↑ph]? =O (.bY (cR M)):=by rw[aR,dA ∅];exact uU
    have a2:H2[↑ph+1]? =O (.lst (Q'.map b7)):=by rw[aR];exact fS uR
    have zk:R0 y:=W.q0 y (by simp);obtain⟨DV,y4⟩:=S.lt y zk;obtain⟨z,hz⟩:∃z,z=n2 B NB y:=⟨_,rfl⟩
    have DW:R z:=hz▸S.nm y zk;have s1:=asg (i:=4) (Yw (k:=3) (σ:=[⇑bi,⇑ni,⇑↑ph,⇑(↑ph+1),o4,o5,o6,o7]) uR rfl);rw[<- aR] at s1;have s2:aK (bh l5 (ae (aa 0) (ae (ab af (ab af (aa 4) {0}) {0}) (ae (ab af (ab af (aa 4) {0}) {1}) ag)))) (gN 5) [⇑bi,⇑ni,⇑↑ph,⇑(↑ph+1),O (b7 y),o5,o6,o7] H2=.ok (.nx [⇑bi,⇑ni,⇑↑ph,⇑(↑ph+1),O (b7 y),O (cB z.1),o6,o7]) H2:=by
     rw[hz];exact asg (az (ax rfl (ax rfl (ax rfl rfl))) (Bw hB (hA.mono zj) DV))
    have s3:aK (bh l5 (ae (aa 1) (ae (ab af (ab af (aa 4) {1}) {0}) (ae (ab af (ab af (aa 4) {1}) {1}) ag)))) (gN 6) [⇑bi,⇑ni,⇑↑ph,⇑(↑ph+1),O (b7 y),O (cB z.1),o6,o7] H2=.ok (.nx [⇑bi,⇑ni,⇑↑ph,⇑(↑ph+1),O (b7 y),O (cB z.1),O (cB z.2),o7]) H2:=by
     rw[hz];exact asg (az (ax rfl (ax rfl (ax rfl rfl))) (Bw dw (hN.mono zj) y4))
    have t4:eT (ab ou (bp (ae (aa 5) (ae (aa 6) ag))) (aa 2)) [⇑bi,⇑ni,⇑↑ph,⇑(↑ph+1),O (b7 y),O (cB z.1),O (cB z.2),o7] H2=.ok (!decide (z∈M)) H2:=tB (op (x:=b7 z) rfl rfl (Ta a1 z));unfold zG;by_cases hm:z∈M
    ·rw[a6 hm] at t4;refine⟨_,_,sq s1 (sq s2 (sq s3 (b8 t4 rfl))),_,.inl rfl,3*(K+1-↑M)+↑Q',?_,M,Q',_,_,_,_,rfl,zj,a1,a2,⟨λx hx=>W.q0 x (by simp[hx]),W.nd,W.ok,λx hx u hu=>?_,?_⟩,rfl,?_⟩
     ·rw[hk];simp
     ·rcases W.cl x hx u hu with h | h
      ·exact .inl h
      ·rcases abF.mp h with h | h
       ·exact .inr h
       ·rw[aaT.mp h,<- hz];exact .inl hm
     ·rcases W.st with h | h
      ·exact .inl h
      ·rcases abF.mp h with h | h
       ·exact .inr h
       ·rw[aaT.mp h,<- hz];exact .inl hm
     ·simp at hQ;omega
    ·rw[bU hm] at t4;have LG:(M++[z]).Nodup:=by
      rw[adm];exact⟨W.nd,by simp,λa ha b hb e=>hm (by rw[<- aaT.mp hb,<- e];exact ha)⟩
     have LH:∀x∈M++[z],R x:=λx hx=>by
      rcases abF.mp hx with h | h
      ·exact W.ok x h
      ·rw[aaT.mp h];exact DW
     have LI:=S.top _ LG LH;rw[aaQ] at LI;simp only[abq,aeL] at LI;obtain⟨H3,dB⟩:∃H3,H3=H2.set ↑ph (.bY (cR (M++[z]))):=⟨_,rfl⟩
     have oY:Ex ph H3:=dB▸Ex.set zj (aaN _) _;have s5:=Z9 (o:=aa 2) (i:=bp (ae (aa 5) (ae (aa 6) ag))) (e:=eC (.bl true)) (σ:=[⇑bi,⇑ni,⇑↑ph,⇑(↑ph+1),O (b7 y),O (cB z.1),O (cB z.2),o7]) (ph:=H2) (iw:=b7 z) rfl rfl rfl (Tc a1 hm ∅);rw[<- dB] at s5;obtain⟨i,H4,e6,x4,hi,q4⟩:=Wq S (hA.mono oY) (hN.mono oY) DW;have b1:H4[↑ph]? =O (.bY (cR (M++[z]))):=x4.get (by rw[dB];exact fS a1);have b2:H4[↑ph+1]? =O (.lst (Q'.map b7)):=x4.get (by rw[dB,dA ∅];exact a2);have Dk:↑ph+1<↑H3:=by rw[dB,aby];exact iC a2
     have aU:=Wo B NB z;simp at hQ;have s8:=ext (o:=aa 3) (e:=aa 7) (σ:=[⇑bi,⇑ni,⇑↑ph,⇑(↑ph+1),O (b7 y),O (cB z.1),O (cB z.2),⇑i]) rfl ⟨_,b2⟩ rfl b2 q4 (by rw[aaI,aaI];omega);refine⟨_,_,sq s1 (sq s2 (sq s3 (eV t4 (sq s5 (sq (asg (az (ax rfl (ax rfl (ax rfl (ax rfl rfl)))) e6)) (sq (b8 rfl rfl) s8)))))),_,.inl rfl,3*(K+1-(M++[z]).length)+(Q'++sc B NB z).length,?_,M++[z],Q'++sc B NB z,_,_,_,_,rfl,Ex.set (oY.trans x4) ∅ _,?_,?_,⟨λx hx=>?_,LG,LH,λx hx u hu=>?_,?_⟩,rfl,?_⟩
     ·rw[hk];simp;omega
     ·rw[dA ∅];exact b1
     ·rw[fS b2,abZ]
     ·rcases abF.mp hx with h | h
      ·exact W.q0 x (by simp[h])
      ·exact S.nx z DW x h
     ·rcases abF.mp hx with h | h
      ·rcases W.cl x h u hu with h' | h'
       ·exact .inl (abQ _ h')
       ·rcases abF.mp h' with h' | h'
        ·exact .inr (abQ _ h')
        ·rw[aaT.mp h',<- hz];exact .inl (by simp)
      ·rw[aaT.mp h] at hu;exact .inr (abJ _ hu)
     ·rcases W.st with h' | h'
      ·exact .inl (abQ _ h')
      ·rcases abF.mp h' with h' | h'
       ·exact .inr (abQ _ h')
       ·rw[aaT.mp h',<- hz];exact .inl (by simp)
     ·simp;omega)
  (3*(K+1)+1) [⇑bi,⇑ni,⇑↑ph,⇑(↑ph+1),Z,Z,Z,Z] p2
  ⟨[],[((0,0),(0,0))],Z,Z,Z,Z,rfl,x2,by rw[fG,lW];exact(Ex.one _ _).get (bD _ _),by rw[fG,<- l1];exact bD _ _,⟨λx hx=>by rw[aaT.mp hx];exact S.zero,aet,λ_ h=>(nomatch h),λ_ h=>(nomatch h),.inr (by simp)⟩,by simp,by simp⟩
 refine⟨H',M,?_,x',g1,W⟩;unfold z5 wC;rw[tW];refine bq (ph1:=p1) (asg (by rw[lW];rfl)) (bq (ph1:=p2) (asg (w:=.ref (↑ph+1)) (by rw[fG,<- l1];rfl)) (bq e (br rfl)))
theorem FA{M:List Pp}{f:Pp->W}{m:EM}{cap:eO}{g:GM}{e:EM}(hm:m σ ph=.ok (.ref i) ph)(hd:ph[i]? =O (.bY (cR M)))(hz:↑M<=1000)(S:aO->Prop)(h0:S (gy cap σ))(step:∀x∈M,∀σ H,S σ->∃σ1,g (b7 x) σ H=.ok σ1 H/\S σ1/\e σ1 H=.ok (f x) H):mm m cap g cF e σ ph=.ok (.ref ↑ph) (ph++[.lst (M.map f)]):=by
 have hi:i<↑ph:=iC hd;have Lf:↑M<=sizeLine:=abw hz (by decide);unfold mm;rw[bg hm];simp only[sW hd];have hl:(ph.set i (.ft (cR M))).length=↑ph:=aby ..;have key:=rL (chk:=λ_=>true) (g:=g) (c:=cF) (e:=e) ↑ph (λk acc σ H=>S σ/\acc=(M.take k).map f/\H=ph.set i (.ft (cR M))++[.lst acc]) (lr (cR M)) 0 [] (gy cap σ) (ph.set i (.ft (cR M))++[.lst []])
  (λ_ _ _ _ _=>rfl)
  (λj y acc σ H hj hI=>by
   rw[acf] at hI ⊢;obtain⟨hS,ha,rfl⟩:=hI;unfold lr cR at hj;rw[abU,aaK] at hj;cases hx:M[j]? with
   | none=>rw[hx] at hj;cases hj
   | some x=>
    rw[hx] at hj;cases hj;obtain⟨dc,hjx⟩:=aaG.mp hx;obtain⟨σ1,e1,ij,e3⟩:=step x (hjx▸List.getElem_mem dc) σ (ph.set i (.ft (cR M))++[.lst acc]) hS;have oh:↑acc=j:=by rw[ha,aaI,adx];omega
    refine⟨σ1,_,e1,true,_,rfl,.inr ⟨rfl,f x,_,e3,?_,∅,ij,?_,?_⟩⟩
    ·rw[<- hl];exact bD _ _
    ·rw[ha,List.take_add_one,hx];simp
    ·rw[<- hl];simp) ⟨h0,by simp,rfl⟩
 obtain⟨acc,aj,ph',e1,_,ha,rfl⟩:=key;have hit:(lr (cR M)).length=↑M:=by unfold lr cR;simp
 rw[hit,acf,acC] at ha;rw[bg e1];unfold BS;have hg:(ph.set i (.ft (cR M))++[PO.lst acc])[i]? =O (.ft (cR M)):=by
  rw[abm (by rw[hl];exact hi),abL hi]
 rw[if_pos hg,List.set_append_left _ _ (by rw[hl];exact hi),ahT,ha,set_same hd]
noncomputable def lP(p:Ps):bI:=[(p.1:Int),(p.2:Int)]
noncomputable def hR(z:Int):Nat:=(z % 1048573).toNat
noncomputable def hK(p:Ps):Nat:=hR (iB (lP p))
noncomputable def jr:List Ps:=(abp 14).flatMap λa=>(abp 58).map λb=>(a,b)
noncomputable def xy:Nat->List Nat->Bool
 | _,[]=>true
 | s,x::l=>(s >>> x) % 2==0&&xy (s ||| (1 <<< x)) l
theorem QW:xy 0 (jr.map hK)=true:=⋯
theorem aaa(s x:Nat):((s >>> x) % 2==0)= !s.testBit x:=by
 rw[Nat.testBit_eq_decide_div_mod_eq,Nat.shiftRight_eq_div_pow,acH,beq_iff_eq,Bool.not_eq_true',decide_eq_false_iff_not];omega
theorem FC:∀(l:aG) (s:Nat),xy s l=true->l.Nodup/\∀x∈l,s.testBit x=false
 | [],_,_=>⟨aet,λ_ h=>nomatch h⟩
 | x::l,s,h=>by
  unfold xy at h;rw[aaZ,aaa] at h;obtain⟨h1,h2⟩:=h;obtain⟨q1,q2⟩:=FC l _ h2;have hx:s.testBit x=false:=by simpa using h1
  have q3:∀y∈l,s.testBit y=false/\x≠y:=λy hy=>by
   have:=q2 y hy;rw[Nat.testBit_or,Bool.or_eq_false_iff,Nat.one_shiftLeft,Nat.testBit_two_pow] at this;exact⟨this.1,by simpa using this.2⟩
  refine⟨abY.mpr ⟨λhm=>(q3 x hm).2 rfl,q1⟩,λy hy=>?_⟩
  rcases abk.mp hy with rfl | hy
  ·exact hx
  ·exact(q3 y hy).1
variable{p:Ps}
theorem G6(h1:p.1<14)(h2:p.2<58):p∈jr:=by
 unfold jr;rw[afo];exact⟨p.1,abv.mpr h1,aaX.mpr ⟨p.2,abv.mpr h2,rfl⟩⟩
theorem Ws{f:α->Nat}{D:List α}(nd:(D.map f).Nodup){p q:α}(hp:p∈D)(hq:q∈D)(h:f p=f q):p=q:=by
 obtain⟨i,hi⟩:=abb.mp hp;obtain⟨j,hj⟩:=abb.mp hq;have e1:(D.map f)[i]? =O (f p):=by rw[aaK,hi,abH]
 have e2:(D.map f)[j]? =O (f p):=by rw[aaK,hj,h,abH]
 have:=(adR (aaG.mp e1).1 nd).mp (e1.trans e2.symm);subst this;rw[hi] at hj;exact abE hj
theorem Wt:(jr.map hK).Nodup:=(FC _ _ QW).1
theorem Wu{q:Ps}(hp:p∈jr)(hq:q∈jr)(h:hK p=hK q):p=q:=Ws Wt hp hq h
theorem Td{q:Ps}(hp:p∈jr)(hq:q∈jr)(h:p≠q):iB (lP p)≠iB (lP q):=λe=>h (Wu hp hq (congrArg hR e))
theorem Bz{f:α->β}{l:List α}(hn:l.Nodup)(h:∀p∈l,∀q∈l,p≠q->f p≠f q):(l.map f).Nodup:=by
 refine agn _ (R:=λp q=>p≠q/\p∈l/\q∈l) (λp q z=>h p z.2.1 q z.2.2 z.1) ?_;exact List.Pairwise.imp_of_mem (λ{a b} ha hb h=>⟨h,ha,hb⟩) hn
theorem Te{γ:Type}(f:α->β)(g:β->γ){l:List α}(hn:l.Nodup)(h:∀p∈l,∀q∈l,p≠q->g (f p)≠g (f q)):((l.map f).map g).Nodup:=by
 rw[abU];exact Bz hn h
theorem Tf{l:List Ps}(hn:l.Nodup)(hd:∀p∈l,p∈jr):((l.map lP).map iB).Nodup:=Te lP iB hn λp hp q hq h=>Td (hd p hp) (hd q hq) h
theorem Il:∀l:List Ps,ba BU (l.map cB)=O (l.map lP)
 | []=>rfl
 | x::l=>mc rfl (Il l)
theorem Gq{l:List Ps}(h:H[i]? =O (.lst (l.map cB)))(hn:l.Nodup)(hd:∀p∈l,p∈jr)(hz:↑l<77):lift (xi (.ref i)) H=.ok (.int (↑l:Int)) H:=by
 unfold lift xi;simp only[h,Il];rw[if_pos ⟨by rw[aaI];exact hz,Tf hn hd⟩,aaI]
noncomputable def em(B:bM)(k:Nat):Prop:=∃t,B[k]? =O ⟨[],.go t⟩
theorem eY{B:bM}{p:Ps}(h:eD B p=p):∀n,cf B n p=p
 | 0=>rfl
 | n+1=>by unfold cf;rw[h];exact eY h n
theorem G7(B:bM):∀(m n:Nat) (p:Ps),cf B (m+n) p=cf B n (cf B m p)
 | 0,n,p=>by rw[acf];rfl
 | m+1,n,p=>by rw[aec];exact G7 B m n (eD B p)
theorem xA{n:Nat}{z:Ps}(h:cf B m p=z)(hz:eD B z=z)(hm:m<=n):cf B n p=z:=by
 obtain⟨d,rfl⟩:=Nat.exists_eq_add_of_le hm;rw[G7,h,eY hz]
theorem tj(h:¬em B z):eD B (z,0)=(z,0):=by
 unfold eD;split
 ·rename_i rs t hb;split
  ·rename_i hr;exact(h ⟨t,by rw[hb,adb hr.symm]⟩).elim
  ·rfl
 ·rfl
theorem Im(h:B[k]? =O ⟨[],.go t⟩):eD B (k,0)=(t,0):=by
 unfold eD;rw[h];rfl
theorem Io{f:Nat}(h:B[k]? =O ⟨[],.go t⟩):cH B (f+1) k=cH B f t:=by
 conv=>lhs;unfold cH
 rw[h]
theorem Ip{f:Nat}(h:¬em B k):cH B f k=k:=by
 cases f with
 | zero=>rfl
 | succ f=>
  unfold cH;split
  ·rename_i j hb;exact(h ⟨j,hb⟩).elim
  ·rfl
theorem Iq{B:bM}(hF:fN B):∀(d t:Nat),↑B-t<=d->t<↑B->∃(l:aG) (z:Nat),cf B ↑l (t,0)=(z,0)/\¬em B z/\z<↑B/\l.Nodup/\(∀x∈l,em B x/\t<=x/\x<↑B)/\∀f,↑l<=f->cH B f t=z
 | 0,t,hd,ht=>by omega
 | d+1,t,hd,ht=>by
  by_cases he:em B t
  ·obtain⟨u,hu⟩:=he;obtain⟨DX,h⟩:=hF t _ hu u (by simp[En.to]);by_cases DY:em B u
   ·have htu:t<u:=by
     rcases h with h | ⟨c,hc,rs,j0⟩ | ⟨rs,j0⟩
     ·exact h
     ·obtain⟨v,hv⟩:=DY;rw[hv] at hc;cases hc;cases j0
     ·cases j0
    obtain⟨l,z,q1,q2,q3,q4,q5,q6⟩:=Iq hF d u ∅ DX;refine⟨t::l,z,?_,q2,q3,abY.mpr ⟨λhm=>by have:=(q5 t hm).2.1;omega,q4⟩,λx hx=>?_,λf hf=>?_⟩
    ·rw[abq];unfold cf;rw[Im hu];exact q1
    ·rcases abk.mp hx with rfl | hx
     ·exact⟨⟨u,hu⟩,aaN _,ht⟩
     ·obtain⟨a,b,c⟩:=q5 x hx;exact⟨a,∅,c⟩
    ·rw[abq] at hf;obtain⟨f,rfl⟩:∃f',f=f'+1:=⟨f-1,∅⟩
     rw[Io hu];exact q6 f ∅
   ·refine⟨[t],u,?_,DY,DX,by simp,λx hx=>?_,λf hf=>?_⟩
    ·show cf B 1 (t,0)=_;unfold cf cf;exact Im hu
    ·rw[aaT.mp hx];exact⟨⟨u,hu⟩,aaN _,ht⟩
    ·simp at hf
     obtain⟨f,rfl⟩:∃f',f=f'+1:=⟨f-1,∅⟩
     rw[Io hu,Ip DY]
  ·exact⟨[],t,rfl,he,ht,aet,λ_ h=>(nomatch h),λf _=>Ip he⟩
theorem lead(hF:fN B)(ht:t<↑B):∃m,m+1<=↑B/\cf B m (t,0)=(cH B ↑B t,0)/\¬em B (cH B ↑B t)/\cH B ↑B t<↑B:=by
 obtain⟨l,z,q1,q2,q3,q4,q5,q6⟩:=Iq hF _ t (aaN _) ht;have nd:(z::l).Nodup:=abY.mpr ⟨λhm=>q2 (q5 z hm).1,q4⟩;have hl:(z::l).length<=↑B:=iV nd λx hx=>by
  rcases abk.mp hx with rfl | hx
  ·exact q3
  ·exact(q5 x hx).2.2
 rw[abq] at hl;have e:=q6 ↑B ∅;rw[e];exact⟨↑l,hl,q1,q2,q3⟩
theorem Ir(hF:fN B){rs:List Row}(hb:B[k]? =O ⟨rs,.go t⟩)(ht:t<↑B):cf B ↑B (k,↑rs)=(cH B ↑B t,0):=by
 obtain⟨m,hm,h1,h2,_⟩:=lead hF ht;refine xA (m:=m+1) ?_ (tj h2) hm;have:eD B (k,↑rs)=(t,0):=by
  unfold eD;rw[hb]
  dsimp only
  rw[if_pos rfl]
 unfold cf;rw[this];exact h1
theorem BZ(hF:fN B)(ht:t<↑B):cf B ↑B (t,0)=(cH B ↑B t,0):=by
 obtain⟨m,hm,h1,h2,_⟩:=lead hF ht;exact xA h1 (tj h2) ∅
theorem se{b:dj}(hb:B[k]? =O b)(hi:i<b.rs.length):eD B (k,i)=(k,i):=by
 unfold eD;rw[hb];obtain⟨rs,en⟩:=b;cases en with
 | go t=>dsimp only;rw[if_neg (λe=>by simp only at hi;omega)]
 | iff v a c=>rfl
 | fin=>rfl
theorem sg{b:dj}(hb:B[k]? =O b)(hg:∀t,b.en≠.go t):eD B (k,i)=(k,i):=by
 unfold eD;rw[hb];obtain⟨rs,en⟩:=b;cases en with
 | go t=>exact(hg t rfl).elim
 | iff v a c=>rfl
 | fin=>rfl
theorem kc(B:bM)(l1 l2:aG):rowsOf B (l1++l2)=rowsOf B l1++rowsOf B l2:=by unfold rowsOf;rw[afF]
theorem ju{b:dj}(h:B[k]? =O b)(l:aG):rowsOf B (k::l)=b.rs++rowsOf B l:=by
 unfold rowsOf;rw[adn,h]
theorem tm(e:En)(f g:Nat->Nat):(e.mp f).mp g=e.mp λt=>g (f t):=by cases e <;> rfl
theorem xS{e:En}{f:Nat->Nat}(h:e.mp f=.go t):∃u,e=.go u/\f u=t:=by
 cases e with
 | go u=>cases h;exact⟨u,rfl,rfl⟩
 | iff v a c=>cases h
 | fin=>cases h
abbrev hd2(B:bM)(L:List Nd)(t:Nat):Nat:=(LB B L).idxOf t
abbrev led(B:bM)(t:Nat):Nat:=cH B ↑B t
structure At(B:bM)(D:List JD)(x:Pp)(d:JD)(l1 l2:aG)(b:dj):Prop where
 hd:D[x.2.1]? =O d
 hl:d.l=l1++x.1.1::l2
 hb:B[x.1.1]? =O b
 hq:x.2.2=(rowsOf B l1).length+x.1.2
noncomputable def R(B:bM)(D:List JD)(x:Pp):Prop:=∃d l1 l2 b,At B D x d l1 l2 b/\(x.1.2<b.rs.length\/(x.1.2=b.rs.length/\l2=[]/\∀t,b.en≠.go t))
noncomputable def R0(B:bM)(L:List Nd)(D:List JD)(x:Pp):Prop:=(∃d l1 l2 b,At B D x d l1 l2 b/\x.1.2<=b.rs.length)\/(x.1.2=0/\x.2.2=0/\x.1.1<↑B/\led B x.1.1∈LB B L/\x.2.1=hd2 B L (led B x.1.1))
section
variable{B:bM}{L:List Nd}{D:List JD}
variable{d:JD}
theorem hX{j:Nat}(h:D[j]? =O d):(aW B L D)[j]? =O ⟨rowsOf B d.l,d.e.mp (hd2 B L)⟩:=by
 unfold aW;rw[aaK,h];rfl
theorem sh{E:List En}:∀{l1:aG} {k j:Nat} {l2:aG},Way E (l1++k::j::l2)->E[k]? =O (.go j)
 | [],_,_,_,h=>h.1
 | [_],_,_,_,h=>h.2.1
 | _::y::l1,_,_,_,h=>sh (l1:=y::l1) h.2
theorem At.last{x:Pp}{l1:aG}{b:dj}(T:TD B L D)(a:At B D x d l1 [] b):d.e=b.en.mp (led B):=by
 obtain⟨k,z,h1,h2,h3,h4,h5⟩:=T.at_ _ _ a.hd;rw[a.hl,List.getLast?_append] at h3;simp at h3;subst h3;rw[pB a.hb] at h4;exact(abE h4).symm
theorem A3(T:TD B L D){t:Nat}(ht:t∈LB B L):∃d l2,D[hd2 B L t]? =O d/\d.l=t::l2:=by
 have hi:=adt ht;obtain⟨d,hd⟩:∃d,D[hd2 B L t]? =O d:=bo (by rw[T.len];exact hi);obtain⟨k,z,h1,h2,_⟩:=T.at_ _ _ hd;have e:(LB B L)[hd2 B L t]? =O t:=by rw[abP hi,List.getElem_idxOf]
 rw[e] at h1;cases h1;have:=h2.hd;cases hl:d.l with
 | nil=>rw[hl] at this;cases this
 | cons a l2=>rw[hl] at this;cases this;exact⟨d,l2,hd,hl⟩
theorem xT(T:TD B L D){j k:Nat}{l1 l2:aG}{b:dj}(hd:D[j]? =O d)(hl:d.l=l1++k::l2)(hb:B[k]? =O b)(he:¬em B k):R B D ((k,0),(j,(rowsOf B l1).length))/\eD (aW B L D) (j,(rowsOf B l1).length)=(j,(rowsOf B l1).length):=by
 obtain⟨k0,z,h1,h2,h3,h4,h5⟩:=T.at_ _ _ hd;have a:At B D ((k,0),(j,(rowsOf B l1).length)) d l1 l2 b:=⟨hd,hl,hb,rfl⟩
 by_cases hr:0<b.rs.length
 ·refine⟨⟨d,l1,l2,b,a,.inl hr⟩,se (hX hd) ?_⟩;show(rowsOf B l1).length<(rowsOf B d.l).length;rw[hl,kc,ju hb,aaQ,aaQ];omega
 ·have qP:b.rs=[]:=adb ∅;have hg:∀t,b.en≠.go t:=λt e=>he ⟨t,by rw[hb,<- qP,<- e]⟩
  have fF:l2=[]:=by
   cases l2 with
   | nil=>rfl
   | cons y l2=>
    have:=h2.way;rw[hl] at this;have:=sh this;rw[pB hb] at this;obtain⟨u,hu,_⟩:=xS (abE this);exact(hg u hu).elim
  subst fF;refine⟨⟨d,l1,[],b,a,.inr ⟨by rw[qP];rfl,rfl,hg⟩⟩,sg (hX hd) λt e=>?_⟩;have e:d.e.mp (hd2 B L)=.go t:=e;rw[a.last T,tm] at e;obtain⟨u,hu,_⟩:=xS e;exact hg u hu
theorem sj(T:TD B L D){t:Nat}(ht:t∈LB B L)(hl:t<↑B)(he:¬em B t):R B D ((t,0),(hd2 B L t,0))/\eD (aW B L D) (hd2 B L t,0)=(hd2 B L t,0):=by
 obtain⟨d,l2,h1,h2⟩:=A3 T ht;obtain⟨b,hb⟩:∃b,B[t]? =O b:=bo hl;exact xT T (l1:=[]) h1 h2 hb he
end
section
variable{B:bM}{L:List Nd}{D:List JD}{m1 m2:Nat}
theorem At.nil{x:Pp}{d:JD}{l1 l2:aG}{b:dj}(T:TD B L D)(a:At B D x d l1 l2 b)(hg:∀t,b.en≠.go t):l2=[]:=by
 obtain⟨k0,z,h1,h2,h3,h4,h5⟩:=T.at_ _ _ a.hd;cases l2 with
 | nil=>rfl
 | cons y l2=>
  have:=h2.way;rw[a.hl] at this;have:=sh this;rw[pB a.hb] at this;obtain⟨u,hu,_⟩:=xS (abE this);exact(hg u hu).elim
theorem At.DZ{x:Pp}{d:JD}{l1:aG}{b:dj}(T:TD B L D)(a:At B D x d l1 [] b)(hg:∀t,b.en≠.go t)(t:Nat):d.e.mp (hd2 B L)≠.go t:=λe=>by
 rw[a.last T,tm] at e;obtain⟨u,hu,_⟩:=xS e;exact hg u hu
theorem Iu{NB:bM}{j q t:Nat}{rs:List Row}(h:NB[j]? =O ⟨rs,.go t⟩)(hq:q=↑rs):eD NB (j,q)=(t,0):=by
 unfold eD;rw[h]
 dsimp only
 rw[if_pos hq]
theorem Yx(T:TD B L D)(hB:bZ m1 B)(hF:fN B)(dw:bZ m2 (aW B L D)){x:Pp}(h:R0 B L D x):R B D (n2 B (aW B L D) x):=by
 obtain⟨⟨k,i⟩,j,q⟩:=x;unfold n2
 rcases h with⟨d,l1,l2,b,a,hi⟩ | ⟨h1,h2,h3,h4,h5⟩
 ·have hq:q=(rowsOf B l1).length+i:=a.hq;have d3:B[k]? =O b:=a.hb;have gF:D[j]? =O d:=a.hd;have iN:d.l=l1++k::l2:=a.hl;have hi:i<=b.rs.length:=hi;by_cases cJ:i<b.rs.length
  ·rw[eY (se d3 cJ),eY (se (hX gF) (by
    show q<(rowsOf B d.l).length;rw[iN,kc,ju d3,aaQ,aaQ];omega))]
   exact⟨d,l1,l2,b,a,.inl cJ⟩
  ·have fZ:i=b.rs.length:=by omega
   by_cases hg:∀t,b.en≠.go t
   ·have:=a.nil T hg;subst this;rw[eY (sg d3 hg),eY (sg (hX gF) (a.DZ T hg))];exact⟨d,l1,[],b,a,.inr ⟨fZ,rfl,hg⟩⟩
   ·obtain⟨t,ht⟩:∃t,b.en=.go t:=aga λn=>hg λt e=>n ⟨t,e⟩
    have qJ:B[k]? =O ⟨b.rs,.go t⟩:=by rw[d3,<- ht]
    have oZ:t<↑B:=hB.lt k _ qJ t (by simp[En.to]);obtain⟨_,_,_,he,fJ⟩:=lead hF oZ;have e1:cf B ↑B (k,i)=(led B t,0):=by rw[fZ];exact Ir hF qJ oZ
    rw[e1];cases l2 with
    | nil=>
     have uX:d.e=.go (led B t):=by rw[a.last T,ht];rfl
     have iP:led B t∈LB B L:=T.uQ j d gF _ (by rw[uX];simp[En.to]);have hn:(aW B L D)[j]? =O ⟨rowsOf B d.l,.go (hd2 B L (led B t))⟩:=by rw[hX gF,uX];rfl
     obtain⟨r1,r2⟩:=sj T iP fJ he;have e2:cf (aW B L D) (aW B L D).length (j,q)=(hd2 B L (led B t),0):=by
      refine xA (m:=1) ?_ r2 dw.pos;unfold cf cf;refine Iu hn ?_;rw[iN,kc,ju d3,aaQ,aaQ];show q=_+(_+0);omega
     rw[e2];exact r1
    | cons y l2=>
     obtain⟨k0,z,_,j2,_⟩:=T.at_ _ _ gF;have hw:=j2.way;rw[iN] at hw;have hw:=sh hw;rw[pB d3,ht] at hw;have hy:led B t=y:=by
      have:=abE hw;cases this;rfl
     obtain⟨by_,zl⟩:∃b,B[y]? =O b:=bo (hy▸fJ);have yt:d.l=(l1++[k])++y::l2:=by rw[iN];simp
     obtain⟨r1,r2⟩:=xT T gF yt zl (hy▸he);have uY:q=(rowsOf B (l1++[k])).length:=by
      rw[kc,ju d3,aaQ,aaQ];show q=_+(_+0);omega
     rw[uY,eY r2,hy];exact r1
 ·have h3:k<↑B:=h3;obtain⟨_,_,_,he,fJ⟩:=lead hF h3;obtain⟨r1,r2⟩:=sj T h4 fJ he;rw[show i=0 from h1,show q=0 from h2,show j=hd2 B L (led B k) from h5,BZ hF h3,eY r2];exact r1
theorem Kb(T:TD B L D){x:Pp}(h:R B D x):(∃b c r,B[x.1.1]? =O b/\(aW B L D)[x.2.1]? =O c/\b.rs[x.1.2]? =O r/\c.rs[x.2.2]? =O r)\/∃b c g,B[x.1.1]? =O b/\(aW B L D)[x.2.1]? =O c/\x.1.2=b.rs.length/\x.2.2=c.rs.length/\(∀t,b.en≠.go t)/\c.en=b.en.mp g:=by
 obtain⟨d,l1,l2,b,a,hc⟩:=h
 rcases hc with cJ | ⟨he,rfl,hg⟩
 ·obtain⟨r,hr⟩:∃r,b.rs[x.1.2]? =O r:=bo cJ;refine .inl ⟨b,_,r,a.hb,hX a.hd,hr,?_⟩;show(rowsOf B d.l)[x.2.2]? =O r;rw[a.hl,kc,ju a.hb,a.hq,aen ∅,Nat.add_sub_cancel_left,abm cJ];exact hr
 ·refine .inr ⟨b,_,λt=>hd2 B L (led B t),a.hb,hX a.hd,he,?_,hg,?_⟩
  ·show x.2.2=(rowsOf B d.l).length;rw[a.hl,kc,ju a.hb,aaQ,aaQ,a.hq];show _=_+(_+0);omega
  ·show d.e.mp (hd2 B L)=_;rw[a.last T,tm]
end
section
variable{B:bM}{L:List Nd}{D:List JD}{m1 m2:Nat}
theorem lu(e:En)(f:Nat->Nat):(e.mp f).to=e.to.map f:=by cases e <;> rfl
theorem aab(T:TD B L D)(hB:bZ m1 B){x:Pp}(h:R B D x){y:Pp}(hy:y∈sc B (aW B L D) x):R0 B L D y:=by
 obtain⟨d,l1,l2,b,a,hc⟩:=h;unfold sc at hy;rw[a.hb,hX a.hd] at hy
 dsimp only at hy
 rcases hc with cJ | ⟨he,rfl,hg⟩
 ·rw[if_pos cJ] at hy;rw[aaT.mp hy];refine .inl ⟨d,l1,l2,b,⟨a.hd,a.hl,a.hb,?_⟩,cJ⟩;show x.2.2+1=_+(x.1.2+1);rw[a.hq];omega
 ·rw[if_neg ∅,a.last T,tm,By] at hy;obtain⟨t,ht,rfl⟩:=aaX.mp hy;refine .inr ⟨rfl,rfl,hB.lt _ _ a.hb t ht,T.uQ _ _ a.hd _ ?_,rfl⟩;rw[a.last T,lu];exact acb ht
theorem A4(T:TD B L D)(hB:bZ m1 B):(LB B L)[0]? =O 0:=QQ hB.pos (hU.mp T.wi.zero.1).2 T.wi.zero.2
theorem Wv(T:TD B L D)(hB:bZ m1 B):R0 B L D ((0,0),(0,0)):=by
 have h0:=A4 T hB;obtain⟨d,hd⟩:∃d,D[0]? =O d:=bo (by rw[T.len];exact(aaG.mp h0).1);obtain⟨k,z,q1,q2,_⟩:=T.at_ 0 d hd;rw[h0] at q1;cases q1;have hh:=q2.hd;obtain⟨b,hb⟩:∃b,B[0]? =O b:=bo hB.pos;cases hl:d.l with
 | nil=>rw[hl] at hh;cases hh
 | cons a l2=>
  rw[hl] at hh;cases hh;exact .inl ⟨d,[],l2,b,⟨hd,hl,hb,rfl⟩,aca _⟩
theorem sE:(aW B L D).length=↑D:=by unfold aW;rw[aaI]
theorem Yy(T:TD B L D){x:Pp}(h:R0 B L D x):x.1.1<↑B/\x.2.1<(aW B L D).length:=by
 rw[sE]
 rcases h with⟨d,l1,l2,b,a,_⟩ | ⟨_,_,h3,h4,h5⟩
 ·exact⟨(aaG.mp a.hb).1,(aaG.mp a.hd).1⟩
 ·exact⟨h3,by rw[h5,T.len];exact adt h4⟩
theorem Jr(T:TD B L D):(LB B L).Nodup:=adF _ T.wi.nd
theorem A5(T:TD B L D):∀(i i' j j' k:Nat) (d d':JD),D[j]? =O d->D[j']? =O d'->d.l[i]? =O k->d'.l[i']? =O k->j=j'/\i=i'
 | 0,0,j,j',k,d,d',h1,h2,h3,h4=>by
  obtain⟨a,z,q1,q2,_⟩:=T.at_ _ _ h1;obtain⟨a',z',uZ,m5,_⟩:=T.at_ _ _ h2;rw[q2.hd] at h3;rw[m5.hd] at h4;cases h3;cases h4;exact⟨(adR (aaG.mp q1).1 (Jr T)).mp (q1.trans uZ.symm),rfl⟩
 | 0,n+1,j,j',k,d,d',h1,h2,h3,h4=>by
  obtain⟨a,z,q1,q2,_⟩:=T.at_ _ _ h1;obtain⟨a',z',uZ,m5,_⟩:=T.at_ _ _ h2;rw[q2.hd] at h3;cases h3;exact((nF.mp (aaL q1)).2 (m5.wt n _ h4)).elim
 | n+1,0,j,j',k,d,d',h1,h2,h3,h4=>by
  obtain⟨a,z,q1,q2,_⟩:=T.at_ _ _ h1;obtain⟨a',z',uZ,m5,_⟩:=T.at_ _ _ h2;rw[m5.hd] at h4;cases h4;exact((nF.mp (aaL uZ)).2 (q2.wt n _ h3)).elim
 | i+1,n+1,j,j',k,d,d',h1,h2,h3,h4=>by
  obtain⟨a,z,q1,q2,_⟩:=T.at_ _ _ h1;obtain⟨a',z',uZ,m5,_⟩:=T.at_ _ _ h2;obtain⟨p,hp⟩:∃p,d.l[i]? =O p:=bo (by have:=(aaG.mp h3).1;omega);obtain⟨p',qz⟩:∃p,d'.l[n]? =O p:=bo (by have:=(aaG.mp h4).1;omega);obtain⟨b,_,_,hb⟩:=T.wi.one k (q2.wt i _ h3);have e1:=hb p (q2.mZ p (aaL hp)) _ (xv q2.way hp h3) (by simp[En.to]);have e2:=hb p' (m5.mZ p' (aaL qz)) _ (xv m5.way qz h4) (by simp[En.to]);rw[e1] at hp;rw[e2] at qz;obtain⟨r1,r2⟩:=A5 T i n j j' b d d' h1 h2 hp qz;exact⟨r1,by rw[r2]⟩
theorem Iv{x:Pp}{d:JD}{l1 l2:aG}{b:dj}(a:At B D x d l1 l2 b):d.l[↑l1]? =O x.1.1:=by rw[a.hl];simp
variable{p q:Ps}
theorem Yz(T:TD B L D){q':Ps}(h:R B D (p,q))(h':R B D (p,q')):q=q':=by
 obtain⟨d,l1,l2,b,a,_⟩:=h;obtain⟨d',f6,u1,b',a',_⟩:=h';obtain⟨e1,e2⟩:=A5 T ↑l1 ↑f6 q.1 q'.1 p.1 d d' a.hd a'.hd (Iv a) (Iv a');have hd:=a.hd;have gp:=a'.hd;simp only at e1 e2 hd gp;rw[e1,gp] at hd;cases hd;have hl:l1=f6:=by
  have t1:d.l.take ↑l1=l1:=by rw[a.hl];simp
  have t2:d.l.take ↑f6=f6:=by rw[a'.hl];simp
  rw[<- t1,<- t2,e2]
 subst hl;exact Prod.ext e1 (a.hq.trans a'.hq.symm)
theorem Ww{α:Type}{l1 l2 f6 u1:List α}{k k':α}(h:l1++k::l2=f6++k'::u1)(hl:↑l1<↑f6):∃m,f6=l1++k::m/\l2≠[]:=by
 have h1:(l1++k::l2).take ↑f6=f6:=by rw[h];simp
 rw[List.take_append] at h1;rw[List.take_of_length_le ∅] at h1;obtain⟨n,hn⟩:∃n,↑f6-↑l1=n+1:=⟨↑f6-↑l1-1,∅⟩
 rw[hn,List.take_succ_cons] at h1;refine⟨_,h1.symm,λe=>?_⟩;have:=congrArg ahp h;rw[e] at this;simp at this;omega
theorem Iw(T:TD B L D){p':Ps}{d d':JD}{l1 l2 f6 u1:aG}{b b':dj}(a:At B D (p,q) d l1 l2 b)(a':At B D (p',q) d' f6 u1 b')(h:p.2<b.rs.length\/(p.2=b.rs.length/\l2=[]/\∀t,b.en≠.go t))(hl:↑l1<↑f6):False:=by
 have hd:=a.hd;have gp:=a'.hd;simp only at hd gp;rw[hd] at gp;cases gp;obtain⟨m,e,hm⟩:=Ww (a.hl.symm.trans a'.hl) hl;have h1:=a.hq;have h2:=a'.hq;simp only at h1 h2;rw[e,kc,ju a.hb,aaQ,aaQ] at h2
 rcases h with h | ⟨_,h,_⟩
 ·omega
 ·exact hm h
theorem YA(T:TD B L D){p':Ps}(h:R B D (p,q))(h':R B D (p',q)):p=p':=by
 obtain⟨d,l1,l2,b,a,c⟩:=h;obtain⟨d',f6,u1,b',a',c'⟩:=h';have hl:↑l1=↑f6:=by
  rcases Nat.lt_trichotomy ↑l1 ↑f6 with z | z | z
  ·exact(Iw T a a' c z).elim
  ·exact z
  ·exact(Iw T a' a c' z).elim
 have hd:=a.hd;have gp:=a'.hd;simp only at hd gp;rw[hd] at gp;cases gp;obtain⟨e1,e2⟩:=List.append_inj (a.hl.symm.trans a'.hl) hl;have h1:=a.hq;have h2:=a'.hq;simp only[aia] at h1 h2 e2;subst e1;exact Prod.ext e2.1 ∅
end
theorem Js{α:Type}[DecidableEq α]:∀{l S:List α},l.Nodup->(∀x∈l,x∈S)->↑l<=↑S
 | [],_,_,_=>aca _
 | x::l,S,hn,h=>by
  obtain⟨h1,h2⟩:=abY.mp hn;have hx:x∈S:=h x abo;have:=Js (S:=S.erase x) h2 λy hy=>(ahe (show y≠x from λe=>h1 (by rw[<- e];exact hy))).mpr (h y (aba _ hy))
  rw[aeH hx] at this;have:=aeR hx;rw[abq];omega
theorem xU{α β:Type}{f:α->List β}{c:Nat}:∀{l:List α},(∀x∈l,(f x).length<=c)->(l.flatMap f).length<=↑l*c
 | [],_=>by simp
 | x::l,h=>by
  rw[adn,aaQ,abq,Nat.succ_mul];have:=xU (l:=l) λy hy=>h y (aba _ hy)
  have:=h x abo;omega
noncomputable def zm(B:bM)(c:Nat):List Ps:=(abp ↑B).flatMap λk=>(abp c).map λi=>(k,i)
theorem Tg(B:bM)(c:Nat):(zm B c).length<=↑B*c:=by
 have:=xU (f:=λk:Nat=>(abp c).map λi=>((k,i):Ps)) (c:=c) (l:=abp ↑B) λx _=>by simp
 rw[abz] at this;exact this
theorem Th{c:Nat}(h1:p.1<↑B)(h2:p.2<c):p∈zm B c:=by
 unfold zm;rw[afo];exact⟨p.1,abv.mpr h1,aaX.mpr ⟨p.2,abv.mpr h2,rfl⟩⟩
section
variable{B:bM}{L:List Nd}{D:List JD}{m1 m2:Nat}
theorem Jt(hB:bZ m1 B){x:Pp}(h:R B D x):x.1.1<↑B/\x.1.2<m1+1:=by
 obtain⟨d,l1,l2,b,a,c⟩:=h;have:=(hB.rows b (aaL a.hb)).1;exact⟨(aaG.mp a.hb).1,by rcases c with c | ⟨c,_⟩ <;> omega⟩
theorem YB(T:TD B L D)(dw:bZ m2 (aW B L D)){x:Pp}(h:R B D x):x.2.1<(aW B L D).length/\x.2.2<m2+1:=by
 rcases Kb T h with⟨b,c,r,h1,h2,h3,h4⟩ | ⟨b,c,g,h1,h2,h3,h4,_⟩
 ·have:=(dw.rows c (aaL h2)).1;have:=(aaG.mp h4).1;exact⟨(aaG.mp h2).1,∅⟩
 ·have:=(dw.rows c (aaL h2)).1;exact⟨(aaG.mp h2).1,∅⟩
variable{M:List Pp}
theorem G8(T:TD B L D)(hn:M.Nodup)(h:∀x∈M,R B D x):(M.map (·.1)).Nodup:=Bz hn λx hx y hy ne e=>ne (by
 obtain⟨p,q⟩:=x;obtain⟨p',q'⟩:=y;have e:p=p':=e;subst e;rw[Yz T (h _ hx) (h _ hy)])
theorem PP(T:TD B L D)(hn:M.Nodup)(h:∀x∈M,R B D x):(M.map (·.2)).Nodup:=Bz hn λx hx y hy ne e=>ne (by
 obtain⟨p,q⟩:=x;obtain⟨p',q'⟩:=y;have e:q=q':=e;subst e;rw[YA T (h _ hx) (h _ hy)])
theorem YC(T:TD B L D)(hB:bZ m1 B)(hn:M.Nodup)(h:∀x∈M,R B D x):↑M<=↑B*(m1+1):=by
 have:=Js (G8 T hn h) (S:=zm B (m1+1)) λp hp=>by
  obtain⟨x,hx,rfl⟩:=aaX.mp hp;obtain⟨q1,q2⟩:=Jt hB (h x hx);exact Th q1 q2
 rw[aaI] at this;exact abw this (Tg B (m1+1))
theorem sim(T:TD B L D)(hB:bZ m1 B)(hF:fN B)(dw:bZ m2 (aW B L D)):DU B (aW B L D) (R0 B L D) (R B D) (↑B*(m1+1)):=
 ⟨λ_ h=>Yy T h,λ_ h=>Yx T hB hF dw h,λ_ h=>Kb T h,λ_ h _ hy=>aab T hB h hy,Wv T hB,λ_ hn h=>YC T hB hn h⟩
end
section
variable{B:bM}{L:List Nd}{D:List JD}{m1 m2:Nat}{M:List Pp}
noncomputable def Cv(B:bM)(L:List Nd)(D:List JD)(M:List Pp)(k:Nat):Prop:=∃j d l1 l2 b,D[j]? =O d/\d.l=l1++k::l2/\B[k]? =O b/\∀i,i<=b.rs.length->n2 B (aW B L D) ((k,i),(j,(rowsOf B l1).length+i))∈M
variable{k:Nat}
theorem Wx{i j:Nat}{d:JD}{l1 l2:aG}{b:dj}(hd:D[j]? =O d)(hl:d.l=l1++k::l2)(hb:B[k]? =O b)(hi:i<b.rs.length):n2 B (aW B L D) ((k,i),(j,(rowsOf B l1).length+i))=((k,i),(j,(rowsOf B l1).length+i)):=by
 unfold n2;rw[eY (se hb hi),eY (se (hX hd) (by
  show _<(rowsOf B d.l).length;rw[hl,kc,ju hb,aaQ,aaQ];omega))]
theorem B0(W:Wk B (aW B L D) (R0 B L D) (R B D) M []){j:Nat}{d:JD}{l1 l2:aG}{b:dj}(hd:D[j]? =O d)(hl:d.l=l1++k::l2)(hb:B[k]? =O b)(h:n2 B (aW B L D) ((k,0),(j,(rowsOf B l1).length))∈M):Cv B L D M k:=by
 refine⟨j,d,l1,l2,b,hd,hl,hb,λi=>?_⟩
 induction i with
 | zero=>exact λ_=>h
 | succ i ih=>
  intro hi;have hx:=ih ∅;rw[Wx hd hl hb ∅] at hx
  rcases W.cl _ hx ((k,i+1),(j,(rowsOf B l1).length+(i+1))) (by
   unfold sc
   dsimp only
   rw[hb,hX hd]
   dsimp only
   rw[if_pos ∅];simp[afs]) with z | z
  ·exact z
  ·cases z
theorem G9(T:TD B L D)(hF:fN B)(W:Wk B (aW B L D) (R0 B L D) (R B D) M []){t:Nat}(ht:t∈LB B L)(hl:t<↑B)(he:¬em B t)(h:((t,0),(hd2 B L t,0))∈M):Cv B L D M t:=by
 obtain⟨d,l2,h1,h2⟩:=A3 T ht;obtain⟨b,hb⟩:∃b,B[t]? =O b:=bo hl;refine B0 W (l1:=[]) h1 h2 hb ?_;unfold n2;show(cf B ↑B (t,0),cf (aW B L D) (aW B L D).length (hd2 B L t,0))∈M;rw[eY (tj he),eY (sj T ht hl he).2];exact h
theorem Ti(T:TD B L D)(hB:bZ m1 B)(hF:fN B)(dw:bZ m2 (aW B L D))(W:Wk B (aW B L D) (R0 B L D) (R B D) M []){t':Nat}{e:En}(h:Cv B L D M k)(hE:(bu B)[k]? =O e)(LJ:t'∈e.to):Cv B L D M t':=by
 obtain⟨j,d,l1,l2,b,gF,iN,d3,gg⟩:=h;have hx:=gg b.rs.length (aaN _);have a:At B D ((k,b.rs.length),(j,(rowsOf B l1).length+b.rs.length)) d l1 l2 b:=⟨gF,iN,d3,rfl⟩
 rw[pB d3] at hE;cases hE;rw[lu] at LJ;obtain⟨t,ht,rfl⟩:=aaX.mp LJ;have oZ:t<↑B:=hB.lt k _ d3 t ht;obtain⟨_,_,_,he,fJ⟩:=lead hF oZ;by_cases hg:∀t,b.en≠.go t
 ·have:=a.nil T hg;subst this;have iP:led B t∈LB B L:=T.uQ j d gF _ (by rw[a.last T,lu];exact acb ht);unfold n2 at hx;rw[eY (sg d3 hg),eY (sg (hX gF) (a.DZ T hg))] at hx
  rcases W.cl _ hx ((t,0),(hd2 B L (led B t),0)) (by
   unfold sc
   dsimp only
   rw[d3,hX gF]
   dsimp only
   rw[if_neg ∅,a.last T,tm,By];exact aaX.mpr ⟨t,ht,rfl⟩) with z | z
  ·refine G9 T hF W iP fJ he ?_;unfold n2 at z;rw[show cf B ↑B (t,0)=(led B t,0) from BZ hF oZ,eY (sj T iP fJ he).2] at z;exact z
  ·cases z
 ·obtain⟨u,hu⟩:∃t,b.en=.go t:=aga λn=>hg λt e=>n ⟨t,e⟩
  rw[hu] at ht;have:t=u:=by simpa[En.to] using ht
  subst this;have qJ:B[k]? =O ⟨b.rs,.go t⟩:=by rw[d3,<- hu]
  unfold n2 at hx;rw[show cf B ↑B (k,b.rs.length)=(led B t,0) from Ir hF qJ oZ] at hx;cases l2 with
  | nil=>
   have uX:d.e=.go (led B t):=by rw[a.last T,hu];rfl
   have iP:led B t∈LB B L:=T.uQ j d gF _ (by rw[uX];simp[En.to]);have hn:(aW B L D)[j]? =O ⟨rowsOf B d.l,.go (hd2 B L (led B t))⟩:=by rw[hX gF,uX];rfl
   have e2:cf (aW B L D) (aW B L D).length (j,(rowsOf B l1).length+b.rs.length)=(hd2 B L (led B t),0):=by
    refine xA (m:=1) ?_ (sj T iP fJ he).2 dw.pos;unfold cf cf;refine Iu hn ?_;rw[iN,kc,ju d3,aaQ,aaQ];rfl
   rw[show cf (aW B L D) (aW B L D).length (j,(rowsOf B l1).length+b.rs.length)=(hd2 B L (led B t),0) from e2] at hx;exact G9 T hF W iP fJ he hx
  | cons y l2=>
   obtain⟨k0,z,_,j2,_⟩:=T.at_ _ _ gF;have hw:=j2.way;rw[iN] at hw;have hw:=sh hw;rw[pB d3,hu] at hw;have hy:led B t=y:=by
    have:=abE hw;cases this;rfl
   obtain⟨by_,zl⟩:∃b,B[y]? =O b:=bo (hy▸fJ);have yt:d.l=(l1++[k])++y::l2:=by rw[iN];simp
   obtain⟨r1,r2⟩:=xT T gF yt zl (hy▸he);have uY:(rowsOf B l1).length+b.rs.length=(rowsOf B (l1++[k])).length:=by
    rw[kc,ju d3,aaQ,aaQ];rfl
   show Cv B L D M (led B t);rw[hy];refine B0 W gF yt zl ?_;unfold n2;show(cf B ↑B (y,0),cf (aW B L D) (aW B L D).length (j,(rowsOf B (l1++[k])).length))∈M;rw[eY (tj (hy▸he)),eY r2,<- uY,<- hy];rw[uY,eY r2,<- uY] at hx;exact hx
theorem Wz(T:TD B L D)(hB:bZ m1 B)(hF:fN B)(dw:bZ m2 (aW B L D))(W:Wk B (aW B L D) (R0 B L D) (R B D) M []):∀k∈ks L,Cv B L D M k:=by
 have key:∀(i:Nat) x,L[i]? =O x->Cv B L D M x.k:=λi=>by
  induction i using afD with
  | ind i ih=>
   intro x hx;by_cases hi:i=0
   ·subst hi;rw[T.bf.zero] at hx;cases hx;have h0:=A4 T hB;obtain⟨d,hd⟩:∃d,D[0]? =O d:=bo (by rw[T.len];exact(aaG.mp h0).1);obtain⟨k,z,q1,q2,_⟩:=T.at_ 0 d hd;rw[h0] at q1;cases q1;have hh:=q2.hd;obtain⟨b,hb⟩:∃b,B[0]? =O b:=bo hB.pos;cases hl:d.l with
    | nil=>rw[hl] at hh;cases hh
    | cons a l2=>
     rw[hl] at hh;cases hh;exact B0 W (l1:=[]) hd hl hb (W.st.resolve_right λz=>nomatch z)
   ·obtain⟨j,y,g,h1,h2,_,_,h5,h6⟩:=T.bf.ie i x hx hi;unfold bK at h5;rw[aaK] at h5;obtain⟨e,he,rfl⟩:=aaP.mp h5;exact Ti T hB hF dw W (ih j h1 y h2) he h6
 intro k hk;obtain⟨y,hy,rfl⟩:=aaX.mp hk;obtain⟨i,hi⟩:=abb.mp hy;exact key i y hi
end
section
variable{B:bM}{L:List Nd}{D:List JD}{m1 m2:Nat}{M:List Pp}
theorem aac(T:TD B L D)(hB:bZ m1 B)(hF:fN B){k:Nat}(hk:k∈ks L)(h0:k≠0):¬em B k:=by
 obtain⟨x,hx,rfl⟩:=aaX.mp hk;obtain⟨i,hi⟩:=abb.mp hx;have oV:i≠0:=λz=>by
  subst z;rw[T.bf.zero] at hi;cases hi;exact h0 rfl
 obtain⟨j,y,g,h1,h2,_,_,h5,h6⟩:=T.bf.ie i x hi oV;unfold bK bu at h5;rw[aaK,aaK] at h5;obtain⟨e,he,rfl⟩:=aaP.mp h5;obtain⟨b,hb,rfl⟩:=aaP.mp he;rw[lu] at h6;obtain⟨t,ht,e⟩:=aaX.mp h6;obtain⟨_,_,_,he,_⟩:=lead hF (hB.lt _ _ hb t ht);rw[<- e];exact he
theorem QX(T:TD B L D)(hB:bZ m1 B)(hF:fN B)(dw:bZ m2 (aW B L D))(W:Wk B (aW B L D) (R0 B L D) (R B D) M []){j k:Nat}(hj:(LB B L)[j]? =O k)(h0:j≠0):((k,0),(j,0))∈M:=by
 have hm:=aaL hj;have D0:=(nF.mp hm).1;obtain⟨LK,zo⟩:=hU.mp D0;have uN:k≠0:=λz=>by
  subst z;exact h0 ((adR (aaG.mp hj).1 (Jr T)).mp (hj.trans (A4 T hB).symm))
 have he:=aac T hB hF zo uN;obtain⟨j',d',l1,l2,b,q1,q2,q3,q4⟩:=Wz T hB hF dw W k zo;obtain⟨d,hd⟩:∃d,D[j]? =O d:=bo (by rw[T.len];exact(aaG.mp hj).1);obtain⟨k1,z,p1,p2,_⟩:=T.at_ j d hd;rw[hj] at p1;cases p1;obtain⟨e1,e2⟩:=A5 T ↑l1 0 j' j k d' d q1 hd (by rw[q2];simp) p2.hd;subst e1;have jn:l1=[]:=adb e2;subst jn;have:=q4 0 (aca _);unfold n2 at this;have r2:=(xT T q1 q2 q3 he).2;rw[show cf B ↑B (k,0)=(k,0) from eY (tj he) _,show cf (aW B L D) (aW B L D).length (j',(rowsOf B []).length+0)=(j',0) from eY r2 _] at this;exact this
theorem Tj(T:TD B L D)(hB:bZ m1 B)(hF:fN B){j u:Nat}{c c2:dj}(hc:(aW B L D)[j]? =O c)(hu:u∈c.en.to)(h2:(aW B L D)[u]? =O c2)(hr:c2.rs=[])(t:Nat):c2.en≠.go t:=by
 unfold aW at hc;rw[aaK] at hc;obtain⟨d,hd,rfl⟩:=aaP.mp hc;rw[lu] at hu;obtain⟨t1,D1,rfl⟩:=aaX.mp hu;have iP:=T.uQ j d hd t1 D1;obtain⟨k,z,q1,q2,q3,q4,q5⟩:=T.at_ j d hd;unfold bu at q4;rw[aaK] at q4;obtain⟨b,hb,gm⟩:=aaP.mp q4;rw[<- gm,lu] at D1;obtain⟨t0,ht0,e⟩:=aaX.mp D1;obtain⟨_,_,_,he,fJ⟩:=lead hF (hB.lt _ _ hb t0 ht0);rw[e] at he fJ;obtain⟨d2,l2,w1,w2⟩:=A3 T iP;have LL:D[(LB B L).idxOf t1]? =O d2:=w1;rw[hX LL] at h2;cases h2;obtain⟨b2,kQ⟩:∃b,B[t1]? =O b:=bo fJ;have hr:rowsOf B d2.l=[]:=hr;rw[w2,ju kQ] at hr;have mW:b2.rs=[]:=(List.append_eq_nil_iff.mp hr).1;have hg:∀t,b2.en≠.go t:=λt e=>he ⟨t,by rw[kQ,<- mW,<- e]⟩
 have a:At B D ((t1,0),((LB B L).idxOf t1,0)) d2 [] l2 b2:=⟨LL,w2,kQ,rfl⟩
 have:=a.nil T hg;subst this;exact a.DZ T hg t
end
theorem BA(e:En)(ph:PH):rB [e.w] ph=.ok (.ref ↑ph) (ph++[.lst (iw e.to)]):=by
 unfold rB wz;rw[jN];cases e with
 | go k=>exact il (eV (qO "go" (op rfl rfl rfl) rfl) (retS rfl))
 | iff v a b=>exact bq (b8 (qO "if" (op rfl rfl rfl) rfl) rfl) (br rfl)
 | fin=>exact bq (b8 (qO "end" (op rfl rfl rfl) rfl) rfl) (br rfl)
theorem WA(H:PH)(n:Nat)(r:Row):∃d,dat H (n+1) r.w=O d:=by
 cases r with
 | ua a w b c=>exact⟨_,cX (mc (cT _ _ _) (mc (by cases n <;> rfl) (mc (cT _ _ _) (mc (by cases n <;> rfl) (mc (by cases n <;> rfl) rfl)))))⟩
 | put a m=>exact⟨_,cX (mc (cT _ _ _) (mc (by cases n <;> rfl) (mc (by cases n <;> rfl) rfl)))⟩
 | move a b=>exact⟨_,cX (mc (cT _ _ _) (mc (by cases n <;> rfl) (mc (by cases n <;> rfl) rfl)))⟩
 | pull a b=>exact⟨_,cX (mc (cT _ _ _) (mc (by cases n <;> rfl) (mc (by cases n <;> rfl) rfl)))⟩
 | push a b=>exact⟨_,cX (mc (cT _ _ _) (mc (by cases n <;> rfl) (mc (by cases n <;> rfl) rfl)))⟩
 | take a=>exact⟨_,cX (mc (cT _ _ _) (mc (by cases n <;> rfl) rfl))⟩
 | tell a=>exact⟨_,cX (mc (cT _ _ _) (mc (by cases n <;> rfl) rfl))⟩
 | turn=>exact⟨_,cX (mc (cT _ _ _) rfl)⟩
theorem A6(H:PH)(n:Nat):∀rs:List Row,∃ds,ba (dat H (n+1)) (rs.map Row.w)=O ds/\↑ds=↑rs
 | []=>⟨[],rfl,rfl⟩
 | r::rs=>by
  obtain⟨d,hd⟩:=WA H n r;obtain⟨ds,h1,h2⟩:=A6 H n rs;exact⟨d::ds,mc hd h1,by rw[abq,abq,h2]⟩
theorem eq_nil{rs:List Row}(h:H[ri]? =O (.lst (rs.map Row.w)))(ha:a σ H=.ok (.ref ri) H):eT (ab a9 a (b9 ag)) σ H=.ok rs.isEmpty (H++[.lst []]):=by
 refine tB (op (x:=.ref ri) (y:=.ref ↑H) (ph1:=H) (ph2:=H++[.lst []]) ha rfl ?_);obtain⟨ds,h1,h2⟩:=A6 (H++[.lst []]) 38 rs;have e1:dat (H++[.lst []]) 40 (.ref ri)=O (.list ds):=kf ((Ex.one _ _).get h) h1;have e2:dat (H++[.lst []]) 40 (.ref ↑H)=O (.list []):=kf (bD H (.lst [])) rfl;unfold lift a9 dS;simp only[e1,e2];cases rs with
 | nil=>
  cases ds with
  | nil=>simp[abe,abn]
  | cons d ds=>simp at h2
 | cons r rs=>
  cases ds with
  | nil=>simp at h2
  | cons d ds=>simp[abe,abn]
theorem WC(dw:bZ m2 NB)(hN:cx ph ni NB)(hl:∀(j u:Nat) c c2,NB[j]? =O c->u∈c.en.to->NB[u]? =O c2->c2.rs=[]->∀t,c2.en≠.go t):∃ph',zI [.ref ni] ph=.ok (.bl true) ph'/\Ex ph ph':=by
 obtain⟨rs,hR⟩:=hN;have hN:cx ph ni NB:=⟨rs,hR⟩
 obtain⟨aj,H',e,o1,o2,o3,rfl,x'⟩:=gX (chk:=λp=>decide (p[ni]? =O (.lst (bw rs NB)))) (g:=eA 2 [gN 1,gN 2]) (b:=zy)
  (λj σ H=>∃o1 o2 o3,σ=[⇑ni,o1,o2,o3]/\Ex ph H)
  (bw rs NB) [⇑ni,Z,Z,Z] ph (λj σ H zz=>by
   obtain⟨_,_,_,_,x⟩:=zz;exact a6 (x.get hR.at_))
  (λj w σ H hj zz=>by
   obtain⟨o1,o2,o3,rfl,x⟩:=zz;have dc:j<NB.length:=by have:=(aaG.mp hj).1;rw[lj hR.len] at this;exact this
   obtain⟨c,hc⟩:∃c,NB[j]? =O c:=bo dc;obtain⟨r,hr⟩:∃r,rs[j]? =O r:=bo (by rw[hR.len];exact dc);rw[pU hr hc] at hj;cases hj;refine⟨_,_,rfl,?_⟩;have hw:=BA c.en H;obtain⟨σ1,H1,e1,lU,rfl,x1⟩:=gX (chk:=λp=>decide (p[↑H]? =O (.lst (iw c.en.to)))) (g:=gN 3) (b:=zx)
    (λi σ K=>∃o3,σ=[⇑ni,⇑r,O c.en.w,o3]/\Ex (H++[.lst (iw c.en.to)]) K)
    (iw c.en.to) [⇑ni,⇑r,O c.en.w,o3] (H++[.lst (iw c.en.to)]) (λi σ K zz=>by
     obtain⟨_,_,y⟩:=zz;exact a6 (y.get (bD _ _)))
    (λi w σ K hi zz=>by
     obtain⟨o3,rfl,y⟩:=zz;unfold iw at hi;rw[aaK] at hi;obtain⟨u,hu,rfl⟩:=aaP.mp hi;have LM:=aaL hu;obtain⟨c2,ul⟩:∃c,NB[u]? =O c:=bo (dw.lt j c hc u LM);obtain⟨r2,kP,gV⟩:=nL hN ul;have xK:Ex ph K:=x.trans ((Ex.one _ _).trans y);obtain⟨i1,_⟩:=gV (a:=aa 0) (c:=aa 3) (σ:=[⇑ni,⇑r,O c.en.w,↥u]) xK rfl rfl;obtain⟨_,i2⟩:=gV (a:=aa 0) (c:=aa 3) (σ:=[⇑ni,⇑r,O c.en.w,↥u]) (xK.trans (Ex.one K (.lst []))) rfl rfl;have t1:=eq_nil (xK.get kP) i1;have t2:eT (ab a9 (ab af (ab af (ab af (aa 0) (aa 3)) {1}) {0}) {"go"}) [⇑ni,⇑r,O c.en.w,↥u] (K++[.lst []])=.ok (decide (c2.en.x="go")) (K++[.lst []]):=qO c2.en.x (op i2 rfl (oy c2.en _)) rfl;refine⟨_,_,rfl,?_⟩;unfold zx;cases he:c2.rs.isEmpty with
     | false=>
      rw[he] at t1;exact⟨_,_,b8 (tF t1) rfl,_,.inl rfl,_,rfl,y.trans (Ex.one _ _)⟩
     | true=>
      rw[he] at t1;have hn:decide (c2.en.x="go")=false:=bU λz=>by
       obtain⟨t,ht⟩:=Z4.mp z;exact hl j u c c2 hc LM ul (List.isEmpty_iff.mp he) t ht
      rw[hn] at t2;exact⟨_,_,b8 (tT t1 t2) rfl,_,.inl rfl,_,rfl,y.trans (Ex.one _ _)⟩)
    ⟨o3,rfl,Ex.refl _⟩
   unfold zy;exact⟨_,_,f7 (fB (az (ax rfl rfl) hw) (bD _ _)) e1,_,.inl rfl,_,_,_,rfl,x.trans ((Ex.one _ _).trans x1)⟩)
  ⟨Z,Z,Z,rfl,Ex.refl _⟩
 refine⟨H',?_,x'⟩;unfold zI vM;rw[jN];exact bq (f7 (fB rfl hR.at_) e) (br rfl)
theorem mF{c k:String}{m:EM}{w:W}{r:Bool}(hm:m σ ph=.ok w ph)(hk:nN w ph=O k)(hr:ff k c=r):h9 (jW c m) σ ph=.ok r ph:=by
 have:jW c m σ ph=.ok (.bl r) ph:=az hm (by unfold lift jV;rw[hk];dsimp only;rw[hr]);exact az this rfl
theorem Iy(h:ph[i]? =O (.lst ws)):nN (.ref i) ph=O "list":=by unfold nN;simp only[h]
theorem oF{a b:TM}{r:Out Bool}(ha:a σ ph=.ok false ph1)(hb:b σ ph1=r):c9 a b σ ph=r:=az ha hb
theorem lX{t:TM}(h:t σ ph=.ok true ph1):iz t σ ph=.ok false ph1:=az h rfl
theorem aad(e:En)(H:PH):lift (fj (.str e.x) (.tup [.str "go",.str "if",.str "end"])) H=.ok (.bl false) H:=by
 have h:=congrFun (Jf e.x "go" "if" "end") H;have ht:(decide ("go"=e.x)||(decide ("if"=e.x)||decide ("end"=e.x)))=true:=by cases e <;> rfl
 rw[ht] at h;rw[HG];unfold lift jl at h;unfold lift tL;cases hD:inD H (.str e.x) (.tup [.str "go",.str "if",.str "end"]) with
 | none=>rw[hD] at h;cases h
 | some b=>rw[hD] at h;cases h;rfl
theorem YD(H:PH)(n:Nat)(e:En):∃d,dat H (n+1) e.w=O d:=by
 cases e with
 | go k=>exact⟨_,cX (mc (cT _ _ _) (mc (by cases n <;> rfl) rfl))⟩
 | iff v a b=>exact⟨_,cX (mc (cT _ _ _) (mc (by cases n <;> rfl) (mc (by cases n <;> rfl) (mc (by cases n <;> rfl) rfl))))⟩
 | fin=>exact⟨_,cX (mc (cT _ _ _) rfl)⟩
theorem xc{α β:Type}{f:α->Option β}:∀{l:List α},(∀w∈l,∃d,f w=O d)->∃ds,ba f l=O ds/\↑ds=↑l
 | [],_=>⟨[],rfl,rfl⟩
 | w::l,h=>by
  obtain⟨d,hd⟩:=h w abo;obtain⟨ds,h1,h2⟩:=xc λx hx=>h x (aba _ hx)
  exact⟨d::ds,mc hd h1,by rw[abq,abq,h2]⟩
theorem Tn(hR:lE H ni rs NB):∃ds,ba (dat H 39) (bw rs NB)=O ds/\↑ds=(bw rs NB).length:=by
 refine xc λw hw=>?_
 obtain⟨j,hj⟩:=abb.mp hw;have dc:j<NB.length:=by have:=(aaG.mp hj).1;rw[lj hR.len] at this;exact this
 obtain⟨c,hc⟩:∃c,NB[j]? =O c:=bo dc;obtain⟨r,hr⟩:∃r,rs[j]? =O r:=bo (by rw[hR.len];exact dc);rw[pU hr hc] at hj;cases hj;obtain⟨ds,h1,_⟩:=A6 H 36 c.rs;obtain⟨d,hd⟩:=YD H 37 c.en;exact⟨_,cX (mc (kf (hR.jZ j r c hr hc) h1) (mc hd rfl))⟩
theorem lE.mono(h:lE H i rs B)(x:Ex H H'):lE H' i rs B:=⟨x.get h.at_,h.len,λk r b h1 h2=>x.get (h.jZ k r b h1 h2)⟩
theorem N9(dw:bZ m2 NB)(hN:cx ph ni NB):∃ph',zD [.ref ni] ph=.ok (.bl true) ph'/\Ex ph ph':=by
 obtain⟨rs,hR⟩:=hN;have hN:cx ph ni NB:=⟨rs,hR⟩
 have Cu:=dw.top;have t0:eT (ab a9 (aa 0) (b9 ag)) [⇑ni,Z,Z] ph=.ok false (ph++[.lst []]):=by
  refine tB (op (x:=.ref ni) (y:=.ref ↑ph) (ph1:=ph) (ph2:=ph++[.lst []]) rfl rfl ?_);obtain⟨ds,h1,h2⟩:=Tn (hR.mono (Ex.one ph (.lst [])));have e1:dat (ph++[.lst []]) 40 (.ref ni)=O (.list ds):=kf ((Ex.one _ _).get hR.at_) h1;have e2:dat (ph++[.lst []]) 40 (.ref ↑ph)=O (.list []):=kf (bD ph (.lst [])) rfl;unfold lift a9 dS;simp only[e1,e2];cases ds with
  | nil=>rw[lj hR.len] at h2;have:=dw.pos;simp at h2;omega
  | cons d ds=>simp[abe,abn]
 obtain⟨aj,H',e,o1,o2,rfl,x'⟩:=gX (chk:=λp=>decide (p[ni]? =O (.lst (bw rs NB)))) (g:=gN 1) (b:=zu)
  (λj σ H=>∃o1 o2,σ=[⇑ni,o1,o2]/\Ex ph H)
  (bw rs NB) [⇑ni,Z,Z] (ph++[.lst []]) (λj σ H zz=>by
   obtain⟨_,_,_,x⟩:=zz;exact a6 (x.get hR.at_))
  (λj w σ H hj zz=>by
   obtain⟨o1,o2,rfl,x⟩:=zz;have dc:j<NB.length:=by have:=(aaG.mp hj).1;rw[lj hR.len] at this;exact this
   obtain⟨c,hc⟩:∃c,NB[j]? =O c:=bo dc;obtain⟨r,hr⟩:∃r,rs[j]? =O r:=bo (by rw[hR.len];exact dc);rw[pU hr hc] at hj;cases hj;have aae:=x.get (hR.jZ j r c hr hc);refine⟨_,_,rfl,?_⟩;have hw:=BA c.en H;obtain⟨σ1,H1,e1,o2',rfl,x1⟩:=gX (chk:=λp=>decide (p[↑H]? =O (.lst (iw c.en.to)))) (g:=gN 2) (b:=zt)
    (λi σ K=>∃o2,σ=[⇑ni,O (.tup [.ref r,c.en.w]),o2]/\Ex (H++[.lst (iw c.en.to)]) K)
    (iw c.en.to) [⇑ni,O (.tup [.ref r,c.en.w]),o2] (H++[.lst (iw c.en.to)]) (λi σ K zz=>by
     obtain⟨_,_,y⟩:=zz;exact a6 (y.get (bD _ _)))
    (λi w σ K hi zz=>by
     obtain⟨o2,rfl,y⟩:=zz;unfold iw at hi;rw[aaK] at hi;obtain⟨u,hu,rfl⟩:=aaP.mp hi;have DX:=dw.lt j c hc u (aaL hu);have xK:Ex ph K:=x.trans ((Ex.one _ _).trans y);have lw:aV a7 (ae (aa 0) ag) [⇑ni,O (.tup [.ref r,c.en.w]),↥u] K=.ok (.int NB.length) K:=az (ax rfl rfl) (hN.mono xK).a7;refine⟨_,_,rfl,?_⟩;unfold zt;refine⟨_,_,b8 (oF (lX (mF rfl rfl rfl)) (oF (mF rfl rfl rfl) (lX (tB ?_)))) rfl,_,.inl rfl,_,rfl,y⟩;rw[Fi];refine az rfl (az rfl (az (show lift (yH (.int 0) (.int u)) K=.ok (.bl (decide ((0:Int)<=(u:Int)))) K from rfl) ?_));rw[a6 (show(0:Int)<=(u:Int) by omega)]
     dsimp only
     rw[if_pos rfl];refine az lw ?_;show lift (dG (.int u) (.int NB.length)) K=_;rw[show lift (dG (.int u) (.int NB.length)) K=.ok (.bl (decide ((u:Int)<(NB.length:Int)))) K from rfl,a6 ∅])
    ⟨o2,rfl,Ex.refl _⟩
   unfold zu;refine⟨_,_,sq (b8 (oF (lX (mF rfl rfl rfl)) (oF (tB (op (az (ax rfl rfl) rfl) rfl (ne_self rfl (by simp[abe])))) (lX (mF (op rfl rfl rfl) (Iy aae) rfl)))) rfl) (sq (b8 (oF (lX (mF (op rfl rfl rfl) (by cases c.en <;> rfl) rfl)) (tB (op (op (op rfl rfl rfl) rfl (oy c.en H)) rfl (aad c.en H)))) rfl) (f7 (fB (az (ax (op rfl rfl rfl) rfl) hw) (bD _ _)) e1)),_,.inl rfl,_,_,rfl,x.trans ((Ex.one _ _).trans x1)⟩)
  ⟨Z,Z,rfl,Ex.one _ _⟩
 refine⟨H',?_,x'⟩;unfold zD vq;rw[jN];exact bq (b8 (oF (lX (mF rfl (Iy hR.at_) rfl)) t0) rfl) (bq (f7 (fB rfl ((Ex.one _ _).get hR.at_)) e) (br rfl))
abbrev kU:=Nat×String×Nat
noncomputable def iR(y:kU):W:=.tup [.int y.1,.str y.2.1,.int y.2.2]
noncomputable def lY(E:List En)(x:Nat):List kU:=match E[x]? with
 | some e=>e.to.map λg=>(g,e.x,x)
 | none=>[]
theorem aaf(e:En)(f:Nat->Nat):(e.mp f).x=e.x:=by cases e <;> rfl
theorem QY{x:Nat}(h:x∈l):x∈ins l k:=A0.mpr (.inl h)
theorem WD(h:l.Nodup):(ins l k).Nodup:=by
 unfold ins;split
 ·exact h
 ·rename_i hk;rw[adm];exact⟨h,by simp,λa ha b hb e=>hk (by rw[<- aaT.mp hb,<- e];exact ha)⟩
theorem To(l:aG)(k:Nat):∃m,ins l k=l++m:=by
 unfold ins;split
 ·exact⟨[],by simp⟩
 ·exact⟨[k],rfl⟩
theorem aag(h:H[i]? =O (.lst (iw l)))(ha:a σ H=.ok (.int k) H)(hb:b σ H=.ok (.ref i) H):eT (ab fj a b) σ H=.ok (!decide (k∈l)) H:=by
 refine tB (op ha hb ?_);rw[Wj] at h;rw[Pj h]
 congr 3
 rw[decide_eq_decide,aaX];exact⟨λ⟨a,ha,e⟩=>by rw[<- show a=k by omega];exact ha,λh=>⟨k,h,rfl⟩⟩
structure Hs(ph H:PH)(A:aG)(Y:List kU):Prop where
 ex:Ex ph H
 a:H[↑ph]? =O (.lst (iw A))
 y:H[↑ph+1]? =O (.lst (Y.map iR))
variable{A:aG}{Y:List kU}
theorem Hs.mono(h:Hs ph H A Y)(x:Ex H H'):Hs ph H' A Y:=⟨h.ex.trans x,x.get h.a,x.get h.y⟩
variable{o8:dP}
theorem QZ{x:Nat}{at_:Nat}{b:dj}(hB:bZ m1 B)(hF:fN B)(hA:cx ph bi B)(s:Hs ph H A Y)(hx:A[at_]? =O x)(ht:t<↑B)(hY:↑Y<1000)(u3:↑A<1000):∃H',vD [⇑bi,⇑↑ph,⇑(↑ph+1),↥at_,O b.en.w,↥t,o6,o7,o8] H=.ok (.nx [⇑bi,⇑↑ph,⇑(↑ph+1),↥at_,O b.en.w,↥(led B t:Int),o6,o7,o8]) H'/\Hs ph H' (ins A (led B t)) (Y++[(led B t,b.en.x,x)])/\∀j,↑ph+1<j->H'[j]? =H[j]? :=by
 have e1:aK (ab af (bh l5 (ae (aa 0) (ae (aa 5) (ae {0} ag)))) {0}) (gN 5) [⇑bi,⇑↑ph,⇑(↑ph+1),↥at_,O b.en.w,↥t,o6,o7,o8] H=.ok (.nx [⇑bi,⇑↑ph,⇑(↑ph+1),↥at_,O b.en.w,↥(led B t:Int),o6,o7,o8]) H:=by
  refine asg (op (x:=cB (led B t,0)) (ph1:=H) (ph2:=H) (az (ax rfl (ax rfl (ax rfl rfl))) ((Bw (p:=0) hB (hA.mono s.ex) ht).trans ?_)) rfl rfl);rw[BZ hF ht]
 have e2:=oU (o:=aa 2) (e:=bp (ae (aa 5) (ae (ab af (aa 4) {0}) (ae (ab af (aa 1) (aa 3)) ag)))) (σ:=[⇑bi,⇑↑ph,⇑(↑ph+1),↥at_,O b.en.w,↥(led B t:Int),o6,o7,o8]) (ph:=H) (ph1:=H) (w:=iR (led B t,b.en.x,x)) rfl ⟨_,s.y⟩ (az (ax rfl (ax (op rfl rfl (oy b.en H)) (ax (op rfl rfl (td s.a hx)) rfl))) rfl) s.y (by rw[aaI];omega);obtain⟨H1,aw⟩:∃H1,H1=H.set (↑ph+1) (.lst (Y.map iR++[iR (led B t,b.en.x,x)])):=⟨_,rfl⟩
 rw[<- aw] at e2;have x1:Ex ph H1:=aw▸Ex.set s.ex ∅ _;have a1:H1[↑ph]? =O (.lst (iw A)):=by rw[aw,dA ∅];exact s.a
 have y1:H1[↑ph+1]? =O (.lst ((Y++[(led B t,b.en.x,x)]).map iR)):=by rw[aw,fS s.y,abZ];rfl
 have t3:=aag (k:=led B t) (a:=aa 5) (b:=aa 1) (σ:=[⇑bi,⇑↑ph,⇑(↑ph+1),↥at_,O b.en.w,↥(led B t:Int),o6,o7,o8]) a1 rfl rfl;unfold vD;by_cases hm:led B t∈A
 ·rw[a6 hm] at t3;refine⟨H1,sq e1 (sq e2 (b8 t3 rfl)),⟨x1,?_,y1⟩,λj hj=>by rw[aw,dA ∅]⟩;rw[a1];unfold ins;rw[if_pos hm]
 ·rw[bU hm] at t3;refine⟨_,sq e1 (sq e2 (eV t3 (oU rfl ⟨_,a1⟩ rfl a1 (by unfold iw;rw[aaI];omega)))),⟨Ex.set x1 (aaN _) _,?_,?_⟩,λj hj=>by rw[dA ∅,aw,dA ∅]⟩
  ·rw[fS a1];unfold ins;rw[if_neg hm];unfold iw;rw[abZ];rfl
  ·rw[dA ∅];exact y1
theorem Tp{x at_:Nat}{e:En}(hB:bZ m1 B)(hF:fN B)(hA:cx ph bi B)(s:Hs ph H A Y)(hx:A[at_]? =O x)(he:(bu B)[x]? =O e)(hY:↑Y+3<1000)(u3:↑A+3<1000)(hn:A.Nodup):∃H' A' pb lZ,qW [⇑bi,⇑↑ph,⇑(↑ph+1),↥at_,o4,o5,o6,o7,o8] H=.ok (.nx [⇑bi,⇑↑ph,⇑(↑ph+1),↥((at_+1:Nat):Int),pb,lZ,o6,o7,o8]) H'/\Hs ph H' A' (Y++e.to.map λg=>(g,e.x,x))/\A'.Nodup/\(∃m,A'=A++m)/\(∀g∈e.to,g∈A')/\∀g∈A',g∈A\/g∈e.to:=by
 unfold bu at he;rw[aaK] at he;obtain⟨b,hb,gm⟩:=aaP.mp he;subst gm;obtain⟨ri,kS,gV⟩:=nL hA hb;have e1:aK (ab af (ab af (aa 0) (ab af (aa 1) (aa 3))) {1}) (gN 4) [⇑bi,⇑↑ph,⇑(↑ph+1),↥at_,o4,o5,o6,o7,o8] H=.ok (.nx [⇑bi,⇑↑ph,⇑(↑ph+1),↥at_,O b.en.w,o5,o6,o7,o8]) H:=asg (gV s.ex rfl (op rfl rfl (td s.a hx))).2;have hw:=BA b.en H;have fF:↑ph+1<↑H:=iC s.y;have oZ:b.en.to.length<=2:=by cases b.en <;> simp[En.to]
 obtain⟨aj,H',ef,A',lZ,rfl,q1,q2,⟨m,q3⟩,q4,q5,q6⟩:=gX (chk:=λp=>decide (p[↑H]? =O (.lst (iw b.en.to)))) (g:=gN 5) (b:=vD)
  (λi σ K=>∃A' o5,σ=[⇑bi,⇑↑ph,⇑(↑ph+1),↥at_,O b.en.w,o5,o6,o7,o8]/\Hs ph K A' (Y++(b.en.to.take i).map λt=>(led B t,b.en.x,x))/\A'.Nodup/\(∃m,A'=A++m/\↑m<=i)/\(∀t∈b.en.to.take i,led B t∈A')/\(∀g∈A',g∈A\/g∈(b.en.mp (led B)).to)/\K[↑H]? =O (.lst (iw b.en.to)))
  (iw b.en.to) [⇑bi,⇑↑ph,⇑(↑ph+1),↥at_,O b.en.w,o5,o6,o7,o8] (H++[.lst (iw b.en.to)])
  (λi σ K zz=>by
   obtain⟨_,_,_,_,_,_,_,_,z⟩:=zz;exact a6 z)
  (λi w σ K hi zz=>by
   obtain⟨A1,o5,rfl,s1,n1,⟨m,hm,hml⟩,c1,c2,kw⟩:=zz;have uO:i<b.en.to.length:=by have:=(aaG.mp hi).1;unfold iw at this;rw[aaI] at this;exact this
   unfold iw at hi;rw[aaK] at hi;obtain⟨t,ht,rfl⟩:=aaP.mp hi;have LN:=aaL ht;have htB:=hB.lt x b hb t LN;have hx1:A1[at_]? =O x:=by rw[hm,abm (aaG.mp hx).1];exact hx
   obtain⟨K',ek,s2,keep⟩:=QZ (b:=b) (o6:=o6) (o7:=o7) (o8:=o8) hB hF hA s1 hx1 htB (by rw[aaQ,aaI,adx];omega) (by rw[hm,aaQ];omega);refine⟨_,_,rfl,_,K',ek,_,.inl rfl,ins A1 (led B t),_,rfl,?_,WD n1,?_,λu hu=>?_,λg hg=>?_,?_⟩
   ·rw[pq ht,abZ,<- acO];exact s2
   ·obtain⟨m2,zb⟩:=To A1 (led B t);refine⟨m++m2,by rw[zb,hm,acO],?_⟩;have:(ins A1 (led B t)).length<=↑A1+1:=by unfold ins;split <;> simp
    rw[zb,aaQ] at this;rw[aaQ];omega
   ·rw[pq ht] at hu
    rcases abF.mp hu with h | h
    ·exact QY (c1 u h)
    ·rw[aaT.mp h];exact A0.mpr (.inr rfl)
   ·rcases A0.mp hg with h | h
    ·exact c2 g h
    ·rw[h,lu];exact .inr (acb LN)
   ·rw[keep _ fF];exact kw)
  ⟨A,o5,rfl,by simpa using s.mono (Ex.one _ _),hn,⟨[],by simp,aaN _⟩,by simp,λg hg=>.inl hg,bD _ _⟩
 have uO:(iw b.en.to).length=b.en.to.length:=by unfold iw;rw[aaI]
 rw[uO,acC] at q1 q4;refine⟨H',A',O b.en.w,lZ,?_,?_,q2,⟨m,q3.1⟩,λg hg=>?_,q5⟩
 ·unfold qW;exact sq e1 (sq (f7 (fB (az (ax rfl rfl) hw) (bD _ _)) ef) (asg (op rfl rfl rfl)))
 ·rw[lu,abU,aaf];exact q1
 ·rw[lu] at hg;obtain⟨t,ht,rfl⟩:=aaX.mp hg;exact q4 t ht
structure Hw(E:List En)(L:List Nd)(A:aG)(Y:List kU)(i:Nat):Prop where
 le:i<=↑A
 z:A[0]? =O 0
 nd:A.Nodup
 sub:∀x∈A,x∈ks L
 y:Y=(A.take i).flatMap (lY E)
 cl:∀x∈A.take i,∀e,E[x]? =O e->∀g∈e.to,g∈A
theorem Iz{x:Nat}{e:En}(h:E[x]? =O e):lY E x=e.to.map λg=>(g,e.x,x):=by
 unfold lY;rw[h]
theorem Ha(E:List En)(x:Nat):(lY E x).length<=2:=by
 unfold lY;split
 ·rename_i e _;rw[aaI];cases e <;> simp[En.to]
 ·simp
theorem Q0(hB:bZ m1 B)(hF:fN B)(hA:cx ph bi B)(b:Bf (bK (bu B)) L ↑L){p2:PH}(s0:Hs ph p2 [0] []):∃H' A Y i pb lZ,iq (eT (ab dG (aa 3) (aV a7 (ae (aa 1) ag)))) qW [⇑bi,⇑↑ph,⇑(↑ph+1),↥0,o4,o5,o6,o7,o8] p2=.ok (.nx [⇑bi,⇑↑ph,⇑(↑ph+1),↥i,pb,lZ,o6,o7,o8]) H'/\Hs ph H' A Y/\Hw (bu B) L A Y ↑A:=by
 have jq:(bu B).length=↑B:=by unfold bu;rw[aaI]
 have mX:(bK (bu B)).length=↑B:=by unfold bK;rw[aaI,jq]
 have Cu:=hB.top;obtain⟨aj,H',e,A,Y,i,pb,lZ,rfl,s,w⟩:=wG (t:=eT (ab dG (aa 3) (aV a7 (ae (aa 1) ag)))) (b:=qW)
  (λk σ H=>∃(A:aG) (Y:List kU) (i:Nat) (o4 o5:dP),σ=[⇑bi,⇑↑ph,⇑(↑ph+1),↥i,o4,o5,o6,o7,o8]/\Hs ph H A Y/\Hw (bu B) L A Y i/\k=↑B+1-i)
  (λσ H=>∃(A:aG) (Y:List kU) (i:Nat) (o4 o5:dP),σ=[⇑bi,⇑↑ph,⇑(↑ph+1),↥i,o4,o5,o6,o7,o8]/\Hs ph H A Y/\Hw (bu B) L A Y ↑A)
  (λk σ H zz=>by
   obtain⟨A,Y,i,o4,o5,rfl,s,w,hk⟩:=zz;have u3:↑A<=↑B:=iV w.nd λx hx=>by
    obtain⟨y,hy,rfl⟩:=aaX.mp (w.sub x hx);have:=b.lt y hy;omega
   have LO:↑Y<=i*2:=by
    rw[w.y];have:=xU (f:=lY (bu B)) (c:=2) (l:=A.take i) λx _=>Ha _ x
    rw[adx] at this;have h2:min i ↑A<=i:=Nat.min_le_left _ _;exact abw this (Nat.mul_le_mul_right _ h2)
   have uI:=w.le;have oK:lift (a7 [.ref ↑ph]) H=.ok (.int (↑A:Int)) H:=(gY s.a).trans (by unfold iw;rw[aaI]);have et:eT (ab dG (aa 3) (aV a7 (ae (aa 1) ag))) [⇑bi,⇑↑ph,⇑(↑ph+1),↥i,o4,o5,o6,o7,o8] H=.ok (decide ((i:Int)<(↑A:Int))) H:=oz rfl (az (ax rfl rfl) oK) rfl;by_cases hi:i<↑A
   ·rw[a6 ∅] at et;obtain⟨x,hx⟩:∃x,A[i]? =O x:=bo hi;have hxA:=aaL hx;obtain⟨y,hy,LP⟩:=aaX.mp (w.sub x hxA);have hxl:x<(bu B).length:=by have:=b.lt y hy;rw[<- LP];omega
    obtain⟨e,he⟩:∃e,(bu B)[x]? =O e:=bo hxl;obtain⟨H',A',pb,lZ,q1,q2,q3,⟨m,q4⟩,q5,q6⟩:=Tp (o4:=o4) (o5:=o5) (o6:=o6) (o7:=o7) (o8:=o8) hB hF hA s hx he ∅ ∅ w.nd;have LQ:A'.take (i+1)=A.take i++[x]:=by
     rw[q4,List.take_append_of_le_length ∅];exact pq hx
    refine .inr ⟨H,et,_,H',q1,_,.inl rfl,↑B+1-(i+1),∅,A',_,i+1,_,_,rfl,q2,⟨by rw[q4,aaQ];omega,by rw[q4,abm ∅];exact w.z,q3,λg hg=>?_,?_,λu hu eu D2 g hg=>?_⟩,rfl⟩
    ·rcases q6 g hg with h | h
     ·exact w.sub g h
     ·obtain⟨j,hj⟩:=abb.mp hy;obtain⟨v,hv,e',_⟩:=b.closed j y e.to (aaG.mp hj).1 hj (by unfold bK;rw[aaK,LP,he];rfl) g h;exact aaX.mpr ⟨v,hv,e'⟩
    ·rw[LQ,afF,<- w.y]
     congr 1
     show _=List.flatMap (lY (bu B)) [x];rw[adn,Iz he];simp
    ·rw[LQ] at hu
     rcases abF.mp hu with h | h
     ·rw[q4];exact abQ _ (w.cl u h eu D2 g hg)
     ·rw[aaT.mp h,he] at D2;cases D2;exact q5 g hg
   ·rw[bU ∅] at et;have:i=↑A:=by omega
    subst this;exact .inl ⟨H,et,A,Y,_,_,_,rfl,s,w⟩)
  (↑B+1-0) _ p2 ⟨[0],[],0,o4,o5,rfl,s0,⟨aca _,rfl,by simp,λx hx=>by rw[aaT.mp hx];exact aaX.mpr ⟨_,aaL b.zero,rfl⟩,rfl,λx hx=>by simp at hx⟩,rfl⟩
 exact⟨H',A,Y,i,pb,lZ,e,s,w⟩
theorem Hw.all(w:Hw E L A Y ↑A)(b:Bf (bK E) L ↑L):∀k∈ks L,k∈A:=by
 have key:∀(i:Nat) x,L[i]? =O x->x.k∈A:=λi=>by
  induction i using afD with
  | ind i ih=>
   intro x hx;by_cases hi:i=0
   ·subst hi;rw[b.zero] at hx;cases hx;exact aaL w.z
   ·obtain⟨j,y,g,h1,h2,_,_,h5,h6⟩:=b.ie i x hx hi;unfold bK at h5;rw[aaK] at h5;obtain⟨e,he,rfl⟩:=aaP.mp h5;exact w.cl y.k (by rw[acC];exact ih j h1 y h2) e he x.k h6
 intro k hk;obtain⟨y,hy,rfl⟩:=aaX.mp hk;obtain⟨i,hi⟩:=abb.mp hy;exact key i y hi
theorem Tq{E:bW}{b:Nat}{c:aG}(h:E[k]? =O c):(gM E o b)[k]? =O (if o=k then c++[b] else c):=by
 unfold gM;by_cases e:o=k
 ·subst e;rw[h]
  dsimp only
  rw[abL (aaG.mp h).1,if_pos rfl]
 ·rw[if_neg e];split
  ·rw[ace e];exact h
  ·exact h
theorem Hb{b k:Nat}:∀{g:aG} {E:bW} {c:aG},E[k]? =O c->(iE E b g)[k]? =O (c++aaY (g.count k) b)
 | [],E,c,h=>by simpa[iE] using h
 | o::g,E,c,h=>by
  show(iE (gM E o b) b g)[k]? =_;rw[Hb (Tq h),List.count_cons];by_cases e:o=k
  ·rw[if_pos e,if_pos (by simpa using e),acO,ack];rfl
  ·rw[if_neg e,if_neg (by simpa using e),Nat.add_zero]
noncomputable def arr(G:bW)(k:Nat)(l:aG):aG:=l.flatMap λx=>aaY ((fL G x).count k) x
theorem Hc{G:bW}{k:Nat}:∀{bs:aG} {E:bW} {c:aG},E[k]? =O c->(jb G E bs)[k]? =O (c++arr G k bs)
 | [],E,c,h=>by simpa[jb,arr] using h
 | b::bs,E,c,h=>by
  show(jb G (iE E b (fL G b)) bs)[k]? =_;rw[Hc (Hb h)];unfold arr;rw[adn,acO]
theorem WE(hk:k<↑G):(cW G L)[k]? =O (arr G k (up (ks L) ↑G)):=by
 unfold cW;rw[Hc (c:=[]) (by rw[adS,if_pos hk]),aeK]
noncomputable def kd(E:List En)(x:Nat):String:=match E[x]? with
 | some e=>e.x
 | none=>""
theorem IB{x:Nat}{e:En}(h:E[x]? =O e):fL (bK E) x=e.to:=by
 unfold fL bK;rw[aaK,h];rfl
theorem Hd{k x:Nat}{s:String}:∀l:aG,(l.map λg=>((g,s,x):kU)).filter (λy=>decide (y.1=k))=aaY (l.count k) (k,s,x)
 | []=>rfl
 | g::l=>by
  rw[abt,ada,Hd l,List.count_cons];by_cases e:g=k
  ·subst e;simp[ack]
  ·simp[e]
theorem He(E:List En)(k:Nat):∀A:aG,(∀x∈A,x<↑E)->(A.flatMap (lY E)).filter (λy=>decide (y.1=k))=(arr (bK E) k A).map λx=>(k,kd E x,x)
 | [],_=>rfl
 | x::A,h=>by
  obtain⟨e,he⟩:∃e,E[x]? =O e:=bo (h x abo);have ih:=He E k A λy hy=>h y (aba _ hy)
  unfold arr at ih ⊢;rw[adn,adn,afS,abZ,ih,Iz he,Hd,IB he,List.map_replicate];have:kd E x=e.x:=by unfold kd;rw[he]
  rw[this]
theorem Q1{l':aG}(h:l.Perm l'):(arr G k l).Perm (arr G k l'):=List.Perm.flatMap_right _ h
section
variable{B:bM}{L:List Nd}{D:List JD}{m1:Nat}{A:aG}{Y:List kU}
theorem WG(hk:k<↑B):k∈WB B L↔wB (cW (bK (bu B)) L) (bu B) k=true:=by
 unfold WB wl;rw[abW,abv];exact⟨λh=>h.2,λh=>⟨hk,h⟩⟩
theorem WH(T:TD B L D)(hB:bZ m1 B)(w:Hw (bu B) L A Y ↑A){k:Nat}(D0:k∈FB B L)(h0:0<k):∃y ys,Y.filter (λy=>decide (y.1=k))=y::ys/\(decide (0<↑ys)||(decide (y.2.1="if")||decide (y.2.2=k)))= !decide (k∈WB B L):=by
 have jq:(bu B).length=↑B:=by unfold bu;rw[aaI]
 have mX:(bK (bu B)).length=↑B:=by unfold bK;rw[aaI,jq]
 obtain⟨LK,zo⟩:=hU.mp D0;have LR:A.Perm (FB B L):=(afK w.nd T.wi.nd).mpr λx=>⟨λh=>by
  have hx:=w.sub x h;obtain⟨y,hy,e⟩:=aaX.mp hx;have:=T.bf.lt y hy;exact hU.mpr ⟨by rw[<- e];omega,hx⟩,λh=>w.all T.bf x (hU.mp h).2⟩
 have cJ:∀x∈A,x<(bu B).length:=λx hx=>by
  have:=(hU.mp (LR.mem_iff.mp hx)).1;omega
 have hY:Y.filter (λy=>decide (y.1=k))=(arr (bK (bu B)) k A).map λx=>(k,kd (bu B) x,x):=by
  rw[w.y,acC];exact He _ _ _ cJ
 have hp:=Q1 (G:=bK (bu B)) (k:=k) LR;have hT:(cW (bK (bu B)) L)[k]? =O (arr (bK (bu B)) k (FB B L)):=by
  have:=WE (G:=bK (bu B)) (L:=L) (k:=k) ∅;rw[mX] at this;exact this
 obtain⟨x,hx,D3⟩:=aaX.mp zo;obtain⟨i,hi⟩:=abb.mp hx;have oV:i≠0:=λz=>by
  subst z;rw[T.bf.zero] at hi;cases hi;simp at D3;omega
 obtain⟨j,y0,g,g1,g2,_,_,g5,g6⟩:=T.bf.ie i x hi oV;unfold bK at g5;rw[aaK] at g5;obtain⟨e0,qN,rfl⟩:=aaP.mp g5;rw[D3] at g6;have zk:y0.k≠k:=λz=>by
  have e1:(ks L)[i]? =O k:=by rw[aaK,hi];simp[D3]
  have e2:(ks L)[j]? =O k:=by rw[aaK,g2];simp[z]
  have:=(adR (aaG.mp e1).1 T.bf.nd).mp (e1.trans e2.symm);omega
 have qx:y0.k∈arr (bK (bu B)) k (FB B L):=by
  unfold arr;rw[afo];refine⟨y0.k,?_,?_⟩
  ·have hm:=aaL g2;have:=T.bf.lt y0 hm;exact hU.mpr ⟨∅,aaX.mpr ⟨_,hm,rfl⟩⟩
  ·rw[IB qN,List.mem_replicate];exact⟨by have:=List.count_pos_iff.mpr g6;omega,rfl⟩
 rw[show decide (k∈WB B L)=wB (cW (bK (bu B)) L) (bu B) k by rw[acH,decide_eq_true_eq];exact WG LK];unfold wB;rw[hT,hY];generalize arr (bK (bu B)) k (FB B L)=RF at hp qx;generalize arr (bK (bu B)) k A=RA at hp
 match RF,qx,hp with
 | [b],qx,hp=>
  have hb:y0.k=b:=aaT.mp qx;subst hb;have hRA:RA=[y0.k]:=List.perm_singleton.mp hp;subst hRA;refine⟨_,[],rfl,?_⟩;have zi:kd (bu B) y0.k=e0.x:=by unfold kd;rw[qN]
  show(decide (0<0)||(decide (kd (bu B) y0.k="if")||decide (y0.k=k)))=_;rw[zi,bU zk]
  dsimp only
  rw[qN,a6 h0];cases e0 with
  | go t=>rfl
  | iff v a c=>rfl
  | fin=>cases g6
 | b::b'::R,_,hp=>
  have hl:=hp.length_eq
  match RA,hl with
  | [],hl=>cases hl
  | [_],hl=>simp at hl
  | a::a'::RA,_=>
   refine⟨_,_,rfl,?_⟩;simp
end
theorem YE{n:Nat}(h:H[i]? =O (.lst (iw A)))(hn:A.Nodup)(hl:∀x∈A,x<n)(hz:↑A<64):lift (ko [.ref i]) H=.ok (.ref ↑H) (H++[.lst (iw (up A n))]):=by
 have h1:gf (.ref i) H=none:=by unfold gf;simp only[h]
 have h2:sQ (.ref i) H=O (A.map λk:Nat=>(k:Int)):=by
  unfold sQ dm;simp only[h];rw[if_pos (AW h)];unfold iw;exact k7 oa (λk:Nat=>W.int k) (λk:Nat=>(k:Int)) (λ_=>rfl) A
 unfold lift ko;simp only[h1,h2];rw[if_pos (by rw[aaI];exact hz),Ie hn hl];unfold iw;rw[abU];rfl
noncomputable def gq(B:bM)(L:List Nd)(k:Nat):Bool:=decide (0<k)&& !decide (k∈WB B L)
theorem Q2(Y:List kU)(k:Nat):Y.filterMap (λy=>if y.1=k then O (iR y) else Z)=(Y.filter λy=>decide (y.1=k)).map iR:=by
 induction Y with
 | nil=>rfl
 | cons y Y ih=>
  rw[abM,ada,ih];by_cases e:y.1=k
  ·rw[if_pos e,if_pos (a6 e)];rfl
  ·rw[if_neg e,if_neg (by simpa using e)]
theorem Kc{i j:Int}(ha:a σ ph=.ok (.int i) ph1)(hb:b σ ph1=.ok (.int j) ph2)(hc:decide (j<i)=c):eT (ab gr a b) σ ph=.ok c ph2:=tB (op ha hb (by rw[<- hc];rfl))
variable{D:List JD}
theorem Tr{G:aG}(T:TD B L D)(hB:bZ m1 B)(w:Hw (bu B) L A Y ↑A)(hk:k∈FB B L)(hY:↑Y<=500)(hG:↑G<=500)(hy:H[↑ph+1]? =O (.lst (Y.map iR)))(hf:H[fi]? =O (.lst (iw G))):∃H' LS,vE [⇑bi,⇑↑ph,⇑(↑ph+1),o3,o4,o5,⇑fi,↥k,o8] H=.ok (.nx [⇑bi,⇑↑ph,⇑(↑ph+1),o3,o4,o5,⇑fi,↥k,LS]) H'/\H'[fi]? =O (.lst (iw (if gq B L k=true then G++[k] else G)))/\↑H<=↑H'/\∀j,j≠fi->j<↑H->H'[j]? =H[j]? :=by
 obtain⟨H1,e1,x1⟩:=iW Y iR (im:=cV (aa 2)) (cap:=[Z,O 7]) (g:=gN 0) (c:=eT (ab a9 (ab af (aa 0) {0}) (aa 1))) (e:=aa 0) (σ:=[⇑bi,⇑↑ph,⇑(↑ph+1),o3,o4,o5,⇑fi,↥k,o8]) (ph:=H) (ph0:=H)
  (fB rfl hy) (λp x=>a6 (x.get hy)) (abw hY (by decide))
  (λy=>if y.1=k then O (iR y) else Z) (λσ=>∃o,σ=[o,↥k]) ⟨Z,rfl⟩
  (λy _ σ K zz _=>by
   obtain⟨o,rfl⟩:=zz;refine⟨_,rfl,⟨_,rfl⟩,decide (y.1=k),K,Ct (i:=(y.1:Int)) (j:=(k:Int)) (op rfl rfl rfl) rfl (by rw[decide_eq_decide];omega),Ex.refl _,?_⟩;by_cases e:y.1=k
   ·exact .inr ⟨a6 e,_,K,rfl,Ex.refl _,if_pos e⟩
   ·exact .inl ⟨bU e,if_neg e⟩)
 rw[Q2] at x1;have hs:=x1.get (bD H _);have xH:Ex H H1:=(Ex.one _ _).trans x1;have s1:=asg (i:=8) e1;have jn:=xH.len;have lK:=iC hf;have keep:∀j,j<↑H->H1[j]? =H[j]? :=λj hj=>by
  obtain⟨o,ho⟩:=bo hj;rw[ho];exact xH.get ho
 have g1:eT (ab gr (aa 7) {0}) [⇑bi,⇑↑ph,⇑(↑ph+1),o3,o4,o5,⇑fi,↥k,⇑↑H] H1=.ok (decide (0<k)) H1:=Kc (i:=(k:Int)) (j:=0) rfl rfl (by rw[decide_eq_decide];omega);unfold vE;by_cases h0:0<k
 ·rw[a6 h0] at g1;obtain⟨y,ys,hyy,hc⟩:=WH T hB w hk h0;rw[hyy] at hs;have i0:∀{a:EM},a [⇑bi,⇑↑ph,⇑(↑ph+1),o3,o4,o5,⇑fi,↥k,⇑↑H] H1=.ok (.ref ↑H) H1->ab af a {0} [⇑bi,⇑↑ph,⇑(↑ph+1),o3,o4,o5,⇑fi,↥k,⇑↑H] H1=.ok (iR y) H1:=λha=>op ha rfl (gZ hs (show da ((y::ys).map iR) ((0:Nat):Int)=O (iR y) by rw[gG _ _ (by simp)];rfl))
  have t2:=kG (Kc (a:=aV a7 (ae (aa 8) ag)) (b:=eC (.int (1))) (c:=decide (0<↑ys)) (σ:=[⇑bi,⇑↑ph,⇑(↑ph+1),o3,o4,o5,⇑fi,↥k,⇑↑H]) (ph:=H1) (az (ax rfl rfl) (gY hs)) rfl (by rw[decide_eq_decide,aaI,abq];omega))
   (kG (qO (e:=ab af (ab af (aa 8) {0}) {1}) (y:="if") y.2.1 (op (i0 (a:=aa 8) rfl) rfl rfl) rfl) (Ct (a:=ab af (ab af (aa 8) {0}) {2}) (b:=aa 7) (i:=(y.2.2:Int)) (j:=(k:Int)) (c:=decide (y.2.2=k)) (op (i0 (a:=aa 8) rfl) rfl rfl) rfl (by rw[decide_eq_decide];omega)))
  rw[hc] at t2;have hT:gq B L k= !decide (k∈WB B L):=by unfold gq;rw[a6 h0,ahG]
  cases hw:(!decide (k∈WB B L)) with
  | true=>
   rw[hw] at t2;have D4:=xH.get hf;refine⟨_,_,sq s1 (eV (tT g1 t2) (oU rfl ⟨_,D4⟩ rfl D4 (by unfold iw;rw[aaI];omega))),?_,by rw[aby];exact jn,λj hj dc=>by rw[dA (adh hj)];exact keep j dc⟩;rw[fS D4,hT,hw,if_pos rfl];unfold iw;rw[abZ];rfl
  | false=>
   rw[hw] at t2;refine⟨_,_,sq s1 (b8 (tT g1 t2) rfl),?_,jn,λj _ dc=>keep j dc⟩;rw[hT,hw,if_neg (by simp)];exact xH.get hf
 ·rw[bU h0] at g1;refine⟨_,_,sq s1 (b8 (tF g1) rfl),?_,jn,λj _ dc=>keep j dc⟩;have hT:gq B L k=false:=by unfold gq;rw[bU h0];rfl
  rw[hT,if_neg (by simp)];exact xH.get hf
theorem Ju{a b:PH}(h:∀j,j<↑a->b[j]? =a[j]?)(hl:↑a<=↑b):Ex a b:=by
 refine⟨b.drop ↑a,?_⟩;apply adO;intro j;by_cases hj:j<↑a
 ·rw[h j hj,abm hj]
 ·rw[aen ∅,List.getElem?_drop]
  congr 1
  omega
theorem Ts{A':aG}{n:Nat}(h:∀x,x∈A↔x∈A'):up A n=up A' n:=by
 unfold up
 congr 1
 funext k
 rw[decide_eq_decide];exact h k
theorem YF(T:TD B L D)(hB:bZ m1 B):LB B L=[0]++(FB B L).filter (gq B L):=by
 have hp:=hB.pos;obtain⟨n,hn⟩:∃n,↑B=n+1:=⟨↑B-1,∅⟩
 have h0:=(hU.mp T.wi.zero.1).2;have hw:=T.wi.zero.2;have hF:FB B L=0::((abp n).map Nat.succ).filter λk=>decide (k∈ks L):=by
  unfold FB up;rw[hn,agG,ada,if_pos (a6 h0)]
 have key:∀l:aG,(∀x∈l,0<x)->l.filter (λk=> !decide (k∈WB B L))=l.filter (gq B L):=λl hl=>List.filter_congr λx hx=>by unfold gq;rw[a6 (hl x hx),ahG]
 unfold LB kT;rw[hF,ada,if_pos (by simpa using hw),ada,if_neg (by simp[gq]),key _ λx hx=>?_]
 ·rfl
 ·obtain⟨y,_,rfl⟩:=aaX.mp (abW.mp hx).1;exact Nat.succ_pos y
theorem A7(T:TD B L D)(hB:bZ m1 B)(hF:fN B)(hA:cx ph bi B):∃fi H',zO [.ref bi] ph=.ok (.ref fi) H'/\Ex ph H'/\H'[fi]? =O (.lst (iw (LB B L))):=by
 have Cu:=hB.top;have jq:(bu B).length=↑B:=by unfold bu;rw[aaI]
 have mX:(bK (bu B)).length=↑B:=by unfold bK;rw[aaI,jq]
 obtain⟨p1,lW⟩:∃p1,p1=ph++[PO.lst [.int 0]]:=⟨_,rfl⟩
 have l1:↑p1=↑ph+1:=by rw[lW];simp
 obtain⟨p2,fG⟩:∃p2,p2=p1++[PO.lst []]:=⟨_,rfl⟩
 have s0:Hs ph p2 [0] []:=⟨by rw[fG,lW];exact(Ex.one _ _).trans (Ex.one _ _),by rw[fG,lW];exact(Ex.one _ _).get (bD _ _),by rw[fG,<- l1];exact bD _ _⟩
 obtain⟨H1,A,Y,i,o4,o5,e1,s,w⟩:=Q0 (o4:=Z) (o5:=Z) (o6:=Z) (o7:=Z) (o8:=Z) hB hF hA T.bf s0;have u3:∀x∈A,x<↑B:=λx hx=>by
  obtain⟨y,hy,rfl⟩:=aaX.mp (w.sub x hx);have:=T.bf.lt y hy;omega
 have hAn:=iV w.nd u3;have LO:↑Y<=500:=by
  rw[w.y,acC];have:=xU (f:=lY (bu B)) (c:=2) (l:=A) λx _=>Ha _ x
  omega
 obtain⟨H2,aR⟩:∃H2,H2=H1++[PO.lst [.int 0]]:=⟨_,rfl⟩
 have x2:Ex H1 H2:=aR▸Ex.one _ _;have f2:H2[↑H1]? =O (.lst (iw [0])):=by rw[aR];exact bD _ _
 have fF:↑H2=↑H1+1:=by rw[aR];simp
 have es:=YE (n:=↑B) (x2.get s.a) w.nd u3 ∅;rw[Ts (A':=ks L) λx=>⟨w.sub x,w.all T.bf x⟩] at es;have DV:=iC s.y;have hFn:(FB B L).length<=60:=by have:=iV T.wi.nd (n:=↑B) λx hx=>(hU.mp hx).1;omega
 obtain⟨aj,H',ef,o3,pb,lZ,o7,o8,rfl,q1,q2,q3,q4⟩:=gX (chk:=λp=>decide (p[↑H2]? =O (.lst (iw (FB B L))))) (g:=gN 7) (b:=vE)
  (λj σ K=>∃o3 o4 o5 o7 o8,σ=[⇑bi,⇑↑ph,⇑(↑ph+1),o3,o4,o5,⇑↑H1,o7,o8]/\K[↑H1]? =O (.lst (iw ([0]++((FB B L).take j).filter (gq B L))))/\K[↑H2]? =O (.lst (iw (FB B L)))/\↑H2<↑K/\∀u,u<↑H1->K[u]? =H1[u]?)
  (iw (FB B L)) [⇑bi,⇑↑ph,⇑(↑ph+1),↥i,o4,o5,⇑↑H1,Z,Z] (H2++[.lst (iw (FB B L))])
  (λj σ K zz=>by
   obtain⟨_,_,_,_,_,_,_,z,_⟩:=zz;exact a6 z)
  (λj u σ K hj zz=>by
   obtain⟨o3,o4,o5,o7,o8,rfl,k1,k2,k3,k4⟩:=zz;unfold iw at hj;rw[aaK] at hj;obtain⟨k,hk,rfl⟩:=aaP.mp hj;have lK:([0]++((FB B L).take j).filter (gq B L)).length<=500:=by
    rw[aaQ];have a1:=acX (gq B L) ((FB B L).take j);have a2:=List.length_take_le j (FB B L);simp only[abq,aeL];have a3:((FB B L).take j).length<=(FB B L).length:=by rw[adx];exact agz _ _
    omega
   obtain⟨K',LS,e3,r1,r2,r3⟩:=Tr (bi:=bi) (o3:=o3) (o4:=o4) (o5:=o5) (o8:=o8) T hB w (aaL hk) LO lK (by rw[k4 _ DV];exact s.y) k1;refine⟨_,_,rfl,_,K',e3,_,.inl rfl,o3,o4,o5,_,_,rfl,?_,?_,∅,λv hv=>?_⟩
   ·rw[r1,pq hk,afS,<- acO];by_cases ht:gq B L k=true
    ·rw[if_pos ht];simp[ht]
    ·rw[if_neg ht];simp[ht]
   ·rw[r3 _ ∅ ∅];exact k2
   ·rw[r3 v ∅ ∅];exact k4 v hv)
  ⟨_,_,_,_,_,rfl,(Ex.one _ _).get f2,bD _ _,by simp,λu hu=>by rw[abm ∅,aR,abm hu]⟩
 have uO:(iw (FB B L)).length=(FB B L).length:=by unfold iw;rw[aaI]
 rw[uO,acC,<- YF T hB] at q1;refine⟨↑H1,H',?_,s.ex.trans (Ju q4 ∅),q1⟩;unfold zO vX;rw[jN];refine bq (ph1:=p1) (asg (w:=.ref ↑ph) (by rw[lW];rfl)) (bq (ph1:=p2) (asg (w:=.ref (↑ph+1)) (by rw[fG,<- l1];rfl)) (bq (asg (w:=.int 0) rfl) (bq e1 (bq (ph1:=H2) (asg (w:=.ref ↑H1) (by rw[aR];rfl)) (bq (f7 (fB (az (ax rfl rfl) es) (bD _ _)) ef) (br rfl))))))
theorem PQ{mi:Nat}{M:List Pp}(T:TD B L D)(hB:bZ m1 B)(hF:fN B)(dw:bZ m2 (aW B L D))(hA:cx ph bi B)(hN:cx ph ni (aW B L D))(hm:ph[mi]? =O (.bY (cR M)))(wk:Wk B (aW B L D) (R0 B L D) (R B D) M [])(hM:↑M<77)(d1:∀p∈M.map (·.1),p∈jr)(d2:∀p∈M.map (·.2),p∈jr):∃ph',zH [.ref bi,.ref ni,.ref mi] ph=.ok (.bl true) ph'/\Ex ph ph':=by
 have y3:=dw.top;have c1:∀{σ:aO} {H:PH},aa 2 σ=ay (.ref mi)->H[mi]? =O (.bY (cR M))->eT (ab dG (r8 (mm (aa 2) [Z,Z] (eA 2 [(gN 0),(gN 1)]) cF (aa 0))) (aV ox (ae (aa 2) ag))) σ H=.ok false (H++[.lst (M.map λx=>cB x.1)]):=λ{σ H} hv hh=>by
  have e:=FA (M:=M) (f:=λx=>cB x.1) (m:=aa 2) (cap:=[Z,Z]) (g:=eA 2 [(gN 0),(gN 1)]) (e:=aa 0) (σ:=σ) (by rw[hv];rfl) hh ∅ (λσ=>∃a b,σ=[a,b]) ⟨Z,Z,rfl⟩ (λx _ σ K zz=>by
   obtain⟨a,b,rfl⟩:=zz;exact⟨_,rfl,⟨_,_,rfl⟩,rfl⟩)
  have hl:(M.map λx=>cB x.1)=(M.map (·.1)).map cB:=by rw[abU];rfl
  refine oz (i:=(↑M:Int)) (j:=(↑M:Int)) (az e ?_) (az (ax (by rw[hv];rfl) rfl) (G4 ((Ex.one _ _).get hh))) (bU ∅);rw[Gq (l:=M.map (·.1)) (by rw[hl];exact bD _ _) (G8 T wk.nd wk.ok) d1 (by rw[aaI];exact hM),aaI]
 have c2:∀{σ:aO} {H:PH},aa 2 σ=ay (.ref mi)->H[mi]? =O (.bY (cR M))->eT (ab dG (r8 (mm (aa 2) [Z,Z] (eA 2 [(gN 0),(gN 1)]) cF (aa 1))) (aV ox (ae (aa 2) ag))) σ H=.ok false (H++[.lst (M.map λx=>cB x.2)]):=λ{σ H} hv hh=>by
  have e:=FA (M:=M) (f:=λx=>cB x.2) (m:=aa 2) (cap:=[Z,Z]) (g:=eA 2 [(gN 0),(gN 1)]) (e:=aa 1) (σ:=σ) (by rw[hv];rfl) hh ∅ (λσ=>∃a b,σ=[a,b]) ⟨Z,Z,rfl⟩ (λx _ σ K zz=>by
   obtain⟨a,b,rfl⟩:=zz;exact⟨_,rfl,⟨_,_,rfl⟩,rfl⟩)
  have hl:(M.map λx=>cB x.2)=(M.map (·.2)).map cB:=by rw[abU];rfl
  refine oz (i:=(↑M:Int)) (j:=(↑M:Int)) (az e ?_) (az (ax (by rw[hv];rfl) rfl) (G4 ((Ex.one _ _).get hh))) (bU ∅);rw[Gq (l:=M.map (·.2)) (by rw[hl];exact bD _ _) (PP T wk.nd wk.ok) d2 (by rw[aaI];exact hM),aaI]
 obtain⟨H1,aw⟩:∃H1,H1=ph++[PO.lst (M.map λx=>cB x.1)]:=⟨_,rfl⟩
 have x1:Ex ph H1:=aw▸Ex.one _ _;obtain⟨H2,aR⟩:∃H2,H2=H1++[PO.lst (M.map λx=>cB x.2)]:=⟨_,rfl⟩
 have x2:Ex ph H2:=aR▸x1.trans (Ex.one _ _);obtain⟨fi,H3,e3,x3,q3⟩:=A7 T hB hF (hA.mono x2);have oY:Ex ph H3:=x2.trans x3;have bV:(LB B L).length=(aW B L D).length:=by rw[sE,T.len]
 have lw:=(hN.mono oY).a7;have lh:lift (a7 [.ref fi]) H3=.ok (.int ((aW B L D).length:Int)) H3:=(gY q3).trans (by unfold iw;rw[aaI,bV]);have iO:lN (ae {1} (ae (aV a7 (ae (aa 1) ag)) ag)) [⇑bi,⇑ni,⇑mi,⇑fi] H3=.ok ((abp ((aW B L D).length-1)).map (λi:Nat=>W.int ((i+1:Nat):Int)),λ_=>true) H3:=by
  rw[HF (ax rfl (ax (az (ax rfl rfl) lw) rfl)) (by decide) (by decide) ∅ ∅]
  congr 2
  unfold ez;rw[show(((aW B L D).length:Int)-1).toNat=(aW B L D).length-1 by omega]
  congr 1
  funext i
  congr 1
  omega
 obtain⟨H4,e4,x4⟩:=iW (abp ((aW B L D).length-1)) (λi:Nat=>W.int ((i+1:Nat):Int)) (cap:=[Z,O 2,O 3]) (g:=gN 0) (c:=cF) (e:=ab oS (bp (ae (bp (ae (ab af (aa 2) (aa 0)) (ae {0} ag))) (ae (bp (ae (aa 0) (ae {0} ag))) ag))) (aa 1)) iO (λ_ _=>rfl) (by rw[abz];exact abw (show _<=60 by omega) (by decide))
  (λ_=>O (.bl true)) (λσ=>∃o,σ=[o,⇑mi,⇑fi]) ⟨Z,rfl⟩
  (λi hi σ K zz y=>by
   obtain⟨o,rfl⟩:=zz;have hi:=abv.mp hi;obtain⟨k,hk⟩:∃k,(LB B L)[i+1]? =O k:=bo ∅;have aah:=QX T hB hF dw wk hk ∅;refine⟨_,rfl,⟨_,rfl⟩,true,K,rfl,Ex.refl _,.inr ⟨rfl,.bl true,K,?_,Ex.refl _,rfl⟩⟩;refine op (x:=b7 ((k,0),(i+1,0))) (y:=.ref mi) (ph1:=K) (ph2:=K) (az (ax (az (ax (op rfl rfl (td (y.get q3) hk)) (ax rfl rfl)) rfl) (ax (az (ax rfl (ax rfl rfl)) rfl) rfl)) rfl) rfl ?_;rw[Wn ((oY.trans y).get hm),a6 aah])
 have h4:=x4.get (bD H3 _);have gg:((abp ((aW B L D).length-1)).filterMap λ_=>O (W.bl true))=((abp ((aW B L D).length-1)).map λ_=>true).map W.bl:=by rw[nE,abU];rfl
 rw[gg] at h4;refine⟨H4,?_,oY.trans ((Ex.one _ _).trans x4)⟩;unfold zH vL;rw[yl];refine bq (ph1:=H2) (b8 (oF (c1 rfl hm) (by rw[<- aw,c2 rfl (x1.get hm),aR])) rfl) (bq (asg (az (ax rfl rfl) e3)) (bq (b8 (tB (op (az (ax rfl rfl) lw) (az (ax rfl rfl) lh) (ne_self rfl (by simp[abe])))) rfl) (br (az (ax e4 rfl) ?_))));rw[Sx h4]
 congr 2
 simp
theorem WI(H:PH)(n:Nat)(r:Row):∃d,dat H (n+1) r.w=O d/\abe d d=true:=by
 cases r with
 | ua a w b c=>exact⟨_,cX (mc (cT _ _ _) (mc (by cases n <;> rfl) (mc (cT _ _ _) (mc (by cases n <;> rfl) (mc (by cases n <;> rfl) rfl))))),by simp[abe,abn]⟩
 | put a m=>exact⟨_,cX (mc (cT _ _ _) (mc (by cases n <;> rfl) (mc (by cases n <;> rfl) rfl))),by simp[abe,abn]⟩
 | move a b=>exact⟨_,cX (mc (cT _ _ _) (mc (by cases n <;> rfl) (mc (by cases n <;> rfl) rfl))),by simp[abe,abn]⟩
 | pull a b=>exact⟨_,cX (mc (cT _ _ _) (mc (by cases n <;> rfl) (mc (by cases n <;> rfl) rfl))),by simp[abe,abn]⟩
 | push a b=>exact⟨_,cX (mc (cT _ _ _) (mc (by cases n <;> rfl) (mc (by cases n <;> rfl) rfl))),by simp[abe,abn]⟩
 | take a=>exact⟨_,cX (mc (cT _ _ _) (mc (by cases n <;> rfl) rfl)),by simp[abe,abn]⟩
 | tell a=>exact⟨_,cX (mc (cT _ _ _) (mc (by cases n <;> rfl) rfl)),by simp[abe,abn]⟩
 | turn=>exact⟨_,cX (mc (cT _ _ _) rfl),by simp[abe,abn]⟩
theorem YG(H:PH)(n:Nat)(e:En):∃d,dat H (n+1) e.w=O d/\abe d d=true:=by
 cases e with
 | go k=>exact⟨_,cX (mc (cT _ _ _) (mc (by cases n <;> rfl) rfl)),by simp[abe,abn]⟩
 | iff v a b=>exact⟨_,cX (mc (cT _ _ _) (mc (by cases n <;> rfl) (mc (by cases n <;> rfl) (mc (by cases n <;> rfl) rfl)))),by simp[abe,abn]⟩
 | fin=>exact⟨_,cX (mc (cT _ _ _) rfl),by simp[abe,abn]⟩
theorem Hf(H:PH)(n:Nat):∀rs:List Row,∃ds,ba (dat H (n+1)) (rs.map Row.w)=O ds/\abn ds ds=true
 | []=>⟨[],rfl,by simp[abn]⟩
 | r::rs=>by
  obtain⟨d,hd,hr⟩:=WI H n r;obtain⟨ds,h1,h2⟩:=Hf H n rs;exact⟨d::ds,mc hd h1,by simp[abn,hr,h2]⟩
theorem Hg(H:PH):∀(B:bM),∃ds,abn ds ds=true/\∀rs:aG,↑rs=↑B->(∀(k r:Nat) b,rs[k]? =O r->B[k]? =O b->H[r]? =O (.lst (b.rs.map Row.w)))->ba (dat H 39) (bw rs B)=O ds
 | []=>⟨[],by simp[abn],λrs hl _=>by
  rw[adb hl];rfl⟩
 | b::B=>by
  obtain⟨ds,h1,h2⟩:=Hg H B;obtain⟨rs,q1,q2⟩:=Hf H 36 b.rs;obtain⟨d,q3,q4⟩:=YG H 37 b.en;refine⟨.tuple [.list rs,d]::ds,by simp[abe,abn,h1,q2,q4],λr hl hr=>?_⟩;cases r with
  | nil=>cases hl
  | cons r0 r=>
   have qP:=hr 0 r0 b rfl rfl;show ba (dat H 39) (W.tup [.ref r0,b.en.w]::bw r B)=_;exact mc (cX (mc (kf qP q1) (mc q3 rfl))) (h2 r (by simpa using hl) λk r' b' e1 e2=>hr (k+1) r' b' (by simpa using e1) (by simpa using e2))
theorem Hh(hi:cx H i B)(hj:cx H j B):dS H (.ref i) (.ref j)=O true:=by
 obtain⟨rs,hi⟩:=hi;obtain⟨D5,hj⟩:=hj;obtain⟨ds,h1,h2⟩:=Hg H B;have e1:dat H 40 (.ref i)=O (.list ds):=kf hi.at_ (h2 rs hi.len hi.jZ);have e2:dat H 40 (.ref j)=O (.list ds):=kf hj.at_ (h2 D5 hj.len hj.jZ);unfold dS;simp only[e1,e2];simp[abe,h1]
theorem YH(hR:lE H ni rs NB)(dw:bZ m NB):ni∉rs:=λhm=>by
 obtain⟨k,hk⟩:=abb.mp hm;obtain⟨c,hc⟩:∃c,NB[k]? =O c:=bo (by rw[<- hR.len];exact(aaG.mp hk).1);have h1:=hR.jZ k ni c hk hc;rw[hR.at_] at h1;have e:bw rs NB=c.rs.map Row.w:=by injection h1 with h1;injection h1
 have hp:=dw.pos;obtain⟨c0,fK⟩:∃c,NB[0]? =O c:=bo hp;obtain⟨r0,qP⟩:∃r,rs[0]? =O r:=bo (by rw[hR.len];exact hp);have h2:=pU qP fK;rw[e,aaK] at h2;obtain⟨r,_,h3⟩:=aaP.mp h2;cases r <;> cases h3
theorem Tt{bd:Nat}(hR:lE H ni rs NB)(dw:bZ m NB)(hm:m<=5000)(j0:∀r∈rs,bd<=r):∃H' p7 p8,dQ (λp=>decide (p[ni]? =O (.lst (bw rs NB)))) (eA 2 [(gN 7),(gN 8)]) wW (bw rs NB) [s0,s1,s2,s3,s4,s5,s6,o7,o8] H=.ok (.nx [s0,s1,s2,s3,s4,s5,s6,p7,p8]) H'/\H'[ni]? =O (.lst (bw rs NB))/\(∀j,j<bd->H'[j]? =H[j]?)/\↑H'=↑H:=by
 have hni:=YH hR dw;have Cu:=dw.top;obtain⟨aj,H',e,p7,p8,rfl,q1,q2,q3,_⟩:=gX (chk:=λp=>decide (p[ni]? =O (.lst (bw rs NB)))) (g:=eA 2 [(gN 7),(gN 8)]) (b:=wW)
  (λj σ K=>∃o7 o8,σ=[s0,s1,s2,s3,s4,s5,s6,o7,o8]/\K[ni]? =O (.lst (bw rs NB))/\(∀u,u<bd->K[u]? =H[u]?)/\↑K=↑H/\∀r∈rs,∃ws,K[r]? =O (.lst ws)/\↑ws<=5000+j)
  (bw rs NB) [s0,s1,s2,s3,s4,s5,s6,o7,o8] H (λj σ K zz=>by
   obtain⟨_,_,_,z,_⟩:=zz;exact a6 z)
  (λj w σ K hj zz=>by
   obtain⟨o7,o8,rfl,k1,k2,k3,k4⟩:=zz;have dc:j<NB.length:=by have:=(aaG.mp hj).1;rw[lj hR.len] at this;exact this
   obtain⟨c,hc⟩:∃c,NB[j]? =O c:=bo dc;obtain⟨r,hr⟩:∃r,rs[j]? =O r:=bo (by rw[hR.len];exact dc);rw[pU hr hc] at hj;cases hj;have D6:=aaL hr;obtain⟨ws,hw,jT⟩:=k4 r D6;have hb:=j0 r D6;refine⟨_,_,rfl,?_⟩;unfold wW;refine⟨_,_,oU (w:=.tup [.str "turn"]) rfl ⟨_,hw⟩ rfl hw ∅,_,.inl rfl,_,_,rfl,?_,λu hu=>?_,by rw[aby];exact k3,λr' oJ=>?_⟩
   ·rw[dA (show r≠ni from λz=>hni (by rw[<- z];exact D6))];exact k1
   ·rw[dA ∅];exact k2 u hu
   ·by_cases e:r=r'
    ·subst e;exact⟨_,fS hw,by rw[aaQ];simp;omega⟩
    ·obtain⟨dh,h1,h2⟩:=k4 r' oJ;exact⟨dh,by rw[dA e];exact h1,∅⟩)
  ⟨_,_,rfl,hR.at_,λ_ _=>rfl,rfl,λr hr=>by
   obtain⟨k,hk⟩:=abb.mp hr;obtain⟨c,hc⟩:∃c,NB[k]? =O c:=bo (by rw[<- hR.len];exact(aaG.mp hk).1);refine⟨_,hR.jZ k r c hk hc,?_⟩;rw[aaI];have:=(dw.rows c (aaL hc)).1;omega⟩
 exact⟨H',p7,p8,e,q1,q2,q3⟩
theorem WJ(ns:bI):∃n:Nat,0<n/\n<=14/\∃n0:Int,aK (ab addW {1} (ab bJ (bh fx (ae (aa 0) (ae {0} ag))) {7})) (gN 1) [~~~ns,Z,Z,Z,Z,Z,Z,Z,Z] []=.ok (.nx [~~~ns,↥n0,Z,Z,Z,Z,Z,Z,Z]) []/\cb (eT (ab a9 (ab bJ (ab cN (bh fx (ae (aa 0) (ae {0} ag))) {7}) {9}) {1})) (aK (ab addW {8} (ab bJ (ab cN (bh fx (ae (aa 0) (ae {0} ag))) {63}) {7})) (gN 1)) cj [~~~ns,↥n0,Z,Z,Z,Z,Z,Z,Z] []=.ok (.nx [~~~ns,↥n,Z,Z,Z,Z,Z,Z,Z]) []:=by
 obtain⟨m0,h0,e0⟩:=mn (a:=ns.getD 0 0) (n:=7) (by decide);obtain⟨m1,h1,e1⟩:=mn (a:=(ns.getD 0 0).fdiv 63) (n:=7) (by decide);have a1:=asg (i:=1) (σ:=[~~~ns,Z,Z,Z,Z,Z,Z,Z,Z]) (ad (a:=eC (.int (1))) (b:=ab bJ (bh fx (ae (aa 0) (ae {0} ag))) {7}) (ph:=[]) rfl (md (cl (i:=0) rfl rfl (by decide)) rfl (by decide)));have t:eT (ab a9 (ab bJ (ab cN (bh fx (ae (aa 0) (ae {0} ag))) {7}) {9}) {1}) [~~~ns,↥(1+(ns.getD (0:Int).toNat 0).fmod 7),Z,Z,Z,Z,Z,Z,Z] []=.ok (decide (((ns.getD (0:Int).toNat 0).fdiv 7).fmod 9=1)) []:=eI (md (dv (cl (i:=0) rfl rfl (by decide)) rfl (by decide) (by decide)) rfl (by decide)) rfl;by_cases c:((ns.getD (0:Int).toNat 0).fdiv 7).fmod 9=1
 ·rw[a6 c] at t;refine⟨8+m1,∅,∅,_,a1,eV t ?_⟩;have:=asg (i:=1) (σ:=[~~~ns,↥(1+(ns.getD (0:Int).toNat 0).fmod 7),Z,Z,Z,Z,Z,Z,Z]) (ad (a:=eC (.int (8))) (b:=ab bJ (ab cN (bh fx (ae (aa 0) (ae {0} ag))) {63}) {7}) (ph:=[]) rfl (md (dv (cl (i:=0) rfl rfl (by decide)) rfl (by decide) (by decide)) rfl (by decide)));rw[this,show(ns.getD (0:Int).toNat 0).fdiv 63=(ns.getD 0 0).fdiv 63 from rfl,e1];rfl
 ·rw[bU c] at t;refine⟨1+m0,∅,∅,_,a1,(b8 t rfl).trans ?_⟩;rw[show(ns.getD (0:Int).toNat 0).fmod 7=(ns.getD 0 0).fmod 7 from rfl,e0];rfl
theorem Tu{D':List JD}(T:TD B L D)(T':TD B L' D')(hB:bZ m1 B)(hF:fN B)(hA:cx ph bi B):(LB B L).length=(LB B L').length:=by
 obtain⟨f1,H1,e1,_,g1⟩:=A7 T hB hF hA;obtain⟨f2,H2,e2,_,g2⟩:=A7 T' hB hF hA;rw[e1] at e2;injection e2 with a b
 injection a with a
 subst b;subst a;rw[g1] at g2;injection g2 with c
 injection c with c
 have:=congrArg ahp c;unfold iw at this;rw[aaI,aaI] at this;exact this
theorem D7{e:EM}(h:e σ ph=.ok (.bl true) ph1):h9 e σ ph=.ok true ph1:=az h rfl
theorem aai{w:W}(h:a σ ph=.ok (.bl true) ph1)(h2:b σ ph1=.ok w ph2):tE a b σ ph=.ok w ph2:=az h h2
theorem good(ns:bI)(h:↑ns<=63):∃ph',sY [.fl (ns.map W.int)] []=.ok (.bl true) ph':=by
 obtain⟨n,n0,n1,v0,a1,a2⟩:=WJ ns;obtain⟨m1,h1,e1⟩:=mn (a:=ns.getD 1 0) (n:=8) (by decide);obtain⟨m2,h2,e2⟩:=mn (a:=(ns.getD 1 0).fdiv 8) (n:=12) (by decide);obtain⟨bi,H1,B,b1,x1,bA,bl,bO,bF⟩:=QR (ph:=[]) ns (n:=n) (bx:=2+(m1:Int)) (sl:=1+(m2:Int)) ∅ n0 ∅ ∅;obtain⟨H2,c1,x2,cA⟩:=Wm (s0:= ~~~ns) (s1:= ↥n) (s2:= ↥(2+(m1:Int))) (s4:=Z) (s5:=Z) (s6:=Z) (s7:=Z) (s8:=Z) bA ∅;have u4:=bA.mono x2;obtain⟨nb,H3,L,D,rs,t3,x3,nR,T,nO,gnb,grs⟩:=EL bO (by decide) cA;have nA:cx H3 nb (aW B L D):=⟨rs,nR⟩
 obtain⟨H4,t4,x4⟩:=N9 nO nA;have LU:=x3.trans x4;obtain⟨H5,M,t5,x5,hm,wk⟩:=Wr (sim T bO bF nO) ∅ bO nO (u4.mono LU) (nA.mono x4);have x35:=LU.trans x5;have hML:↑M<=↑B*(4+1):=(sim T bO bF nO).top M wk.nd wk.ok;have hNl:(aW B L D).length<=14:=by
  rw[sE,T.len];have h1:(LB B L).length<=(FB B L).length:=acX _ _;have h2:(FB B L).length<=(abp ↑B).length:=acX _ _;rw[abz] at h2;omega
 obtain⟨H6,t6,x6⟩:=PQ T bO bF nO (u4.mono x35) (nA.mono (x4.trans x5)) hm wk ∅
  (λp hp=>by
   obtain⟨x,hx,rfl⟩:=aaX.mp hp;have:=Jt bO (wk.ok x hx);exact G6 ∅ ∅)
  (λp hp=>by
   obtain⟨x,hx,rfl⟩:=aaX.mp hp;have:=YB T nO (wk.ok x hx);exact G6 ∅ ∅)
 have LV:=(x4.trans x5).trans x6;obtain⟨H7,t7,x7⟩:=WC nO (nA.mono LV) (λj u c c2 hc hu h2 hr t=>Tj T bO bF hc hu h2 hr t);have lV:=LV.trans x7;have LW:Ex H2 H7:=x3.trans lV;obtain⟨H8,p7,p8,t8,g8,k8,l8⟩:=Tt (s0:= ~~~ns) (s1:= ↥n) (s2:= ↥(2+(m1:Int))) (s3:= ⇑bi) (s4:= ⇑↑H1) (s5:= ⇑nb) (s6:= ⇑↑H4) (o7:=Z) (o8:=Z) (nR.mono lV) nO ∅ grs;obtain⟨H9,e9⟩:∃H9:PH,H9=(H8++[PO.lst []]).set nb (.lst (bw rs (aW B L D)++[W.tup [.ref ↑H8,.tup [.str "end"]]])):=⟨_,rfl⟩
 have aaE:↑H2<=↑H7:=by obtain⟨m,e⟩:=LW;rw[e,aaQ];omega
 have LX:(H8++[PO.lst []])[nb]? =O (.lst (bw rs (aW B L D))):=(Ex.one _ _).get g8;have D8:Ex H2 H9:=Ju (λj hj=>by
   rw[e9,dA ∅,abm ∅,k8 j hj];obtain⟨r,hr⟩:∃r,H2[j]? =O r:=bo hj;rw[hr];exact LW.get hr) (by rw[e9,aby,aaQ];omega)
 have g9:H9[nb]? =O (.lst (bw rs (aW B L D)++[W.tup [.ref ↑H8,.tup [.str "end"]]])):=by rw[e9];exact fS LX
 obtain⟨nb',kO,L',D',D5,t10,x10,nR',T',nO',_,_⟩:=EL bO (by decide) (cA.mono D8);have bV:(aW B L' D').length=(aW B L D).length:=by
  rw[sE,sE,T.len,T'.len];exact Tu T' T bO bF u4
 have LY:(bw rs (aW B L D)).length=(aW B L D).length:=lj nR.len;have lw:lift (a7 [.ref nb]) kO=.ok (.int (((aW B L D).length+1:Nat):Int)) kO:=(gY (x10.get g9)).trans (by rw[aaQ,LY];rfl);have lw':lift (a7 [.ref nb']) kO=.ok (.int ((aW B L' D').length:Int)) kO:=cx.a7 ⟨D5,nR'⟩;refine⟨kO,?_⟩;unfold sY pS;rw[jN];refine bq a1 (bq a2 (bq (σ1:=[~~~ns,↥n,↥(2+(m1:Int)),Z,Z,Z,Z,Z,Z]) (ph1:=[]) ?_ (bq (asg (az (ax rfl (ax rfl (ax rfl (ax rfl (ax ?_ rfl))))) b1)) (bq (asg c1) (bq (asg (az (ax rfl rfl) t3)) (bq (b8 ?_ rfl) (bq (asg (az (ax rfl (ax rfl rfl)) t5)) (bq (b8 ?_ rfl) (bq (f7 (fB rfl (lV.get nR.at_)) t8) (bq (oU (w:=.tup [.ref ↑H8,.tup [.str "end"]]) (ph1:=H8++[.lst []]) rfl ⟨_,g8⟩ rfl LX ?_) ?_))))))))))
 ·rw[<- e1];exact asg (ad rfl (md (cl (i:=1) rfl rfl (by decide)) rfl (by decide)))
 ·rw[<- e2];exact ad rfl (md (dv (cl (i:=1) rfl rfl (by decide)) rfl (by decide) (by decide)) rfl (by decide))
 ·exact oF (tB (op (x:=.ref ↑H1) (y:=.ref bi) (ph1:=H3) (ph2:=H3) rfl rfl (Yb (Hh (cA.mono x3) (u4.mono x3))))) (lX (D7 (az (ax rfl rfl) t4)))
 ·exact oF (tB (op (x:=.ref ↑H4) (y:=.aH) (ph1:=H5) (ph2:=H5) rfl rfl rfl)) (oF (lX (D7 (az (ax rfl (ax rfl (ax rfl rfl))) t6))) (lX (D7 (az (ax rfl rfl) t7))))
 ·rw[LY];omega
 ·rw[<- e9];refine br (aai (ph1:=H9) (op (x:=.ref ↑H1) (y:=.ref bi) (ph1:=H9) (ph2:=H9) rfl rfl (Jg (Hh (cA.mono D8) (u4.mono D8)))) (op (x:=.int ((aW B L' D').length:Int)) (y:=.int ((aW B L D).length:Int)) (ph1:=kO) (ph2:=kO) (az (ax (az (ax rfl rfl) t10) rfl) lw') ?_ ?_))
  ·have:=sb (a:=aV a7 (ae (aa 5) ag)) (b:=eC (.int (1))) (σ:=[~~~ns,↥n,↥(2+(m1:Int)),⇑bi,⇑↑H1,⇑nb,⇑↑H4,p7,p8]) (az (ax rfl rfl) lw) rfl;rw[show(((aW B L D).length+1:Nat):Int)-1=((aW B L D).length:Int) by omega] at this;exact this
  ·rw[bV];exact(congrFun (BQ _ _) kO).trans (by rw[a6 rfl];rfl)
end IL.K25
open PySem PySem.W PyProof.Rows
namespace PySem.W.Fast
def tw5977751312101041590:=0
def tw13381390109746640499:=0
def tw6896890381499389483:=0
def tw17725059097967968865:=0
def tw5882384182732111769:=0
def tw13888706773770227952:=0
def tw17987299166747391081:=0
def tw10893384490314928127:=0
def tw9594058334578665781:=0
def tw3859065377244665854:=0
def tw10535865258903365094:=0
def tw16392445556906844663:=0
def tw3845706808294779307:=0
def tw3689426928343342483:=0
def tw13578943667728289891:=0
def tw10039161504837704194:=0
def tw10363754080206594582:=0
def tw12976559820898166595:=0
def tw8363391590081816207:=0
def tw9116783498638798711:=0
def tw15585176259331538702:=0
def tw1992602507951359499:=0
def tw10426895495078742533:=0
def tw393292687552349773:=0
def tw11914221438823428385:=0
def tw17515123068308008212:=0
def tw2029049063125599362:=0
def tw11185850091883623217:=0
def tw8748304706184265508:=0
def tw16523563781390311986:=0
def tw6200834725725009225:=0
def tw12433789122089909618:=0
def tw10955808450625388615:=0
def tw4143412460203507991:=0
def tw17135695684178757681:=0
def tw2699564806950441829:=0
def tw14337687887999379478:=0
def tw13762875479913347562:=0
def tw7546569449084229398:=0
def tw9435602365067659210:=0
def tw11457783169219595969:=0
def tw10522975883847045871:=0
def tw4917756263581820499:=0
def tw5709770438335720845:=0
def tw4047296860924935107:=0
def tw2832538848442757703:=0
def tw14394133025662840858:=0
def tw3858121409034836835:=0
def tw4605303701533017532:=0
def tw14107102677302984574:=0
def tw6358059541470919956:=0
def tw12276315195536237943:=0
def tw9484868150945944325:=0
def tw232981535328406632:=0
def tw6965025133195191709:=0
def tw12759263258667385919:=0
def tw9324309032842943503:=0
def tw13482903954348447404:=0
def tw14946128142513531321:=0
def tw11476365636773089340:=0
def tw10568865744461082750:=0
def tw14905168940889751736:=0
def tw5311301552579747364:=0
def tw16495637487668034751:=0
def tw3970088313303180218:=0
def tw13021562867065809632:=0
def tw17566852127163455139:=0
def tw6183415948699606696:=0
def tw11658960210111314732:=0
def tw938568987411857263:=0
def tw2742317839853350073:=0
def tw14170402264150132274:=0
def tw15497509092534239705:=0
def tw17512940257564539047:=0
def tw17027068453485276326:=0
def tw7893198079404405037:=0
def tw11015712853930252075:=0
def tw12362892937667189420:=0
def tw12711167732922580325:=0
def tw15102241953471971040:=0
def tw11215467413629982865:=0
def tw4438512177405783455:=0
def tw16295675087526968130:=0
def tw11691874259007823643:=0
def tw14799213795352168202:=0
def tw820586463334663860:=0
def tw16882225446462196871:=0
def tw11370633104601825505:=0
def tw1087519390721119818:=0
def tw17912793574532862725:=0
def tw3256326549058523385:=0
def tw9257967796964547380:=0
def tw15806611915236432701:=0
def tw7997573716442076625:=0
def tw2183331114470605448:=0
def tw15678777051623780719:=0
def tw7464184863345531343:=0
def tw11390989478586053372:=0
def tw15295809961706145145:=0
def tw8464064485855334012:=0
def tw2972326874551737527:=0
def tw5051149083278178687:=0
def tw13673978758815242824:=0
def tw2669347361534162379:=0
def tw16651272372674365003:=0
def tw13483730164445389110:=0
def tw7214851350678868039:=0
def tw6882398954337249525:=0
def tw6404202007459898490:=0
def tw17689221145807131379:=0
def tw14131495681888546766:=0
def tw17742047720040661616:=0
def tw63750809431530412:=0
def tw6013814703924858619:=0
def tw7751350223811317091:=0
def tw1097094943256271827:=0
def tw6369114823403902252:=0
def tw3265917819186078863:=0
def tw14822664528141831956:=0
def tw3870163123942492921:=0
def tw4899444922352687680:=0
def tw17592165001759899866:=0
def tw16168005671700584903:=0
def tw11484395923012319978:=0
def tw6200042282118563786:=0
def tw5582872864973182668:=0
def tw17948325247714325491:=0
def tw14406642168162019132:=0
def tw4398814496650459386:=0
def tw15975519530374035598:=0
def tw2992753151203780860:=0
def tw44412948092000396:=0
def tw12728918620994187970:=0
def tw14529546089265907078:=0
def tw16150032435682830242:=0
def tw5241562425936863162:=0
def tw16498186915521938390:=0
def tw7613038341988942402:=0
def tw16344444985105603492:=0
def tw1840441652498767402:=0
def tw3535821548308345980:=0
def tw13148231373947484028:=0
def tw16562409214558858613:=0
end PySem.W.Fast
set_option maxHeartbeats 0 in
theorem PySem.Challenge.cw_boxwright_k25_whole_threaded_holds : PySem.Challenge.rw_boxwright_k25_whole_threaded.Holds := by
 w_on
 o_law
 k_head
 (case hw=>w_witness2)
 k_fill
 refine IL.K25.QI (l:=PySem.Challenge.rw_boxwright_k25_whole_threaded) (λns hn=>IL.K25.good ns hn) rfl rfl (λw h Y=>ahW Y) ?K ?T ?F
 case K=>intro w;kernel_rfl
 case T=>
  intro w h Y;refine IL.RT ?_ (ahW Y) (PySem.W.km_tabs_of Y)
  kernel_rfl
 case F=>
  intro w mg fa h KX G hmg;refine' IL.K25.all_mk KX G hmg ?J_0 ?J_1 ?J_2 ?J_3 ?J_4 ?J_5 ?J_6 ?J_7 ?J_8 ?J_9 ?J_10 ?J_11 ?J_12 ?J_13 ?J_14 ?J_15 ?J_16 ?J_17 ?J_18 ?J_19 ?J_20 ?J_21 ?J_22 ?J_23 ?J_24 ?J_25 ?J_26 ?J_27 ?J_28 ?J_29 ?J_30 ?J_31 ?J_32 ?J_33 ?J_34 ?J_35 ?J_36 ?J_37 ?J_38 ?J_39 ?J_40 ?J_41 ?w6 ?J_42 ?J_43 ?J_44 ?J_45 ?J_46 ?J_47 ?J_48 ?J_49 ?J_50 ?J_51 ?J_52 ?J_53
  (case J_10=>k_is)
  (case J_11=>k_is)
  (case J_12=>k_is)
  (case J_13=>k_is)
  (case J_17=>k_is)
  (case J_18=>k_is)
  (case J_19=>k_is)
  (case J_20=>k_is)
  (case J_29=>k_is)
  (case J_30=>k_is)
  (case J_31=>k_is)
  (case J_32=>k_is)
  (case J_33=>exact rfl)
  (case J_34=>k_is)
  (case J_35=>exact rfl)
  (case J_36=>exact rfl)
  (case J_37=>exact rfl)
  (case J_38=>k_is)
  (case J_39=>exact rfl)
  (case J_40=>exact rfl)
  (case J_41=>kernel_rfl)
  (case w6=>exact rfl)
  (case J_0 | J_1 | J_2 | J_3 | J_4 | J_5 | J_6 | J_7 | J_8 | J_9 | J_14 | J_15=>refine' IL.K25.HW ?a ?l ?c ?k;(case a=>k_is);(case l=>k_is);(case c=>k_is);(case k=>k_is))
  (case J_16 | J_21 | J_22 | J_23 | J_24 | J_25 | J_26 | J_27 | J_28=>refine' IL.K25.HW ?a ?l ?c ?k;(case a=>k_is);(case l=>k_is);(case c=>k_is);(case k=>k_is))
  (case J_42 | J_43 | J_44 | J_45 | J_46 | J_47 | J_48 | J_49 | J_50 | J_51 | J_52 | J_53=>k_is)
