import PyProof.Rows.All
import Wide.All
import OpenK.AllK
import Wide.FinOn
import Lean
import PyProof.EqAt
import PyProof.EqKinds
import PyProof.TupleCall
import PyProof.StationsW
import KE.KLam
import PyProof.P3Eq
import PyProof.NeData
import PyProof.AttrMissHeap
import KE.KDictOf
import PyProof.DictItems
import PyProof.Rows.Range3
import KE.KEqDict
import PyProof.FactsAll.NoneType_1
import PyProof.FactsAll.bool_1
import KE.KDictSum
import KE.KSorted
import PyProof.ListRange
import PyProof.DictTruth
import PyProof.DictWalks
import PyProof.NeKinds
import KE.KTab
import KE.KTabLook
import PyProof.ExcClass3
import PyProof.FString2
import PyProof.SliceStr2
import PyProof.StrBlock
import PyProof.StrLaws
import PyProof.StrOps2
import PyProof.DictValues
import KE.KDictList
import PyProof.PureStr
import PySem.Challenge.RW_boxwright_k14_ways_to_uses
set_option Elab.async false
set_option linter.all false
set_option maxRecDepth 100000
set_option maxHeartbeats 8000000
noncomputable section
local macro_rules | `(tactic| omega) => `(tactic| lia)
open And renaming intro->aar
open Array renaming length_toList->ack,getElem?_eq_some_iff->adg,toArray_toList->afA,append_assoc->afR,toList->agd
open Bool renaming and_eq_true->aaG,false_ne_true->abe,false_eq_true->abS,eq_iff_iff->aco,or_eq_true->acU,or_false->adX,false_and->aey,and_self->afV
open Classical renaming axiomOfChoice->aeT
open Decidable renaming isFalse->aaz,isTrue->abc
open False renaming elim->adp
open ForInStep renaming yield->acn
open Function renaming comp_def->aeJ,comp->afW
open Int renaming toNat_natCast->aba,zero_add->aci,toNat_of_nonneg->ael,natCast_add->aem,mul_add->afM
open List renaming getElem?_eq_some_iff->aam,length_map->aan,mem_of_getElem?->aap,getElem?_map->aau,mem_singleton->aav,size_toArray->aaB,mem_map->aaD,replicate->aaF,lookup_cons->aaJ,range->aaK,getElem?_append_left->aaM,mem_cons->aaO,getElem?_set_self->aaQ,mem_append->aaS,mem_append_right->aaT,length_append->aaU,map_cons->aaX,mem_cons_of_mem->aaY,getElem?_eq_getElem->aaZ,length_cons->abb,mem_append_left->abf,length_set->abg,map_append->abj,getElem?_set_ne->abk,getElem?_of_mem->abo,mem_cons_self->abr,mem_map_of_mem->abx,getElem?_concat_length->abC,map_map->abF,mem_range->abG,length_take->abI,all_eq_true->abJ,any_eq_true->abK,length_range->abN,find?_cons->abR,take_length->abV,getD_eq_getElem?_getD->abW,replicate_succ->abZ,any_cons->aca,getElem?_eq_none->acb,ext_getElem?->acj,nodup_cons->acl,append_eq_nil_iff->acq,getElem?_append_right->acr,getElem_mem->acu,all_cons->acx,flatten_cons->acF,filterMap_cons->acI,lookup->acV,append_assoc->adb,nodup_append->adf,length_reverse->ado,eq_of_mem_replicate->adu,nodup_nil->adI,length_singleton->adJ,getElem?_reverse->adM,filterMap_append->adO,getElem?_zipWith->adP,mem_nil_iff->adQ,dropLast_concat->adW,mem_filter->aeb,append_nil->aee,of_mem_zip->aef,getElem?_range->aeg,mem_filterMap->aer,map_nil->aet,getElem_range->aev,pairwise_cons->aew,set_cons_succ->aex,getElem?_eq_none_iff->aeC,length_filterMap_le->aeI,length_erase_of_mem->aeK,find?_isSome->aeL,foldl_append->aeM,getElem?_cons_succ->aeU,getLast?_cons_cons->aeV,take_of_length_le->aeZ,drop_eq_nil_of_le->afa,foldl_cons->afe,length_nil->afg,set_append_right->afp,any_map->afq,set_set->aft,range_succ->afu,mem_iff_getElem?->afw,drop_drop->afC,map_congr_left->afK,length_pos_iff->afL,length_zipWith->afN,length->agh
open List.cons renaming inj->ady
open Nat renaming le_refl->aat,lt_of_lt_of_le->aay,le_trans->aaN,ne_of_lt->aaW,zero_add->abi,zero_le->abA,lt_irrefl->abP,ne_of_gt->abU,lt_succ_self->acs,le_succ->acB,le_of_not_lt->acN,le_of_lt->acS,strongRecOn->adz,lt_of_le_of_lt->aeu,add_comm->aff,not_lt_zero->afv
open Nat.succ renaming inj->adt
open Ne renaming symm->abD
open Option renaming map_eq_some_iff->aaA,map_some->abh,isSome_iff_exists->abt,bind_some->aby,some->acA,isSome_map->acH,getD_some->adR
open Option.some renaming inj->abq
open Prod renaming ext->afU
open PyProof.Rows renaming callWith_type1->abm,boot_tuple->acg,boot_list->acp,slot_tuple_getitem->acE,envOfC->aes,AllBare->aeN,IntsAre->afd,boot_max->afr,boot_int->afs
open PyProof.Rows.IntsAre renaming length->afF
open PySem renaming wpAny_bind->aaq,Shared->aaw,wpAny_pure->aaE,sizeLine->aaH,mainGlobals->aaL,starEach->aaP,FuncData->aaV,foldedSetIterable->abp,wpAny_newObj_type->abu,Program->abw,bootBuiltins->abB,wpAny_mono->abE,compareOp->abH,wpAny_Call_Name_kw->abQ,assignEach->abX,mem_of_lookup->abY,sysModules->acd,wpAny_typeNameOfWhole_keyiter->ace,behindInMarks->acv,wpAny_truthy_bool->acC,wpAny_passesOwn->acD,attributeBase->acK,Around->acM,PyData->acR,TriplesOk->acT,wpAny_holding->acX,binaryOp->acY,NameKind->ada,backTo->adi,swapsWith->adj,wpAny_call_entry->adm,wpAny_callSpecial?_slot->adw,tupleKind_room_in1->adx,wpAny_field->adC,sliceBounds->adE,closureFor->adG,wpAny_setField->adH,codeAny_mono->adK,Paired->adT,rawInt->adU,lookup_relabel_local->adV,builtinsNs->adZ,PlainAttrs->aea,wpAny_execs_nil->aec,letOwnedTupleGo->aed,ItemsOf->aeh,codeAny_builtin->aei,wpAny_newFunctionEnv_cells->aeo,leaving->aez,wpAny_dictEntries->aeH,DictEntry->afb,codeAmong->afh,wpAny_specialOf->afl,wpAny_dictEpoch->afo,call_meets->afx,assign->afB,holding->afG,sizeLine_eq->afH,tupleKind->afP,PassesOwn->afS,valueAt->afZ,IsPart->agi
open PySem.Around renaming under_plainId->adh,frames_deeper->afz
open PySem.Builtin.Dict renaming showsAll->afn
open PySem.Builtin.Dict_items renaming ownsTuple->adY
open PySem.Builtin.List renaming listTooLong->acG,listExtendWith->acW,listLengthHint->aej,listSameRef->aeG,listItems->aeY
open PySem.Builtin.Range renaming rangeSize->acJ,small->aek
open PySem.Builtin.Slice renaming slicePlaces->acy,sliceAdjust->adk,sliceApplied->aep
open PySem.Builtin.Tuple renaming tupleExact->abM
open PySem.Calls renaming spliced_cons->acP,spliced_nil->acZ,Name_function_global->aen,callWith_builtin->aeX
open PySem.EntryCells renaming newEntry->afI
open PySem.F renaming slot_dict_keyiterator_next->abO,args_dict_keyiterator_next_1->adN,entry_dict_keyiterator_next->adS,args_tuple_add_2->aeF,entry_tuple_add->aeO,plain_list_iadd->aeQ,plainAttrs_list->aeS,slot_tuple_add->aeW
open PySem.Heap renaming get?_push_of_some->aas,lt_size->aax,get?_push_size->aaI,get?_update_other->abz,get?_update_self->acw,SameBut->aeq,get?_none_of_le->afy,size_push->afD
open PySem.Heap.IsRevIter renaming typeIs->afm
open PySem.Heap.SameBut renaming update->afJ
open PySem.NameKind renaming free->aaR,cell->acf,globalImplicit->aeP
open PySem.Obj renaming mapFields->acL,data_mapFields->acQ,mapSeq->adD,isFreed_of_fields->adL
open PySem.Paired renaming length->adv
open PySem.PassesOwn renaming never->afj,leaving->agc
open PySem.PyData renaming eqv->abd,eqvAll->ade,strOk->adq,int->ads,canLay0->aeB,tuple->afi,canLayAll0->agb,str->agj
open PySem.Str renaming ofString->aaC,ofString_eq_toList->adB
open PySem.Value renaming ref->abv,none->abT,type->aeD,int->afO,str->agg
open PySem.W renaming Frag->aao,mg_none_of->abl,nsIn->abn,fnOf->abL,tabObj->ach,kia_one->acm,keepIn->acz,codeIn->acO,CodeHd->adl,hideAll_get->adn,cellsFrom_some->adA,kla_fn->aeA,methodObj->aeE,mg_of->aeR,hideAll->afc,OpenLaw->afk,noTabs->afE,of_hideAll->afQ,codeRec_of->afT,kitx_dict->aga,kdl_dict->age,km_in_of->agf
open Sum renaming inl->afX,inr->afY
open True renaming intro->adF
namespace L2
open PySem PySem.Spec PyProof.Rows
abbrev Key:=Sum Int Str
noncomputable def ol:Key->Value->Bool
 | .inl k,v=>Value.isInt k v
 | .inr x,v=>Value.isStrOf x v
noncomputable def BM(w:World):Key->Int
 | .inl k=>hashInt k
 | .inr x=>hashStr w x
theorem iZ:∀{k:Key} {v:Value},ol k v=true->(∃i t,k=afX i/\v=afO i t)\/(∃x t,k=afY x/\v=agg x t)
 | .inl i,v,h=>by
  obtain⟨t,e⟩:=Value.isInt_shape (k:=i) (v:=v) h;exact .inl ⟨i,t,rfl,e⟩
 | .inr x,v,h=>by
  obtain⟨t,e⟩:=Value.isStrOf_shape (x:=x) (v:=v) h;exact .inr ⟨x,t,rfl,e⟩
theorem NI(i:Int)(t:Tok):ol (.inl i) (.int i t)=true:=by simp[ol,Value.isInt]
theorem NJ(x:Str)(t:Tok):ol (.inr x) (.str x t)=true:=by simp[ol,Value.isStrOf]
theorem Sk(a b:Int):decide ((afX a:Key)=afX b)=(a==b):=by
 by_cases e:a=b
 ·subst e;simp
 ·have h:¬(afX a:Key)=afX b:=fun q=>e (Sum.inl.inj q)
  rw[decide_eq_false h];exact(beq_eq_false_iff_ne.mpr e).symm
theorem Sl(a b:Str):decide ((afY a:Key)=afY b)=decide (a=b):=by
 by_cases e:a=b
 ·subst e;simp
 ·have h:¬(afY a:Key)=afY b:=fun q=>e (Sum.inr.inj q)
  rw[decide_eq_false h,decide_eq_false e]
theorem Sm(a:Int)(b:Str):decide ((afX a:Key)=afY b)=false:=decide_eq_false (fun q=>nomatch q)
theorem Sn(a:Str)(b:Int):decide ((afY a:Key)=afX b)=false:=decide_eq_false (fun q=>nomatch q)
noncomputable def eE(prog:abw)(w:World):PySem.KeyKind prog w Key where
 is:=ol
 hash:=BM w
 inj:=fun v a b ha hb=>by
  rcases iZ ha with⟨i,t,rfl,rfl⟩ | ⟨x,t,rfl,rfl⟩
  ·rcases iZ hb with⟨j,u,rfl,e⟩ | ⟨y,u,rfl,e⟩
   ·injection e with e1 _;rw[e1]
   ·exact nomatch e
  ·rcases iZ hb with⟨j,u,rfl,e⟩ | ⟨y,u,rfl,e⟩
   ·exact nomatch e
   ·injection e with e1 _;rw[e1]
 byValue:=fun k v h=>by
  rcases iZ h with⟨i,t,rfl,rfl⟩ | ⟨x,t,rfl,rfl⟩ <;> rfl
 pyHash:=fun hv h=>by
  rcases iZ hv with⟨i,t,rfl,rfl⟩ | ⟨x,t,rfl,rfl⟩
  ·exact wpAny_pyHash_int h
  ·exact wpAny_pyHash_str h
 eqBool:=fun hu hv h=>by
  rcases iZ hu with⟨i,t,rfl,rfl⟩ | ⟨x,t,rfl,rfl⟩
  ·rcases iZ hv with⟨j,u,rfl,rfl⟩ | ⟨y,u,rfl,rfl⟩
   ·rw[Sk] at h;exact wpAny_eqBool_int h
   ·rw[Sm] at h;exact SeqAt.EqAt.int_str i t y u _ _ _ _ h
  ·rcases iZ hv with⟨j,u,rfl,rfl⟩ | ⟨y,u,rfl,rfl⟩
   ·rw[Sn] at h;exact SeqAt.EqAt.str_int x t j u _ _ _ _ h
   ·rw[Sl] at h;exact wpAny_eqBool_str h
 «strs»:=fun k x t v h=>by
  rcases iZ h with⟨i,u,rfl,e⟩ | ⟨y,u,rfl,e⟩
  ·exact nomatch e
  ·injection e with e1 _
   subst e1;cases v <;> rfl
theorem M3(prog:abw)(w:World)(i:Int)(t:Tok):(eE prog w).is (.inl i) (.int i t)=true:=NI i t
theorem M4(prog:abw)(w:World)(x:Str)(t:Tok):(eE prog w).is (.inr x) (.str x t)=true:=NJ x t
inductive V where
 | aJ | bl (b:Bool) | int (i:Int) | str (x:Str) | sr (b:Array UInt8) | CS (b:UInt64) | ref (a:Addr) | ty (n:String)
 deriving DecidableEq
noncomputable def RelV:V->Value->Prop
 | .aJ,u=>u=abT
 | .bl b,u=>u=Value.bool b
 | .int i,u=>∃t,u=afO i t
 | .str x,u=>∃t,u=agg x t
 | .sr b,u=>∃t,u=Value.bytes b t
 | .CS b,u=>∃t,u=Value.float b t
 | .ref a,u=>u=abv a
 | .ty n,u=>u=aeD n
abbrev Vals:List V->List Value->Prop:=adT RelV
theorem Vals.length{xs:List V}{us:List Value}(r:Vals xs us):xs.length=us.length:=adv r
theorem Vals.get:∀{xs:List V} {us:List Value} {i:Nat} {x:V},Vals xs us->xs[i]? =some x->∃u,us[i]? =some u/\RelV x u
 | _,_,_,_,.nil,e=>by simp at e
 | _,_,0,_,.cons r _,e=>by simp at e;subst e;exact⟨_,rfl,r⟩
 | _,_,i+1,x,.cons _ t,e=>by
  obtain⟨u,h1,h2⟩:=Vals.get (i:=i) (x:=x) t (by simpa using e);exact⟨u,by simpa using h1,h2⟩
theorem Vals.set{x:V}{u:Value}(r:RelV x u):∀{xs:List V} {us:List Value} (i:Nat),Vals xs us->Vals (xs.set i x) (us.set i u)
 | _,_,_,.nil=>.nil
 | _,_,0,.cons _ t=>.cons r t
 | _,_,i+1,.cons q t=>.cons q (Vals.set r i t)
theorem Vals.append:∀{xs ys:List V} {us ws:List Value},Vals xs us->Vals ys ws->Vals (xs++ys) (us++ws)
 | _,_,_,_,.nil,s=>s
 | _,_,_,_,.cons r t,s=>.cons r (Vals.append t s)
theorem Vals.take:∀{xs:List V} {us:List Value} (n:Nat),Vals xs us->Vals (xs.take n) (us.take n)
 | _,_,0,_=>.nil
 | _,_,_+1,.nil=>.nil
 | _,_,n+1,.cons r t=>.cons r (Vals.take n t)
theorem Vals.drop:∀{xs:List V} {us:List Value} (n:Nat),Vals xs us->Vals (xs.drop n) (us.drop n)
 | _,_,0,r=>r
 | _,_,_+1,.nil=>.nil
 | _,_,n+1,.cons _ t=>Vals.drop n t
noncomputable def jJ:Option V->Option Value->Prop
 | some v,some u=>RelV v u
 | none,none=>True
 | _,_=>False
noncomputable def KV{κ:Type}:List (κ×V)->List (κ×Value)->Prop:=adT fun(p:κ×V) (q:κ×Value)=>p.1=q.1/\RelV p.2 q.2
noncomputable def kV:Key->V
 | .inl i=>.int i
 | .inr x=>.str x
noncomputable def uA:V->Option Key
 | .int i=>some (.inl i)
 | .bl b=>some (.inl (if b then 1 else 0))
 | .str x=>some (.inr x)
 | _=>none
noncomputable def Ic:List V->Option (List Key)
 | []=>some []
 | v::vs=>match uA v,Ic vs with
  | some k,some ks=>some (k::ks)
  | _,_=>none
inductive HO where
  | lst (xs:List V)
  | tup (xs:List V)
  | dK (kvs:List (Key×V)) | dT (kvs:List (List Key×V))
  | dU (kvs:List (V×V))
  | set (S:Int->Bool) (n:Nat)
  | ins (C dx:Addr) (fs:List (Str×V))
  | own (x:Addr)
  | xd (fs:List (Str×V))
  | met (f x:Addr)
  | CT (lo hi:Int)
  | aL (o:Obj) (u:HO)
  | ff (ps:Array Value)
  | ext (φ:Heap->Prop)
abbrev Hp:=Addr->Option HO
noncomputable def upd(H:Hp)(a:Addr)(o:HO):Hp:=fun b=>if b=a then some o else H b
variable{H:Hp}{a:Addr}{o:HO}
theorem cj:upd H a o a=some o:=by unfold upd;rw[if_pos rfl]
variable{b:Addr}
theorem aT(h:b≠a):upd H a o b=H b:=by unfold upd;rw[if_neg h]
variable{u:HO}
theorem zB:upd (upd H a o) a u=upd H a u:=by
 funext b;unfold upd;split <;> rfl
theorem gq(h:H a=some o)(h':H b=some u)(d:o≠u):a≠b:=by
 intro e;subst e;rw[h] at h';exact d (abq h')
theorem dh(h:H a=some o)(h':H b=none):a≠b:=by
 intro e;subst e;rw[h] at h';cases h'
section
variable(P:abw)(w:World)
noncomputable def dr(H:Hp)(h:Heap)(a:Addr):HO->Prop
 | .lst xs=>xs.length<=aaH/\∃(its:List Value) (n:Nat),Vals xs its/\h.get? a=some { cls:=.type "list",data:=.seq its.toArray n }
 | .tup xs=>xs.length<=aaH/\∃its:List Value,Vals xs its/\IsTup h a its.toArray
 | .dK kvs=>kvs.length<=aaH/\(a==acd)=false/\∃vs,KV kvs vs/\h.DictOf (eE P w) a vs
 | .dT kvs=>kvs.length<=aaH/\(a==acd)=false/\∃xs:List (List Key×Addr×Value),
   adT (fun(p:List Key×V) (q:List Key×Addr×Value)=>p.1=q.1/\H q.2.1=some (.tup (p.1.map kV))/\RelV p.2 q.2.2) kvs xs /\
   ∃o es ep,h.get? a=some o/\o.ExactDict/\o.data=.dict es ep/\es.toList=xs.map (entryOfKey (afP (eE P w)))/\(xs.map (·.1)).Nodup
 | .dU kvs=>kvs.length<=aaH/\(a==acd)=false/\∃o es ep,h.get? a=some o/\o.ExactDict/\o.data=.dict es ep/\adT (fun(p:V×V) (e:afb)=>RelV p.1 e.key/\RelV p.2 e.val /\
   ((∃k,uA p.1=some k/\e.hash=BM w k)\/∃b ts ks,p.1=.ref b/\H b=some (.tup ts)/\Ic ts=some ks/\e.hash=tupleKeyHash (eE P w) ks)) kvs es.toList
 | .set S n=>h.SetOf (intKind P w) a S n
 | .ins C dx fs=>H dx=some (.own a)/\fs.length<=1000/\dx≠a/\h.get? a=some (PySem.W.instObj C dx) /\
   ∃mA,h.Ns1 dx mA/\(∀f,jJ (fs.lookup f) (mA f))/\PySem.Within mA (fs.map (·.1))
 | .own _=>∃o,h.get? a=some o
 | .xd fs=>∃mA,h.Ns1 a mA/\∀f,jJ (fs.lookup f) (mA f)
 | .CT lo hi=>∃t u v,h.get? a=some { cls:=.type "range",data:=.fields #[.int lo t,.int hi u,.int 1 v] }
 | .aL o u=>h.get? a=some o/\dr H h a u
 | .ff ps=>h.get? a=some { cls:=.none,data:=.fields ps }
 | .met f x=>h.get? a=some (aeE (.ref f) (.ref x))
 | .ext φ=>φ h/\(∃o,h.get? a=some o)/\∀h1 h2:Heap,φ h1->(∀o,h1.get? a=some o->h2.get? a=some o)->φ h2
noncomputable def cQ(H:Hp)(h:Heap):Prop:=∀a o,H a=some o->dr P w H h a o
end
section
variable{P:abw}{w:World}{H H':Hp}{h h':Heap}{a:Addr}{o:HO}
theorem dr.lt(x:dr P w H h a o):a<h.objs.size:=by
 cases o with
 | lst xs=>obtain⟨_,_,_,_,e⟩:=x;exact aax e
 | tup xs=>obtain⟨_,_,_,p⟩:=x;exact p.lt
 | dK kvs=>obtain⟨_,_,_,_,o,_,_,e,_⟩:=x;exact aax e
 | dT kvs=>obtain⟨_,_,_,_,o,_,_,e,_⟩:=x;exact aax e
 | dU kvs=>obtain⟨_,_,o,_,_,e,_⟩:=x;exact aax e
 | set S n=>obtain⟨o,_,_,_,e,_⟩:=x;exact aax e
 | ins C dx fs=>obtain⟨_,_,_,e,_⟩:=x;exact aax e
 | own y=>obtain⟨_,e⟩:=x;exact aax e
 | xd fs=>obtain⟨_,⟨_,_,_,e,_⟩,_⟩:=x;exact aax e
 | CT lo hi=>obtain⟨_,_,_,e⟩:=x;exact aax e
 | aL ob u=>obtain⟨e,_⟩:=x;exact aax e
 | ff ps=>exact aax (show h.get? a=some _ from x)
 | met f y=>exact aax (show h.get? a=some _ from x)
 | ext φ=>obtain⟨_,⟨_,e⟩,_⟩:=x;exact aax e
theorem adT.wR{α β:Type}{F G:α->β->Prop}:∀{Kg:List α} {Kh:List β},adT F Kg Kh->(∀a b,F a b->G a b)->adT G Kg Kh
 | _,_,.nil,_=>.nil
 | _,_,.cons r t,f=>.cons (f _ _ r) (adT.wR t f)
theorem dr.gQ(x:dr P w H h a o)(k:∀b u,(b=a\/H b=some (.own a))->h.get? b=some u->h'.get? b=some u)
  (ho:∀b,H b=some (.own a)->H' b=some (.own a)) (ht:∀b xs,H b=some (.tup xs)->H' b=some (.tup xs)):dr P w H' h' a o:=by
 induction o with
 | lst xs=>obtain⟨z,its,n,r,e⟩:=x;exact⟨z,its,n,r,k _ _ (.inl rfl) e⟩
 | tup xs=>obtain⟨z,its,r,ob,e,c⟩:=x;exact⟨z,its,r,ob,k _ _ (.inl rfl) e,c⟩
 | dK kvs=>obtain⟨z,y,vs,r,ob,es,ep,e,c⟩:=x;exact⟨z,y,vs,r,ob,es,ep,k _ _ (.inl rfl) e,c⟩
 | dT kvs=>
  obtain⟨z,y,xs,r,ob,es,ep,e,c⟩:=x;exact⟨z,y,xs,adT.wR r fun p q z=>⟨z.1,ht _ _ z.2.1,z.2.2⟩,ob,es,ep,k _ _ (.inl rfl) e,c⟩
 | dU kvs=>
  obtain⟨z,y,ob,es,ep,e,c1,c2,r⟩:=x;exact⟨z,y,ob,es,ep,k _ _ (.inl rfl) e,c1,c2,adT.wR r fun p q z=>⟨z.1,z.2.1,z.2.2.imp_right fun⟨b,ts,ks,h1,h2,h3⟩=>⟨b,ts,ks,h1,ht _ _ h2,h3⟩⟩⟩
 | set S n=>obtain⟨ob,es,ep,t,e,c⟩:=x;exact⟨ob,es,ep,t,k _ _ (.inl rfl) e,c⟩
 | ins C dx fs=>
  obtain⟨d,z,ne,e,mA,⟨od,es,ep,e2,c⟩,r⟩:=x;exact⟨ho _ d,z,ne,k _ _ (.inl rfl) e,mA,⟨od,es,ep,k _ _ (.inr d) e2,c⟩,r⟩
 | own y=>obtain⟨ob,e⟩:=x;exact⟨ob,k _ _ (.inl rfl) e⟩
 | xd fs=>obtain⟨mA,⟨od,es,ep,e,c⟩,r⟩:=x;exact⟨mA,⟨od,es,ep,k _ _ (.inl rfl) e,c⟩,r⟩
 | CT lo hi=>obtain⟨t,u,v,e⟩:=x;exact⟨t,u,v,k _ _ (.inl rfl) e⟩
 | aL ob u ih=>obtain⟨e,q⟩:=x;exact⟨k _ _ (.inl rfl) e,ih q⟩
 | ff ps=>
  have e:h.get? a=some { cls:=.none,data:=.fields ps }:=x;show h'.get? a=some { cls:=.none,data:=.fields ps };exact k a _ (.inl rfl) e
 | met f y=>
  have e:h.get? a=some (aeE (.ref f) (.ref y)):=x;show h'.get? a=some (aeE (.ref f) (.ref y));exact k a _ (.inl rfl) e
 | ext φ=>obtain⟨p,⟨o,e⟩,st⟩:=x;exact⟨st _ _ p fun o q=>k _ _ (.inl rfl) q,⟨o,k _ _ (.inl rfl) e⟩,st⟩
theorem cQ.lt(x:cQ P w H h)(e:H a=some o):a<h.objs.size:=(x a o e).lt
theorem cQ.fresh(x:cQ P w H h)(e:h.objs.size<=a):H a=none:=by
 cases q:H a with
 | none=>rfl
 | some u=>exact absurd (aay (x.lt q) e) (abP _)
theorem cQ.kept(x:cQ P w H h)(k:∀b u,h.get? b=some u->h'.get? b=some u):cQ P w H h':=fun a o e=>
 (x a o e).gQ (fun b u _ q=>k b u q) (fun _ q=>q) fun _ _ q=>q
theorem cQ.laid(x:cQ P w H h)(k:∀b u,h.get? b=some u->h'.get? b=some u)(hp:h.objs.size<=a)(new:dr P w (upd H a o) h' a o):cQ P w (upd H a o) h':=fun b u e=>by
 have hn:=x.fresh hp;by_cases hb:b=a
 ·subst hb;rw[cj] at e;cases e;exact new
 ·rw[aT hb] at e;exact(x b u e).gQ (fun c v _ q=>k c v q) (fun c q=>by rw[aT (dh q hn)];exact q) fun c xs q=>by rw[aT (dh q hn)];exact q
end
noncomputable def Rd(H:Hp)(a:Addr)(u:HO):Prop:=H a=some u\/∃o,H a=some (.aL o u)
variable{P:abw}{h:Heap}
theorem Rd.ok{w:World}(r:Rd H a u)(x:cQ P w H h):dr P w H h a u:=by
 rcases r with r | ⟨o,r⟩
 ·exact x a u r
 ·obtain⟨_,q⟩:=x a _ r;exact q
noncomputable def jL:Option HO->Prop
 | some (.lst _)=>True
 | some (.dK _)=>True
 | some (.dT _)=>True
 | some (.dU _)=>True
 | some (.set _ _)=>True
 | some (.ins _ _ _)=>True
 | some (.ext _)=>True
 | _=>False
section
variable{P:abw}{w:World}{H:Hp}{h h':Heap}{x e:Addr}{o':HO}
theorem cQ.write(ok:cQ P w H h)(mu:jL (H x))(he:e=x\/H e=some (.own x))(k:∀b u,b≠e->h.get? b=some u->h'.get? b=some u)(oW:∃u,h'.get? e=some u)
  (new:dr P w (upd H x o') h' x o'):cQ P w (upd H x o') h':=fun b u q=>by
 have Hr:∀c y,H c=some (.own y)->c≠x:=fun c y r z=>by subst z;rw[r] at mu;exact mu
 have Wo:∀c xs,H c=some (.tup xs)->c≠x:=fun c xs r z=>by subst z;rw[r] at mu;exact mu
 by_cases hb:b=x
 ·subst hb;rw[cj] at q;cases q;exact new
 ·rw[aT hb] at q;by_cases kx:b=e
  ·have q':H b=some (.own x):=by
    rcases he with z | z
    ·exact absurd (kx.trans z) hb
    ·rw[kx];exact z
   rw[q] at q';cases q';obtain⟨v,hv⟩:=oW;exact⟨v,by rw[kx];exact hv⟩
  ·refine(ok b u q).gQ (fun c v hc r=>k c v ?_ r) (fun c r=>by rw[aT (Hr c b r)];exact r) fun c xs r=>by rw[aT (Wo c xs r)];exact r
   rcases hc with rfl | hc
   ·exact kx
   ·rintro rfl
    rcases he with z | z
    ·exact Hr c b hc z
    ·rw[hc] at z;cases z;exact hb rfl
end
structure Un(fs ex:List Addr)(H H':Hp)(h h':Heap):Prop where
 keep:∀b o,h.get? b=some o->H b=none->b∉fs->b∉ex->h'.get? b=some o
 slot:∀b o,h.get? b=some o->H b=none->b∈fs->b∉ex->∃sl,h'.get? b=some { o with slots:=sl }
 free:∀b o,h.get? b=some o->H b=none->b∉ex->H' b=none
 there:∀b o,h.get? b=some o->b∉ex->∃o',h'.get? b=some o'
 gb:∀b xs,H b=some (.tup xs)->H' b=some (.tup xs)
 fb:∀b o u,H b=some (.aL o u)->H' b=some (.aL o u)
 gc:∀b ps,H b=some (.ff ps)->∃more,H' b=some (.ff (ps++more))
section
variable{fs fs' ex Ie:List Addr}{H H1 H2:Hp}{h h1 h2 h':Heap}{a x e:Addr}{o:HO}
theorem Un.any(u:Un fs ex H H1 h h1){b:Addr}{ob:Obj}(q:h.get? b=some ob)(n:H b=none)(hx:b∉ex):∃sl,h1.get? b=some { ob with slots:=sl }:=by
 by_cases hb:b∈fs
 ·exact u.slot b ob q n hb hx
 ·exact⟨ob.slots,u.keep b ob q n hb hx⟩
theorem Un.kept(k:∀b u,h.get? b=some u->h'.get? b=some u):Un fs ex H H h h':=
 ⟨fun b ob q _ _ _=>k b ob q,fun b ob q _ _ _=>⟨ob.slots,k b ob q⟩,fun _ _ _ n _=>n,fun b ob q _=>⟨ob,k b ob q⟩,fun _ _ q=>q,fun _ _ _ q=>q,fun _ ps q=>⟨#[],by rw[q];simp⟩⟩
theorem Un.refl:Un fs ex H H h h:=Un.kept fun _ _ q=>q
theorem Un.laid(k:∀b u,h.get? b=some u->h'.get? b=some u)(hp:h.objs.size<=a)(hn:H a=none):Un fs ex H (upd H a o) h h' where
 keep:=fun b u q _ _ _=>k b u q
 slot:=fun b u q _ _ _=>⟨u.slots,k b u q⟩
 free:=fun b u q n _=>by rw[aT (aaW (aay (aax q) hp))];exact n
 there:=fun b u q _=>⟨u,k b u q⟩
 gb:=fun b xs q=>by rw[aT (dh q hn)];exact q
 fb:=fun b u xs q=>by rw[aT (dh q hn)];exact q
 gc:=fun b ps q=>⟨#[],by rw[aT (dh q hn),q];simp⟩
theorem Un.write(mu:jL (H x))(he:e=x\/H e=some (.own x))(k:∀b u,b≠e->h.get? b=some u->h'.get? b=some u)(oW:∃u,h'.get? e=some u):Un fs ex H (upd H x o) h h':=by
 have hx:∀b,H b=none->b≠x:=fun b n z=>by subst z;rw[n] at mu;exact mu
 have hb:∀b,H b=none->b≠e:=fun b n z=>by
  subst z
  rcases he with r | r
  ·exact hx b n r
  ·rw[n] at r;cases r
 have hm:∀b u,H b=some u->¬jL (some u)->b≠x:=fun b u q nm z=>by subst z;rw[q] at mu;exact nm mu
 refine⟨fun b u q n _ _=>k b u (hb b n) q,fun b u q n _ _=>⟨u.slots,k b u (hb b n) q⟩,fun b u q n _=>by rw[aT (hx b n)];exact n,fun b u q _=>?_,
  fun b xs q=>by rw[aT (hm b _ q fun z=>z)];exact q,fun b u xs q=>by rw[aT (hm b _ q fun z=>z)];exact q,fun b ps q=>⟨#[],by rw[aT (hm b _ q fun z=>z),q];simp⟩⟩
 by_cases kx:b=e
 ·subst kx;exact oW
 ·exact⟨u,k b u kx q⟩
end
noncomputable def xt(h:Heap)(H:Hp):List Addr:=(aaK h.objs.size).filter fun a=>(H a).isSome
noncomputable def km(h:Heap)(H:Hp):Heap:=afc h (xt h H)
theorem NK(h:Heap)(H:Hp):(km h H).objs.size=h.objs.size:=PySem.W.hideAll_size _ _
theorem OP{o:Obj}(e:h.get? b=some o)(n:H b=none):(km h H).get? b=some o:=
 adn _ e fun hm=>by
  have q:(H b).isSome=true:=(aeb.mp hm).2;rw[n] at q;simp at q
theorem Qe{o:Obj}(e:(km h H).get? b=some o):h.get? b=some o/\H b=none:=by
 have e':h.get? b=some o:=afQ (xt h H) e;refine⟨e',?_⟩;cases q:H b with
 | none=>rfl
 | some x=>
  have hm:b∈xt h H:=aeb.mpr ⟨abG.mpr (aax e'),by simp[q]⟩;have z:(km h H).get? b=none:=PySem.W.hideAll_none (xt h H) hm;rw[z] at e;cases e
noncomputable def Qf(g h:Heap)(L:Addr):List (Addr×Obj):=(aaK h.objs.size).filterMap fun a=>if a=L\/(g.get? a).isSome=true then none else(h.get? a).map fun o=>(a,o)
noncomputable def rest(g h:Heap)(L d:Addr):List (Addr×Obj):=(Qf g h L).filter fun p=>decide (p.1≠d)
structure Mod(K:aao)(mg:Str->Option Value)(base:Heap):Prop where
 xu:K.In base
 glob:base.Ns aaL mg
 blt:∃mb,base.Ns adZ mb/\∀x:Str,x≠"__name__"->mb x=abB x
 nolimit:base.NoLimit
 bm:∃bm ob,mg "__builtins__"=some (.ref bm)/\bm≠adZ/\base.get? bm=some ob/\ob.cls=.type "module"/\ob.dict=some adZ/\ob.data=.plain
structure Cx where
 prog:abw
 w:World
 K:aao
 mg:Str->Option Value
 base:Heap
 A:acM
 N:List Str
 aE:aaw
 aO:Hp
 env:Env
 outer:List Env
 stack:List Env
 ex:List Addr
 fn:Str->Bool
 calm:Bool
 pn:List (Addr×Obj)
 xe:Value->aaw->Prop
 kp:List (Option V)->Prop
noncomputable def fv(l:List Env):List Addr:=l.filterMap (·.frame)
abbrev Cx.fs(X:Cx):List Addr:=fv X.outer
noncomputable def jf(sc:Scope)(x:Str):Prop:=sc.names.lookup x=some .local\/sc.names.lookup x=some .cell\/sc.names.lookup x=some .free
noncomputable def Loc(sc:Scope)(x:Str):Prop:=sc.names.lookup x=some .local\/sc.names.lookup x=some .cell
noncomputable def Look(env:Env)(h:Heap)(m:Str->Option Value)(x:Str)(u:Value):Prop:=
 (env.kindOf x=some .local/\m x=some u)\/((env.kindOf x=some .cell\/env.kindOf x=some .free)/\∃c,env.cells.lookup x=some c/\h.IsCell c (some u))
structure Cx.Ok(X:Cx):Prop where
 mod:Mod X.K X.mg X.base
 kind:X.env.scope.kind=.function
 glob:X.env.globals=aaL
 blt:X.env.builtins=adZ
 above:X.aE.heap.objs.size<=X.env.locals
 inj:∀x y c,X.env.cells.lookup x=some c->X.env.cells.lookup y=some c->x=y
 has:∀x,(X.env.kindOf x=some .cell\/X.env.kindOf x=some .free)->∃c,X.env.cells.lookup x=some c
 oX:∀x c,X.fn x=true->X.env.cells.lookup x=some c->X.aE.heap.objs.size<=c
 hd:X.calm=true->X.A.handled=none
 frames:X.A.frames=some X.stack
 su:X.stack=X.outer\/(X.stack=X.env::X.outer/\X.env.frame=some X.env.locals)
 CU:∀b∈X.ex,b≠X.env.locals/\∀x c,X.env.cells.lookup x=some c->c≠b
 bs:∀b o,X.base.get? b=some o->X.aE.heap.get? b=some o/\X.aO b=none
 ky:X.base.objs.size<=X.aE.heap.objs.size
 oB:∀b o,X.base.get? b=some o->b∉X.ex
 oC:∀b∈X.ex,b∉X.fs
 gR:X.aE.heap.FunFrames X.base X.outer
 mW:∀b∈X.fs,X.aO b=none
structure Inv(X:Cx)(pins:List (Addr×Obj))(σ:List (Option V))(H:Hp)(s:aaw):Prop where
 ok:X.Ok
 os:s.os=X.aE.os
 bare:aeN s.gens
 base:Un X.fs X.ex X.aO H X.aE.heap s.heap
 loc:∃m,s.heap.Ns X.env.locals m/\∀(i:Nat) (x:Str) (v:V),X.N[i]? =some x->σ[i]? =some (some v)->jf X.env.scope x->∃u,RelV v u/\Look X.env s.heap m x u
 cell:∀x c,X.env.cells.lookup x=some c->∃v,s.heap.IsCell c v
 free:H X.env.locals=none
 gM:∀x c,X.env.cells.lookup x=some c->(X.fn x=true->H c=none)/\(H c=none\/∃o,H c=some (.aL o (.ext fun _=>True)))
 pin:∀p∈X.pn++pins,s.heap.get? p.1=some p.2/\H p.1=none/\p.1≠X.env.locals/\p.1∉X.fs/\∀v,p.2.data≠.cell v
 aH:cQ X.prog X.w H s.heap
 lk:σ.length=X.N.length/\X.kp σ
variable{X:Cx}{s:aaw}
theorem Inv.len{pins:List (Addr×Obj)}{σ:List (Option V)}(I:Inv X pins σ H s):σ.length=X.N.length:=I.lk.1
noncomputable def iF(X:Cx)(x:Str):Prop:=∀i,X.N[i]? =some x->∀(σ:List (Option V)) (o:Option V),X.kp σ->X.kp (σ.set i o)
section
variable{X:Cx}{pins:List (Addr×Obj)}{σ:List (Option V)}{H H':Hp}{s:aaw}{h':Heap}
theorem Cx.Ok.Wq(ok:X.Ok){b:Addr}{o:Obj}(e:X.base.get? b=some o):b∉X.fs:=fun hb=>by
 have:=(ok.gR.mem hb).1;rw[e] at this;cases this
theorem Inv.bs(I:Inv X pins σ H s):∀b o,X.base.get? b=some o->s.heap.get? b=some o/\H b=none:=fun b o e=>
 ⟨I.base.keep b o (I.ok.bs b o e).1 (I.ok.bs b o e).2 (I.ok.Wq e) (I.ok.oB b o e),I.base.free b o (I.ok.bs b o e).1 (I.ok.bs b o e).2 (I.ok.oB b o e)⟩
theorem Inv.bk(I:Inv X pins σ H s):∀b o,X.base.get? b=some o->s.heap.get? b=some o:=fun b o e=>(I.bs b o e).1
theorem Inv.mod(I:Inv X pins σ H s):Mod X.K X.mg X.base:=I.ok.mod
theorem Inv.gA(I:Inv X pins σ H s):X.K.In s.heap:=I.ok.mod.xu.keeps I.bk
theorem Inv.nolimit(I:Inv X pins σ H s):s.heap.NoLimit:=I.ok.mod.nolimit.keeps I.bk
theorem Inv.lt(I:Inv X pins σ H s):X.env.locals<s.heap.objs.size:=let ⟨_,hn,_⟩:=I.loc;hn.lt
theorem Inv.sz(I:Inv X pins σ H s):X.aE.heap.objs.size<=s.heap.objs.size:=aaN I.ok.above (acS I.lt)
theorem Inv.Wr(I:Inv X pins σ H s){a:Addr}(h:s.heap.objs.size<=a):a∉X.fs:=fun hb=>by
 obtain⟨_,o,ho,_⟩:=I.ok.gR.mem hb;exact absurd (aay (aax ho) (aaN I.sz h)) (abP _)
theorem Inv.lD(I:Inv X pins σ H s):∀x c,X.env.cells.lookup x=some c->c≠X.env.locals:=fun x c e z=>by
 obtain⟨v,o,ho,hd⟩:=I.cell x c e;obtain⟨m,⟨o',es,ep,fG,oY,_⟩,_⟩:=I.loc;rw[z,fG] at ho;cases ho;rw[oY] at hd;cases hd
theorem Inv.gR(I:Inv X pins σ H s):s.heap.FunFrames X.base X.outer:=by
 have all:∀(l:List Env),(∀b∈fv l,b∈X.fs)->X.aE.heap.FunFrames X.base l->s.heap.FunFrames X.base l:=by
  intro l
  induction l with
  | nil=>intro _ _;trivial
  | cons env r ih=>
   intro hs hl;obtain⟨hk,⟨L,o,hf,hn,ho,hd⟩,hr⟩:=hl;have hL:L∈X.fs:=hs L (by unfold fv;rw[acI,hf];exact abr);obtain⟨sl,e⟩:=I.base.slot L o ho (I.ok.mW L hL) hL fun z=>I.ok.oC L z hL
   exact⟨hk,⟨L,_,hf,hn,e,hd⟩,ih (fun b hb=>hs b (by unfold fv;rw[acI,hf];exact aaY _ hb)) hr⟩
 exact all X.outer (fun _ hb=>hb) I.ok.gR
theorem Inv.stack(I:Inv X pins σ H s):s.heap.FunFrames X.base X.stack:=by
 rcases I.ok.su with e | ⟨e,hf⟩
 ·rw[e];exact I.gR
 ·rw[e];obtain⟨m,hn,_⟩:=I.loc;refine .cons (by rw[I.ok.kind];decide) hf hn ?_ I.gR;exact afy (aaN I.ok.ky I.ok.above)
theorem Inv.z6(I:Inv X pins σ H s):∀b∈fv X.stack,b∈X.env.locals::X.fs:=fun b hb=>by
 rcases I.ok.su with e | ⟨e,hf⟩
 ·rw[e] at hb;exact aaY _ hb
 ·rw[e] at hb;unfold fv at hb;rw[acI,hf] at hb;exact hb
theorem Inv.vF(I:Inv X pins σ H s):∀b∈fv X.stack,H b=none:=fun b hb=>by
 rcases aaO.mp (I.z6 b hb) with e | hb
 ·rw[e];exact I.free
 ·obtain⟨_,o,ho,_⟩:=I.ok.gR.mem hb;exact I.base.free b o ho (I.ok.mW b hb) fun z=>I.ok.oC b z hb
variable{t':Nat}{ch:List Addr}
theorem Inv.step{g':Array GenState}{d':Drawn}(I:Inv X pins σ H s)
  (jM:∀b∈ch,(b∈X.ex\/X.aE.heap.objs.size<=b)/\b≠X.env.locals/\(∀x c,X.env.cells.lookup x=some c->c≠b)/\∀p∈X.pn++pins,p.1≠b)
  (keep:∀b o,b≠X.env.locals->b∉X.fs->b∉ch->s.heap.get? b=some o->H b=none->h'.get? b=some o)
  (slot:∀b o,b≠X.env.locals->b∈X.fs->b∉ch->s.heap.get? b=some o->H b=none->∃sl,h'.get? b=some { o with slots:=sl }) (free:∀b o,b∉ch->s.heap.get? b=some o->H b=none->H' b=none)
  (there:∀b o,b∉ch->s.heap.get? b=some o->∃o',h'.get? b=some o')
  (gb:∀b xs,H b=some (.tup xs)->H' b=some (.tup xs)) (fb:∀b o u,H b=some (.aL o u)->H' b=some (.aL o u)) (gc:∀b ps,H b=some (.ff ps)->∃more,H' b=some (.ff (ps++more)))
  (ns:∀m,s.heap.Ns X.env.locals m->h'.Ns X.env.locals m) (aH:cQ X.prog X.w H' h') (hg:aeN g') :
  Inv X pins σ H' { s with heap:=h',gens:=g',drawn:=d',toks:=t' }:=by
 have sv:∀b o,X.aE.heap.get? b=some o->b≠X.env.locals:=fun b o e=>aaW (aay (aax e) I.ok.above)
 have mX:∀b o,X.aE.heap.get? b=some o->b∉X.ex->b∉ch:=fun b o e hx hb=>by
  rcases(jM b hb).1 with z | z
  ·exact hx z
  ·exact absurd (aay (aax e) z) (abP _)
 have cellK:∀x c,X.env.cells.lookup x=some c->∀v,s.heap.IsCell c v->h'.IsCell c v:=fun x c e v ⟨o,ho,hd⟩=>by
  have lE:c∉ch:=fun z=>(jM c z).2.2.1 x c e rfl
  rcases(I.gM x c e).2 with fr | ⟨ob,fr⟩
  ·by_cases hc:c∈X.fs
   ·obtain⟨sl,q⟩:=slot c o (I.lD x c e) hc lE ho fr;exact⟨_,q,hd⟩
   ·exact⟨o,keep c o (I.lD x c e) hc lE ho fr,hd⟩
  ·have e1:s.heap.get? c=some ob:=(I.aH c _ fr).1;have e2:h'.get? c=some ob:=(aH c _ (fb c _ _ fr)).1;rw[ho] at e1;cases e1;exact⟨o,e2,hd⟩
 refine⟨I.ok,I.os,hg,⟨fun b o e n hb hx=>?_,fun b o e n hb hx=>?_,fun b o e n hx=>?_,fun b o e hx=>?_,fun b xs e=>gb b xs (I.base.gb b xs e),fun b o xs e=>fb b o xs (I.base.fb b o xs e),fun b ps e=>?_⟩,?_,fun x c e=>?_,?_,fun x c e=>?_,fun p hp=>?_,aH,I.lk⟩
 ·exact keep b o (sv b o e) hb (mX b o e hx) (I.base.keep b o e n hb hx) (I.base.free b o e n hx)
 ·obtain⟨sl,e1⟩:=I.base.slot b o e n hb hx;obtain⟨XG,e2⟩:=slot b _ (sv b o e) hb (mX b o e hx) e1 (I.base.free b o e n hx);exact⟨XG,e2⟩
 ·obtain⟨o',e1⟩:=I.base.there b o e hx;exact free b o' (mX b o e hx) e1 (I.base.free b o e n hx)
 ·obtain⟨o',e1⟩:=I.base.there b o e hx;exact there b o' (mX b o e hx) e1
 ·obtain⟨m1,e1⟩:=I.base.gc b ps e;obtain⟨m2,e2⟩:=gc b _ e1;exact⟨m1++m2,by rw[e2,afR]⟩
 ·obtain⟨m,hn,hl⟩:=I.loc;refine⟨m,ns m hn,fun i x v e1 e2 e3=>?_⟩;obtain⟨u,r,l⟩:=hl i x v e1 e2 e3;refine⟨u,r,?_⟩
  rcases l with l | ⟨k,c,e,z⟩
  ·exact .inl l
  ·exact .inr ⟨k,c,e,cellK x c e _ z⟩
 ·obtain⟨v,z⟩:=I.cell x c e;exact⟨v,cellK x c e v z⟩
 ·obtain⟨m,⟨o,_,_,ho,_⟩,_⟩:=I.loc;exact free _ o (fun z=>(jM _ z).2.1 rfl) ho I.free
 ·obtain⟨v,o,ho,hd⟩:=I.cell x c e;have lE:c∉ch:=fun z=>(jM c z).2.2.1 x c e rfl
  exact⟨fun hf=>free c o lE ho ((I.gM x c e).1 hf),(I.gM x c e).2.imp (fun fr=>free c o lE ho fr) fun⟨ob,fr⟩=>⟨ob,fb c _ _ fr⟩⟩
 ·obtain⟨e,n,ne,nf,d⟩:=I.pin p hp;have lE:p.1∉ch:=fun z=>(jM p.1 z).2.2.2 p hp rfl
  exact⟨keep p.1 p.2 ne nf lE e n,free p.1 p.2 lE e n,ne,nf,d⟩
theorem Inv.un(I:Inv X pins σ H s)(u:Un X.fs [] H H' s.heap h')(aH:cQ X.prog X.w H' h'):Inv X pins σ H' { s with heap:=h',toks:=t' }:=by
 obtain⟨m,⟨o,es,ep,ho,r⟩,_⟩:=id I.loc;obtain⟨sl,hL⟩:=u.any ho I.free (by simp);exact I.step (g':=s.gens) (d':=s.drawn) (ch:=[]) (fun _ z=>nomatch z) (fun b o _ hb _ e n=>u.keep b o e n hb (by simp)) (fun b o _ hb _ e n=>u.slot b o e n hb (by simp)) (fun b o _ e n=>u.free b o e n (by simp)) (fun b o _ e=>u.there b o e (by simp)) u.gb u.fb u.gc (fun m' hm=>by
  obtain⟨o',sx,sy,fG,r'⟩:=hm;rw[ho] at fG;cases fG;exact⟨_,sx,sy,hL,r'⟩) aH I.bare
theorem Inv.call{g':Array GenState}{d':Drawn}(I:Inv X pins σ H s)(u:Un (fv X.stack) ch H H' s.heap h')(aH:cQ X.prog X.w H' h')(hg:aeN g')
  (jM:∀b∈ch,(b∈X.ex\/X.aE.heap.objs.size<=b)/\b≠X.env.locals/\(∀x c,X.env.cells.lookup x=some c->c≠b)/\∀p∈X.pn++pins,p.1≠b) :
  Inv X pins σ H' { s with heap:=h',gens:=g',drawn:=d',toks:=t' }:=by
 obtain⟨m,⟨o,es,ep,ho,r⟩,_⟩:=id I.loc;obtain⟨sl,hL⟩:=u.any ho I.free fun z=>(jM _ z).2.1 rfl
 exact I.step (ch:=ch) jM (fun b o hL hb hc e n=>u.keep b o e n (fun z=>(aaO.mp (I.z6 b z)).elim hL hb) hc) (fun b o _ _ hc e n=>u.any e n hc) (fun b o hc e n=>u.free b o e n hc) (fun b o hc e=>u.there b o e hc) u.gb u.fb u.gc (fun m' hm=>by
  obtain⟨o',sx,sy,fG,r'⟩:=hm;rw[ho] at fG;cases fG;exact⟨_,sx,sy,hL,r'⟩) aH hg
theorem Inv.turned{it:Addr}(I:Inv X pins σ H s)(k:∀b o,b≠it->s.heap.get? b=some o->h'.get? b=some o)(hn:H it=none)(hL:it≠X.env.locals)
  (h1:it∈X.ex\/X.aE.heap.objs.size<=it) (h2:∀x c,X.env.cells.lookup x=some c->c≠it) (h3:∀p∈X.pn++pins,p.1≠it):Inv X pins σ H { s with heap:=h',toks:=t' }:=by
 have lF:∀b u,H b=some u->b≠it:=fun b u e z=>by rw[z,hn] at e;cases e
 refine I.step (g':=s.gens) (d':=s.drawn) (ch:=[it]) (fun b hb=>?_) (fun b o _ _ hc e _=>k b o (fun z=>hc (by simp[z])) e) (fun b o _ _ hc e _=>⟨o.slots,k b o (fun z=>hc (by simp[z])) e⟩) (fun _ _ _ _ n=>n)
  (fun b o hc e=>⟨o,k b o (fun z=>hc (by simp[z])) e⟩) (fun _ _ e=>e) (fun _ _ _ e=>e) (fun b ps e=>⟨#[],by rw[e];simp⟩) (fun m hm=>?_) (fun b u e=>?_) I.bare
 ·have e:b=it:=by simpa using hb
  subst e;exact⟨h1,hL,h2,h3⟩
 ·obtain⟨o,es,ep,ho,r⟩:=hm;exact⟨o,es,ep,k _ o (abD hL) ho,r⟩
 ·refine(I.aH b u e).gQ (fun c v hc q=>k c v ?_ q) (fun _ q=>q) fun _ _ q=>q
  rcases hc with z | z
  ·rw[z];exact lF b u e
  ·exact lF c _ z
theorem Inv.tok(I:Inv X pins σ H s)(t:Nat):Inv X pins σ H { s with toks:=t }:=I.un (h':=s.heap) (t':=t) Un.refl I.aH
theorem Inv.kept{t':Nat}(I:Inv X pins σ H s)(k:∀b u,s.heap.get? b=some u->h'.get? b=some u):Inv X pins σ H { s with heap:=h',toks:=t' }:=I.un (Un.kept k) (I.aH.kept k)
theorem Inv.laid{a:Addr}{o:HO}{t':Nat}(I:Inv X pins σ H s)(k:∀b u,s.heap.get? b=some u->h'.get? b=some u)(hp:s.heap.objs.size<=a)(new:dr X.prog X.w (upd H a o) h' a o) :
  Inv X pins σ (upd H a o) { s with heap:=h',toks:=t' }:=I.un (Un.laid k hp (I.aH.fresh hp)) (I.aH.laid k hp new)
theorem Inv.write{x e:Addr}{o:HO}{t':Nat}(I:Inv X pins σ H s)(mu:jL (H x))(he:e=x\/H e=some (.own x))(k:∀b u,b≠e->s.heap.get? b=some u->h'.get? b=some u)(oW:∃u,h'.get? e=some u)
  (new:dr X.prog X.w (upd H x o) h' x o):Inv X pins σ (upd H x o) { s with heap:=h',toks:=t' }:=I.un (Un.write mu he k oW) (I.aH.write mu he k oW new)
theorem Inv.FQ{GZ:List (Addr×Obj)}(I:Inv X pins σ H s)(h:∀p∈GZ,s.heap.get? p.1=some p.2/\H p.1=none/\p.1≠X.env.locals/\p.1∉X.fs/\∀v,p.2.data≠.cell v):Inv X GZ σ H s:=
 ⟨I.ok,I.os,I.bare,I.base,I.loc,I.cell,I.free,I.gM,fun p hp=>(aaS.mp hp).elim (fun z=>I.pin p (abf _ z)) (h p),I.aH,I.lk⟩
variable{i:Nat}{x:Str}
theorem Fi{N:List Str}(hN:N.Nodup){j:Nat}(a:N[i]? =some x)(b:N[j]? =some x):i=j:=by
 obtain⟨h1,e1⟩:=aam.mp a;obtain⟨h2,e2⟩:=aam.mp b;exact(List.getElem_inj hN).mp (e1.trans e2.symm)
theorem EL{M:Model}{A:acM}{E:Value->aaw->Prop}{v:V}{u:Value}{Q:Unit->aaw->Prop}(I:Inv X pins σ H s)(hN:X.N.Nodup)(hi:X.N[i]? =some x)(hx:Loc X.env.scope x)(r:RelV v u)
  (h:∀s',Inv X pins (σ.set i (some v)) H s'->(∃a,aeq a s.heap s'.heap/\(a=X.env.locals\/X.env.cells.lookup x=some a))->Q () s') (hf:(X.fn x=true\/X.env.scope.names.lookup x=some .local)/\iF X x):wpAny M A (storeName X.env x u) Q E s:=by
 obtain⟨m,hn,hl⟩:=id I.loc;have BN:(X.env.scope.kind==.class||(X.env.scope.kind==.module&&X.env.locals != X.env.globals))=false:=by rw[I.ok.kind];rfl
 have Ig:i<σ.length:=by rw[I.len];exact(aam.mp hi).1
 have lD:=I.lD;have tracked:∀{a:Addr} {h':Heap},(∃o,s.heap.get? a=some o/\H a=none)->aeq a s.heap h'->cQ X.prog X.w H h':=fun{a h'} ha hs b ob e=>by
  obtain⟨_,_,G0⟩:=ha;refine(I.aH b ob e).gQ (fun c w' hc q=>(hs.2 c ?_).trans q) (fun _ q=>q) fun _ _ q=>q
  rintro rfl
  rcases hc with rfl | hc
  ·rw[G0] at e;cases e
  ·rw[G0] at hc;cases hc
 rcases hx with hk | hk
 ·refine wpAny_storeName_local hk hn (fun h' XH hs=>?_) BN;obtain⟨oL,_,_,XI,_⟩:=id hn;refine h _ ⟨I.ok,I.os,I.bare,⟨fun b o e n hb hx=>?_,fun b o e n hb hx=>?_,I.base.free,fun b o e hx=>?_,I.base.gb,I.base.fb,I.base.gc⟩,⟨_,XH,fun j y v' e1 e2 e3=>?_⟩,fun y c e=>?_,I.free,I.gM,fun p hp=>?_,tracked ⟨oL,XI,I.free⟩ hs,⟨by simpa using I.len,hf.2 i hi σ (some v) I.lk.2⟩⟩ ⟨_,hs,.inl rfl⟩
  ·exact(hs.2 b (aaW (aay (aax e) I.ok.above))).trans (I.base.keep b o e n hb hx)
  ·obtain⟨sl,e1⟩:=I.base.slot b o e n hb hx;exact⟨sl,(hs.2 b (aaW (aay (aax e) I.ok.above))).trans e1⟩
  ·obtain⟨o',e1⟩:=I.base.there b o e hx;exact⟨o',(hs.2 b (aaW (aay (aax e) I.ok.above))).trans e1⟩
  ·by_cases hj:j=i
   ·subst hj;rw[hi] at e1;cases e1;rw[aaQ Ig] at e2;cases e2;exact⟨u,r,.inl ⟨hk,by simp⟩⟩
   ·rw[abk (abD hj)] at e2;obtain⟨u',r',q⟩:=hl j y v' e1 e2 e3;refine⟨u',r',?_⟩
    rcases q with⟨k,e⟩ | ⟨k,c,e,z⟩
    ·refine .inl ⟨k,?_⟩;have:y≠x:=fun e=>hj (Fi hN e1 (e▸hi))
     simp[this,e]
    ·exact .inr ⟨k,c,e,z.sameBut hs (lD y c e)⟩
  ·obtain⟨w',z⟩:=I.cell y c e;exact⟨w',z.sameBut hs (lD y c e)⟩
  ·obtain⟨e,n,ne,nf,d⟩:=I.pin p hp;exact⟨(hs.2 p.1 ne).trans e,n,ne,nf,d⟩
 ·have gB:X.fn x=true:=by
   rcases hf.1 with z | z
   ·exact z
   ·rw[z] at hk;cases hk
  obtain⟨c,hc⟩:=I.ok.has x (.inl hk);obtain⟨w',z⟩:=I.cell x c hc;refine wpAny_storeName_cell I.ok.kind hk hc z (fun h' fO hs=>?_);obtain⟨oc,Ih,Ws⟩:=id z;refine h { s with heap:=h' } ⟨I.ok,I.os,I.bare,⟨fun b o e n hb hx=>?_,fun b o e n hb hx=>?_,I.base.free,fun b o e hx=>?_,I.base.gb,I.base.fb,I.base.gc⟩,⟨m,hn.sameBut hs (abD (lD x c hc)),fun j y v' e1 e2 e3=>?_⟩,fun y c' e=>?_,I.free,I.gM,fun p hp=>?_,tracked ⟨oc,Ih,(I.gM x c hc).1 gB⟩ hs,⟨by simpa using I.len,hf.2 i hi σ (some v) I.lk.2⟩⟩ ⟨c,hs,.inr hc⟩
  ·exact(hs.2 b (aaW (aay (aax e) (I.ok.oX x c gB hc)))).trans (I.base.keep b o e n hb hx)
  ·obtain⟨sl,e1⟩:=I.base.slot b o e n hb hx;exact⟨sl,(hs.2 b (aaW (aay (aax e) (I.ok.oX x c gB hc)))).trans e1⟩
  ·obtain⟨o',e1⟩:=I.base.there b o e hx;exact⟨o',(hs.2 b (aaW (aay (aax e) (I.ok.oX x c gB hc)))).trans e1⟩
  ·by_cases hj:j=i
   ·subst hj;rw[hi] at e1;cases e1;rw[aaQ Ig] at e2;cases e2;exact⟨u,r,.inr ⟨.inl hk,c,hc,fO⟩⟩
   ·rw[abk (abD hj)] at e2;obtain⟨u',r',q⟩:=hl j y v' e1 e2 e3;refine⟨u',r',?_⟩
    rcases q with q | ⟨k,c',e,z'⟩
    ·exact .inl q
    ·refine .inr ⟨k,c',e,z'.sameBut hs ?_⟩;rintro rfl;exact hj (Fi hN e1 (I.ok.inj _ _ _ e hc▸hi))
  ·by_cases oZ:c'=c
   ·subst oZ;exact⟨_,fO⟩
   ·obtain⟨w2,z2⟩:=I.cell y c' e;exact⟨w2,z2.sameBut hs oZ⟩
  ·obtain⟨e,n,ne,nf,d⟩:=I.pin p hp;refine⟨(hs.2 p.1 ?_).trans e,n,ne,nf,d⟩;intro q;rw[q,Ih] at e;have q':oc=p.2:=abq e;exact d w' (by rw[<- q'];exact Ws)
theorem za{M:Model}{A:acM}{E:Value->aaw->Prop}{v:V}{u:Value}{Q:Unit->aaw->Prop}(I:Inv X pins σ H s)(hN:X.N.Nodup)(hi:X.N[i]? =some x)(hx:Loc X.env.scope x)(r:RelV v u)
  (h:∀s',Inv X pins (σ.set i (some v)) H s'->Q () s') (hf:(X.fn x=true\/X.env.scope.names.lookup x=some .local)/\iF X x):wpAny M A (storeName X.env x u) Q E s:=
 EL I hN hi hx r (fun s' I' _=>h s' I') hf
theorem Inv.Vj{s':aaw}(I:Inv X pins σ H s)(ho:s'.os=s.os)(u:Un (fv X.stack) ch H H' s.heap s'.heap)(aH:cQ X.prog X.w H' s'.heap)(hg:aeN s'.gens)
  (jM:∀b∈ch,(b∈X.ex\/X.aE.heap.objs.size<=b)/\b≠X.env.locals/\(∀x c,X.env.cells.lookup x=some c->c≠b)/\∀p∈X.pn++pins,p.1≠b):Inv X pins σ H' s':=by
 obtain⟨h',g',d',t',o'⟩:=s';have e:o'=s.os:=ho;subst e;exact I.call (g':=g') (t':=t') (d':=d') u aH hg jM
end
abbrev XK:=Value->Option Addr->Hp->Prop
abbrev St:=List (Option V)
abbrev VK:=V->Hp->Prop
abbrev TE:=St->Hp->VK->Prop
abbrev TT:=St->Hp->(Bool->Hp->Prop)->Prop
abbrev TA:=St->Hp->(List V->Hp->Prop)->Prop
structure Ends where
 nx:St->Hp->Prop
 rt:VK
 bk:St->Hp->Prop:=fun _ _=>False
 ct:St->Hp->Prop:=fun _ _=>False
abbrev TS:=Ends->St->Hp->Prop
noncomputable def EP(X:Cx)(pins:List (Addr×Obj))(σ:St)(Q:VK)(u:Value)(s':aaw):Prop:=∃v H',Inv X pins σ H' s'/\RelV v u/\Q v H'
noncomputable def TP(X:Cx)(pins:List (Addr×Obj))(σ:St)(Q:Bool->Hp->Prop)(b:Bool)(s':aaw):Prop:=∃H',Inv X pins σ H' s'/\Q b H'
noncomputable def AP(X:Cx)(pins:List (Addr×Obj))(σ:St)(Q:List V->Hp->Prop)(us:List Value)(s':aaw):Prop:=∃vs H',Inv X pins σ H' s'/\Vals vs us/\Q vs H'
noncomputable def SP(X:Cx)(pins:List (Addr×Obj))(D:Ends)(f:Flow)(s':aaw):Prop:=
 match f with
 | .next=>∃ao H',Inv X pins ao H' s'/\D.nx ao H'
 | .brk=>∃ao H',Inv X pins ao H' s'/\D.bk ao H'
 | .cont=>∃ao H',Inv X pins ao H' s'/\D.ct ao H'
 | .ret u=>∃v ao H',Inv X pins ao H' s'/\RelV v u/\D.rt v H'
noncomputable def PE(X:Cx)(e:Expr)(t:TE):Prop:=
 ∀(pins:List (Addr×Obj)) (s:aaw) (σ:St) (H:Hp) (Q:VK),Inv X pins σ H s->t σ H Q->wpAny (model X.prog X.w) X.A (eval e X.env) (EP X pins σ Q) X.xe s
noncomputable def PT(X:Cx)(e:Expr)(t:TT):Prop:=
 ∀(pins:List (Addr×Obj)) (s:aaw) (σ:St) (H:Hp) (Q:Bool->Hp->Prop),Inv X pins σ H s->t σ H Q->wpAny (model X.prog X.w) X.A (isTrue e X.env (eval e X.env)) (TP X pins σ Q) X.xe s
noncomputable def PW(X:Cx)(e:Expr)(t:TT):Prop:=
 ∀(whole:Sem Value) (pins:List (Addr×Obj)) (s:aaw) (σ:St) (H:Hp) (Q:Bool->Hp->Prop),Inv X pins σ H s->t σ H Q->wpAny (model X.prog X.w) X.A (isTrue e X.env whole) (TP X pins σ Q) X.xe s
theorem PW.pt{e:Expr}{t:TT}(h:PW X e t):PT X e t:=h _
noncomputable def PA(X:Cx)(es:List Expr)(t:TA):Prop:=
 ∀(pos:Pos) (pins:List (Addr×Obj)) (s:aaw) (σ:St) (H:Hp) (Q:List V->Hp->Prop),Inv X pins σ H s->t σ H Q->wpAny (model X.prog X.w) X.A (spliced (adi pos (aaP es X.env))) (AP X pins σ Q) X.xe s
noncomputable def PS(X:Cx)(st:Stmt)(t:TS):Prop:=
 ∀(pins:List (Addr×Obj)) (s:aaw) (σ:St) (H:Hp) (D:Ends),Inv X pins σ H s->t D σ H->wpAny (model X.prog X.w) X.A (exec st X.env) (SP X pins D) X.xe s
noncomputable def gC(X:Cx)(st:List Stmt)(t:TS):Prop:=
 ∀(pins:List (Addr×Obj)) (s:aaw) (σ:St) (H:Hp) (D:Ends),Inv X pins σ H s->t D σ H->wpAny (model X.prog X.w) X.A (execs st X.env) (SP X pins D) X.xe s
variable{A:acM}
theorem bb{α:Type}{t:Sem α}{Q Q':α->aaw->Prop}{M:Model}{E:Value->aaw->Prop}(h:wpAny M A t Q E s)(hQ:∀a s,Q a s->Q' a s):wpAny M A t Q' E s:=abE h hQ fun _ _ x=>x
section
variable{X:Cx}
variable{s:aaw}{σ:St}{H:Hp}
theorem bin{a b:Expr}{ta tb:TE}(ha:PE X a ta)(hb:PE X b tb){pins:List (Addr×Obj)}{R:V->V->Hp->Prop}(I:Inv X pins σ H s)(h:ta σ H fun x H1=>tb σ H1 fun y H2=>R x y H2)
  {α:Type} {Q:α->aaw->Prop} {f:Value->Value->Sem α}
  (hf:∀v u s2 x y H2,Inv X pins σ H2 s2->RelV x v->RelV y u->R x y H2->wpAny (model X.prog X.w) X.A (f v u) Q X.xe s2) :
  wpAny (model X.prog X.w) X.A (eval a X.env) (fun v bR=>wpAny (model X.prog X.w) X.A (eval b X.env) (fun u kR=>wpAny (model X.prog X.w) X.A (f v u) Q X.xe kR) X.xe bR) X.xe s:=by
 refine bb (ha pins s σ H _ I h) fun v s1 ⟨x,H1,I1,r1,q1⟩=>?_
 refine bb (hb pins s1 σ H1 _ I1 q1) fun u s2 ⟨y,H2,I2,r2,q2⟩=>?_
 exact hf v u s2 x y H2 I2 r1 r2 q2
noncomputable def Wu(i:Nat):TE:=fun σ H Q=>∃v,σ[i]? =some (some v)/\Q v H
noncomputable def tC(v:V):TE:=fun _ H Q=>Q v H
variable{x:Str}
theorem Gq{i:Nat}{pos:Pos}(hN:X.N[i]? =some x)(hv:jf X.env.scope x)(hd:(x==("__debug__":Str))=false:=by decide)(hcd:(x==("__classdict__":Str))=false:=by decide):PE X (.Name x pos) (Wu i):=by
 intro pins s σ H Q I h;obtain⟨v,e,h⟩:=h;obtain⟨m,hn,hl⟩:=I.loc;obtain⟨u,r,l⟩:=hl i x v hN e hv;have fin:EP X pins σ Q u s:=⟨v,H,I,r,h⟩
 rcases l with⟨hk,hm⟩ | ⟨hk,c,hc,iD⟩
 ·exact wpAny_Name (wpAny_loadName_local I.ok.kind hk hn hm fin) hd
 ·rcases hk with hk | hk
  ·exact wpAny_Name (wpAny_loadName_cell I.ok.kind hk hc iD fin) hd
  ·exact wpAny_Name (wpAny_loadName_free I.ok.kind hk hc iD fin hcd) hd
theorem So{i j pos}:PE X (.Constant (.int i) j pos) (tC (.int i)):=fun _ _ _ H _ I h=>wpAny_Constant_int ⟨.int i,H,I.tok _,⟨_,rfl⟩,h⟩
theorem Vk{b j pos}:PE X (.Constant (.bool b) j pos) (tC (.bl b)):=fun _ _ _ H _ I h=>Constant_bool ⟨.bl b,H,I,rfl,h⟩
theorem Sq{j pos}:PE X (.Constant .none j pos) (tC .aJ):=fun _ _ _ H _ I h=>Constant_none ⟨.aJ,H,I,rfl,h⟩
theorem Sr{x j pos}:PE X (.Constant (.str x) j pos) (tC (.str x)):=fun _ _ _ H _ I h=>Calls.Constant_str ⟨.str x,H,I.tok _,⟨_,rfl⟩,h⟩
noncomputable def Gl(X:Cx)(x:Str):Prop:=X.env.kindOf x=some .globalImplicit
variable{u:Value}
theorem Qg{E:Value->aaw->Prop}{pins:List (Addr×Obj)}{pos:Pos}{Q:Value->aaw->Prop}(I:Inv X pins σ H s)(hg:Gl X x)(hm:X.mg x=some u)(h:Q u s)
  (hd:(x==("__debug__":Str))=false:=by decide):wpAny (model X.prog X.w) X.A (eval (.Name x pos) X.env) Q E s:=
 aen I.ok.kind hg (Calls.loadGlobal_global (by rw[I.ok.glob];exact I.mod.glob.keeps I.bk) hm h) hd
theorem jz{E:Value->aaw->Prop}{pins:List (Addr×Obj)}{pos:Pos}{Q:Value->aaw->Prop}(I:Inv X pins σ H s)(hg:Gl X x)(hm:X.mg x=none)(hv:abB x=some u)(h:Q u s)
  (hn:x≠"__name__":=by decide) (hd:(x==("__debug__":Str))=false:=by decide):wpAny (model X.prog X.w) X.A (eval (.Name x pos) X.env) Q E s:=by
 obtain⟨mb,h1,h2⟩:=I.mod.blt;exact aen I.ok.kind hg (Calls.loadGlobal_builtin (by rw[I.ok.glob];exact I.mod.glob.keeps I.bk) hm (by rw[I.ok.blt];exact h1.keeps I.bk) ((h2 x hn).trans hv) h) hd
theorem Qh{v:V}{pos:Pos}(hg:Gl X x)(hm:X.mg x=none)(hv:abB x=some u)(r:RelV v u)(hn:x≠"__name__":=by decide)(hd:(x==("__debug__":Str))=false:=by decide):PE X (.Name x pos) (tC v):=
 fun _ _ _ H _ I h=>jz I hg hm hv ⟨v,H,I,r,h⟩ hn hd
variable{a b:Expr}{ta tb:TE}{pos:Pos}
variable{tA xv:TT}{rest:List Expr}
noncomputable def Hs(t u:TT):TT:=fun σ H Q=>t σ H fun c H1=>if c=true then u σ H1 Q else Q false H1
noncomputable def Ii(t u:TT):TT:=fun σ H Q=>t σ H fun c H1=>if c=true then Q true H1 else u σ H1 Q
noncomputable def Wv(t:TT):TT:=fun σ H Q=>t σ H fun c H1=>Q (!c) H1
theorem Qi(ha:PT X a tA):PW X (.BoolOp .And [a] pos) tA:=by
 intro wh pins s σ H Q I h;refine isTrue_and (bb (ha pins s σ H Q I h) fun c s1 e=>?_);cases c with
 | true=>exact isTrue_and_nil e
 | false=>exact e
theorem Ss(ha:PT X a tA):PW X (.BoolOp .Or [a] pos) tA:=by
 intro wh pins s σ H Q I h;refine isTrue_or (bb (ha pins s σ H Q I h) fun c s1 e=>?_);cases c with
 | false=>exact isTrue_or_nil e
 | true=>exact e
theorem Su(ha:PT X a tA)(hb:PW X (.BoolOp .And (b::rest) pos) xv):PW X (.BoolOp .And (a::b::rest) pos) (Hs tA xv):=by
 intro wh pins s σ H Q I h;refine isTrue_and (bb (ha pins s σ H _ I h) fun c s1 ⟨H1,I1,q1⟩=>?_);cases c with
 | true=>exact hb wh pins s1 σ H1 Q I1 q1
 | false=>exact⟨H1,I1,q1⟩
theorem Vl(ha:PT X a tA)(hb:PW X (.BoolOp .Or (b::rest) pos) xv):PW X (.BoolOp .Or (a::b::rest) pos) (Ii tA xv):=by
 intro wh pins s σ H Q I h;refine isTrue_or (bb (ha pins s σ H _ I h) fun c s1 ⟨H1,I1,q1⟩=>?_);cases c with
 | true=>exact⟨H1,I1,q1⟩
 | false=>exact hb wh pins s1 σ H1 Q I1 q1
theorem Sv(ha:PT X a tA):PT X (.UnaryOp .Not a pos) (Wv tA):=by
 intro pins s σ H Q I h;exact isTrue_not (ha pins s σ H (fun c H1=>Q (!c) H1) I h)
noncomputable def Vm(ta tb:TE):TE:=fun σ H Q=>ta σ H fun x H1=>∃c,x=.bl c/\if c=true then tb σ H1 Q else Q (.bl false) H1
noncomputable def Vn(ta:TE):TE:=fun σ H Q=>ta σ H fun x H1=>∃c,x=.bl c/\Q (.bl (!c)) H1
theorem Sw{op}{t:TE}(h:PE X a t):PE X (.BoolOp op [a] pos) t:=fun pins s σ H Q I hw=>BoolOp_one (h pins s σ H Q I hw)
theorem Sx(ha:PE X a ta)(hb:PE X (.BoolOp .And (b::rest) pos) tb):PE X (.BoolOp .And (a::b::rest) pos) (Vm ta tb):=by
 intro pins s σ H Q I h;refine BoolOp_and (bb (ha pins s σ H _ I h) fun v s1 ⟨x,H1,I1,r1,q1⟩=>?_);obtain⟨c,rfl,q1⟩:=q1;cases r1;refine acC ?_;cases c with
 | true=>exact hb pins s1 σ H1 Q I1 q1
 | false=>exact⟨.bl false,H1,I1,rfl,q1⟩
theorem Sy(ha:PE X a ta):PE X (.UnaryOp .Not a pos) (Vn ta):=by
 intro pins s σ H Q I h;refine UnaryOp_ (bb (ha pins s σ H _ I h) fun v s1 ⟨x,H1,I1,r1,q1⟩=>?_);obtain⟨c,rfl,q1⟩:=q1;cases r1;exact not_of (acC ⟨.bl (!c),H1,I1,rfl,q1⟩)
noncomputable def XJ(t:TT)(ta tb:TE):TE:=fun σ H Q=>t σ H fun c H1=>if c=true then ta σ H1 Q else tb σ H1 Q
theorem OQ{c:Expr}(hc:PT X c tA)(ha:PE X a ta)(hb:PE X b tb):PE X (.IfExp c a b pos) (XJ tA ta tb):=by
 intro pins s σ H Q I h;refine wpAny_IfExp (bb (hc pins s σ H _ I h) fun d s1 ⟨H1,I1,q1⟩=>?_);cases d with
 | true=>exact ha pins s1 σ H1 Q I1 q1
 | false=>exact hb pins s1 σ H1 Q I1 q1
end
noncomputable def bA(K:aao)(H:Hp)(a:Addr)(xs:List V):Prop:=
 Rd H a (.lst xs) \/
  ∃(o:Obj) (its:Array Value) (n:Nat),K.lookup a=some o/\o.cls=.type "list"/\o.dict=none/\o.data=.seq its n/\its.size<=aaH/\Vals xs its.toList
noncomputable def cE(K:aao)(H:Hp)(a:Addr)(xs:List V):Prop:=
 Rd H a (.tup xs) \/
  ∃(o:Obj) (its:Array Value) (n:Nat),K.lookup a=some o/\o.cls=.type "tuple"/\o.data=.seq its n/\its.size<=aaH/\Vals xs its.toList
noncomputable def Ww:Value->Option V
 | .none=>some .aJ
 | .bool b=>some (.bl b)
 | .int i _=>some (.int i)
 | .str x _=>some (.str x)
 | .bytes b _=>some (.sr b)
 | .float b _=>some (.CS b)
 | .ref a=>some (.ref a)
 | .type n=>some (.ty n)
 | _=>none
theorem RelV.abs{x:V}{u:Value}(r:RelV x u):Ww u=some x:=by
 cases x with
 | aJ=>cases r;rfl
 | bl _=>cases r;rfl
 | int _=>obtain⟨t,rfl⟩:=r;rfl
 | str _=>obtain⟨t,rfl⟩:=r;rfl
 | sr _=>obtain⟨t,rfl⟩:=r;rfl
 | CS _=>obtain⟨t,rfl⟩:=r;rfl
 | ref _=>cases r;rfl
 | ty _=>cases r;rfl
theorem RelV.inj{x y:V}{u:Value}(r:RelV x u)(q:RelV y u):x=y:=abq (r.abs.symm.trans q.abs)
theorem Vals.inj:∀{xs ys:List V} {us:List Value},Vals xs us->Vals ys us->xs=ys
 | _,_,_,.nil,.nil=>rfl
 | _,_,_,.cons r t,.cons r' t'=>by rw[r.inj r',Vals.inj t t']
section
variable{X:Cx}{pins:List (Addr×Obj)}{σ:St}{H:Hp}{s:aaw}{a:Addr}{xs ys:List V}
theorem bA.of{K:aao}(h:H a=some (.lst xs)):bA K H a xs:=.inl (.inl h)
theorem cE.of{K:aao}(h:H a=some (.tup xs)):cE K H a xs:=.inl (.inl h)
theorem Inv.list(I:Inv X pins σ H s)(h:bA X.K H a xs):∃its:List Value,Vals xs its/\PlainL s.heap a its.toArray/\xs.length<=sizeLine:=by
 rcases h with h | ⟨o,its,n,hk,hc,hd,hs,hz,r⟩
 ·obtain⟨z,its,n,r,e⟩:=h.ok I.aH;exact⟨its,r,⟨_,n,e,rfl,rfl,rfl⟩,z⟩
 ·refine⟨its.toList,r,⟨o,n,I.gA a o hk,hc,hd,by simpa using hs⟩,?_⟩;have e:=r.length;simp only[ack] at e;omega
theorem Inv.tuple(I:Inv X pins σ H s)(h:cE X.K H a xs):∃its:List Value,Vals xs its/\IsTup s.heap a its.toArray/\xs.length<=sizeLine:=by
 rcases h with h | ⟨o,its,n,hk,hc,hs,hz,r⟩
 ·obtain⟨z,its,r,p⟩:=h.ok I.aH;exact⟨its,r,p,z⟩
 ·refine⟨its.toList,r,⟨o,I.gA a o hk,hc,n,by simpa using hs⟩,?_⟩;have e:=r.length;simp only[ack] at e;omega
theorem Inv.Fj(I:Inv X pins σ H s)(h:bA X.K H a xs)(h':bA X.K H a ys):xs=ys:=by
 obtain⟨its,r,⟨o,n,e,_,_,d⟩,_⟩:=I.list h;obtain⟨its',r',⟨o',n',e',_,_,d'⟩,_⟩:=I.list h';rw[e] at e';cases e';rw[d] at d';injection d' with d1 _
 have:its=its':=by simpa using congrArg agd d1
 subst this;exact r.inj r'
theorem Inv.NL(I:Inv X pins σ H s)(h:cE X.K H a xs)(h':cE X.K H a ys):xs=ys:=by
 obtain⟨its,r,⟨o,e,_,n,d⟩,_⟩:=I.tuple h;obtain⟨its',r',⟨o',e',_,n',d'⟩,_⟩:=I.tuple h';rw[e] at e';cases e';rw[d] at d';injection d' with d1 _
 have:its=its':=by simpa using congrArg agd d1
 subst this;exact r.inj r'
end
section
variable{X:Cx}{st:Stmt}{rest:List Stmt}{t u:TS}{e:Expr}{te:TE}{pos:Pos}
noncomputable def Vo:TS:=fun D σ H=>D.nx σ H
noncomputable def Ht(t u:TS):TS:=fun D σ H=>t { D with nx:=u D } σ H
theorem Qj:gC X [] Vo:=fun _ _ σ H _ I h=>aec ⟨σ,H,I,h⟩
theorem OR(h1:PS X st t)(h2:gC X rest u):gC X (st::rest) (Ht t u):=by
 intro pins s σ H D I h;refine wpAny_execs_cons (bb (h1 pins s σ H { D with nx:=u D } I h) fun f s1 q=>?_);cases f with
 | next=>
  obtain⟨ao,H',I',q⟩:=q;exact h2 pins s1 ao H' D I' q
 | ret v=>exact q
 | brk=>exact q
 | cont=>exact q
theorem Qk(h1:PS X st t):gC X [st] t:=by
 intro pins s σ H D I h;refine wpAny_execs_cons (bb (h1 pins s σ H D I h) fun f s1 q=>?_);cases f with
 | next=>exact aec q
 | ret v=>exact q
 | brk=>exact q
 | cont=>exact q
theorem Inv.quiet{pins:List (Addr×Obj)}{σ:St}{H:Hp}{s:aaw}(I:Inv X pins σ H s):interactive X.env=false:=by simp[interactive,I.ok.kind]
noncomputable def Vp(te:TE):TS:=fun D σ H=>te σ H fun _ H1=>D.nx σ H1
theorem Ql(he:PE X e te)(hs:adj e none pos.line X.env=pure false:=by rfl):PS X (.Expr e pos) (Vp te):=by
 intro pins s σ H D I h;exact wpAny_Expr_any (bb (he pins s σ H _ I h) fun v s1 ⟨x,H1,I1,r1,q1⟩=>⟨σ,H1,I1,q1⟩) I.quiet hs
noncomputable def Wx(te:TE):TS:=fun D σ H=>te σ H D.rt
theorem Sz(he:PE X e te):PS X (.Return (some e) pos) (Wx te):=by
 intro pins s σ H D I h;exact wpAny_Return_some (bb (he pins s σ H _ I h) fun v s1 ⟨x,H1,I1,r1,q1⟩=>⟨x,σ,H1,I1,r1,q1⟩)
noncomputable def Wz(c:TT)(t u:TS):TS:=fun D σ H=>c σ H fun b H1=>if b=true then t D σ H1 else u D σ H1
theorem Vq{c:Expr}{a b:List Stmt}{tc:TT}(hc:PT X c tc)(ha:gC X a t)(hb:gC X b u):PS X (.If c a b pos) (Wz tc t u):=by
 intro pins s σ H D I h;refine wpAny_If (bb (hc pins s σ H _ I h) fun d s1 ⟨H1,I1,q1⟩=>?_);cases d with
 | true=>exact ha pins s1 σ H1 D I1 q1
 | false=>exact hb pins s1 σ H1 D I1 q1
end
abbrev TG:=V->St->Hp->(St->Hp->Prop)->Prop
abbrev kA:=List V->St->Hp->(St->Hp->Prop)->Prop
noncomputable def PG(X:Cx)(target:Expr)(t:TG):Prop:=
 ∀(pins:List (Addr×Obj)) (s:aaw) (σ:St) (H:Hp) (v:V) (u:Value) (Q:St->Hp->Prop),Inv X pins σ H s->RelV v u->t v σ H Q →
  wpAny (model X.prog X.w) X.A (afB target X.env u) (fun _ s'=>∃ao H',Inv X pins ao H' s'/\Q ao H') X.xe s
noncomputable def gV(X:Cx)(ts:List Expr)(t:kA):Prop:=
 ∀(pins:List (Addr×Obj)) (s:aaw) (σ:St) (H:Hp) (vs:List V) (us:List Value) (Q:St->Hp->Prop),Inv X pins σ H s->Vals vs us->t vs σ H Q →
  wpAny (model X.prog X.w) X.A (assignInOrder ((abX ts X.env).map (·.2)) us) (fun _ s'=>∃ao H',Inv X pins ao H' s'/\Q ao H') X.xe s
abbrev wU:=V->V->V->Hp->(Hp->Prop)->Prop
noncomputable def lc(X:Cx)(t:wU):Prop:=
 ∀(pins:List (Addr×Obj)) (s:aaw) (σ:St) (H:Hp) (o i v:V) (ov iv u:Value) (Q:Hp->Prop),Inv X pins σ H s->RelV o ov->RelV i iv->RelV v u->t o i v H Q →
  wpAny (model X.prog X.w) X.A (setItem ov iv u) (fun _ s'=>∃H',Inv X pins σ H' s'/\Q H') X.xe s
abbrev xw:=V->V->Hp->VK->Prop
noncomputable def Ij(X:Cx)(op:Operator)(t:xw):Prop:=
 ∀(pins:List (Addr×Obj)) (s:aaw) (σ:St) (H:Hp) (x y:V) (v u:Value) (Q:VK),Inv X pins σ H s->RelV x v->RelV y u->t x y H Q →
  wpAny (model X.prog X.w) X.A (inplaceOp op v u) (EP X pins σ Q) X.xe s
section
variable{X:Cx}{pos:Pos}
noncomputable def AR(i:Nat):TG:=fun v σ H Q=>Q (σ.set i (some v)) H
variable{i:Nat}{x:Str}
theorem Qm(hN:X.N.Nodup)(hi:X.N[i]? =some x)(hx:Loc X.env.scope x)(hf:(X.fn x=true\/X.env.scope.names.lookup x=some .local)/\iF X x):PG X (.Name x pos) (AR i):=by
 intro pins s σ H v u Q I r h;exact wpAny_assign_Name (za I hN hi hx r (fun s' I'=>⟨_,H,I',h⟩) hf)
noncomputable def WA:kA:=fun vs σ H Q=>vs=[]/\Q σ H
noncomputable def Vr(t:TG)(u:kA):kA:=fun vs σ H Q=>∃v r,vs=v::r/\t v σ H fun ao H'=>u r ao H' Q
theorem Qn:gV X [] WA:=by
 intro pins s σ H vs us Q I r h;obtain⟨e,h⟩:=h;subst e;cases r;exact assignInOrder_nil ⟨σ,H,I,h⟩
theorem OS{e:Expr}{es:List Expr}{t:TG}{u:kA}(h1:PG X e t)(h2:gV X es u)
  (hs:(abX (e::es) X.env).map (·.2)=afB e X.env::(abX es X.env).map (·.2):=by rfl):gV X (e::es) (Vr t u):=by
 intro pins s σ H vs us Q I r h;obtain⟨v,vr,e1,h⟩:=h;subst e1;cases r with
 | cons r rr=>
  rw[hs];refine assignInOrder_cons (bb (h1 pins s σ H _ _ _ I r h) fun _ s1 ⟨σ1,H1,I1,q1⟩=>?_);exact h2 pins s1 σ1 H1 _ _ Q I1 rr q1
noncomputable def WB(K:aao)(n:Nat)(t:kA):TG:=fun v σ H Q=>∃a xs,v=.ref a/\cE K H a xs/\xs.length=n/\t xs σ H Q
theorem SA{es:List Expr}{k:Nat}{t:kA}{n:Nat}(hc:X.calm=true)(h:gV X es t)
  (hn:(abX es X.env).length=n:=by rfl) (c9:(abX es X.env).findIdx? (·.1)=none:=by rfl):PG X (.Tuple es k pos) (WB X.K n t):=by
 intro pins s σ H v u Q I r hw;obtain⟨a,xs,e1,hq,hl,hw⟩:=hw;subst e1;cases r;obtain⟨its,rv,ht,hz⟩:=I.tuple hq;refine assign_Tuple_tuple (I.ok.hd hc) ht (by simp[hn,<- hl,rv.length]) c9 fun h' hx=>?_
 have I1:Inv X pins σ H { s with heap:=h' }:=I.kept (t':=s.toks) fun b o e=>hx b o (aaW (aax e)) e
 exact h pins _ σ H xs _ Q I1 (by simpa using rv) hw
noncomputable def WC(to ti:TE)(t:wU):TG:=fun v σ H Q=>to σ H fun o H1=>ti σ H1 fun i H2=>t o i v H2 fun H3=>Q σ H3
theorem SD{o i:Expr}{to ti:TE}{t:wU}(ho:PE X o to)(hi:PE X i ti)(hs:lc X t)
  (ha:∀v,afB (.Subscript o i pos) X.env v=(do
   let ov <- afG [v] (eval o X.env)
   let iv <- afG [v,ov] (eval i X.env)
   standAt pos
   afG [v,ov,iv] (setItem ov iv v)
   release [v,ov,iv] []):=by intro _;rfl):PG X (.Subscript o i pos) (WC to ti t):=by
 intro pins s σ H v u Q I r h;rw[ha];refine aaq (acX (bb (ho pins s σ H _ I h) fun ov s1 ⟨x,H1,I1,r1,q1⟩=>?_));refine aaq (acX (bb (hi pins s1 σ H1 _ I1 q1) fun iv s2 ⟨y,H2,I2,r2,q2⟩=>?_));refine aaq (wpAny_standAt (aaq (acX (bb (hs pins s2 σ H2 x y v ov iv u _ I2 r1 r2 r q2) fun _ s3 ⟨H3,I3,q3⟩=>?_))));exact wpAny_release ⟨σ,H3,I3,q3⟩
noncomputable def wV(te:TE)(g:TG):TS:=fun D σ H=>te σ H fun x H1=>g x σ H1 D.nx
variable{te:TE}
theorem SE{tg e:Expr}{g:TG}(he:PE X e te)(hg:PG X tg g)(hs:swapsWithSole [tg] e pos.line X.env=pure false:=by rfl)(hw:swappedStores [tg] e X.env=pure none:=by rfl)
  (h1:(abX [tg] X.env).map (·.2)=[afB tg X.env]:=by rfl):PS X (.Assign [tg] e pos) (wV te g):=by
 intro pins s σ H D I h;refine wpAny_Assign_stores (bb (he pins s σ H _ I h) fun v s1 ⟨x,H1,I1,r1,q1⟩=>?_) hs hw;rw[h1];exact bb (hg pins s1 σ H1 x v _ I1 r1 q1) fun _ s2 q=>q
theorem SF{e:Expr}{pos':Pos}(hN:X.N.Nodup)(hi:X.N[i]? =some x)(hx:Loc X.env.scope x)(he:PE X e te)(hs:adj e (some (.Name x pos')) pos.line X.env=pure false:=by rfl)(hf:(X.fn x=true\/X.env.scope.names.lookup x=some .local)/\iF X x) :
  PS X (.Assign [.Name x pos'] e pos) (wV te (AR i)):=by
 intro pins s σ H D I h;refine wpAny_Assign_Name (bb (he pins s σ H _ I h) fun v s1 ⟨y,H1,I1,r1,q1⟩=>?_) hs;exact za I1 hN hi hx r1 (fun s2 I2=>⟨_,H1,I2,q1⟩) hf
noncomputable def Hu(i:Nat)(te:TE)(ti:xw):TS:=fun D σ H=>∃x,σ[i]? =some (some x)/\te σ H fun y H1=>ti x y H1 fun z H2=>D.nx (σ.set i (some z)) H2
theorem SG{e:Expr}{op:Operator}{ti:xw}{pos':Pos}(hN:X.N.Nodup)(hi:X.N[i]? =some x)(hx:Loc X.env.scope x)(he:PE X e te)(ho:Ij X op ti)(hf:(X.fn x=true\/X.env.scope.names.lookup x=some .local)/\iF X x) :
  PS X (.AugAssign (.Name x pos') op e pos) (Hu i te ti):=by
 intro pins s σ H D I h;obtain⟨v,e1,h⟩:=h;obtain⟨m,hn,hl⟩:=I.loc;have kB:jf X.env.scope x:=by rcases hx with k | k;exact .inl k;exact .inr (.inl k)
 obtain⟨u,r,l⟩:=hl i x v hi e1 kB;refine wpAny_AugAssign_Name ?_;have go:wpAny (model X.prog X.w) X.A (eval e X.env) (fun w kR=>wpAny (model X.prog X.w) X.A (inplaceOp op u w) (fun r Ef=>wpAny (model X.prog X.w) X.A (storeName X.env x r) (fun _=>SP X pins D .next) X.xe Ef) X.xe kR) X.xe s:=by
  refine bb (he pins s σ H _ I h) fun w s1 ⟨y,H1,I1,r1,q1⟩=>?_
  refine bb (ho pins s1 σ H1 v y u w _ I1 r r1 q1) fun z s2 ⟨zv,H2,I2,r2,q2⟩=>?_
  exact za I2 hN hi hx r2 (fun s3 I3=>⟨_,H2,I3,q2⟩) hf
 rcases l with⟨hk,hm⟩ | ⟨hk,c,hc,iD⟩
 ·exact wpAny_loadName_local I.ok.kind hk hn hm go
 ·rcases hk with hk | hk
  ·exact wpAny_loadName_cell I.ok.kind hk hc iD go
  ·rcases hx with k | k
   ·have:X.env.scope.names.lookup x=some .free:=hk;rw[k] at this;cases this
   ·have:X.env.scope.names.lookup x=some .free:=hk;rw[k] at this;cases this
noncomputable def Ik(f:Int->Int->Int):xw:=fun x y H Q=>∃i j,x=.int i/\y=.int j/\Q (.int (f i j)) H
theorem SH:Ij X .Add (Ik fun i j=>i+j):=by
 intro pins s σ H x y v u Q I r1 r2 h;obtain⟨i,j,e1,e2,q⟩:=h;subst e1;subst e2;obtain⟨t,rfl⟩:=r1;obtain⟨t',rfl⟩:=r2;exact iadd_int ⟨.int _,H,I.tok _,⟨_,rfl⟩,q⟩
end
section
variable{X:Cx}{pos:Pos}
noncomputable def Gr(c:TT)(tb:TS):TS:=fun D σ H=>∃W:Nat->St->Hp->Prop,(∃m,W m σ H)/\∀m σ H,W m σ H →
 c σ H fun b H1=>if b=true then ∃N:St->Hp->Prop,(∀ao H',N ao H'->∃m',m'<m/\W m' ao H')/\tb { D with nx:=N,ct:=N,bk:=D.nx } σ H1 else D.nx σ H1
theorem OT{c:Expr}{body:List Stmt}{tc:TT}{tb:TS}(hp:afS (model X.prog X.w) X.A X.env X.xe)(hc:PT X c tc)(hb:gC X body tb):PS X (.While c body [] pos) (Gr tc tb):=by
 intro pins s σ H D I h;obtain⟨W,⟨m0,w0⟩,turn⟩:=h;refine wpAny_While (codeAny_whileLoop (fun n s'=>∃ao H',Inv X pins ao H' s'/\W n ao H') ?_ m0 ⟨σ,H,I,w0⟩);rintro n s1 ⟨σ1,H1,I1,w1⟩;refine acD hp (bb (hc pins s1 σ1 H1 _ I1 (turn n σ1 H1 w1)) fun b s2 ⟨H2,I2,q2⟩=>?_);cases b with
 | true=>
  obtain⟨N,hN,q2⟩:=q2;rw[if_pos rfl];refine acD hp (bb (hb pins s2 σ1 H2 _ I2 q2) fun f s3 q3=>?_);cases f with
  | next=>
   obtain⟨iY,H3,I3,n3⟩:=q3;obtain⟨m',hm,w3⟩:=hN iY H3 n3;exact⟨m',hm,iY,H3,I3,w3⟩
  | cont=>
   obtain⟨iY,H3,I3,n3⟩:=q3;obtain⟨m',hm,w3⟩:=hN iY H3 n3;exact⟨m',hm,iY,H3,I3,w3⟩
  | brk=>exact q3
  | ret v=>exact q3
 | false=>
  rw[if_neg abe];exact aec ⟨σ1,H2,I2,q2⟩
end
structure It where
 go:Nat->Hp->Prop
 o1:Nat->Hp->V->Hp->Prop
 stop:Nat->Hp->Prop
noncomputable def iG(X:Cx)(pins:List (Addr×Obj))(H:Hp)(b:Addr):Prop:=
 H b=none/\b≠X.env.locals/\b∉X.fs/\(b∈X.ex\/X.aE.heap.objs.size<=b)/\(∀x c,X.env.cells.lookup x=some c->c≠b)/\∀p∈X.pn++pins,p.1≠b
theorem Inv.rW{pins:List (Addr×Obj)}{σ:St}{H':Hp}(I:Inv X pins σ H s)(hb:s.heap.objs.size<=b)(hn:H' b=none):iG X pins H' b:=by
 refine⟨hn,abU (aay I.lt hb),I.Wr hb,.inr (aaN I.sz hb),fun x c e z=>?_,fun p hp z=>?_⟩
 ·obtain⟨v,q⟩:=I.cell x c e;exact absurd (aay q.lt (by rw[z];exact hb)) (abP _)
 ·exact absurd (aay (aax (I.pin p hp).1) (by rw[z];exact hb)) (abP _)
structure Turn(P:abw)(w:World)(K:aao)(tg:Expr)(J:It)(fp:List Addr)(it:Addr)(tn:Nat->Heap->Prop):Prop where
 mem:it∈fp
 obj:∀i h,tn i h->∀b∈fp,∃o,h.get? b=some o/\∀v,o.data≠.cell v
 keep:∀i h h',tn i h->(∀b∈fp,∀o,h.get? b=some o->h'.get? b=some o)->tn i h'
 item:∀(X:Cx),X.prog=P->X.w=w->X.K=K->X.calm=true->∀(i:Nat) (pins:List (Addr×Obj)) (s:aaw) (σ:St) (H:Hp) (E:Value->aaw->Prop),Inv X pins σ H s->(∀b∈fp,iG X pins H b)->tn i s.heap->J.go i H →
  wpAny (model P w) X.A (pyNext (.ref it)) (fun r s1=>∃u,r=some u /\
   wpAny (model P w) X.A (aed tg (.ref it) u) (fun _ s2=>∃x H',Inv X pins σ H' s2/\RelV x u/\J.o1 i H x H'/\tn (i+1) s2.heap/\∀b∈fp,H' b=none) E s1) E s
 done:∀(X:Cx),X.prog=P->X.w=w->X.K=K->X.calm=true->∀(i:Nat) (pins:List (Addr×Obj)) (s:aaw) (σ:St) (H:Hp) (E:Value->aaw->Prop),Inv X pins σ H s->(∀b∈fp,iG X pins H b)->tn i s.heap->J.stop i H →
  wpAny (model P w) X.A (pyNext (.ref it)) (fun r s1=>r=none/\Inv X pins σ H s1) E s
 self:∀(A:acM) (i:Nat) (s:aaw) (Q:Value->aaw->Prop) (E:Value->aaw->Prop),tn i s.heap->Q (.ref it) s->wpAny (model P w) A (pyIter (.ref it)) Q E s
abbrev TI:=St->Hp->(It->Hp->Prop)->Prop
noncomputable def Il(X:Cx)(pins:List (Addr×Obj))(σ:St)(tg:Expr)(R:It->Hp->Prop)(CV:Value)(s2:aaw):Prop:=
 ∃(it:Addr) (fp:List Addr) (tn:Nat->Heap->Prop) (J:It) (H':Hp),CV=.ref it/\Inv X pins σ H' s2/\Turn X.prog X.w X.K tg J fp it tn/\tn 0 s2.heap/\(∀b∈fp,iG X pins H' b)/\R J H'
noncomputable def PI(X:Cx)(tg iter:Expr)(wi:TI):Prop:=
 ∀(pins:List (Addr×Obj)) (s:aaw) (σ:St) (H:Hp) (R:It->Hp->Prop),Inv X pins σ H s->wi σ H R →
  wpAny (model X.prog X.w) X.A (eval iter X.env) (fun v s1=>wpAny (model X.prog X.w) X.A (pyIter v) (Il X pins σ tg R) X.xe s1) X.xe s
variable{tg:Expr}
theorem we {M : Model} {E : Value -> aaw -> Prop} {it : Addr} {u : Value} {o : Obj} {n : String} {vs : Array Value} {Q : Unit -> aaw -> Prop} (ho : s.heap.get? it = some o) (hc : o.cls = .type n) (hd : o.data = .fields vs)
    (hn : ["enumerate", "zip", "dict_itemiterator", "dict_reverseitemiterator", "odict_iterator", "itertools.zip_longest", "itertools.pairwise"].contains n = false) (hQ : Q () s) : wpAny M A (aed tg (.ref it) u) Q E s := by
  unfold aed;cases tg <;> first
    | exact aaE hQ
    | (cases u <;> first
        | exact aaE hQ
        | (refine aaq (wpAny_load ho ?_)
           rw [hc, hd];show wpAny M A (if (["enumerate", "zip", "dict_itemiterator", "dict_reverseitemiterator", "odict_iterator", "itertools.zip_longest", "itertools.pairwise"].contains n && vs[0]? == some (adU _)) = true then _ else _) Q E s;rw [if_neg (by intro h; rw [hn, aey] at h; cases h)];exact aaE hQ))
noncomputable def Im(K:aao)(a:Addr):It:=
 ⟨fun i H=>∃xs x,bA K H a xs/\xs[i]? =some x,fun i H x H'=>H'=H/\∀xs,bA K H a xs->xs[i]? =some x,fun i H=>∃xs,bA K H a xs/\xs.length<=i⟩
noncomputable def Io(K:aao)(a:Addr):It:=
 ⟨fun i H=>∃xs x,cE K H a xs/\xs[i]? =some x,fun i H x H'=>H'=H/\∀xs,cE K H a xs->xs[i]? =some x,fun i H=>∃xs,cE K H a xs/\xs.length<=i⟩
noncomputable def sA(lo:Int)(n:Nat):It:=⟨fun i _=>i<n,fun i H x H'=>H'=H/\x=.int (lo+i),fun i _=>n<=i⟩
variable{K:aao}
theorem NM{w:World}(a it:Addr):Turn P w K tg (Im K a) [it] it (fun i h=>h.IsListIter it a i) where
 mem:=by simp
 obj:=fun i h st b hb=>by
  have e:b=it:=by simpa using hb
  subst e;obtain⟨o,e,c,d⟩:=st;exact⟨o,e,fun v z=>by rw[d] at z;cases z⟩
 keep:=fun i h h' st k=>st.at fun o e=>k it (by simp) o e
 item:=by
  intro X hP hw hK hc i pins s σ H E I hf st hg;subst hP hw hK;obtain⟨xs,x,hq,hx⟩:=hg;obtain⟨its,rv,p,hz⟩:=I.list hq;obtain⟨u,hu,ru⟩:=rv.get hx;obtain⟨f0,f1,f2,f3,f4,f5⟩:=hf it (by simp);refine wpAny_pyNext_list_item st p.isList (x:=u) (by simpa using hu) fun h' cJ sb=>?_
  have I1:Inv X pins σ H { s with heap:=h' }:=I.turned (t':=s.toks) (fun b o hb e=>(sb.2 b hb).trans e) f0 f1 f3 f4 f5;obtain⟨o,e,c,d⟩:=id cJ;exact⟨u,rfl,we (s:={ s with heap:=h' }) e c d (by decide) ⟨x,H,I1,ru,⟨rfl,fun ys hy=>by rw[I.Fj hy hq];exact hx⟩,cJ,fun b hb=>(hf b hb).1⟩⟩
 done:=by
  intro X hP hw hK hc i pins s σ H E I hf st hg;subst hP hw hK;obtain⟨xs,hq,hx⟩:=hg;obtain⟨its,rv,p,hz⟩:=I.list hq;obtain⟨f0,f1,f2,f3,f4,f5⟩:=hf it (by simp);have hl:=rv.length;exact wpAny_pyNext_list_end (I.ok.hd hc) st p.isList (by simp;omega) fun h' eb=>⟨rfl,I.turned (t':=s.toks) (fun b o hb e=>eb b o hb e) f0 f1 f3 f4 f5⟩
 self:=fun _ _ _ _ _ st h=>wpAny_pyIter_listiter st h
theorem Np{w:World}(a it:Addr):Turn P w K tg (Io K a) [it] it (fun i h=>h.IsTupleIter it a i) where
 mem:=by simp
 obj:=fun i h st b hb=>by
  have e:b=it:=by simpa using hb
  subst e;obtain⟨o,e,c,d⟩:=st;exact⟨o,e,fun v z=>by rw[d] at z;cases z⟩
 keep:=fun i h h' st k=>st.at fun o e=>k it (by simp) o e
 item:=by
  intro X hP hw hK hc i pins s σ H E I hf st hg;subst hP hw hK;obtain⟨xs,x,hq,hx⟩:=hg;obtain⟨its,rv,p,hz⟩:=I.tuple hq;obtain⟨u,hu,ru⟩:=rv.get hx;obtain⟨f0,f1,f2,f3,f4,f5⟩:=hf it (by simp);refine wpAny_pyNext_tuple_item st (show s.heap.IsTuple a its.toArray from p) (x:=u) (by simpa using hu) fun h' cJ sb=>?_
  have I1:Inv X pins σ H { s with heap:=h' }:=I.turned (t':=s.toks) (fun b o hb e=>(sb.2 b hb).trans e) f0 f1 f3 f4 f5;obtain⟨o,e,c,d⟩:=id cJ;exact⟨u,rfl,we (s:={ s with heap:=h' }) e c d (by decide) ⟨x,H,I1,ru,⟨rfl,fun ys hy=>by rw[I.NL hy hq];exact hx⟩,cJ,fun b hb=>(hf b hb).1⟩⟩
 done:=by
  intro X hP hw hK hc i pins s σ H E I hf st hg;subst hP hw hK;obtain⟨xs,hq,hx⟩:=hg;obtain⟨its,rv,p,hz⟩:=I.tuple hq;obtain⟨f0,f1,f2,f3,f4,f5⟩:=hf it (by simp);have hl:=rv.length;exact wpAny_pyNext_tuple_end (I.ok.hd hc) st (show s.heap.IsTuple a its.toArray from p) (by simp;omega) fun h' eb=>⟨rfl,I.turned (t':=s.toks) (fun b o hb e=>eb b o hb e) f0 f1 f3 f4 f5⟩
 self:=fun _ _ _ _ _ st h=>wpAny_pyIter_tupleiter st h
theorem Nq{w:World}(it:Addr)(lo:Int)(n:Nat):Turn P w K tg (sA lo n) [it] it (fun i h=>IsRangeIter h it (lo+(i:Nat)*1) ((n:Int)-(i:Nat)) 1) where
 mem:=by simp
 obj:=fun i h st b hb=>by
  have e:b=it:=by simpa using hb
  subst e;exact⟨_,st,fun v z=>by
   have z':Data.fields _=Data.cell v:=z;cases z'⟩
 keep:=fun i h h' st k=>k it (by simp) _ st
 item:=by
  intro X hP hw hK hc i pins s σ H E I hf st hg;subst hP hw hK;obtain⟨f0,f1,f2,f3,f4,f5⟩:=hf it (by simp);have W:=Walks.range (prog:=X.prog) (w:=X.w) (I.ok.hd hc) it lo 1 n;refine W.item i s _ _ hg st fun v h' tk hv cJ kk=>?_
  obtain⟨t,rfl⟩:=hv;have I1:Inv X pins σ H { s with heap:=h',toks:=tk }:=I.turned (fun b o hb e=>kk b o (by simpa using hb) e) f0 f1 f3 f4 f5;refine⟨_,rfl,we (s:={ s with heap:=h',toks:=tk }) (n:="range_iterator") cJ rfl rfl (by decide) ⟨.int (lo+i),H,I1,⟨t,?_⟩,⟨rfl,rfl⟩,cJ,fun b hb=>(hf b hb).1⟩⟩;rw[Int.mul_one]
 done:=by
  intro X hP hw hK hc i pins s σ H E I hf st hg;subst hP hw hK;obtain⟨f0,f1,f2,f3,f4,f5⟩:=hf it (by simp);exact wpAny_pyNext_range_end (I.ok.hd hc) st (by have:n<=i:=hg;omega) fun h' eb=>⟨rfl,I.turned (t':=s.toks) (fun b o hb e=>eb b o hb e) f0 f1 f3 f4 f5⟩
 self:=fun _ _ _ _ _ st h=>wpAny_pyIter_rangeiter st h
section
variable{X:Cx}{tg:Expr}
noncomputable def Vs(K:aao)(tl:TE):TI:=fun σ H R=>tl σ H fun x H1=>∃a,x=.ref a/\(∃xs,bA K H1 a xs)/\R (Im K a) H1
noncomputable def WD(K:aao)(tl:TE):TI:=fun σ H R=>tl σ H fun x H1=>∃a,x=.ref a/\(∃xs,cE K H1 a xs)/\R (Io K a) H1
theorem Qo{l:Expr}{tl:TE}(hl:PE X l tl):PI X tg l (Vs X.K tl):=by
 intro pins s σ H R I h;refine bb (hl pins s σ H _ I h) fun v s1 ⟨x,H1,I1,r1,q1⟩=>?_
 obtain⟨a,e,⟨xs,hq⟩,q⟩:=q1;subst e;cases r1;obtain⟨its,rv,p,hz⟩:=I1.list hq;refine wpAny_pyIter_list p.isList ?_;refine⟨s1.heap.objs.size,[s1.heap.objs.size],_,_,H1,rfl,I1.kept (t':=s1.toks) fun b o e=>aas _ e,NM a _,⟨_,aaI _ rfl,rfl,rfl⟩,fun b hb=>?_,q⟩;have e:b=s1.heap.objs.size:=by simpa using hb
 subst e;exact I1.rW (aat _) (I1.aH.fresh (aat _))
theorem SI{l:Expr}{tl:TE}(hl:PE X l tl):PI X tg l (WD X.K tl):=by
 intro pins s σ H R I h;refine bb (hl pins s σ H _ I h) fun v s1 ⟨x,H1,I1,r1,q1⟩=>?_
 obtain⟨a,e,⟨xs,hq⟩,q⟩:=q1;subst e;cases r1;obtain⟨its,rv,p,hz⟩:=I1.tuple hq;refine wpAny_pyIter_tuple (show s1.heap.IsTuple a its.toArray from p) ?_;refine⟨s1.heap.objs.size,[s1.heap.objs.size],_,_,H1,rfl,I1.kept (t':=s1.toks) fun b o e=>aas _ e,Np a _,⟨_,aaI _ rfl,rfl,rfl⟩,fun b hb=>?_,q⟩;have e:b=s1.heap.objs.size:=by simpa using hb
 subst e;exact I1.rW (aat _) (I1.aH.fresh (aat _))
variable{σ:St}{H:Hp}{s:aaw}
theorem Fm{pins:List (Addr×Obj)}{R:It->Hp->Prop}{E:Value->aaw->Prop}{lo hi:Int}{t u v:Tok}{tk:Nat}(I:Inv X pins σ H s)(h1: -(2 ^ 62)<=lo)(h2:lo<2 ^ 62)(h3: -(2 ^ 62)<=hi)(h4:hi<2 ^ 62)
  (q:R (sA lo (hi-lo).toNat) H):wpAny (model X.prog X.w) X.A (pyIter (.ref s.heap.objs.size)) (Il X pins σ tg R) E { s with heap:=s.heap.push { cls:=.type "range",data:=.fields #[.int lo t,.int hi u,.int 1 v] },toks:=tk }:=by
 refine wpAny_pyIter_range (IsRange.new ..) (small_one h1 h2 h3 h4) ?_;have I1:Inv X pins σ H { s with heap:=s.heap.push { cls:=.type "range",data:=.fields #[.int lo t,.int hi u,.int 1 v] },toks:=tk }:=I.kept fun b o e=>aas _ e
 refine⟨(s.heap.push { cls:=.type "range",data:=.fields #[.int lo t,.int hi u,.int 1 v] }).objs.size,[(s.heap.push { cls:=.type "range",data:=.fields #[.int lo t,.int hi u,.int 1 v] }).objs.size],_,_,H,rfl,
  I1.kept (t':=tk) fun b o e=>aas _ e,Nq _ lo (hi-lo).toNat,?_,fun b hb=>?_,q⟩
 ·have e1:lo+((0:Nat):Int)*1=lo:=by simp
  have e2:(((hi-lo).toNat:Nat):Int)-((0:Nat):Int)=acJ lo hi 1:=by rw[rangeSize_one];split <;> omega
  show IsRangeIter _ _ (lo+((0:Nat):Int)*1) ((((hi-lo).toNat:Nat):Int)-((0:Nat):Int)) 1;rw[e1,e2];exact aaI _ rfl
 ·have e:b=(s.heap.push { cls:=.type "range",data:=.fields #[.int lo t,.int hi u,.int 1 v] }).objs.size:=by simpa using hb
  subst e;exact I1.rW (aat _) (I1.aH.fresh (aat _))
noncomputable def Vt(ta:TA):TI:=fun σ H R=>ta σ H fun vs H1=>∃j:Int,vs=[.int j]/\ -(2 ^ 62)<=j/\j<2 ^ 62/\R (sA 0 j.toNat) H1
noncomputable def Vu(ta:TA):TI:=fun σ H R=>ta σ H fun vs H1=>∃i j:Int,vs=[.int i,.int j]/\(-(2 ^ 62)<=i/\i<2 ^ 62/\ -(2 ^ 62)<=j/\j<2 ^ 62)/\R (sA i (j-i).toNat) H1
variable{pos:Pos}
theorem NN{a:Expr}{ta:TA}{p:Pos}(hg:Gl X "range")(hm:X.mg "range"=none)(ha:PA X [a] ta)(hs:aaP [a] X.env=[(false,eval a X.env)]:=by rfl):PI X tg (.Call (.Name "range" p) [a] [] pos) (Vt ta):=by
 intro pins s σ H R I h;refine Call_ (jz I hg hm boot_range (abm (bb (ha pos pins s σ H _ I h) fun us s1 ⟨vs,H1,I1,r1,q1⟩=>?_) hs rfl));obtain⟨j,e,q1,q2,q⟩:=q1;subst e;cases r1 with
 | cons r rr=>
  cases rr;obtain⟨t,rfl⟩:=r;exact call_range_1 (Fm I1 (by omega) (by omega) q1 q2 (by simpa using q))
theorem NO{a b:Expr}{ta:TA}{p:Pos}(hg:Gl X "range")(hm:X.mg "range"=none)(ha:PA X [a,b] ta)(hs:aaP [a,b] X.env=[(false,eval a X.env),(false,eval b X.env)]:=by rfl)(iP:aaP [b] X.env=[(false,eval b X.env)]:=by rfl) :
  PI X tg (.Call (.Name "range" p) [a,b] [] pos) (Vu ta):=by
 intro pins s σ H R I h;refine Call_ (jz I hg hm boot_range (abm (bb (ha pos pins s σ H _ I h) fun us s1 ⟨vs,H1,I1,r1,q1⟩=>?_) (by rw[hs,iP]) (by rw[iP];rfl)));obtain⟨i,j,e,⟨q1,q2,q3,q4⟩,q⟩:=q1;subst e;cases r1 with
 | cons r rr=>
  cases rr with
  | cons r' rr=>
   cases rr;obtain⟨t,rfl⟩:=r;obtain⟨t',rfl⟩:=r';exact call_range_2 (Fm I1 q1 q2 q3 q4 q)
noncomputable def BO(wi:TI)(g:TG)(tb:TS):TS:=fun D σ H=>wi σ H fun J H1=>∃W:Nat->Nat->St->Hp->Prop,(∃m,W 0 m σ H1)/\∀i m σ H,W i m σ H →
 (J.stop i H/\D.nx σ H)\/(J.go i H/\∃N:St->Hp->Prop,(∀ao H',N ao H'->∃m',m'<m/\W (i+1) m' ao H')/\∀x H',J.o1 i H x H'->g x σ H' fun bw H2=>tb { D with nx:=N,ct:=N,bk:=D.nx } bw H2)
noncomputable def qX(fp:List Addr)(h:Heap):List (Addr×Obj):=fp.filterMap fun b=>(h.get? b).map fun o=>(b,o)
variable{fp:List Addr}
theorem u4{h:Heap}{b:Addr}{o:Obj}(hb:b∈fp)(e:h.get? b=some o):(b,o)∈qX fp h:=aer.mpr ⟨b,hb,by rw[e];rfl⟩
theorem NP{h:Heap}{p:Addr×Obj}(hp:p∈qX fp h):p.1∈fp/\h.get? p.1=some p.2:=by
 obtain⟨b,hb,e⟩:=aer.mp hp;cases q:h.get? b with
 | none=>rw[q] at e;cases e
 | some o=>
  rw[q] at e;have e':(b,o)=p:=abq e;subst e';exact⟨hb,q⟩
theorem Inv.pinned{pins:List (Addr×Obj)}(I:Inv X pins σ H s)(hf:∀b∈fp,iG X pins H b)(ho:∀b∈fp,∃o,s.heap.get? b=some o/\∀v,o.data≠.cell v):Inv X (pins++qX fp s.heap) σ H s:=
 I.FQ fun p hp=>(aaS.mp hp).elim (fun z=>I.pin p (aaT _ z)) fun z=>by
  obtain⟨hb,e⟩:=NP z;obtain⟨f0,f1,f2,_⟩:=hf p.1 hb;obtain⟨o,e',d⟩:=ho p.1 hb;rw[e] at e';cases e';exact⟨e,f0,f1,f2,d⟩
theorem Inv.vn{pins pl:List (Addr×Obj)}(I:Inv X (pins++pl) σ H s):Inv X pins σ H s:=I.FQ fun p hp=>I.pin p (aaT _ (abf _ hp))
theorem Gs{iter:Expr}{body:List Stmt}{wi:TI}{g:TG}{tb:TS}(hp:afS (model X.prog X.w) X.A X.env X.xe)(hc:X.calm=true)(hi:PI X tg iter wi)(hg:PG X tg g)(hb:gC X body tb)
  (hs:∀x,abp iter X.env x=pure x:=by intro _;rfl):PS X (.For tg iter body [] pos) (BO wi g tb):=by
 intro pins s σ H D I h;refine wpAny_For (bb (hi pins s σ H _ I h) fun v s1 h1=>bb h1 fun CV s2 h2=>?_) hs;obtain⟨it,fp,tn,J,H2,e,I2,T,fP,f2,W,⟨m0,w0⟩,turn⟩:=h2;subst e;have BP:∀{H':Hp},(∀b∈fp,H' b=none)->∀b∈fp,iG X pins H' b:=fun hn b hb=>⟨hn b hb,(f2 b hb).2⟩
 refine codeAny_forLoop_any (fun n s'=>∃i ao H',Inv X pins ao H' s'/\tn i s'.heap/\(∀b∈fp,H' b=none)/\W i n ao H') ?_ m0 ⟨0,σ,H2,I2,fP,fun b hb=>(f2 b hb).1,w0⟩;rintro n s3 ⟨i,iY,H3,I3,Ip,Iq,w3⟩
 rcases turn i n iY H3 w3 with⟨stop,qn⟩ | ⟨go,N,hN,step⟩
 ·refine acD hp (bb (T.done X rfl rfl rfl hc i pins s3 iY H3 X.xe I3 (BP Iq) Ip stop) fun r s4 ⟨hr,I4⟩=>?_);subst hr;exact aec ⟨iY,H3,I4,qn⟩
 ·refine acD hp (bb (T.item X rfl rfl rfl hc i pins s3 iY H3 X.xe I3 (BP Iq) Ip go) fun r s4 ⟨u,hr,h4⟩=>?_);subst hr;refine acD hp (bb h4 fun _ s5 ⟨x,H5,I5,r5,y5,o2,xy⟩=>?_);have XM:=I5.pinned (BP xy) (T.obj _ _ o2);refine acD hp (bb (hg _ s5 iY H5 x u _ XM r5 (step x H5 y5)) fun _ s6 ⟨tH,H6,I6,q6⟩=>?_);refine acD hp (bb (hb _ s6 tH H6 _ I6 q6) fun f s7 q7=>?_);have again:∀{js:St} {H7:Hp},Inv X (pins++qX fp s5.heap) js H7 s7->N js H7->∃m,m<n/\∃i ao H',Inv X pins ao H' s7/\tn i s7.heap/\(∀b∈fp,H' b=none)/\W i m ao H':=fun{js H7} I7 n7=>by
   obtain⟨m',hm,w7⟩:=hN js H7 n7;refine⟨m',hm,i+1,js,H7,I7.vn,T.keep _ _ _ o2 fun b hb o e=>(I7.pin (b,o) (aaT _ (aaT _ (u4 hb e)))).1,fun b hb=>?_,w7⟩;obtain⟨o,e,d⟩:=T.obj _ _ o2 b hb;exact(I7.pin (b,o) (aaT _ (aaT _ (u4 hb e)))).2.1
  cases f with
  | next=>obtain⟨js,H7,I7,n7⟩:=q7;exact again I7 n7
  | cont=>obtain⟨js,H7,I7,n7⟩:=q7;exact again I7 n7
  | brk=>obtain⟨js,H7,I7,q7⟩:=q7;exact⟨js,H7,I7.vn,q7⟩
  | ret v=>obtain⟨x7,js,H7,I7,r7,q7⟩:=q7;exact⟨x7,js,H7,I7.vn,r7,q7⟩
end
abbrev R2:=V->V->Hp->VK->Prop
noncomputable def bJ(X:Cx)(f:Value->Value->Sem Value)(r:R2):Prop:=
 ∀(pins:List (Addr×Obj)) (s:aaw) (σ:St) (H:Hp) (x y:V) (v u:Value) (Q:VK),Inv X pins σ H s->RelV x v->RelV y u->r x y H Q →
  wpAny (model X.prog X.w) X.A (f v u) (EP X pins σ Q) X.xe s
noncomputable def xD(X:Cx)(f:Value->Sem Value)(r:V->Hp->VK->Prop):Prop:=
 ∀(pins:List (Addr×Obj)) (s:aaw) (σ:St) (H:Hp) (x:V) (v:Value) (Q:VK),Inv X pins σ H s->RelV x v->r x H Q →
  wpAny (model X.prog X.w) X.A (f v) (EP X pins σ Q) X.xe s
noncomputable def c6(X:Cx)(f:Value)(r:List V->Hp->VK->Prop):Prop:=
 ∀(pins:List (Addr×Obj)) (s:aaw) (σ:St) (H:Hp) (xs:List V) (us:List Value) (Q:VK),Inv X pins σ H s->Vals xs us->r xs H Q →
  wpAny (model X.prog X.w) X.A (call f us) (EP X pins σ Q) X.xe s
noncomputable def WE(X:Cx)(r:V->Hp->(Bool->Hp->Prop)->Prop):Prop:=
 ∀(pins:List (Addr×Obj)) (s:aaw) (σ:St) (H:Hp) (x:V) (v:Value) (Q:Bool->Hp->Prop),Inv X pins σ H s->RelV x v->r x H Q →
  wpAny (model X.prog X.w) X.A (truthy v) (TP X pins σ Q) X.xe s
noncomputable def sC(r:R2)(ta tb:TE):TE:=fun σ H Q=>ta σ H fun x H1=>tb σ H1 fun y H2=>r x y H2 Q
noncomputable def XN(r:V->Hp->VK->Prop)(ta:TE):TE:=fun σ H Q=>ta σ H fun x H1=>r x H1 Q
noncomputable def rI(C:Int->Int->Prop)(g:Int->Int->V):R2:=fun x y H Q=>∃i j,x=.int i/\y=.int j/\C i j/\Q (g i j) H
noncomputable def jg(g:Int->Int->V):R2:=fun x y H Q=>∃i j,x=.int i/\y=.int j/\Q (g i j) H
noncomputable def rU(g:Int->V):V->Hp->VK->Prop:=fun x H Q=>∃i,x=.int i/\Q (g i) H
section
variable{X:Cx}{a b c:Expr}{ta tb tc:TE}{pos:Pos}
theorem BQ(ha:PE X a ta)(hb:PE X b tb){pins:List (Addr×Obj)}{s:aaw}{σ:St}{H:Hp}{R:V->V->Hp->Prop}(I:Inv X pins σ H s)
  (h:ta σ H fun x H1=>tb σ H1 fun y H2=>R x y H2) {Q:Value->aaw->Prop} {f:Value->Value->Sem Value}
  (hf:∀v u s2 x y H2,Inv X pins σ H2 s2->RelV x v->RelV y u->R x y H2->wpAny (model X.prog X.w) X.A (f v u) Q X.xe s2) :
  wpAny (model X.prog X.w) X.A (eval a X.env) (fun v bR=>wpAny (model X.prog X.w) X.A (eval b X.env) (fun u kR=>wpAny (model X.prog X.w) X.A (f v u) Q X.xe kR) X.xe bR) X.xe s:=by
 refine bb (ha pins s σ H _ I h) fun v s1 ⟨x,H1,I1,r1,q1⟩=>?_
 refine bb (hb pins s1 σ H1 _ I1 q1) fun u s2 ⟨y,H2,I2,r2,q2⟩=>?_
 exact hf v u s2 x y H2 I2 r1 r2 q2
theorem Vv{op:Operator}{r:R2}(ho:bJ X (acY op) r)(ha:PE X a ta)(hb:PE X b tb):PE X (.BinOp a op b pos) (sC r ta tb):=by
 intro pins s σ H Q I h;exact wpAny_BinOp (BQ ha hb I h fun v u s2 x y H2 I2 rx ry q=>ho pins s2 σ H2 x y v u Q I2 rx ry q)
theorem Vw{op:UnaryOp}{r:V->Hp->VK->Prop}(ho:xD X (unaryOp op) r)(ha:PE X a ta):PE X (.UnaryOp op a pos) (XN r ta):=by
 intro pins s σ H Q I h;exact UnaryOp_ (bb (ha pins s σ H _ I h) fun v s1 ⟨x,H1,I1,r1,q1⟩=>ho pins s1 σ H1 x v Q I1 r1 q1)
variable{f:Value->Value->Sem Value}
theorem xE{C:Int->Int->Prop}{g:Int->Int->Int}
  (rule:∀(i j:Int) (t u:Tok) (s:aaw) (Q:Value->aaw->Prop) (E:Value->aaw->Prop),C i j->Q (.int (g i j) s.toks) { s with toks:=s.toks+1 }->wpAny (model X.prog X.w) X.A (f (.int i t) (.int j u)) Q E s) :
  bJ X f (rI C fun i j=>.int (g i j)):=by
 intro pins s σ H x y v u Q I rx ry h;obtain⟨i,j,rfl,rfl,hc,q⟩:=h;obtain⟨t,rfl⟩:=rx;obtain⟨t',rfl⟩:=ry;exact rule i j t t' s _ _ hc ⟨.int (g i j),H,I.tok _,⟨_,rfl⟩,q⟩
theorem Hv{g:Int->Int->Int}
  (rule:∀(i j:Int) (t u:Tok) (s:aaw) (Q:Value->aaw->Prop) (E:Value->aaw->Prop),Q (.int (g i j) s.toks) { s with toks:=s.toks+1 }->wpAny (model X.prog X.w) X.A (f (.int i t) (.int j u)) Q E s) :
  bJ X f (jg fun i j=>.int (g i j)):=by
 intro pins s σ H x y v u Q I rx ry h;obtain⟨i,j,rfl,rfl,q⟩:=h;obtain⟨t,rfl⟩:=rx;obtain⟨t',rfl⟩:=ry;exact rule i j t t' s _ _ ⟨.int (g i j),H,I.tok _,⟨_,rfl⟩,q⟩
theorem BR{g:Int->Int->Bool}
  (rule:∀(i j:Int) (t u:Tok) (s:aaw) (Q:Value->aaw->Prop) (E:Value->aaw->Prop),Q (.bool (g i j)) s->wpAny (model X.prog X.w) X.A (f (.int i t) (.int j u)) Q E s) :
  bJ X f (jg fun i j=>.bl (g i j)):=by
 intro pins s σ H x y v u Q I rx ry h;obtain⟨i,j,rfl,rfl,q⟩:=h;obtain⟨t,rfl⟩:=rx;obtain⟨t',rfl⟩:=ry;exact rule i j t t' s _ _ ⟨.bl (g i j),H,I,rfl,q⟩
noncomputable def Hw(i j:Int):Prop:=0<=j/\j<=1000000/\i.natAbs<2 ^ 64
noncomputable def rX(i j:Int):Prop:=(-(2 ^ 64)<i/\i<2 ^ 64)\/(-(2 ^ 64)<j/\j<2 ^ 64)
theorem rX.ok{i j:Int}(h:rX i j):IntMulOk i j:=by
 rcases h with⟨h1,h2⟩ | ⟨h1,h2⟩
 ·exact .of_left (intBits_le_64 h1 h2)
 ·exact .of_right (intBits_le_64 h1 h2)
theorem SJ:bJ X (acY .Add) (jg fun i j=>.int (i+j)):=Hv fun _ _ _ _ _ _ _ q=>add_int q
theorem SK:bJ X (acY .Sub) (jg fun i j=>.int (i-j)):=Hv fun _ _ _ _ _ _ _ q=>sub_int q
theorem SN:bJ X (acY .Mult) (rI rX fun i j=>.int (i*j)):=xE fun _ _ _ _ _ _ _ hc q=>mul_int q hc.ok
theorem Qp:bJ X (acY .Mod) (rI (fun _ j=>j≠0) fun i j=>.int (i.fmod j)):=xE fun _ _ _ _ _ _ _ hc q=>mod_int' hc q
theorem SO:bJ X (acY .Pow) (rI Hw fun i j=>.int (i ^ j.toNat)):=xE fun _ _ _ _ _ _ _ hc q=>pow_int_small hc.1 hc.2.1 hc.2.2 q
theorem XO{f:Value->Sem Value}{g:Int->Int}
  (rule:∀(i:Int) (t:Tok) (s:aaw) (Q:Value->aaw->Prop) (E:Value->aaw->Prop),Q (.int (g i) s.toks) { s with toks:=s.toks+1 }->wpAny (model X.prog X.w) X.A (f (.int i t)) Q E s) :
  xD X f (rU fun i=>.int (g i)):=by
 intro pins s σ H x v Q I rx h;obtain⟨i,rfl,q⟩:=h;obtain⟨t,rfl⟩:=rx;exact rule i t s _ _ ⟨.int (g i),H,I.tok _,⟨_,rfl⟩,q⟩
theorem SQ:xD X (unaryOp .USub) (rU fun i=>.int (-i)):=XO fun _ _ _ _ _ q=>neg_int q
end
section
variable{X:Cx}{a b c:Expr}{ta tb tc:TE}{pos:Pos}
theorem Gu{pins:List (Addr×Obj)}{σ:St}{H:Hp}{s:aaw}{Q:VK}{k k':Bool}(I:Inv X pins σ H s)(q:Q (.bl k) H)(e:k=k'):EP X pins σ Q (.bool k') s:=by
 subst e;exact⟨.bl k,H,I,rfl,q⟩
theorem Vx:bJ X (abH .Lt) (jg fun i j=>.bl (decide (i<j))):=BR fun _ _ _ _ _ _ _ q=>lt_int q
theorem Vy:bJ X (abH .LtE) (jg fun i j=>.bl (decide (i<=j))):=BR fun _ _ _ _ _ _ _ q=>le_int q
theorem Vz:bJ X (abH .Gt) (jg fun i j=>.bl (decide (j<i))):=BR fun _ _ _ _ _ _ _ q=>gt_int q
theorem SR:bJ X (abH .Is) (fun x y H Q=>y=.aJ/\Q (.bl (decide (x=.aJ))) H):=by
 intro pins s σ H x y v u Q I rx ry h;obtain⟨rfl,q⟩:=h;cases ry;refine is_none_gen (Gu I q ?_);cases x <;> first
  | (cases rx;rfl)
  | (obtain⟨t,rfl⟩:=rx;rfl)
theorem Qq:bJ X (abH .IsNot) (fun x y H Q=>y=.aJ/\Q (.bl (!decide (x=.aJ))) H):=by
 intro pins s σ H x y v u Q I rx ry h;obtain⟨rfl,q⟩:=h;cases ry;refine isnot_none_gen (Gu I q ?_);cases x <;> first
  | (cases rx;rfl)
  | (obtain⟨t,rfl⟩:=rx;rfl)
variable{r:R2}
theorem bJ.or{f:Value->Value->Sem Value}{r':R2}(h:bJ X f r)(h':bJ X f r'):bJ X f (fun x y H Q=>r x y H Q\/r' x y H Q):=by
 intro pins s σ H x y v u Q I rx ry q
 rcases q with q | q
 ·exact h pins s σ H x y v u Q I rx ry q
 ·exact h' pins s σ H x y v u Q I rx ry q
variable{op:CmpOp}
theorem ms(b:Expr)(h:op≠.In:=by decide)(h2:op≠.NotIn:=by decide):acv op b=false:=by
 have e1:(op==CmpOp.In)=false:=by cases op <;> first | rfl | exact absurd rfl h
 have e2:(op==CmpOp.NotIn)=false:=by cases op <;> first | rfl | exact absurd rfl h2
 cases b <;> simp[acv,e1,e2]
theorem Qr(ho:bJ X (abH op) r)(ha:PE X a ta)(hb:PE X b tb)(hm:acv op b=false):PE X (.Compare a [op] [b] pos) (sC r ta tb):=by
 intro pins s σ H Q I h;exact wpAny_Compare1 (BQ ha hb I h fun v u s2 x y H2 I2 rx ry q=>ho pins s2 σ H2 x y v u Q I2 rx ry q) hm
noncomputable def VA(t:TE):TT:=fun σ H Q=>t σ H fun x H'=>∃k,x=.bl k/\Q k H'
theorem Qs(ho:bJ X (abH op) r)(ha:PE X a ta)(hb:PE X b tb)(hm:acv op b=false):PT X (.Compare a [op] [b] pos) (VA (sC r ta tb)):=by
 intro pins s σ H Q I h;refine wpAny_isTrue_Compare1 (bb (ha pins s σ H _ I h) fun v s1 ⟨x,H1,I1,r1,q1⟩=>bb (hb pins s1 σ H1 _ I1 q1) fun u s2 ⟨y,H2,I2,r2,q2⟩=>
  bb (ho pins s2 σ H2 x y v u _ I2 r1 r2 q2) fun c s3 ⟨z,H3,I3,r3,k,e,q3⟩=>?_) hm
 subst e;cases r3;exact acC ⟨H3,I3,q3⟩
noncomputable def Gv(r r':R2)(ta tb tc:TE):TE:=fun σ H Q=>ta σ H fun x H1=>tb σ H1 fun y H2=>r x y H2 fun z H3=>∃k,z=.bl k /\
 (if k=true then tc σ H3 fun w' H4=>r' y w' H4 Q else Q (.bl false) H3)
theorem OU{jh:CmpOp}{r':R2}(ho:bJ X (abH op) r)(fG:bJ X (abH jh) r')(ha:PE X a ta)(hb:PE X b tb)(hc:PE X c tc)
  (hm:lastMarks [op,jh] [b,c]=false:=by with_unfolding_all rfl):PE X (.Compare a [op,jh] [b,c] pos) (Gv r r' ta tb tc):=by
 intro pins s σ H Q I h;refine Compare_chain (bb (ha pins s σ H _ I h) fun v s1 ⟨x,H1,I1,r1,q1⟩=>chain_link (bb (hb pins s1 σ H1 _ I1 q1) fun u s2 ⟨y,H2,I2,r2,q2⟩=>
  bb (ho pins s2 σ H2 x y v u _ I2 r1 r2 q2) fun d s3 ⟨z,H3,I3,r3,k,e,q3⟩=>?_)) hm
 subst e;cases r3;refine acC ?_;cases k with
 | false=>exact ite_ff ⟨.bl false,H3,I3,rfl,q3⟩
 | true=>exact ite_tt (chain_last (bb (hc pins s3 σ H3 _ I3 q3) fun w' s4 ⟨z',H4,I4,r4,q4⟩=>fG pins s4 σ H4 y z' u w' Q I4 r2 r4 q4))
noncomputable def Hx(K:aao)(x:V)(H:Hp)(k:Bool):Prop:=
 match x with
 | .aJ=>k=false
 | .bl b=>k=b
 | .int i=>k=(i != 0)
 | .str y=>y.length<=aaH/\k=((y.length:Int) != 0)
 | .sr y=>y.size<=aaH/\k=((y.size:Int) != 0)
 | .ref p=>(∃xs,bA K H p xs/\k= !xs.isEmpty)\/(∃xs,cE K H p xs/\k= !xs.isEmpty)\/∃kvs,H p=some (.dK kvs)/\k= !kvs.isEmpty
 | _=>False
theorem Nr{κ:Type}{kvs:List (κ×V)}{vs:List (κ×Value)}(r:KV kvs vs):(!vs.isEmpty)= !kvs.isEmpty:=by
 cases r <;> rfl
theorem EC{xs:List V}{its:List Value}(r:Vals xs its):(!its.toArray.isEmpty)= !xs.isEmpty:=by
 cases r <;> simp
theorem mv:(aaH:Nat)<2 ^ 63:=by rw[afH];decide
theorem SS:WE X (fun x H Q=>∃k,Hx X.K x H k/\Q k H):=by
 intro pins s σ H x v Q I rx h;obtain⟨k,e,q⟩:=h;have hl:=mv;have hs:aaH=16777216:=afH;cases x with
 | aJ=>
  cases rx;have e':k=false:=e;subst e';exact truthy_none ⟨H,I,q⟩
 | bl b=>
  cases rx;have e':k=b:=e;subst e';exact acC ⟨H,I,q⟩
 | int i=>
  obtain⟨t,rfl⟩:=rx;have e':k=(i != 0):=e;subst e';exact PySem.P.truthy_int ⟨H,I,q⟩
 | str y=>
  obtain⟨t,rfl⟩:=rx;obtain⟨hy,e'⟩:y.length<=aaH/\k=((y.length:Int) != 0):=e;subst e';exact PySem.P.truthy_str (by omega) ⟨H,I.tok _,q⟩
 | sr y=>
  obtain⟨t,rfl⟩:=rx;obtain⟨hy,e'⟩:y.size<=aaH/\k=((y.size:Int) != 0):=e;subst e';exact PySem.W.truthy_bytes (by omega) ⟨H,I.tok _,q⟩
 | ref p=>
  cases rx;have e':(∃xs,bA X.K H p xs/\k= !xs.isEmpty)\/(∃xs,cE X.K H p xs/\k= !xs.isEmpty)\/∃kvs,H p=some (.dK kvs)/\k= !kvs.isEmpty:=e
  rcases e' with⟨xs,hx,e'⟩ | ⟨xs,hx,e'⟩ | ⟨kvs,hx,e'⟩
  ·subst e';obtain⟨its,r,pl,hz⟩:=I.list hx;have bP:=r.length;exact wpAny_truthy_list pl.isList (by simp only[aaB];omega) ⟨H,I.tok _,by rw[EC r];exact q⟩
  ·subst e';obtain⟨its,r,pl,hz⟩:=I.tuple hx;have bP:=r.length;exact truthy_tuple pl (by simp only[aaB];omega) ⟨H,I.tok _,by rw[EC r];exact q⟩
  ·subst e';obtain⟨hz,hS,vs,r,m⟩:kvs.length<=aaH/\(p==acd)=false/\∃vs,KV kvs vs/\s.heap.DictOf (eE X.prog X.w) p vs:=I.aH p _ hx;have bP:kvs.length=vs.length:=adv r;exact wpAny_truthy_dict hS m (by omega) ⟨H,I.tok _,by rw[Nr r];exact q⟩
 | _=>exact(show False from e).elim
theorem OV(ha:PE X a ta)(he:∀whole,isTrue a X.env whole=(do let v <- whole;standAt a.pos;afG [v] (truthy v))) :
  PT X a (fun σ H Q=>ta σ H fun x H'=>∃k,Hx X.K x H' k/\Q k H'):=by
 intro pins s σ H Q I h;exact isTrue_plain (bb (ha pins s σ H _ I h) fun v s1 ⟨x,H1,I1,r1,q1⟩=>SS pins s1 σ H1 x v Q I1 r1 q1) (he _)
theorem Nt:bJ X (acY .Add) (fun x y H Q=>∃i j,x=.str i/\y=.str j/\i.length+j.length<=aaH/\Q (.str (i++j)) H):=by
 intro pins s σ H x y v u Q I rx ry h;obtain⟨i,j,rfl,rfl,hz,q⟩:=h;obtain⟨t,rfl⟩:=rx;obtain⟨t',rfl⟩:=ry;exact add_str (fun t' tk=>⟨.str (i++j),H,I.tok _,⟨_,rfl⟩,q⟩) hz
theorem vals1{x:V}{us:List Value}(r:Vals [x] us):∃u,us=[u]/\RelV x u:=by
 cases r with
 | cons r1 r2=>cases r2;exact⟨_,rfl,r1⟩
theorem vals2{x y:V}{us:List Value}(r:Vals [x,y] us):∃u w',us=[u,w']/\RelV x u/\RelV y w':=by
 cases r with
 | cons r1 r2=>
  cases r2 with
  | cons r3 r4=>cases r4;exact⟨_,_,rfl,r1,r3⟩
theorem EN(hc:X.calm=true):c6 X (.builtin "max") (fun xs H Q=>∃i j,xs=[.int i,.int j]/\Q (.int (if j>i then j else i)) H):=by
 intro pins s σ H xs us Q I r h;obtain⟨i,j,rfl,q⟩:=h;obtain⟨u,w',rfl,⟨t,rfl⟩,⟨t',rfl⟩⟩:=vals2 r;refine max_two_ints (I.ok.hd hc) fun h' tk k=>⟨_,H,I.kept k,?_,q⟩
 by_cases hj:j>i
 ·rw[if_pos hj,if_pos hj];exact⟨_,rfl⟩
 ·rw[if_neg hj,if_neg hj];exact⟨_,rfl⟩
theorem NQ(hc:X.calm=true):c6 X (.builtin "min") (fun xs H Q=>∃i j,xs=[.int i,.int j]/\Q (.int (if j<i then j else i)) H):=by
 intro pins s σ H xs us Q I r h;obtain⟨i,j,rfl,q⟩:=h;obtain⟨u,w',rfl,⟨t,rfl⟩,⟨t',rfl⟩⟩:=vals2 r;refine min_two_ints (I.ok.hd hc) fun h' tk k=>⟨_,H,I.kept k,?_,q⟩
 by_cases hj:j<i
 ·rw[if_pos hj,if_pos hj];exact⟨_,rfl⟩
 ·rw[if_neg hj,if_neg hj];exact⟨_,rfl⟩
theorem NR:c6 X (.type "int") (fun xs H Q=>(∃i,xs=[.int i]/\Q (.int i) H)\/∃k,xs=[.bl k]/\Q (.int (if k then 1 else 0)) H):=by
 intro pins s σ H xs us Q I r h
 rcases h with⟨i,rfl,q⟩ | ⟨k,rfl,q⟩
 ·obtain⟨u,rfl,t,rfl⟩:=vals1 r;exact call_int_int ⟨.int i,H,I,⟨_,rfl⟩,q⟩
 ·obtain⟨u,rfl,r1⟩:=vals1 r;cases r1;exact call_int_bool ⟨.int (if k then 1 else 0),H,I.tok _,⟨_,rfl⟩,q⟩
end
theorem jJ.some_of{v:V}{o:Option Value}(r:jJ (some v) o):∃u,o=some u/\RelV v u:=by
 cases o with
 | none=>exact(show False from r).elim
 | some u=>exact⟨u,rfl,r⟩
structure du(k:Nat)(A:acM):Prop where
 hd:A.handled=none
 dp:A.depth+3*k+5<recursionLimit
 un:A.units+16*k+200<cLine
theorem du.mono{j k:Nat}(r:du k A)(h:j<=k):du j A:=⟨r.hd,by have:=r.dp;omega,by have:=r.un;omega⟩
theorem du.deeper{k:Nat}{A:acM}(r:du (k+1) A)(env:Env):du k (A.deeper env):=
 ⟨r.hd,by have:=r.dp;show A.depth+1+3*k+5<_;omega,by have:=r.un;show A.units+3+16*k+200<_;omega⟩
theorem du.depth{k:Nat}{A:acM}(r:du k A):A.depth<recursionLimit:=by have:=r.dp;omega
theorem du.units{k:Nat}{A:acM}(r:du k A):A.units+64<cLine:=by have:=r.un;omega
noncomputable def WG:TA:=fun _ H Q=>Q [] H
noncomputable def VB(ta:TE)(tr:TA):TA:=fun σ H Q=>ta σ H fun x H1=>tr σ H1 fun xs H2=>Q (x::xs) H2
section
variable{X:Cx}{e:Expr}{es:List Expr}{te:TE}{t:TA}{pos:Pos}
theorem Gw:PA X [] WG:=fun _ _ _ _ H Q I h=>acZ ⟨[],H,I,.nil,h⟩
theorem zC(ha:PE X e te)(hr:PA X es t)(hs:aaP (e::es) X.env=(false,eval e X.env)::aaP es X.env:=by rfl):PA X (e::es) (VB te t):=by
 intro pos pins s σ H Q I h;rw[hs];show wpAny _ _ (spliced ((false,eval e X.env)::adi pos (aaP es X.env))) _ _ s;refine acP (bb (ha pins s σ H _ I h) fun u s1 ⟨x,H1,I1,r1,q1⟩=>?_);exact bb (hr pos pins s1 σ H1 _ I1 q1) fun us s2 ⟨xs,H2,I2,r2,q2⟩=>⟨x::xs,H2,I2,.cons r1 r2,q2⟩
noncomputable def WH(t:TA):TE:=fun σ H Q=>t σ H fun xs H1=>xs.length<=aaH/\∀p,H1 p=none->Q (.ref p) (upd H1 p (.tup xs))
noncomputable def WJ(t:TA):TE:=fun σ H Q=>t σ H fun xs H1=>xs.length<=aaH/\∀p,H1 p=none->Q (.ref p) (upd H1 p (.lst xs))
theorem SU{x1}(h:PA X es t):PE X (.Tuple es x1 pos) (WH t):=by
 intro pins s σ H Q I hq;refine wpAny_Tuple_spliced (bb (h pos pins s σ H _ I hq) fun us s1 ⟨xs,H1,I1,r,z,q⟩=>⟨by rw[<- r.length];exact z,?_⟩);have hf:H1 s1.heap.objs.size=none:=I1.aH.fresh (aat _);refine⟨.ref s1.heap.objs.size,upd H1 s1.heap.objs.size (.tup xs),I1.laid (t':=s1.toks) (fun b u e=>aas _ e) (aat _) ?_,rfl,q _ hf⟩;exact⟨z,us,r,⟨_,aaI _ rfl,rfl,_,rfl⟩⟩
theorem SV(h:PA X es t):PE X (.List es pos) (WJ t):=by
 intro pins s σ H Q I hq;refine wpAny_List_spliced (bb (h pos pins s σ H _ I hq) fun us s1 ⟨xs,H1,I1,r,z,q⟩=>⟨by rw[<- r.length];exact z,?_⟩);have hf:H1 s1.heap.objs.size=none:=I1.aH.fresh (aat _);refine⟨.ref s1.heap.objs.size,upd H1 s1.heap.objs.size (.lst xs),I1.laid (t':=s1.toks) (fun b u e=>aas _ e) (aat _) ?_,rfl,q _ hf⟩;exact⟨z,us,0,r,aaI _ rfl⟩
end
abbrev Sp:=List V->Hp->VK->XK->Prop
abbrev lG:=List Env->Hp->aaw->XK->Value->aaw->Prop
structure wW(P:abw)(w:World)(K:aao)(mg:Str->Option Value)(base:Heap)(A:acM)(outer:List Env)(s:aaw)(H:Hp):Prop where
 frames:A.frames=some outer
 mod:Mod K mg base
 bs:∀b o,base.get? b=some o->s.heap.get? b=some o/\H b=none
 ky:base.objs.size<=s.heap.objs.size
 gR:s.heap.FunFrames base outer
 mW:∀b∈fv outer,H b=none
 aH:cQ P w H s.heap
 bare:aeN s.gens
noncomputable def CE(outer:List Env)(P:abw)(w:World)(H:Hp)(s:aaw)(Q:VK)(u:Value)(s':aaw):Prop:=
 ∃v H',s'.os=s.os/\aeN s'.gens/\Un (fv outer) [] H H' s.heap s'.heap/\cQ P w H' s'.heap/\RelV v u/\Q v H'
noncomputable def CR(CX:lG)(outer:List Env)(P:abw)(w:World)(H:Hp)(s:aaw)(Q:VK)(E:XK)(r:Result)(s':aaw):Prop:=
 match r with
 | .ok (.ret u)=>CE outer P w H s Q u s'
 | .ok _=>False
 | .error e=>CX outer H s E e s'
structure bM(P:abw)(w:World)(K:aao)(mg:Str->Option Value)(base:Heap)(CX:lG)(k:Nat)(f:Addr)(fd:aaV)(ps:List Str)(sp:Sp):Prop where
 len:∀vs H Q E,sp vs H Q E->vs.length=ps.length
 run:∀(A:acM) (outer:List Env) (s:aaw) (H:Hp) (args:Args) (us:List Value) (vs:List V) (Q:VK) (E:XK),du k A->wW P w K mg base A outer s H->BindsTo s fd args (ps.zip us)->Vals vs us->sp vs H Q E →
  codeAny (model P w) A (.call (.ref f) args) (CR CX outer P w H s Q E) s
section
variable{X:Cx}{pins:List (Addr×Obj)}{σ:St}{H:Hp}{s s':aaw}
theorem Inv.WK(I:Inv X pins σ H s):wW X.prog X.w X.K X.mg X.base X.A X.stack s H:=
 ⟨I.ok.frames,I.ok.mod,I.bs,aaN I.ok.ky I.sz,I.stack,I.vF,I.aH,I.bare⟩
theorem Inv.after{Q:VK}{u:Value}(I:Inv X pins σ H s)(h:CE X.stack X.prog X.w H s Q u s'):EP X pins σ Q u s':=by
 obtain⟨v,H',os,bare,un,aH,r,q⟩:=h;obtain⟨hh,g,d,t,XQ⟩:=s';obtain rfl:XQ=s.os:=os;exact⟨v,H',I.call (h':=hh) (g':=g) (d':=d) (t':=t) (ch:=[]) un aH bare (fun b z=>absurd z (by simp)),r,q⟩
end
noncomputable def Binds(K:aao)(fd:aaV)(ps:List Str)(ds:List Value):Prop:=
 ∀(s:aaw) (us:List Value),K.In s.heap->(us++ds).length=ps.length->BindsTo s fd ⟨us,[]⟩ (ps.zip (us++ds))
theorem Binds.all{fd:aaV}{ps:List Str}(h:∀us:List Value,us.length=ps.length->bindArgs fd ⟨us,[]⟩=pure (ps.zip us)):Binds K fd ps []:=fun s us _ hl=>by
 rw[aee] at hl ⊢;exact .of_eq (h us hl)
structure cx(N P:List Str)(sc:Scope):Prop where
 kind:sc.kind=.function
 co:sc.isCoroutine=false
 gen:sc.isGenerator=false
 nd:N.Nodup
 pre:N.take P.length=P
 ji:∀x∈P,sc.names.lookup x=some .local\/sc.names.lookup x=some .cell
 SW:∀y∈sc.names,y.2≠.free
theorem EO{kindOf:Str->Option ada}{x:Str}:∀{binds:List (Str×Value)} {m:Str->Option Value},(∀v,(x,v)∉binds)->bindL kindOf binds m x=m x
 | [],_,_=>rfl
 | (n,v)::r,m,h=>by
  unfold bindL;rw[EO fun w hw=>h w (aaY _ hw)];split
  ·have:x≠n:=by rintro rfl;exact h v abr
   simp[this]
  ·rfl
theorem EQ{kindOf:Str->Option ada}{x:Str}:∀{binds:List (Str×Value)} {m:Str->Option Value},(∀v,(x,v)∉binds)->bindC kindOf binds m x=m x
 | [],_,_=>rfl
 | (n,v)::r,m,h=>by
  unfold bindC;rw[EQ fun w hw=>h w (aaY _ hw)];split
  ·rfl
  ·have:x≠n:=by rintro rfl;exact h v abr
   simp[this]
theorem ER{kindOf:Str->Option ada}{x:Str}{v:Value}:∀{P:List Str} {vs:List Value} {i:Nat} {m:Str->Option Value},P.Nodup->P[i]? =some x->vs[i]? =some v->kindOf x=some .local →
  bindL kindOf (P.zip vs) m x=some v
 | [],_,_,_,_,h,_,_=>by simp at h
 | _::_,[],_,_,_,_,h,_=>by simp at h
 | p::P,w::vs,0,m,nd,h1,h2,hk=>by
  simp at h1 h2;subst h1;subst h2
  show bindL kindOf ((p,w)::P.zip vs) m p=_;unfold bindL;rw[EO fun v hv=>(acl.mp nd).1 (aef hv).1,if_pos hk];simp
 | p::P,w::vs,i+1,m,nd,h1,h2,hk=>by
  show bindL kindOf ((p,w)::P.zip vs) m x=_;unfold bindL;exact ER (i:=i) (acl.mp nd).2 (by simpa using h1) (by simpa using h2) hk
theorem ES{kindOf:Str->Option ada}{x:Str}{v:Value}:∀{P:List Str} {vs:List Value} {i:Nat} {m:Str->Option Value},P.Nodup->P[i]? =some x->vs[i]? =some v->kindOf x≠some .local →
  bindC kindOf (P.zip vs) m x=some v
 | [],_,_,_,_,h,_,_=>by simp at h
 | _::_,[],_,_,_,_,h,_=>by simp at h
 | p::P,w::vs,0,m,nd,h1,h2,hk=>by
  simp at h1 h2;subst h1;subst h2
  show bindC kindOf ((p,w)::P.zip vs) m p=_;unfold bindC;rw[EQ fun v hv=>(acl.mp nd).1 (aef hv).1,if_neg hk];simp
 | p::P,w::vs,i+1,m,nd,h1,h2,hk=>by
  show bindC kindOf ((p,w)::P.zip vs) m x=_;unfold bindC;exact ES (i:=i) (acl.mp nd).2 (by simpa using h1) (by simpa using h2) hk
noncomputable def start(N:List Str)(vs:List V):St:=vs.map some++aaF (N.length-vs.length) none
noncomputable def gd(CX:lG)(P:abw)(w:World)(K:aao)(mg:Str->Option Value)(base:Heap)(N:List Str)(qual:Str)(scope:Scope)(f:Addr)(cd:Value)(A:acM)(outer:List Env)(s:aaw)(H:Hp)(E:XK):Cx where
 prog:=P
 w:=w
 K:=K
 mg:=mg
 base:=base
 A:=A.deeper (aes qual scope s.heap.objs.size f cd)
 N:=N
 aE:=s
 aO:=H
 env:=aes qual scope s.heap.objs.size f cd
 outer:=outer
 stack:=aes qual scope s.heap.objs.size f cd::outer
 ex:=[]
 calm:=true
 fn:=fun _=>true
 pn:=[]
 kp:=fun _=>True
 xe:=fun e s'=>wpAny (model P w) (A.deeper (aes qual scope s.heap.objs.size f cd)) (aez (aes qual scope s.heap.objs.size f cd) e) (fun _ fQ=>CX outer H s E e fQ) (fun e' fQ=>CX outer H s E e' fQ) s'
theorem Fn{sc:Scope}{n:Nat}{x:Str}(h:sc.names.lookup x=some .cell):∃c,(cellsFrom n sc.names []).lookup x=some c:=by
 have q:=adA sc.names n [] (.inl h);exact abt.mp q
theorem ET{CX:lG}{w:World}{mg:Str->Option Value}{base:Heap}{N ps:List Str}{qual:Str}{scope:Scope}{f:Addr}{cd:Value}{outer:List Env}{s1:aaw}{E:XK}{us:List Value}{vs:List V}
  (S:cx N ps scope) (hd:A.handled=none) (e0:wW P w K mg base A outer s H) (hl:vs.length=ps.length) (r:Vals vs us)
  (x:InCallC s s.heap.objs.size (bindL (aes qual scope s.heap.objs.size f cd).kindOf (ps.zip us) fun _=>none) (cellsFrom (s.heap.objs.size+1) scope.names []) (bindC (aes qual scope s.heap.objs.size f cd).kindOf (ps.zip us) fun _=>none) s1) :
  Inv (gd CX P w K mg base N qual scope f cd A outer s H E) [] (start N vs) H s1:=by
 have hpl:ps.length<=N.length:=by have:=congrArg agh S.pre;rw[abI] at this;omega
 obtain⟨h1,tk,rfl,hk⟩:=x.done;have CW:∀b:Addr,b∉(gd CX P w K mg base N qual scope f cd A outer s H E).ex:=fun b z=>absurd (show b∈([]:List Addr) from z) (by simp)
 refine⟨⟨e0.mod,S.kind,rfl,rfl,aat _,fun y z c h1 h2=>?_,fun y hy=>?_,fun y c _ h=>?_,fun _=>hd,afz e0.frames,.inr ⟨rfl,rfl⟩,fun b z=>absurd z (CW b),e0.bs,e0.ky,fun b _ _=>CW b,fun b z=>absurd z (CW b),e0.gR,e0.mW⟩,
  rfl,e0.bare,Un.kept hk,⟨_,x.toInCall.ns,fun i y v h1 h2 h3=>?_⟩,fun y c h=>⟨_,x.cell y c h⟩,e0.aH.fresh (aat _),fun y c h=>?_,fun p hp=>absurd (show p∈([]:List (Addr×Obj)) from hp) (by simp),e0.aH.kept hk,⟨?_,trivial⟩⟩
 ·exact name_of_addr x.apart (abY h1) (abY h2)
 ·have hy:scope.names.lookup y=some .cell\/scope.names.lookup y=some .free:=hy
  rcases hy with hy | hy
  ·exact Fn hy
  ·exact absurd rfl (S.SW _ (abY hy))
 ·exact acS (x.above y c (abY h))
 ·have hi:i<vs.length:=by
   unfold start at h2;by_cases hi:i<vs.length
   ·exact hi
   ·rw[acr (by simpa using hi)] at h2;rw[List.getElem?_replicate] at h2;split at h2 <;> cases h2
  have ha:vs[i]? =some v:=by
   unfold start at h2;rw[aaM (by simpa using hi),aau] at h2;cases e:vs[i]? with
   | none=>rw[e] at h2;cases h2
   | some a=>rw[e] at h2;cases h2;rfl
  obtain⟨u,hu,rv⟩:=r.get ha;have hp:ps[i]? =some y:=by
   rw[<- S.pre,List.getElem?_take_of_lt (by omega)];exact h1
  have Ir:ps.Nodup:=by rw[<- S.pre];exact S.nd.sublist (List.take_sublist _ _)
  refine⟨u,rv,?_⟩
  rcases S.ji y (aap hp) with k | k
  ·exact .inl ⟨k,ER Ir hp hu k⟩
  ·obtain⟨c,e⟩:=Fn (n:=s.heap.objs.size+1) k;refine .inr ⟨.inl k,c,e,?_⟩;have q:=x.cell y c e;rw[ES Ir hp hu (by show scope.names.lookup y≠_;rw[k];decide)] at q;exact q
 ·have z:=e0.aH.fresh (acS (x.above y c (abY h)));exact⟨fun _=>z,.inl z⟩
 ·unfold start;show _=N.length;rw[aaU,aan,List.length_replicate];omega
theorem VC{CX:lG}{w:World}{mg:Str->Option Value}{base:Heap}{k:Nat}{f:Addr}{name qual:Str}{params:Arguments}{body:List Stmt}{scope:Scope}{dV kV doc pm bI ct oc:Value}{an od:Option Addr}
  {gW:Array (Option Value)} {N ps:List Str} {sp:Sp} (lk:K.lookup f=some ⟨oc,od,.func (abL name qual params body scope dV kV doc pm an bI ct),gW⟩) (hcd:acO K bI qual=true) (S:cx N ps scope)
  (len:∀vs H Q E,sp vs H Q E->vs.length=ps.length)
  (kg:∀(A:acM) (outer:List Env) (s:aaw) (H:Hp) (vs:List V) (Q:VK) (E:XK),du k (A.deeper (aes qual scope s.heap.objs.size f bI))->sp vs H Q E →
   ∃t,gC (gd CX P w K mg base N qual scope f bI A outer s H E) body t/\t { nx:=fun _ H'=>Q .aJ H',rt:=Q } (start N vs) H) :
  bM P w K mg base CX (k+1) f (abL name qual params body scope dV kV doc pm an bI ct) ps sp:=by
 refine⟨len,fun A outer s H args us vs Q E hr e0 hb r sD=>?_⟩;have hl:=len _ _ _ _ sD;have KX:K.In s.heap:=e0.mod.xu.keeps fun b o e=>(e0.bs b o e).1
 have lim:s.heap.NoLimit:=e0.mod.nolimit.keeps fun b o e=>(e0.bs b o e).1
 have AS:∀y∈ps.zip us,scope.names.lookup y.1=some .local\/(scope.names.lookup y.1=some .cell/\((cellsFrom (s.heap.objs.size+1) scope.names []).lookup y.1).isSome=true):=fun⟨n,v⟩ hy=>by
  rcases S.ji n (aef hy).1 with q | q
  ·exact .inl q
  ·exact .inr ⟨q,adA _ _ _ (.inl q)⟩
 refine codeAny_call_function hr.depth (KX _ _ lk) rfl S.co S.gen rfl (afT KX hcd) (hb _ _ _ _ ?_);refine aeo S.kind AS fun env he s1 x=>?_
 subst he;refine⟨lim.keeps x.toInCall.keep,codeAny_func ?_⟩;obtain⟨t,ht,hq⟩:=kg A outer s H vs Q E (hr.deeper _) sD;have I:Inv (gd CX P w K mg base N qual scope f bI A outer s H E) [] (start N vs) H s1:=ET S hr.hd e0 hl r x;refine abE (ht [] s1 (start N vs) H _ I hq) (fun fl s' hs=>?_) fun e s' hs=>hs
 have fin:∀{ao:St} {H':Hp} {v:V} {u:Value},Inv (gd CX P w K mg base N qual scope f bI A outer s H E) [] ao H' s'->RelV v u->Q v H'->CE outer P w H s Q u s':=
  fun{ao H' v u} J rv q=>⟨v,H',J.os,J.bare,J.base,J.aH,rv,q⟩
 cases fl with
 | ret u=>
  obtain⟨v,ao,H',J,rv,q⟩:=hs;exact fin J rv q
 | next=>
  obtain⟨ao,H',J,q⟩:=hs;exact fin (v:=V.aJ) (u:=abT) J rfl q
 | brk=>
  obtain⟨_,_,_,q⟩:=hs;exact adp q
 | cont=>
  obtain⟨_,_,_,q⟩:=hs;exact adp q
section
variable{X:Cx}{x:Str}{p pos:Pos}{e:Expr}{es:List Expr}{t:TA}{id T:String}{r:List V->Hp->VK->Prop}
noncomputable def CY(r:List V->Hp->VK->Prop)(t:TA):TE:=fun σ H Q=>t σ H fun vs H1=>r vs H1 Q
theorem Fo(hc:c6 X (.builtin id) r)(hg:Gl X x)(hm:X.mg x=none)(hv:abB x=some (.builtin id))(ha:PA X (e::es) t)(hn:x≠"__name__":=by decide)(eh:(x==("__debug__":Str))=false:=by decide)
  (he:aaP (e::es) X.env=(false,eval e X.env)::aaP es X.env:=by rfl) (hpl:(adi pos (aaP es X.env)).any (·.1)=false:=by rfl):PE X (.Call (.Name x p) (e::es) [] pos) (CY r t):=by
 intro pins s σ H Q I h;refine abQ (jz I hg hm hv ?_ hn eh);exact PyProof.Rows.callWith_builtin1 (bb (ha pos pins s σ H _ I h) fun us s1 ⟨vs,H1,I1,r1,q1⟩=>hc pins s1 σ H1 vs us Q I1 r1 q1) he hpl
theorem NS(hc:c6 X (.type T) r)(hg:Gl X x)(hm:X.mg x=none)(hv:abB x=some (.type T))(ha:PA X (e::es) t)(hn:x≠"__name__":=by decide)(eh:(x==("__debug__":Str))=false:=by decide)
  (he:aaP (e::es) X.env=(false,eval e X.env)::aaP es X.env:=by rfl) (hpl:(adi pos (aaP es X.env)).any (·.1)=false:=by rfl):PE X (.Call (.Name x p) (e::es) [] pos) (CY r t):=by
 intro pins s σ H Q I h;refine abQ (jz I hg hm hv ?_ hn eh);exact abm (bb (ha pos pins s σ H _ I h) fun us s1 ⟨vs,H1,I1,r1,q1⟩=>hc pins s1 σ H1 vs us Q I1 r1 q1) he hpl
end
end L2
namespace HT
open PySem PyProof.Rows
section
open PySem.SeqAt
open PySem.AutoSeq1 (wpAny_loadPart')
open PySem.MeetsSeq PySem.MeetsSeq2 PySem.MeetsSeq3
end
section
variable{prog:abw}{w:World}{A:acM}{E:Value->aaw->Prop}{s:aaw}
theorem Qt{t b:Addr}{vs ws:List Value}{Q:Value->aaw->Prop}(ht:IsTup s.heap t vs.toArray)(hb:IsTup s.heap b ws.toArray)(hv:vs≠[])
  (h1:ws=[]->Q (.ref t) s) (h2:ws≠[]->Q (.ref s.heap.objs.size) { s with heap:=s.heap.push { cls:=.type "tuple",data:=.seq (vs++ws).toArray } })
  (hsz:vs.length+ws.length<=aaH):wpAny (model prog w) A (acY .Add (.ref t) (.ref b)) Q E s:=by
 obtain⟨⟨cls,dd,data,sl⟩,ho,hc,n,hd⟩:=id ht;obtain⟨⟨aae,Iu,data2,sG⟩,xG,Iv,n2,hd2⟩:=id hb;simp only at hc hd Iv hd2;subst hc hd Iv hd2;have e:vs.toArray++ws.toArray=(vs++ws).toArray:=by simp
 by_cases hw:ws=[]
 ·exact concat_meets ⟨_,ho,rfl⟩ ⟨_,xG,rfl⟩ noFill_tuple_add seq_tuple_add aeW aeO (aeF _ _)
   (tuple_addW1 t b vs.toArray ws.toArray n n2 dd Iu sl sG (by simpa using hv) (by simp[hw])) ⟨ho,xG,h1 hw⟩
 ·refine concat_meets ⟨_,ho,rfl⟩ ⟨_,xG,rfl⟩ noFill_tuple_add seq_tuple_add aeW aeO (aeF _ _)
   (tuple_addW2 t b vs.toArray ws.toArray n n2 dd Iu sl sG (by simpa using hv) (by simpa using hw) (by rw[aaB,aaB];exact hsz)) ⟨ho,xG,?_⟩
  rw[e];exact h2 hw
noncomputable def bB(n d:Nat):Option Int->Nat
 | none=>d
 | some v=>if v<0 then(v+(n:Int)).toNat else min v.toNat n
theorem SX(n d:Nat)(hd:d<=n)(o:Option Int):bB n d o<=n:=by
 cases o with
 | none=>exact hd
 | some v=>
  show(if v<0 then(v+(n:Int)).toNat else min v.toNat n)<=n;by_cases hv:v<0
  ·rw[if_pos hv];omega
  ·rw[if_neg hv];exact Nat.min_le_right _ _
theorem FR(v:Int)(n d:Nat):(if v<0 then max (v+(n:Int)) 0 else min v (n:Int))=((bB n d (some v):Nat):Int):=by
 show(if v<0 then max (v+(n:Int)) 0 else min v (n:Int))=(((if v<0 then(v+(n:Int)).toNat else min v.toNat n):Nat):Int);by_cases hv:v<0
 ·simp only[if_pos hv];omega
 ·simp only[if_neg hv];omega
theorem Nu(lo hi:Option Int)(n:Nat):adk lo hi 1 (n:Int)=(((bB n 0 lo:Nat):Int),((bB n n hi:Nat):Int)):=by
 have h1:¬((1:Int)<0):=by omega
 unfold adk;simp only[h1,if_false];refine afU ?_ ?_
 ·cases lo with
  | none=>rfl
  | some v=>exact FR v n 0
 ·cases hi with
  | none=>rfl
  | some v=>exact FR v n n
theorem Nv(i j:Nat):acy (i:Int) (j:Int) 1=j-i:=by
 unfold acy;have h1:(1:Int)>0:=by omega
 simp only[h1,if_true,Int.ediv_one];split <;> omega
theorem ED{v:Value}{o:Option Int}{Q:Option Int->aaw->Prop}(p:agi v o)(h:Q o s):wpAny (model prog w) A (Builtin.Slice.slicePartIndex v) Q E s:=by
 cases p with
 | none=>exact slicePart_none h
 | int i t=>exact slicePart_int h
theorem K6{sl:Addr}{vl vu:Value}{lo hi:Option Int}{n:Nat}{Q:Int×Int×Nat->aaw->Prop}(hs:s.heap.IsSliceOf sl vl vu .none)(pl:agi vl lo)(pu:agi vu hi)
  (h:Q (((bB n 0 lo:Nat):Int),1,bB n n hi-bB n 0 lo) s):wpAny (model prog w) A (aep (.ref sl) (pure (n:Int))) Q E s:=by
 obtain⟨os,sH,xI,xJ⟩:=id hs;unfold aep Builtin.Slice.sliceFields;refine aaq (aaq (adC sH xJ (x:=vl) rfl (aaq (adC sH xJ (x:=vu) rfl (aaq (adC sH xJ (x:=.none) rfl (aaE ?_)))))));refine aaq (slicePart_none ?_);show wpAny _ _ (if((1:Int)==0)=true then _ else _) _ _ s;rw[if_neg (by decide)];refine aaq (ED pl (aaq (ED pu (aaq (aaE ?_)))));show wpAny _ _ (match adk lo hi 1 (n:Int) with | (lo,hi)=>pure (lo,(1:Int),acy lo hi 1)) _ _ s;rw[Nu lo hi n];show wpAny _ _ (pure (((bB n 0 lo:Nat):Int),(1:Int),acy ((bB n 0 lo:Nat):Int) ((bB n n hi:Nat):Int) 1)) _ _ s;rw[Nv];exact aaE h
theorem OW(xs:Array Value)(i k:Nat):((aaK k).filterMap fun(m:Nat)=>xs[((i:Int)+(m:Int)*1).toNat]?).toArray=((xs.toList.drop i).take k).toArray:=by
 have e:(fun(m:Nat)=>xs[((i:Int)+(m:Int)*1).toNat]?)=fun m=>xs[i+m]? :=by
  funext m
  have:((i:Int)+(m:Int)*1).toNat=i+m:=by omega
  rw[this]
 rw[e];have:=pick_run xs i k;rw[List.filterMap_map] at this;have e2:((fun x=>xs[x]?)∘fun x=>i+x)=fun m=>xs[i+m]? :=rfl
 rw[e2] at this;rw[this]
theorem KJ{t sl:Addr}{items:Array Value}{vl vu:Value}{lo hi:Option Int}{Q:Value->aaw->Prop}(ht:IsTup s.heap t items)(hs:s.heap.IsSliceOf sl vl vu .none)(pl:agi vl lo)(pu:agi vu hi)
  (hw:¬(bB items.size 0 lo=0/\bB items.size items.size hi=items.size))
  (h:Q (.ref s.heap.objs.size) { s with heap:=s.heap.push { cls:=.type "tuple",data:=.seq ((items.toList.drop (bB items.size 0 lo)).take (bB items.size items.size hi-bB items.size 0 lo)).toArray } })
  (hsz:items.size<=aaH):wpAny (model prog w) A (getItem (.ref t) (.ref sl)) Q E s:=by
 have wg:sizeOk (.seq ((items.toList.drop (bB items.size 0 lo)).take (bB items.size items.size hi-bB items.size 0 lo)).toArray):=by
  show((items.toList.drop (bB items.size 0 lo)).take (bB items.size items.size hi-bB items.size 0 lo)).toArray.size<=aaH;rw[aaB,abI,List.length_drop,ack];omega
 have hj:bB items.size items.size hi<=items.size:=SX _ _ (aat _) hi;obtain⟨os,sH,xI,xJ⟩:=id hs;have XR:s.TypeIs (.ref sl) "slice":=⟨os,sH,xI⟩
 unfold getItem
 try with_reducible refine acX ?_
 first | refine aaq (aaE ?_) | skip
 refine aaq (wpAny_sequenceKey ht.typeIs (by decide) ?_);refine aaq (adw (name:=aaC "__getitem__") ht.typeIs acE
  (adm acE ht.typeIs entry_tuple_getitem ?_ (args_tuple_getitem _ _)))
 show wpAny _ _ (Builtin.Tuple.tupleItemsOf (.ref t) >>= _) _ _ s;refine aaq (tupleItemsOf_ ht ?_);refine aaq (wpAny_typeOf XR ?_);rw[if_pos (by decide)];refine aaq (K6 hs pl pu ?_);have pb:¬((((bB items.size 0 lo:Nat):Int)==0&&(1:Int)==1&&(bB items.size items.size hi-bB items.size 0 lo)==items.size)=true):=by
  intro q;rw[aaG,aaG] at q;have q1:((bB items.size 0 lo:Nat):Int)=0:=eq_of_beq q.1.1;have q2:bB items.size items.size hi-bB items.size 0 lo=items.size:=eq_of_beq q.2;exact hw ⟨by omega,by omega⟩
 show wpAny _ _ (if(((bB items.size 0 lo:Nat):Int)==0&&(1:Int)==1&&(bB items.size items.size hi-bB items.size 0 lo)==items.size)=true then _ else _) _ _ s;rw[if_neg pb,OW]
 first
  | exact aaq (m:=abM _) (abu (aaE ⟨_,rfl,aaE h⟩) wg)
  | exact aaq (m:=abM _) (abu (aaq (aaE (aaE ⟨_,rfl,aaE h⟩))) wg)
  | exact aaq (aaq (m:=abM _) (abu (aaE (aaE ⟨_,rfl,aaE h⟩)) wg))
  | exact aaq (aaq (m:=abM _) (abu (aaE ⟨_,rfl,aaE h⟩) wg))
end
end HT
namespace L2
open PySem PySem.Spec PyProof.Rows
abbrev TO:=St->Hp->(Option Int->Hp->Prop)->Prop
noncomputable def PO(X:Cx)(e:Option Expr)(t:TO):Prop:=
 ∀(pins:List (Addr×Obj)) (s:aaw) (σ:St) (H:Hp) (Q:Option Int->Hp->Prop),Inv X pins σ H s->t σ H Q →
  wpAny (model X.prog X.w) X.A (evalPart e X.env) (fun u s'=>∃o H',Inv X pins σ H' s'/\agi u o/\Q o H') X.xe s
noncomputable def Qu:TO:=fun _ H Q=>Q none H
noncomputable def VD(t:TE):TO:=fun σ H Q=>t σ H fun x H1=>∃i,x=.int i/\Q (some i) H1
theorem intsAre_of{ns:List Int}:∀{us:List Value},Vals (ns.map V.int) us->afd us ns:=by
 induction ns with
 | nil=>intro us r;rw[aet] at r;cases r;exact .nil
 | cons n ns ih=>
  intro us r;rw[aaX] at r;cases r with
  | cons r1 r2=>
   obtain⟨t,e⟩:=r1;subst e;exact .cons n t (ih r2)
section
variable{X:Cx}{e:Expr}{te:TE}{lo hi:Option Expr}{tl th:TO}{pos p2:Pos}
theorem Qv:PO X none Qu:=by
 intro pins s σ H Q I h;rw[evalPart_none];exact aaE ⟨none,H,I,.none,h⟩
theorem Qw(h:PE X e te):PO X (some e) (VD te):=by
 intro pins s σ H Q I hw;rw[evalPart_some];refine bb (h pins s σ H _ I hw) fun u s1 ⟨x,H1,I1,r1,q1⟩=>?_
 obtain⟨i,rfl,q⟩:=q1;obtain⟨t,rfl⟩:=r1;exact⟨some i,H1,I1,.int i t,q⟩
noncomputable def lH(X:Cx)(r:V->Option Int->Option Int->Hp->VK->Prop):Prop:=
 ∀(pins:List (Addr×Obj)) (s:aaw) (σ:St) (H:Hp) (x:V) (v vl vu:Value) (lo hi:Option Int) (sl:Addr) (Q:VK),Inv X pins σ H s->RelV x v->s.heap.IsSliceOf sl vl vu .none->agi vl lo->agi vu hi->r x lo hi H Q →
  ∃T id,typeLookup (.type T) "__getitem__"=pure (some (.builtin id))/\s.TypeIs v T/\wpAny (model X.prog X.w) X.A (getItem v (.ref sl)) (EP X pins σ Q) X.xe s
theorem lH.or{r r':V->Option Int->Option Int->Hp->VK->Prop}(h:lH X r)(h':lH X r'):lH X (fun x lo hi H Q=>r x lo hi H Q\/r' x lo hi H Q):=by
 intro pins s σ H x v vl vu lo hi sl Q I rx hs pl pu q
 rcases q with q | q
 ·exact h pins s σ H x v vl vu lo hi sl Q I rx hs pl pu q
 ·exact h' pins s σ H x v vl vu lo hi sl Q I rx hs pl pu q
noncomputable def XS(r:V->Option Int->Option Int->Hp->VK->Prop)(te:TE)(tl th:TO):TE:=fun σ H Q=>te σ H fun x H1=>tl σ H1 fun l H2=>th σ H2 fun u H3=>r x l u H3 Q
theorem OX{r:V->Option Int->Option Int->Hp->VK->Prop}(hr:lH X r)(he:PE X e te)(hl:PO X lo tl)(hu:PO X hi th):PE X (.Subscript e (.Slice lo hi none p2) pos) (XS r te tl th):=by
 intro pins s σ H Q I h;refine Subscript_ (bb (he pins s σ H _ I h) fun v s1 ⟨x,H1,I1,r1,q1⟩=>?_);refine wpAny_Slice (bb (hl pins s1 σ H1 _ I1 q1) fun vl s2 ⟨l,H2,I2,pl,q2⟩=>bb (hu pins s2 σ H2 _ I2 q2) fun vu s3 ⟨u,H3,I3,pu,q3⟩=>?_);rw[evalPart_none];refine aaE ?_;have I4:Inv X pins σ H3 { s3 with heap:=s3.heap.push { cls:=.type "slice",data:=.fields #[vl,vu,.none] } }:=I3.kept (t':=s3.toks) fun b ob q=>aas _ q
 obtain⟨T,id,hT,ht,hg⟩:=hr pins { s3 with heap:=s3.heap.push { cls:=.type "slice",data:=.fields #[vl,vu,.none] } } σ H3 x v vl vu l u s3.heap.objs.size Q I4 r1 (Heap.IsSliceOf.new ..) pl pu q3;show wpAny (model X.prog X.w) X.A (subscriptTail e (.Slice lo hi none p2) v (.ref s3.heap.objs.size)) (EP X pins σ Q) X.xe { s3 with heap:=s3.heap.push { cls:=.type "slice",data:=.fields #[vl,vu,.none] } };exact tail_any (ops:=[.ref s3.heap.objs.size,v]) ht hT hg (by with_unfolding_all rfl)
noncomputable def lg(xs:List V)(lo hi:Option Int):List V:=(xs.drop (HT.bB xs.length 0 lo)).take (HT.bB xs.length xs.length hi-HT.bB xs.length 0 lo)
theorem Et(xs:List V)(lo hi:Option Int):(lg xs lo hi).length<=xs.length:=by
 unfold lg;rw[abI,List.length_drop];omega
noncomputable def WL(K:aao):V->Option Int->Option Int->Hp->VK->Prop:=fun x lo hi H Q=>∃a xs,x=.ref a/\cE K H a xs /\
 ¬(HT.bB xs.length 0 lo=0/\HT.bB xs.length xs.length hi=xs.length)/\∀p,H p=none->Q (.ref p) (upd H p (.tup (lg xs lo hi)))
theorem SY:lH X (WL X.K):=by
 intro pins s σ H x v vl vu lo hi sl Q I rx hs pl pu h;obtain⟨a,xs,rfl,hx,hw,q⟩:=h;cases rx;obtain⟨its,r,ht,hz⟩:=I.tuple hx;have bP:its.toArray.size=xs.length:=by rw[aaB];exact r.length.symm
 refine⟨"tuple",_,acE.lookup,ht.typeIs,?_⟩;refine HT.KJ ht hs pl pu (by rw[bP];exact hw) ?_ (by rw[bP];exact hz);rw[bP];refine⟨.ref s.heap.objs.size,_,I.laid (t':=s.toks) (o:=.tup (lg xs lo hi)) (fun b ob q=>aas _ q) (aat _) ?_,rfl,q _ (I.aH.fresh (aat _))⟩;exact⟨aaN (Et xs lo hi) hz,_,(r.drop (HT.bB xs.length 0 lo)).take (HT.bB xs.length xs.length hi-HT.bB xs.length 0 lo),IsTup.new _ _⟩
noncomputable def G1(K:aao):R2:=fun x y H Q=>∃a b xs ys,x=.ref a/\y=.ref b/\cE K H a xs/\cE K H b ys/\xs≠[]/\xs.length+ys.length<=aaH /\
 (ys=[]->Q (.ref a) H)/\(ys≠[]->∀p,H p=none->Q (.ref p) (upd H p (.tup (xs++ys))))
theorem Vals.zD{xs:List V}{us:List Value}(r:Vals xs us):us=[]↔xs=[]:=by
 cases r with
 | nil=>simp
 | cons _ _=>simp
theorem Qx:bJ X (acY .Add) (G1 X.K):=by
 intro pins s σ H x y v u Q I rx ry h;obtain⟨a,b,xs,ys,rfl,rfl,ha,hb,hx,hz,q1,q2⟩:=h;cases rx;cases ry;obtain⟨its,r1,p1,_⟩:=I.tuple ha;obtain⟨lh,r2,p2,_⟩:=I.tuple hb;refine HT.Qt p1 p2 (fun z=>hx (r1.zD.mp z)) (fun z=>⟨.ref a,H,I,rfl,q1 (r2.zD.mp z)⟩) (fun z=>?_) (by rw[<- r1.length,<- r2.length];exact hz);refine⟨.ref s.heap.objs.size,_,I.laid (t':=s.toks) (o:=.tup (xs++ys)) (fun b ob q=>aas _ q) (aat _) ?_,rfl,q2 (fun w=>z (r2.zD.mpr w)) _ (I.aH.fresh (aat _))⟩;exact⟨by rw[aaU];exact hz,_,r1.append r2,IsTup.new _ _⟩
end
noncomputable def gD(n:Nat)(i:Int):Option Nat:=if 0<=i then(if i<n then some i.toNat else none) else if -(n:Int)<=i then some (i+n).toNat else none
variable{α:Type}
noncomputable def cA(xs:List α)(i:Int):Option α:=(gD xs.length i).bind fun j=>xs[j]?
theorem FT{n:Nat}{i:Int}{j:Nat}(h:gD n i=some j):seqIndex? i n=some j/\j<n/\ -(n:Int)<=i/\i<n:=by
 unfold gD at h;by_cases h0:0<=i
 ·rw[if_pos h0] at h;by_cases h1:i<n
  ·rw[if_pos h1] at h;have e:i.toNat=j:=abq h;exact⟨by rw[seqIndex_of h0 h1,e],by omega,by omega,h1⟩
  ·rw[if_neg h1] at h;cases h
 ·rw[if_neg h0] at h;by_cases h1: -(n:Int)<=i
  ·rw[if_pos h1] at h;have e:(i+n).toNat=j:=abq h;exact⟨by rw[seqIndex_neg (by omega) h1,e],by omega,h1,by omega⟩
  ·rw[if_neg h1] at h;cases h
theorem zE{xs:List α}{i:Int}{v:α}(h:cA xs i=some v):∃j,seqIndex? i xs.length=some j/\xs[j]? =some v/\j<xs.length/\ -(xs.length:Int)<=i/\i<xs.length:=by
 unfold cA at h;cases e:gD xs.length i with
 | none=>rw[e] at h;cases h
 | some j=>
  rw[e] at h;obtain⟨h1,h2,h3,h4⟩:=FT e;exact⟨j,h1,h,h2,h3,h4⟩
noncomputable def vG(b:Expr):Prop:=∀o i,subscripted b false o i=operate [o,i] (getItem o i)
noncomputable def iQ(X:Cx)(r:R2):Prop:=
 ∀(value slice:Expr) (pins:List (Addr×Obj)) (s:aaw) (σ:St) (H:Hp) (x y:V) (v u:Value) (Q:VK),Inv X pins σ H s->RelV x v->RelV y u->r x y H Q →
  subscripted slice false v u=operate [v,u] (getItem v u)->wpAny (model X.prog X.w) X.A (subscriptTail value slice v u) (EP X pins σ Q) X.xe s
noncomputable def mY(X:Cx)(id:String)(r:V->List V->Hp->VK->Prop):Prop:=
 ∀(pins:List (Addr×Obj)) (s:aaw) (σ:St) (H:Hp) (x:V) (xs:List V) (v:Value) (us:List Value) (Q:VK),Inv X pins σ H s->RelV x v->Vals xs us->r x xs H Q →
  wpAny (model X.prog X.w) X.A (call (.builtin id) (v::us)) (EP X pins σ Q) X.xe s
section
variable{X:Cx}{a b:Expr}{ta tb:TE}{pos:Pos}
theorem iQ.or{r r':R2}(h:iQ X r)(h':iQ X r'):iQ X (fun x y H Q=>r x y H Q\/r' x y H Q):=by
 intro value slice pins s σ H x y v u Q I rx ry q hs
 rcases q with q | q
 ·exact h value slice pins s σ H x y v u Q I rx ry q hs
 ·exact h' value slice pins s σ H x y v u Q I rx ry q hs
theorem G2{r:R2}(hr:iQ X r)(ha:PE X a ta)(hb:PE X b tb)(hs:vG b):PE X (.Subscript a b pos) (sC r ta tb):=by
 intro pins s σ H Q I h;exact Subscript_ (BQ ha hb I h fun v u s2 x y H2 I2 rx ry q=>hr a b pins s2 σ H2 x y v u Q I2 rx ry q (hs _ _))
noncomputable def Hy(K:aao):R2:=fun x y H Q=>∃p xs i v,x=.ref p/\y=.int i/\bA K H p xs/\cA xs i=some v/\Q v H
noncomputable def Hz(K:aao):R2:=fun x y H Q=>∃p xs i v,x=.ref p/\y=.int i/\cE K H p xs/\cA xs i=some v/\Q v H
noncomputable def HC:R2:=fun x y H Q=>∃z i c,x=.str z/\y=.int i/\z.length<=aaH/\cA z.cps.toList i=some c/\Q (.str ⟨#[c]⟩) H
theorem Qy:iQ X (Hy X.K):=by
 intro value slice pins s σ H x y v u Q I rx ry h hs;obtain⟨p,xs,i,z,rfl,rfl,hq,he,q⟩:=h;cases rx;obtain⟨t,rfl⟩:=ry;obtain⟨its,r,pl,hz⟩:=I.list hq;obtain⟨j,h1,h2,h3,h4,h5⟩:=zE he;obtain⟨w,ew,fR⟩:=r.get h2;have hl:=r.length;have hn:=mv;have fin:EP X pins σ Q w s:=⟨z,H,I,fR,q⟩
 by_cases h0:0<=i
 ·have hj:i.toNat=j:=by
   rw[seqIndex_of h0 h5] at h1;exact abq h1
  exact item_listR pl.isList h0 (by omega) (by rw[hj];simpa using ew) fin hs
 ·have hj:(i+(its.toArray.size:Int)).toNat=j:=by
   rw[seqIndex_neg (by omega) h4] at h1;rw[aaB,<- hl];exact abq h1
  exact subscriptTail_builtinR (x:=w) pl.isList.typeIs slot_list_getitem.lookup
   (wpAny_getItem_list_neg (Q:=fun r s'=>r=w/\EP X pins σ Q r s') pl.isList (by omega) (by rw[aaB] <;> omega) (by omega) (by rw[hj];simpa using ew) ⟨rfl,fin⟩) hs
theorem S0:iQ X (Hz X.K):=by
 intro value slice pins s σ H x y v u Q I rx ry h hs;obtain⟨p,xs,i,z,rfl,rfl,hq,he,q⟩:=h;cases rx;obtain⟨t,rfl⟩:=ry;obtain⟨its,r,pl,hz⟩:=I.tuple hq;obtain⟨j,h1,h2,h3,h4,h5⟩:=zE he;obtain⟨w,ew,fR⟩:=r.get h2;have hl:=r.length;have hn:=mv;have fin:EP X pins σ Q w s:=⟨z,H,I,fR,q⟩
 exact subscriptTail_builtinR (x:=w) pl.typeIs slot_tuple_getitem.lookup
  (getItem_tuple (j:=j) (Q:=fun r s'=>r=w/\EP X pins σ Q r s') pl (by omega) (by omega) (by rw[aaB,<- hl];exact h1) (by simpa using ew) ⟨rfl,fin⟩) hs
theorem S1:iQ X HC:=by
 intro value slice pins s σ H x y v u Q I rx ry h hs;obtain⟨z,i,c,rfl,rfl,hz,he,q⟩:=h;obtain⟨t,rfl⟩:=rx;obtain⟨t',rfl⟩:=ry;obtain⟨j,h1,h2,h3,h4,h5⟩:=zE he;have hl:z.cps.toList.length=z.length:=by simp[Str.length]
 rw[hl] at h1 h4 h5;have hn:=mv;exact tail_any (typeIs_str s z t) slot_str_getitem.lookup (getItem_str (c:=c) (by
  have e1:decide (i< -(2 ^ 63:Int))=false:=decide_eq_false (by omega);have e2:decide (i >= 2 ^ 63)=false:=decide_eq_false (by omega);rw[e1,e2,adX]) (by rw[h1];simpa using h2) ⟨.str ⟨#[c]⟩,H,I.tok _,⟨_,rfl⟩,q⟩) hs
noncomputable def xM(K:aao):R2:=fun x y H Q=>Hy K x y H Q\/Hz K x y H Q\/HC x y H Q
theorem Gx:iQ X (xM X.K):=Qy.or (S0.or S1)
theorem Nw(its:List Value)(n j:Nat)(u:Value):adD (·.setIfInBounds j u) { cls:=.type "list",data:=.seq its.toArray n }={ cls:=.type "list",data:=.seq (its.set j u).toArray n }:=by
 simp[adD]
variable{σ:St}{H:Hp}{s:aaw}
theorem Inv.lst{pins:List (Addr×Obj)}{p:Addr}{xs:List V}(I:Inv X pins σ H s)(h:H p=some (.lst xs)) :
  ∃(its:List Value) (n:Nat),Vals xs its/\s.heap.get? p=some { cls:=.type "list",data:=.seq its.toArray n }/\xs.length<=sizeLine:=by
 obtain⟨z,its,n,r,e⟩:=I.aH p _ h;exact⟨its,n,r,e,z⟩
theorem Inv.S2{pins:List (Addr×Obj)}{p:Addr}{xs ys:List V}{its its':List Value}{n n':Nat}{f:Obj->Obj}(I:Inv X pins σ H s)(h:H p=some (.lst xs))
  (ho:s.heap.get? p=some { cls:=.type "list",data:=.seq its.toArray n }) (hf:f { cls:=.type "list",data:=.seq its.toArray n }={ cls:=.type "list",data:=.seq its'.toArray n' }) (r:Vals ys its') (hz:ys.length<=aaH) (t:Nat) :
  Inv X pins σ (upd H p (.lst ys)) { s with heap:=s.heap.update p f,toks:=t }:=by
 have e:(s.heap.update p f).get? p=some { cls:=.type "list",data:=.seq its'.toArray n' }:=by
  rw[acw f ho (by rw[hf] <;> rfl),hf]
 refine I.write (x:=p) (e:=p) (by rw[h];trivial) (.inl rfl) (fun b u hb q=>(abz _ _ (abD hb)).trans q) ⟨_,e⟩ ?_;exact⟨hz,its',n',r,e⟩
noncomputable def VE:V->V->V->Hp->(Hp->Prop)->Prop:=fun o i v H Q=>∃p xs k j,o=.ref p/\i=.int k/\H p=some (.lst xs)/\gD xs.length k=some j/\Q (upd H p (.lst (xs.set j v)))
theorem set_list:lc X VE:=by
 intro pins s σ H o i v ov iv u Q I ro ri rv h;obtain⟨p,xs,k,j,rfl,rfl,hp,hj,q⟩:=h;cases ro;obtain⟨t,rfl⟩:=ri;obtain⟨its,n,r,ho,hz⟩:=I.lst hp;obtain⟨h1,h2,h3,h4⟩:=FT hj;have hl:=r.length;have hn:=mv;have I':Inv X pins σ (upd H p (.lst (xs.set j v))) { s with heap:=s.heap.update p (adD (·.setIfInBounds j u)) }:=
  I.S2 hp ho (Nw its n j u) (r.set rv j) (by rw[abg];exact hz) s.toks
 by_cases h0:0<=k
 ·have hk:k.toNat=j:=by
   rw[seqIndex_of h0 h4] at h1;exact abq h1
  exact PySem.W.ki_setAt ho h0 (by omega) (by rw[aaB,<- hl];exact h4) (by rw[hk];exact⟨_,I',q⟩)
 ·have hk:(k+(its.toArray.size:Int)).toNat=j:=by
   rw[seqIndex_neg (by omega) h3] at h1;rw[aaB,<- hl];exact abq h1
  exact PySem.W.ki_setBack ho (by omega) (by rw[aaB,<- hl];exact h3) (by omega) (by rw[hk];exact⟨_,I',q⟩)
theorem MD(lo hi:Option Int)(n:Nat):(adE lo hi none n).1=((HT.bB n 0 lo:Nat):Int)/\(adE lo hi none n).2.1=((HT.bB n n hi:Nat):Int)/\(adE lo hi none n).2.2=1:=by
 refine⟨?_,?_,rfl⟩
 ·cases lo with
  | none=>simp[adE,HT.bB]
  | some i=>
   simp only[adE,HT.bB,Option.getD_none,show(1:Int)>0 by decide,if_true];by_cases h:i<0
   ·simp only[h,if_true] <;> omega
   ·simp only[h,if_false] <;> omega
 ·cases hi with
  | none=>simp[adE,HT.bB]
  | some i=>
   simp only[adE,HT.bB,Option.getD_none,show(1:Int)>0 by decide,if_true];by_cases h:i<0
   ·simp only[h,if_true] <;> omega
   ·simp only[h,if_false] <;> omega
theorem L8(its:List Value)(lo hi:Option Int):slicePick its.toArray lo hi none=((its.drop (HT.bB its.length 0 lo)).take (HT.bB its.length its.length hi-HT.bB its.length 0 lo)).toArray:=by
 obtain⟨h1,h2,h3⟩:=MD lo hi its.toArray.size;unfold slicePick;rw[h1,h2,h3];simp only[sliceRange_one,pick_run,aaB] <;> rfl
noncomputable def WM(K:aao):V->Option Int->Option Int->Hp->VK->Prop:=fun x lo hi H Q=>∃a xs,x=.ref a/\bA K H a xs/\∀p,H p=none->Q (.ref p) (upd H p (.lst (lg xs lo hi)))
theorem Qz:lH X (WM X.K):=by
 intro pins s σ H x v vl vu lo hi sl Q I rx hs pl pu h;obtain⟨a,xs,rfl,hx,q⟩:=h;cases rx;obtain⟨its,r,ht,hz⟩:=I.list hx;have bP:=r.length;refine⟨"list",_,slot_list_getitem.lookup,ht.isList.typeIs,?_⟩;refine wpAny_getItem_list_slice ht.isList hs pl pu .none (by simp) ?_ (by rw[aaB] <;> omega);rw[L8,<- bP];refine⟨.ref s.heap.objs.size,_,I.laid (t':=s.toks) (o:=.lst (lg xs lo hi)) (fun b ob q=>aas _ q) (aat _) ?_,rfl,q _ (I.aH.fresh (aat _))⟩;exact⟨aaN (Et xs lo hi) hz,_,0,(r.drop (HT.bB xs.length 0 lo)).take (HT.bB xs.length xs.length hi-HT.bB xs.length 0 lo),aaI _ rfl⟩
theorem ME:c6 X (.builtin "len") (fun xs H Q=>∃p ys,xs=[.ref p]/\(bA X.K H p ys\/cE X.K H p ys)/\Q (.int ys.length) H):=by
 intro pins s σ H xs us Q I r h;obtain⟨p,ys,rfl,hq,q⟩:=h;obtain⟨u,rfl,rx⟩:=vals1 r;cases rx;have hn:=mv
 rcases hq with hq | hq
 ·obtain⟨its,r',pl,hz⟩:=I.list hq;have bP:=r'.length;exact Calls.call_len_list pl.isList (by simp only[aaB] <;> omega) ⟨.int ys.length,H,I.tok _,⟨s.toks+1,by rw[aaB,bP]⟩,q⟩
 ·obtain⟨its,r',pl,hz⟩:=I.tuple hq;have bP:=r'.length;exact len_tuple pl (by simp only[aaB] <;> omega) ⟨.int ys.length,H,I.tok _,⟨s.toks+1,by rw[aaB,bP]⟩,q⟩
theorem MF:c6 X (.builtin "len") (fun xs H Q=>∃z,xs=[.str z]/\z.length<=aaH/\Q (.int z.length) H):=by
 intro pins s σ H xs us Q I r h;obtain⟨z,rfl,hz,q⟩:=h;obtain⟨u,rfl,t,rfl⟩:=vals1 r;have hn:=mv;exact len_str (by omega) ⟨.int z.length,H,I.tok _,⟨_,rfl⟩,q⟩
theorem c6.or{f:Value}{r r':List V->Hp->VK->Prop}(h:c6 X f r)(h':c6 X f r'):c6 X f (fun xs H Q=>r xs H Q\/r' xs H Q):=by
 intro pins s σ H xs us Q I rs q
 rcases q with q | q
 ·exact h pins s σ H xs us Q I rs q
 ·exact h' pins s σ H xs us Q I rs q
theorem MG:c6 X (.type "list") (fun xs H Q=>∃p ys,xs=[.ref p]/\(bA X.K H p ys\/cE X.K H p ys)/\∀l,H l=none->Q (.ref l) (upd H l (.lst ys))):=by
 intro pins s σ H xs us Q I r h;obtain⟨p,ys,rfl,hq,q⟩:=h;obtain⟨u,rfl,rx⟩:=vals1 r;cases rx;have fin:∀(its:List Value),Vals ys its->ys.length<=aaH->∀(h':Heap) (c':Nat),(∀b o',s.heap.get? b=some o'->h'.get? b=some o') →
   h'.get? s.heap.objs.size=some { cls:=.type "list",dict:=none,data:=.seq its.toArray c',slots:= #[] }->EP X pins σ Q (.ref s.heap.objs.size) { s with heap:=h' }:=fun its r' hz h' c' kp e=>
  ⟨.ref s.heap.objs.size,_,I.laid (t':=s.toks) kp (aat _) (show dr X.prog X.w _ h' _ (.lst ys) from⟨hz,its,c',r',e⟩),rfl,q _ (I.aH.fresh (aat _))⟩
 rcases hq with hq | hq
 ·obtain⟨its,r',pl,hz⟩:=I.list hq;have bP:=r'.length;obtain⟨o,ho,hc,n,hd⟩:=pl.isList;exact call_list_seq p (.inl rfl) ho hc hd (fun h' c' kp e=>fin its r' hz h' c' kp e) (by simp only[aaB] <;> omega)
 ·obtain⟨its,r',pl,hz⟩:=I.tuple hq;have bP:=r'.length;obtain⟨o,ho,hc,n,hd⟩:=pl;exact call_list_seq p (.inr rfl) ho hc hd (fun h' c' kp e=>fin its r' hz h' c' kp e) (by simp only[aaB] <;> omega)
theorem yG:c6 X (.type "tuple") (fun xs H Q=>∃p ys,xs=[.ref p]/\((bA X.K H p ys/\∀l,H l=none->Q (.ref l) (upd H l (.tup ys)))\/(cE X.K H p ys/\Q (.ref p) H))):=by
 intro pins s σ H xs us Q I r h;obtain⟨p,ys,rfl,h⟩:=h;obtain⟨u,rfl,rx⟩:=vals1 r;cases rx
 rcases h with⟨hq,q⟩ | ⟨hq,q⟩
 ·obtain⟨its,r',pl,hz⟩:=I.list hq;have bP:=r'.length;refine call_tuple_list pl.isList (fun h' kp=>?_) (by simp only[aaB] <;> omega);have I1:Inv X pins σ H { s with heap:=h' }:=I.kept (t':=s.toks) kp;have I2:Inv X pins σ (upd H h'.objs.size (.tup ys)) { s with heap:=h'.push { cls:=.type "tuple",data:=.seq its.toArray } }:=
   I1.laid (t':=s.toks) (fun b o e=>aas _ e) (aat _) (show dr X.prog X.w _ _ _ (.tup ys) from⟨hz,its,r',IsTup.new _ _⟩)
  exact⟨.ref h'.objs.size,_,I2,rfl,q _ (I1.aH.fresh (aat _))⟩
 ·obtain⟨its,r',pl,hz⟩:=I.tuple hq;exact call_tuple_same pl ⟨.ref p,H,I,rfl,q⟩
noncomputable def xN(K:aao)(T:String)(x:V)(H:Hp):Prop:=match x with
 | .str _=>T="str"
 | .int _=>T="int"
 | .ref p=>(T="list"/\∃xs,bA K H p xs)\/(T="tuple"/\∃o,K.lookup p=some o/\o.cls=.type "tuple"/\o.dict=none) \/
   (T="dict"/\((∃kvs,H p=some (.dK kvs))\/∃kvs,H p=some (.dT kvs)))\/(T="set"/\∃S n,H p=some (.set S n))\/(T="dict"/\∃kvs,H p=some (.dU kvs))
 | _=>False
theorem Gy{pins:List (Addr×Obj)}{T:String}{x:V}{v:Value}(I:Inv X pins σ H s)(r:RelV x v)(ty:xN X.K T x H) :
  s.TypeIs v T/\∀a,v=.ref a->∃ob,s.heap.get? a=some ob/\ob.dict=none:=by
 cases x with
 | str z=>
  obtain⟨t,rfl⟩:=r;cases(show T="str" from ty);exact⟨typeIs_str s z t,fun _ e=>nomatch e⟩
 | int i=>
  obtain⟨t,rfl⟩:=r;cases(show T="int" from ty);exact⟨typeIs_int s i t,fun _ e=>nomatch e⟩
 | ref p=>
  cases r
  rcases ty with⟨rfl,xs,hq⟩ | ⟨rfl,o,hk,hc,hd⟩ | ⟨rfl,hk⟩ | ⟨rfl,S,n,hk⟩ | ⟨rfl,kvs,hk⟩
  ·obtain⟨its,_,pl,_⟩:=I.list hq;refine⟨pl.isList.typeIs,fun a e=>?_⟩;cases e;obtain⟨o,n,e,c,hd,_⟩:=pl;exact⟨o,e,hd⟩
  ·refine⟨⟨o,I.gA p o hk,hc⟩,fun a e=>?_⟩;cases e;exact⟨o,I.gA _ o hk,hd⟩
  ·have z:∃o,s.heap.get? p=some o/\o.ExactDict:=by
    rcases hk with⟨kvs,hk⟩ | ⟨kvs,hk⟩
    ·obtain⟨_,_,_,_,o,_,_,e,ex,_⟩:=I.aH p _ hk;exact⟨o,e,ex⟩
    ·obtain⟨_,_,_,_,o,_,_,e,ex,_⟩:=I.aH p _ hk;exact⟨o,e,ex⟩
   obtain⟨o,e,ex⟩:=z;refine⟨⟨o,e,ex.1⟩,fun a e2=>?_⟩;cases e2;exact⟨o,e,ex.2.1⟩
  ·obtain⟨o,_,_,_,e,ex,_⟩:=I.aH p _ hk;refine⟨⟨o,e,ex.1⟩,fun a e2=>?_⟩;cases e2;exact⟨o,e,ex.2.1⟩
  ·obtain⟨_,_,o,_,_,e,ex,_⟩:=I.aH p _ hk;refine⟨⟨o,e,ex.1⟩,fun a e2=>?_⟩;cases e2;exact⟨o,e,ex.2.1⟩
 | _=>exact adp ty
noncomputable def WN(K:aao)(T:String)(r:V->List V->Hp->VK->Prop)(to:TE):TE:=fun σ H Q=>to σ H fun x H1=>xN K T x H1/\r x [] H1 Q
noncomputable def Iw(K:aao)(T:String)(r:V->List V->Hp->VK->Prop)(to:TE)(t:TA):TE:=fun σ H Q=>to σ H fun x H1=>xN K T x H1/\t σ H1 fun xs H2=>r x xs H2 Q
variable{o e:Expr}{es:List Expr}{to:TE}{t:TA}{name:Str}{apos eG:Pos}{T id:String}{r:V->List V->Hp->VK->Prop}
theorem S5(pa:aea T)(slot:Slot T name id)(ic:typeOf (.builtin id)=pure (.type "method_descriptor"))(hm:mY X id r)(ho:PE X o to)
  (gr:acK o name X.env (eval o X.env)=eval o X.env:=by rfl) (gu:(apos.endLine==eG.line)=true:=by rfl):PE X (.Call (.Attribute o name apos) [] [] eG) (WN X.K T r to):=by
 intro pins s σ H Q I h;refine wpAny_Call_method0_late gr gu (bb (ho pins s σ H _ I h) fun v s1 ⟨x,H1,I1,r1,ty,q1⟩=>?_);obtain⟨h1,h2⟩:=Gy I1 r1 ty;exact⟨T,id,pa,slot,ic,h1,h2,aeX rfl (PySem.evalArgs_none (hm pins s1 σ H1 x [] v [] Q I1 r1 .nil q1))⟩
theorem VF(pa:aea T)(slot:Slot T name id)(ic:typeOf (.builtin id)=pure (.type "method_descriptor"))(hm:mY X id r)(ho:PE X o to)(ha:PA X (e::es) t)
  (gr:acK o name X.env (eval o X.env)=eval o X.env:=by rfl)
  (BS:((adi eG (aaP (e::es) X.env)).all (fun x=> !x.1)&&(backToKw eG (keywordEach [] X.env)).all (fun x=>x.1.isSome)
   && decide ((e::es).length+([]:List Keyword).length+(if([]:List Keyword).isEmpty then 0 else 1)<30))=true:=by rfl)
  (gu:(apos.endLine==eG.line)=true:=by rfl) (hs:aaP (e::es) X.env=(false,eval e X.env)::aaP es X.env:=by rfl) (z7:(adi eG (aaP es X.env)).any (·.1)=false:=by rfl) :
  PE X (.Call (.Attribute o name apos) (e::es) [] eG) (Iw X.K T r to t):=by
 intro pins s σ H Q I h;refine wpAny_Call_method_late gr BS gu rfl (bb (ho pins s σ H _ I h) fun v s1 ⟨x,H1,I1,r1,ty,q1⟩=>?_);obtain⟨h1,h2⟩:=Gy I1 r1 ty;refine⟨T,id,pa,slot,ic,h1,h2,?_⟩;have hA:=ha eG pins s1 σ H1 _ I1 q1;rw[hs] at hA ⊢;refine aeX (by show(false||(adi eG (aaP es X.env)).any (·.1))=false;rw[z7] <;> rfl) (Calls.evalArgs_plain ?_);exact bb hA fun us s2 ⟨vs,H2,I2,r2,q2⟩=>hm pins s2 σ H2 x vs v us Q I2 r1 r2 q2
end
noncomputable def CZ(X:Cx)(id:String)(r:V->List V->Hp->VK->Prop):Prop:=
 ∀(pins:List (Addr×Obj)) (s:aaw) (σ:St) (H:Hp) (x:V) (xs:List V) (v:Value) (us:List Value) (Q:VK),Inv X pins σ H s->RelV x v->Vals xs us->r x xs H Q →
  wpAny (model X.prog X.w) X.A (call (.builtin id) (v::us)) (EP X pins σ Q) X.xe s
theorem Vals.one{x:V}{us:List Value}(h:Vals [x] us):∃u,us=[u]/\RelV x u:=by
 cases h with
 | cons r t=>cases t;exact⟨_,rfl,r⟩
theorem Vals.two{x y:V}{us:List Value}(h:Vals [x,y] us):∃u v,us=[u,v]/\RelV x u/\RelV y v:=by
 cases h with
 | cons r t=>
  obtain⟨v,e,q⟩:=Vals.one t;subst e;exact⟨_,_,rfl,r,q⟩
theorem Vals.zero:∀{us:List Value},Vals [] us->us=[]
 | _,.nil=>rfl
theorem Vals.dropLast{xs:List V}{us:List Value}(h:Vals xs us):Vals xs.dropLast us.dropLast:=by
 induction h with
 | nil=>exact .nil
 | cons r t ih=>
  cases t with
  | nil=>exact .nil
  | cons q t'=>exact .cons r ih
theorem Vals.rep{xs:List V}{us:List Value}(h:Vals xs us):∀k:Nat,Vals (aaF k xs).flatten (aaF k us).flatten
 | 0=>.nil
 | k+1=>by
  rw[abZ,abZ,acF,acF];exact Vals.append h (Vals.rep h k)
theorem Nx(l:List α):l.eraseIdx (l.length-1)=l.dropLast:=by
 induction l with
 | nil=>rfl
 | cons a r ih=>
  cases r with
  | nil=>rfl
  | cons b r=>
   have e:(a::b::r).length-1=((b::r).length-1)+1:=by
    have h1:(a::b::r).length=r.length+2:=rfl;have h2:(b::r).length=r.length+1:=rfl;omega
   rw[e,List.eraseIdx_cons_succ,ih]
   all_goals rfl
theorem foldl_rep(its:List Value):∀(k:Nat) (acc:List Value),
  List.foldl (fun x1 x2=>x1++x2) acc.toArray (aaF k its.toArray)=(acc++(aaF k its).flatten).toArray
 | 0,acc=>by simp
 | k+1,acc=>by
  have e:acc.toArray++its.toArray=(acc++its).toArray:=by simp
  have e2:(acc++its)++(aaF k its).flatten=acc++(aaF (k+1) its).flatten:=by
   rw[abZ,acF,adb]
  rw[<- e2,<- foldl_rep its k (acc++its),<- e,abZ,afe]
section
variable{X:Cx}{pins:List (Addr×Obj)}{σ:St}{H:Hp}{s:aaw}{l b:Addr}{xs ys zs:List V}
theorem Inv.BU{its its':List Value}{n:Nat}{f:Array Value->Array Value}{t':Nat}(I:Inv X pins σ H s)(hH:H l=some (.lst xs))
  (e:s.heap.get? l=some { cls:=.type "list",data:=.seq its.toArray n }) (hf:f its.toArray=its'.toArray) (hv:Vals ys its') (hz:ys.length<=aaH) :
  Inv X pins σ (upd H l (.lst ys)) { s with heap:=s.heap.update l (adD f),toks:=t' }:=by
 have q:=PySem.IsL.update e f;rw[hf] at q;refine I.write (x:=l) (e:=l) (by rw[hH];exact trivial) (.inl rfl) (fun b' u hb hu=>(abz s.heap (adD f) (abD hb)).trans hu) ⟨_,q⟩ ?_;exact⟨hz,its',_,hv,q⟩
theorem Inv.BV{its:List Value}{t':Nat}(I:Inv X pins σ H s)(hv:Vals ys its)(hz:ys.length<=aaH) :
  Inv X pins σ (upd H s.heap.objs.size (.lst ys)) { s with heap:=s.heap.push { cls:=.type "list",data:=.seq its.toArray },toks:=t' }:=
 I.laid (fun _ _ q=>aas _ q) (aat _) ⟨hz,its,0,hv,aaI _ rfl⟩
theorem Inv.fresh(I:Inv X pins σ H s):H s.heap.objs.size=none:=I.aH.fresh (aat _)
theorem Inv.mL(I:Inv X pins σ H s)(hH:H l=some (.lst xs)):xs.length<=aaH/\∃(its:List Value) (n:Nat),Vals xs its/\xs.length=its.length/\s.heap.get? l=some { cls:=.type "list",data:=.seq its.toArray n }:=by
 obtain⟨z,its,n,r,e⟩:=I.aH l _ hH;exact⟨z,its,n,r,r.length,e⟩
theorem Fp{n:Nat}(h:n<=aaH):acG n=false:=by
 unfold acG;exact decide_eq_false (by omega)
end
section
variable{X:Cx}
noncomputable def FU:V->List V->Hp->VK->Prop:=fun x vs H Q=>∃l xs y,x=.ref l/\vs=[y]/\H l=some (.lst xs)/\xs.length<aaH/\Q .aJ (upd H l (.lst (xs++[y])))
theorem EU:CZ X "list.append" FU:=by
 intro pins s σ H x vs v us Q I rx rv h;obtain⟨l,xs,y,rfl,rfl,hH,hz,q⟩:=h;cases rx;obtain⟨u,rfl,ru⟩:=rv.one;obtain⟨z,its,n,r,hl,e⟩:=I.mL hH;refine afx F.slot_list_append ⟨_,e,rfl⟩ F.entry_list_append (F.args_list_append_2 _ _) (PySem.list_append l its.toArray n u (by rw[aaB];omega)) ⟨e,?_⟩;refine⟨.aJ,_,I.BU (its':=its++[u]) hH e (by simp) (r.append (.cons ru .nil)) ?_,rfl,q⟩;rw[aaU,adJ];omega
noncomputable def QA:V->List V->Hp->VK->Prop:=fun x vs H Q=>∃l b xs zs,x=.ref l/\vs=[.ref b]/\H l=some (.lst xs)/\H b=some (.lst zs)/\xs.length+zs.length<=aaH/\Q .aJ (upd H l (.lst (xs++zs)))
theorem aab:CZ X "list.extend" QA:=by
 intro pins s σ H x vs v us Q I rx rv h;obtain⟨l,b,xs,zs,rfl,rfl,hH,hB,hz,q⟩:=h;cases rx;obtain⟨u,rfl,ru⟩:=rv.one;cases ru;obtain⟨z,its,n,r,hl,e⟩:=I.mL hH;obtain⟨z2,lh,n2,r2,fS,e2⟩:=I.mL hB;have hsz:its.toArray.size+lh.toArray.size<=sizeLine:=by rw[aaB,aaB];omega
 have AU:¬(!its.toArray.isEmpty&&acG (its.toArray.size+lh.toArray.size))=true:=by
  rw[Fp hsz,Bool.and_false];exact abe
 refine afx F.slot_list_extend ⟨_,e,rfl⟩ F.entry_list_extend (F.args_list_extend_2 _ _)
  (AutoSeq1.list_extend_list_list_0 l its.toArray n b lh.toArray n2 AU (by rw[aaB];omega) (by omega)) ⟨e,e2,?_⟩
 refine⟨.aJ,_,I.BU (its':=its++lh) hH e (by simp) (r.append r2) ?_,rfl,q⟩;rw[aaU];omega
noncomputable def HD:V->List V->Hp->VK->Prop:=fun x vs H Q=>∃l xs y,x=.ref l/\vs=[]/\H l=some (.lst xs)/\xs[xs.length-1]? =some y/\Q y (upd H l (.lst xs.dropLast))
theorem S6:CZ X "list.pop" HD:=by
 intro pins s σ H x vs v us Q I rx rv h;obtain⟨l,xs,y,rfl,rfl,hH,hy,q⟩:=h;cases rx;have xO:=rv.zero;subst xO;obtain⟨z,its,n,r,hl,e⟩:=I.mL hH;obtain⟨u,hu,ru⟩:=r.get hy;have mZ:its.toArray[its.toArray.size-1]? =some u:=by
  show its.toArray[its.length-1]? =some u;rw[<- Array.getElem?_toList,<- hl];exact hu
 refine afx F.slot_list_pop ⟨_,e,rfl⟩ F.entry_list_pop (F.args_list_pop_1 _) (MeetsSeq.list_pop_last l its.toArray n u mZ (by rw[aaB];omega)) ⟨e,?_⟩;refine⟨y,_,I.BU (its':=its.dropLast) hH e ?_ r.dropLast ?_,ru,q⟩
 ·show its.toArray.eraseIdxIfInBounds (its.toArray.size-1)=its.dropLast.toArray;rw[aaB,List.eraseIdxIfInBounds_toArray,Nx]
 ·rw[List.length_dropLast];omega
noncomputable def HE:R2:=fun x y H Q=>∃l b xs zs,x=.ref l/\y=.ref b/\H l=some (.lst xs)/\H b=some (.lst zs)/\xs.length+zs.length<=aaH/\∀p,H p=none->Q (.ref p) (upd H p (.lst (xs++zs)))
theorem S7:bJ X (acY .Add) HE:=by
 intro pins s σ H x y v u Q I rx ry h;obtain⟨l,b,xs,zs,rfl,rfl,hH,hB,hz,q⟩:=h;cases rx;cases ry;obtain⟨z,its,n,r,hl,e⟩:=I.mL hH;obtain⟨z2,lh,n2,r2,fS,e2⟩:=I.mL hB;refine PySem.P.add_list e e2 ?_ (by rw[aaB,aaB];omega);have ea:its.toArray++lh.toArray=(its++lh).toArray:=by simp
 rw[ea];exact⟨.ref _,_,I.BV (t':=s.toks) (r.append r2) (by rw[aaU];omega),rfl,q _ I.fresh⟩
noncomputable def HF:R2:=fun x y H Q=>∃l k xs,x=.ref l/\y=.int k/\H l=some (.lst xs)/\ -(2 ^ 63)<=k/\k<2 ^ 63/\xs.length*k.toNat<=aaH /\
 ∀p,H p=none->Q (.ref p) (upd H p (.lst (aaF k.toNat xs).flatten))
theorem len_rep{α:Type}(xs:List α)(k:Nat):(aaF k xs).flatten.length=k*xs.length:=by
 induction k with
 | zero=>simp
 | succ k ih=>rw[abZ,acF,aaU,ih,Nat.succ_mul,aff]
theorem S8:bJ X (acY .Mult) HF:=by
 intro pins s σ H x y v u Q I rx ry h;obtain⟨l,k,xs,rfl,rfl,hH,h1,h2,hz,q⟩:=h;cases rx;obtain⟨t,rfl⟩:=ry;obtain⟨z,its,n,r,hl,e⟩:=I.mL hH;have bP:its.toArray.size*k.toNat<=sizeLine:=by rw[aaB,<- hl];exact hz
 have BW:¬its.toArray.size*k.toNat>(2 ^ 63-1) / 8:=by
  have:(aaH:Nat)<=(2 ^ 63-1) / 8:=by decide
  omega
 have WO:¬(!Builtin.List.listFitsIndex k)=true:=by
  rw[fitsIndex_both h1 h2];exact abe
 have AU:¬acG (its.toArray.size*k.toNat)=true:=by
  rw[Fp bP];exact abe
 have mM:List.foldl (fun x1 x2=>x1++x2) #[] (aaF (if its.toArray.isEmpty=true then 0 else k.toNat) its.toArray)=(aaF k.toNat its).flatten.toArray:=by
  have f0:∀m:Nat,List.foldl (fun x1 x2=>x1++x2) #[] (aaF m its.toArray)=(aaF m its).flatten.toArray:=fun m=>by
   have:=foldl_rep its m [];rw[List.nil_append] at this;exact this
  rw[f0];cases its with
  | nil=>simp
  | cons a r'=>rw[if_neg (by simp)]
 refine wpAny_binaryOp_repeat_ref (T:="list") (U:="int") (by decide) ⟨_,e,rfl⟩ (fun s'=>typeIs_int s' k t) noFill_list_mul F.fills_int_mul F.slot_int_rmul repeat_list F.slot_int_index.lookup
  (afx F.slot_int_rmul (typeIs_int s k t) F.entry_int_rmul (F.args_int_rmul_2 _ _) (int___rmul___int_list k t l its.toArray n)
   ⟨e,rfl,⟨_,e,rfl⟩,afx F.slot_list_mul ⟨_,e,rfl⟩ F.entry_list_mul (F.args_list_mul_2 _ _) (AutoListH.list___mul___list_int_3 l its.toArray n k t WO BW AU) ⟨e,?_⟩⟩)
 rw[mM];exact⟨.ref _,_,I.BV (t':=s.toks) (r.rep k.toNat) (by rw[len_rep,Nat.mul_comm];exact hz),rfl,q _ I.fresh⟩
end
end L2
namespace Iy
open PySem PySem.W PySem.Calls PyProof.Rows
theorem Ll{P:Params}{h:Heap}:∀(ns:List Int) (vs:List Value),WellAll P h vs (ns.map WData.int)->afd vs ns:=by
 intro ns
 induction ns with
 | nil=>
  intro vs w;rw[aet] at w;cases w;exact .nil
 | cons n ns ih=>
  intro vs w;rw[aaX] at w;cases w with
  | cons a b=>
   cases a;exact .cons _ _ (ih _ b)
theorem NT{l:OpenLaw}{n:Nat}(hn:l.most=some n){P:Params}{h:Heap}{args:List WData}{vals:List Value}
  (wX:l.row.toRowW.claim.pre args=true) (xP:WellAll P h vals args) :
  ∃a vs ns,vals=[abv a]/\args=[WData.list (ns.map WData.int)]/\h.get? a=some { cls:=.type "list",data:=.seq vs.toArray }/\afd vs ns/\ns.length<=n:=by
 have XT:WShape.hasAll [] args [.list .int]=true:=(pre_splitW wX).1;have hc:l.pre.holds [] { args:=args }=true:=(pre_splitW wX).2;obtain⟨d,r,rfl,h1,h2⟩:=hasAllW_cons XT;obtain rfl:=hasAllW_nil h2;obtain⟨xs,rfl,h3⟩:=hasW_list h1;obtain⟨ns,rfl⟩:=items_int h3;have bP:ns.length<=n:=by
  unfold OpenLaw.pre at hc;have h4:(WTm.not (.lt (.lit (.int n)) (.len (.arg 0)))).holds [] { args:=[.list (ns.map .int)] }=true:=by
   have h4:=(holds_andW hc).1;rw[hn] at h4;exact h4
  have h5:=condW_of h4 (w_not (w_lt w_lit (w_len_list (w_arg rfl))));rw[aan] at h5;refine acN fun q=>?_
  have q':(n:Int)<((ns.length:Nat):Int):=by omega
  first
   | (rw[decide_eq_true q'] at h5;exact absurd h5 (by decide))
   | (simp at h5;omega)
 cases xP with
 | cons w1 w2=>
  cases w2;cases w1 with
  | list ho BX=>exact⟨_,_,ns,rfl,rfl,ho,Ll ns _ BX,bP⟩
theorem NU(l:OpenLaw)(args:List WData):l.row.toRowW.claim.post args (.bool true) args=true:=
 postW_of (r:=l.row.toRowW) (X:=(true==true))
  (show WShape.has [] (.bool true) .bool=true by first | rfl | decide | simp[WShape.has,WShape.arms,WShape.armsAll])
  (show(WTm.eq .res (.lit (.bool true))).value [] { args:=args,res:=some (.bool true),after:=args }=some (.bool (true==true)) from w_eq_bool (w_res rfl) w_lit) rfl
theorem M5{l:OpenLaw}{n:Nat}{q:abw}{loose:List Str}{XP:(Str->Option Value)->Heap->Prop}{YP:World->Heap->Prop}{d:DefRec}
  (hn:l.most=some n) (sI:d.params.defaults=[])
  (call:∀(w:World) (aE bR:aaw) (mg mb:Str->Option Value) (fa:Addr) (o:Obj) (pm cd doc:Value) (a:Addr) (vs:List Value) (ns:List Int),
   Ground q loose [] XP w aE mg mb bR.heap->YP w bR.heap →
   bR.heap.get? fa=some o->o.data=.func (docDef d.name d.params d.body d.scope pm cd doc)->bR.heap.CodeRec cd d.name->mg d.name=some (.ref fa) →
   bR.heap.get? a=some { cls:=.type "list",data:=.seq vs.toArray }->afd vs ns->ns.length<=n->bR.gens= #[] →
   codeAny (model l.prog w) callerA (.call (.ref fa) ⟨[.ref a],[]⟩) (fun r s'=>r=.ok (.ret (.bool true))/\OldK bR.heap s'.heap/\s'.os=bR.os/\aeN s'.gens) bR) :
  WalkO q loose XP YP l.row.toRowW d [] (fun f vs=>PySem.call f vs):=by
 intro w aE bR mg mb G Y fa o pm cd doc dV kV ho hd hcd hD hmg hg args vals as wX aaf hrd xP lI;obtain rfl:dV=.none:=Dflts.none hD sI;obtain rfl:kV=.none:=Dflts.noKw hD;obtain⟨a,vs,ns,rfl,rfl,BY,AV,bP⟩:=NT hn wX xP;refine enter_call (adK (call w aE bR mg mb fa o pm cd doc a vs ns G Y ho (fd_plain hd) hcd hmg BY AV bP hg) fun r s' hq=>?_);obtain⟨rfl,h2,h3,h4⟩:=hq;exact⟨.inl ⟨.bool true,.bool true,[],rfl,fun _=>rfl,.bool true,NU l _,fun _=>⟨List.Pairwise.nil,fun _ hm=>(nomatch hm)⟩⟩,h2,h3,h4⟩
end Iy
namespace L2
open PySem PySem.Spec PyProof.Rows
theorem EV:∀{vs:List Value} {ns:List Int},afd vs ns->Vals (ns.map V.int) vs
 | _,_,.nil=>.nil
 | _,_,.cons n t h=>.cons ⟨t,rfl⟩ (EV h)
noncomputable def i5(s:Stmt):Arguments:=match s with
 | .FunctionDef _ a _ _ _ _ _ _ _ _=>a
 | _=>{ posonlyargs:=[],args:=[],vararg:=none,kwonlyargs:=[],kw_defaults:=[],kwarg:=none,defaults:=[] }
noncomputable def fB(s:Stmt):List Stmt:=match s with
 | .FunctionDef _ _ b _ _ _ _ _ _ _=>b
 | _=>[]
noncomputable def bf(s:Stmt):Scope:=match s with
 | .FunctionDef _ _ _ _ _ _ sc _ _ _=>sc
 | _=>{ kind:=.function,names:=[],isGenerator:=false,isCoroutine:=false }
structure jj(K:aao)(x qual:Str)(st:Stmt)(f:Addr)(fd:aaV):Prop where
 ex:∃(oc:Value) (od:Option Addr) (kV doc pm:Value) (an:Option Addr) (bI ct:Value) (gW:Array (Option Value)),
  fd=abL x qual (i5 st) (fB st) (bf st) .none kV doc pm an bI ct/\K.lookup f=some ⟨oc,od,.func fd,gW⟩/\acO K bI qual=true
 kp:acz K (.ref f)=true
section
variable{P:abw}{w:World}{K:aao}{mg:Str->Option Value}{base:Heap}
theorem jj.binds{x qual:Str}{st:Stmt}{f:Addr}{fd:aaV}{ps:List Str}(F:jj K x qual st f fd)
  (h:∀(kV doc pm:Value) (an:Option Addr) (bI ct:Value) (us:List Value),us.length=ps.length->bindArgs (abL x qual (i5 st) (fB st) (bf st) .none kV doc pm an bI ct) ⟨us,[]⟩=pure (ps.zip us)):Binds K fd ps []:=by
 obtain⟨oc,od,kV,doc,pm,an,bI,ct,gW,rfl,lk,hcd⟩:=F.ex;exact .all (h kV doc pm an bI ct)
theorem z8{x qual:Str}{st:Stmt}{f:Addr}{oc:Value}{od an:Option Addr}{gW:Array (Option Value)}{kV doc pm bI ct:Value}(l:K.lookup f=some ⟨oc,od,.func (abL x qual (i5 st) (fB st) (bf st) .none kV doc pm an bI ct),gW⟩)
  (c:acO K bI qual=true) (k:acz K (.ref f)=true):jj K x qual st f (abL x qual (i5 st) (fB st) (bf st) .none kV doc pm an bI ct):=⟨⟨oc,od,kV,doc,pm,an,bI,ct,gW,rfl,l,c⟩,k⟩
end
theorem rC{A:acM}{k:Nat}(hr:du k A):A.units+1<cLine:=aeu (Nat.add_le_add_left (by decide:1<=64) _) hr.units
theorem lj{A B:Prop}(h:B):if false=true then A else B:=by
 rw[if_neg abe];exact h
theorem lm{A B:Prop}(h:A):if true=true then A else B:=by
 rw[if_pos rfl];exact h
section
variable{κ:Type}[DecidableEq κ]
noncomputable def iH(kvs:List (κ×V))(k:κ):Option V:=(kvs.find? fun kv=>decide (kv.1=k)).map (·.2)
noncomputable def putK(kvs:List (κ×V))(k:κ)(v:V):List (κ×V):=
 if(kvs.any fun kv=>decide (kv.1=k))=true then kvs.map (fun kv=>if kv.1=k then(kv.1,v) else kv) else kvs++[(k,v)]
theorem qG{p:κ×V}{r:List (κ×V)}{k:κ}(e:p.1=k):iH (p::r) k=some p.2:=by simp[iH,abR,e]
theorem qH{p:κ×V}{r:List (κ×V)}{k:κ}(e:¬p.1=k):iH (p::r) k=iH r k:=by simp[iH,abR,e]
theorem Fq(k:κ):∀kvs:List (κ×V),(kvs.any fun kv=>decide (kv.1=k))=(iH kvs k).isSome
 | []=>rfl
 | p::r=>by
  rw[aca];by_cases e:p.1=k
  ·simp only[qG e,decide_eq_true e,Bool.true_or,Option.isSome_some]
  ·rw[qH e,decide_eq_false e,Bool.false_or];exact Fq k r
theorem Eu(kvs:List (κ×V))(k:κ)(v:V):(putK kvs k v).length<=kvs.length+1:=by
 unfold putK;split
 ·rw[aan];omega
 ·rw[aaU,abb,afg];omega
theorem jJ.qB{o:Option V}{u:Option Value}(r:jJ o u):o.isSome=u.isSome:=by
 cases o with
 | none=>cases u with
  | none=>rfl
  | some _=>exact(show False from r).elim
 | some _=>cases u with
  | none=>exact(show False from r).elim
  | some _=>rfl
theorem KV.val{kvs:List (κ×V)}{vs:List (κ×Value)}(r:KV kvs vs)(k:κ):jJ (iH kvs k) (afZ vs k):=by
 unfold KV at r
 induction r with
 | nil=>exact adF
 | @cons p q ps qs h t ih=>
  obtain⟨h1,h2⟩:=h;by_cases e:p.1=k
  ·have e':q.1=k:=h1.symm.trans e;have b:afZ (q::qs) k=some q.2:=by simp[afZ,abR,e']
   rw[qG e,b];exact h2
  ·have e':¬q.1=k:=fun z=>e (h1.trans z)
   have b:afZ (q::qs) k=afZ qs k:=by simp[afZ,abR,e']
   rw[qH e,b];exact ih
theorem KV.any{kvs:List (κ×V)}{vs:List (κ×Value)}(r:KV kvs vs)(k:κ):(kvs.any fun kv=>decide (kv.1=k))=vs.any fun kv=>decide (kv.1=k):=by
 unfold KV at r
 induction r with
 | nil=>rfl
 | cons h t ih=>rw[aca,aca,ih,h.1]
theorem KV.i8{kvs:List (κ×V)}{vs:List (κ×Value)}(r:KV kvs vs)(k:κ){y:V}{u:Value}(ry:RelV y u) :
  KV (kvs.map fun kv=>if kv.1=k then(kv.1,y) else kv) (vs.map fun kv=>if kv.1=k then(kv.1,u) else kv):=by
 unfold KV at r ⊢
 induction r with
 | nil=>exact .nil
 | @cons p q ps qs h t ih=>
  rw[aaX,aaX];refine .cons ?_ ih;obtain⟨h1,h2⟩:=h;by_cases e:p.1=k
  ·rw[if_pos e,if_pos (h1.symm.trans e)];exact⟨h1,ry⟩
  ·rw[if_neg e,if_neg (fun z=>e (h1.trans z))];exact⟨h1,h2⟩
theorem KV.put{kvs:List (κ×V)}{vs:List (κ×Value)}(r:KV kvs vs)(k:κ){y:V}{u:Value}(ry:RelV y u):KV (putK kvs k y) (stored vs k u):=by
 unfold putK stored;rw[r.any k];by_cases e:(vs.any fun kv=>decide (kv.1=k))=true
 ·rw[if_pos e,if_pos e];exact r.i8 k ry
 ·rw[if_neg e,if_neg e];exact Paired.snoc r ⟨rfl,ry⟩
theorem KV.keys{kvs:List (κ×V)}{vs:List (κ×Value)}(r:KV kvs vs):kvs.map (·.1)=vs.map (·.1):=by
 unfold KV at r
 induction r with
 | nil=>rfl
 | cons h t ih=>rw[aaX,aaX,ih,h.1]
theorem KV.length{kvs:List (κ×V)}{vs:List (κ×Value)}(r:KV kvs vs):kvs.length=vs.length:=adv r
end
variable{u:Value}
theorem rE{P:abw}{w:World}{k:Key}(r:RelV (kV k) u):(eE P w).is k u=true:=by
 cases k with
 | inl i=>obtain⟨t,e⟩:=(show ∃t,u=afO i t from r);subst e;exact M3 P w i t
 | inr x=>obtain⟨t,e⟩:=(show ∃t,u=agg x t from r);subst e;exact M4 P w x t
theorem EW{P:abw}{w:World}:∀{ks:List Key} {us:List Value},Vals (ks.map kV) us->ItemsAre (eE P w) ks us
 | [],_,r=>by rw[aet] at r;cases r;exact .nil
 | k::ks,_,r=>by
  rw[aaX] at r;cases r with
  | cons h t=>exact .cons (rE h) (EW t)
abbrev KT(H:Hp):List (List Key×V)->List (List Key×Addr×Value)->Prop:=adT fun p q=>p.1=q.1/\H q.2.1=some (.tup (p.1.map kV))/\RelV p.2 q.2.2
variable{H:Hp}{kvs:List (List Key×V)}{xs:List (List Key×Addr×Value)}
theorem KT.val(r:KT H kvs xs)(k:List Key):jJ (iH kvs k) ((atKey xs k).map (·.2)):=by
 induction r with
 | nil=>exact adF
 | @cons p q ps qs h t ih=>
  obtain⟨h1,_,h2⟩:=h;by_cases e:p.1=k
  ·have e':q.1=k:=h1.symm.trans e;have b:atKey (q::qs) k=some q.2:=by simp[atKey,abR,e']
   rw[qG e,b];exact h2
  ·have e':¬q.1=k:=fun z=>e (h1.trans z)
   have b:atKey (q::qs) k=atKey qs k:=by simp[atKey,abR,e']
   rw[qH e,b];exact ih
variable{y:V}
theorem KT.i8(r:KT H kvs xs)(k:List Key)(ry:RelV y u) :
  KT H (kvs.map fun kv=>if kv.1=k then(kv.1,y) else kv) (xs.map (putAt k u)):=by
 induction r with
 | nil=>exact .nil
 | @cons p q ps qs h t ih=>
  rw[aaX,aaX];refine .cons ?_ ih;obtain⟨h1,h2,h3⟩:=h;unfold putAt;by_cases e:p.1=k
  ·rw[if_pos e,if_pos (h1.symm.trans e)];exact⟨h1,h2,ry⟩
  ·rw[if_neg e,if_neg (fun z=>e (h1.trans z))];exact⟨h1,h2,h3⟩
theorem KT.put(r:KT H kvs xs)(k:List Key){b:Addr}(hb:H b=some (.tup (k.map kV)))(ry:RelV y u) :
  KT H (putK kvs k y) (storedH xs k b u):=by
 have e:(kvs.any fun kv=>decide (kv.1=k))=(atKey xs k).isSome:=by
  rw[Fq,(r.val k).qB,acH]
 unfold putK storedH;rw[e];by_cases q:(atKey xs k).isSome=true
 ·rw[if_pos q,if_pos q];exact r.i8 k ry
 ·rw[if_neg q,if_neg q];exact Paired.snoc r ⟨rfl,hb,ry⟩
theorem KT.keeps{H':Hp}(r:KT H kvs xs)(ht:∀b ys,H b=some (.tup ys)->H' b=some (.tup ys)):KT H' kvs xs:=
 adT.wR r fun _ _ z=>⟨z.1,ht _ _ z.2.1,z.2.2⟩
section
variable{P:abw}{w:World}{H:Hp}{h:Heap}{a:Addr}
theorem G3{u:HO}(ok:cQ P w H h)(e:Rd H a u):dr P w H h a u:=e.ok ok
theorem rF{kvs:List (Key×V)}(ok:cQ P w H h)(e:Rd H a (.dK kvs)):kvs.length<=aaH/\(a==acd)=false/\∃vs,KV kvs vs/\h.DictOf (eE P w) a vs:=
 show dr P w H h a (.dK kvs) from G3 ok e
theorem rG{kvs:List (Key×V)}(ok:cQ P w H h)(e:H a=some (.dK kvs)):kvs.length<=aaH/\(a==acd)=false/\∃vs,KV kvs vs/\h.DictOf (eE P w) a vs:=rF ok (.inl e)
theorem qY{ks:List Key}(ok:cQ P w H h)(e:H a=some (.tup (ks.map kV))):(afP (eE P w)).is h ks a:=by
 obtain⟨_,its,r,o,h1,h2,n,h3⟩:=(show dr P w H h a (.tup (ks.map kV)) from ok a _ e)
 exact⟨o,its.toArray,n,h1,h2,h3,by simpa using EW r⟩
theorem rH{kvs:List (List Key×V)}(ok:cQ P w H h)(e:Rd H a (.dT kvs)):kvs.length<=aaH/\(a==acd)=false /\
  ∃xs,KT H kvs xs/\h.DictOfH (afP (eE P w)) a xs:=by
 obtain⟨z,y,xs,r,o,es,ep,h1,h2,h3,h4,h5⟩:=(show dr P w H h a (.dT kvs) from G3 ok e)
 refine⟨z,y,xs,r,o,es,ep,h1,h2,h3,h4,fun x hx=>?_,h5⟩;have all:∀{l:List (List Key×V)} {m:List (List Key×Addr×Value)},KT H l m->∀x∈m,(afP (eE P w)).is h x.1 x.2.1:=by
  intro l m q
  induction q with
  | nil=>intro x hx;exact nomatch hx
  | @cons p q ps qs hq t ih=>
   intro x hx
   rcases aaO.mp hx with e | hx
   ·subst e;exact qY ok (by rw[<- hq.1];exact hq.2.1)
   ·exact ih x hx
 exact all r x hx
theorem AW{kvs:List (List Key×V)}(ok:cQ P w H h)(e:H a=some (.dT kvs)):kvs.length<=aaH/\(a==acd)=false /\
  ∃xs,KT H kvs xs/\h.DictOfH (afP (eE P w)) a xs:=rH ok (.inl e)
end
noncomputable def gy(H:Hp)(a:Addr)(y:V)(r:Option V):Prop:=
 (∃kvs k,Rd H a (.dK kvs)/\y=kV k/\r=iH kvs k)\/∃kvs k b,Rd H a (.dT kvs)/\y=.ref b/\H b=some (.tup (k.map kV))/\r=iH kvs k
noncomputable def wY(H:Hp)(a:Addr)(y v:V)(H':Hp):Prop:=
 (∃kvs k,H a=some (.dK kvs)/\y=kV k/\kvs.length<aaH/\H'=upd H a (.dK (putK kvs k v))) \/
 ∃kvs k b,H a=some (.dT kvs)/\y=.ref b/\H b=some (.tup (k.map kV))/\kvs.length<aaH/\H'=upd H a (.dT (putK kvs k v))
section
variable{X:Cx}{pins:List (Addr×Obj)}{σ:St}{H:Hp}{s:aaw}{a:Addr}{y v:V}{u r:Value}{o:Option V}{A:acM}{E:Value->aaw->Prop}
theorem Inv.big(I:Inv X pins σ H s):acd<s.heap.objs.size:=by
 have h:aaL<s.heap.objs.size:=(I.mod.glob.keeps I.bk).lt;exact Nat.lt_trans (by decide) h
variable{Q:Value->aaw->Prop}
theorem NV(hu:A.units+1<cLine)(I:Inv X pins σ H s)(g:gy H a y (some v))(ry:RelV y u)(h:∀w' s',Inv X pins σ H s'->RelV v w'->Q w' s') :
  wpAny (model X.prog X.w) A (getItem (.ref a) u) Q E s:=by
 rcases g with⟨kvs,k,e,ey,l⟩ | ⟨kvs,k,b,e,ey,eb,l⟩
 ·subst ey;obtain⟨z,hd,vs,rel,dd⟩:=rF I.aH e;obtain⟨w',hw,fR⟩:=jJ.some_of (v:=v) (o:=afZ vs k) (by rw[l];exact rel.val k);exact wpAny_getItem_of (rE ry) dd.mapOf hw (h w' _ (I.tok _) fR)
 ·subst ey;cases(show u=abv b from ry);obtain⟨z,hd,xs,rel,dd⟩:=rH I.aH e;obtain⟨w',hw,fR⟩:=jJ.some_of (v:=v) (o:=(atKey xs k).map (·.2)) (by rw[l];exact rel.val k);obtain⟨p,hp,iR⟩:=aaA.mp hw;refine wpAny_getItem_heap (adx hu) (qY I.aH eb) dd hp ?_;rw[iR];exact h w' _ (I.tok _) fR
theorem BZ(hu:A.units+1<cLine)(I:Inv X pins σ H s)(g:gy H a y o)(ry:RelV y u)(h:∀s',Inv X pins σ H s'->Q (.bool o.isSome) s') :
  wpAny (model X.prog X.w) A (abH .In u (.ref a)) Q E s:=by
 rcases g with⟨kvs,k,e,ey,l⟩ | ⟨kvs,k,b,e,ey,eb,l⟩
 ·subst ey;obtain⟨z,hd,vs,rel,dd⟩:=rF I.aH e;refine wpAny_in_of (rE ry) hd dd.mapOf ?_;rw[<- (rel.val k).qB,<- l];exact h _ (I.tok _)
 ·subst ey;cases(show u=abv b from ry);obtain⟨z,hd,xs,rel,dd⟩:=rH I.aH e;refine wpAny_in_heap (adx hu) (qY I.aH eb) hd dd ?_;have q:=(rel.val k).qB;rw[acH] at q;rw[<- q,<- l];exact h _ (I.tok _)
theorem zF(hu:A.units+1<cLine)(I:Inv X pins σ H s)(g:gy H a y o)(ry:RelV y u)(h:∀s',Inv X pins σ H s'->Q (.bool (!o.isSome)) s') :
  wpAny (model X.prog X.w) A (abH .NotIn u (.ref a)) Q E s:=by
 rcases g with⟨kvs,k,e,ey,l⟩ | ⟨kvs,k,b,e,ey,eb,l⟩
 ·subst ey;obtain⟨z,hd,vs,rel,dd⟩:=rF I.aH e;refine wpAny_notIn_of (rE ry) hd dd.mapOf ?_;rw[<- (rel.val k).qB,<- l];exact h _ (I.tok _)
 ·subst ey;cases(show u=abv b from ry);obtain⟨z,hd,xs,rel,dd⟩:=rH I.aH e;refine wpAny_notIn_heap (adx hu) (qY I.aH eb) hd dd ?_;have q:=(rel.val k).qB;rw[acH] at q;rw[<- q,<- l];exact h _ (I.tok _)
theorem FV{h':Heap}{t':Nat}{ob:HO}(I:Inv X pins σ H s)(mu:jL (H a))(hs:aeq a s.heap h')(he:∃q,h'.get? a=some q)(new:dr X.prog X.w (upd H a ob) h' a ob) :
  Inv X pins σ (upd H a ob) { s with heap:=h',toks:=t' }:=
 I.write (x:=a) (e:=a) mu (.inl rfl) (fun b q hb z=>(hs.2 b hb).trans z) he new
theorem S9{P:abw}{w:World}{H':Hp}{h':Heap}{kvs:List (Key×V)}{vs:List (Key×Value)}(z:kvs.length<=aaH)(hd:(a==acd)=false)(rel:KV kvs vs)(dd:h'.DictOf (eE P w) a vs) :
  dr P w H' h' a (.dK kvs):=⟨z,hd,vs,rel,dd⟩
theorem yQ{H':Hp}{Q:Unit->aaw->Prop}(hu:A.units+1<cLine)(I:Inv X pins σ H s)(g:wY H a y v H')(ry:RelV y u)(rv:RelV v r)(h:∀s',Inv X pins σ H' s'->Q () s') :
  wpAny (model X.prog X.w) A (setItem (.ref a) u r) Q E s:=by
 rcases g with⟨kvs,k,e,ey,l,eH⟩ | ⟨kvs,k,b,e,ey,eb,l,eH⟩
 ·subst ey eH;obtain⟨z,hd,vs,rel,dd⟩:=rG I.aH e;have hz:vs.length<=sizeLine:=by rw[<- rel.length];exact z
  have hl:(putK kvs k v).length<=sizeLine:=by have:=Eu kvs k v;omega
  refine wpAny_setItem_pairs (hsz:=hz) (rE ry) dd fun h' xQ hs=>h _ ?_
  have he:∃q,h'.get? a=some q:=let ⟨q,_,_,hq,_⟩:=xQ;⟨q,hq⟩
  exact FV I (by rw[e];exact adF) hs he (S9 hl hd (rel.put k rv) xQ)
 ·subst ey eH;cases(show u=abv b from ry);obtain⟨z,hd,xs,rel,dd⟩:=AW I.aH e;have hz:xs.length<=sizeLine:=by rw[<- adv rel];exact z
  have hl:(putK kvs k v).length<=sizeLine:=by have:=Eu kvs k v;omega
  refine wpAny_setItem_heap (hsz:=hz) (adx hu) (qY I.aH eb) dd fun h' xQ hs=>h _ ?_
  obtain⟨q,es,ep,hq,h2,h3,h4,_,h5⟩:=xQ;refine FV I (by rw[e];exact adF) hs ⟨q,hq⟩ ⟨hl,hd,_,(rel.put k eb rv).keeps fun c ys ec=>?_,q,es,ep,hq,h2,h3,h4,h5⟩;rw[aT (gq ec e (fun z=>nomatch z))];exact ec
end
theorem M6{X:Cx}{pins:List (Addr×Obj)}{σ:St}{s:aaw}{a:Addr}{o:Option V}(I:Inv X pins σ H s)(g:gy H a y o):s.TypeIs (.ref a) "dict":=by
 rcases g with⟨kvs,k,e,_,_⟩ | ⟨kvs,k,b,e,_,_,_⟩
 ·obtain⟨_,_,vs,_,dd⟩:=rF I.aH e;exact dd.typeIs
 ·obtain⟨_,_,xs,_,dd⟩:=rH I.aH e;exact dd.typeIs
theorem OY{P:abw}{w:World}(h:Heap)(hb:acd<h.objs.size):dr P w H (h.push { cls:=.type "dict",data:=.dict #[] }) h.objs.size (.dK []):=
 ⟨abA _,beq_eq_false_iff_ne.mpr (abD (aaW hb)),[],.nil,Heap.DictOf.new h⟩
noncomputable def Ta:TE:=fun _ H Q=>∀p,H p=none->Q (.ref p) (upd H p (.dK []))
section
variable{X:Cx}{pos:Pos}
theorem OZ:PE X (.Dict [] [] pos) Ta:=fun pins s σ H Q I h=>
 wpAny_Dict_empty ⟨.ref s.heap.objs.size,_,I.laid (a:=s.heap.objs.size) (o:=.dK []) (t':=s.toks) (fun _ _ q=>aas _ q) (aat _) (OY s.heap I.big),rfl,h _ (I.aH.fresh (aat _))⟩
end
end L2
namespace PySem
open Sem (wp)
noncomputable def kk(o:Obj):Value×Option Addr:=(o.cls,o.dict)
theorem Tb(o:Obj)(f:Array Value->Array Value):kk (acL f o)=kk o:=by
 obtain⟨c,d,dt,sl⟩:=o;cases dt <;> rfl
namespace Heap
noncomputable def zG(h base:Heap)(e:Addr)(cls:Value×Option Addr)(a0:Value):Prop:=
 ∃oe vs T oT ts,h.get? e=some oe/\(kk oe=cls/\vs[0]? =some a0)/\oe.data=.fields vs/\vs[1]? =some (.ref T)/\base.get? T=none/\T≠e/\h.get? T=some oT/\oT.data=.fields ts/\ts[3]? =some .none
end Heap
section
variable{M:Model}{A:acM}{E:Value->aaw->Prop}{s:aaw}
noncomputable def Heap.AX(base:Heap)(l:List Env)(e:Addr)(cls:Value×Option Addr)(a0:Value)(h h':Heap):Prop:=
 base.StaysIn h'/\h'.FunFrames base l/\h'.zG base e cls a0 /\
  ∀b o,h.get? b=some o->(∀vs,o.data≠.fields vs)->∃sl,h'.get? b=some { o with slots:=sl }
variable{env:Env}{L:Addr}{a0:Value}{Q:Unit->aaw->Prop}
theorem Ei {base : Heap} {outer : List Env} {e : Addr} {oe : Obj} {vs : Array Value} {head : Value} {QB : Bool}
    (gX : A.frames = some (env :: outer)) (hl : s.heap.FunFrames base (env :: outer)) (hf : env.frame = some L)
    (he : s.heap.get? e = some oe) (lJ : base.StaysIn s.heap) (sJ : base.get? e = none) (hd : oe.data = .fields vs) (hsz : 1 < vs.size) (h0 : vs[0]? = some a0)
    (h : ∀ h', Heap.AX base (env :: outer) e (kk oe) a0 s.heap h' -> Q () { s with heap := h' }) :
    wpAny M A (do let a <- frameOf env; let pl <- entryPlaceOf L QB; let b <- afI head a .none (adU L) .none pl; setField (.ref e) 1 b) (fun _ s' => wpAny M A (setFlight (.ref e) none) Q E s') E s := by
  have WP : e ∉ (env :: outer).filterMap (·.frame) := fun hm => by
    obtain ⟨_, o, ho, gY⟩ := hl.mem hm;rw [he] at ho; injection ho with ho; subst ho; exact gY vs hd
  refine aaq (wpAny_frameOf_fun gX hl hf fun cN xR => ?_);refine aaq (wpAny_entryPlaceOf fun pl hpl => ?_);unfold afI newFields;refine aaq (abu ?_ (hpl.sizeOk5 _ _ _ _ _));have Iz : cN.get? e = some oe := (xR.2.1 e WP).trans he;have IB : base.StaysIn cN := fun b o eI => (xR.2.1 b fun hm => by rw [(hl.mem hm).1] at eI; cases eI).trans (lJ b o eI)
  have IC := aas (h := cN) { cls := .type "traceback", dict := none, data := .fields ([head, .ref L, .none, adU L, .none] ++ (if pl.isEmpty then aaF 6 abT else pl)).toArray } Iz;refine adH IC hd hsz ?_;have lK : cN.objs.size ≠ e := abU (aax Iz);have C0 := acQ hd (·.setIfInBounds 1 (abv cN.objs.size));have ID := acw (acL (·.setIfInBounds 1 (abv cN.objs.size))) IC (adL C0);have IF := (abz (cN.push { cls := .type "traceback", dict := none, data := .fields ([head, .ref L, .none, adU L, .none] ++ (if pl.isEmpty then aaF 6 abT else pl)).toArray })
    (acL (·.setIfInBounds 1 (abv cN.objs.size))) (abD lK)).trans (aaI cN rfl)
  unfold setFlight;refine aaq (adC ID C0 (x := .ref cN.objs.size) (by simp [hsz]) ?_);rw [if_pos (show (abv cN.objs.size != abT) = true from by simp)];refine adH IF rfl (by simp only [aaB, aaU, abb, afg] <;> omega) (h _ ?_);have keep : ∀ b o, b ≠ e -> cN.get? b = some o →
      (((cN.push { cls := .type "traceback", dict := none, data := .fields ([head, .ref L, .none, adU L, .none] ++ (if pl.isEmpty then aaF 6 abT else pl)).toArray }).update e (acL (·.setIfInBounds 1 (abv cN.objs.size)))).update cN.objs.size
        (acL (·.setIfInBounds 3 ((none : Option Addr).elim abT fun f => adU f)))).get? b = some o := fun b o kx hb => by
    have XU : cN.objs.size ≠ b := abU (aax hb);rw [abz _ _ XU, abz _ _ (abD kx)];exact aas _ hb
  have qI : ∀ b o, s.heap.get? b = some o -> (∀ vs, o.data ≠ .fields vs) -> b ≠ e := fun b o hb gY q => by
    rw [q, he] at hb; injection hb with hb; subst hb; exact gY vs hd
  refine ⟨fun b o eI => keep b o (fun q => by rw [q, sJ] at eI; cases eI) (IB b o eI), hl.of_keeps fun b o hb gY => ?_, ?_, fun b o hb gY => ?_⟩
  · obtain ⟨sl, hs⟩ := xR.2.2 b o hb
    exact ⟨_, keep b _ (qI b o hb gY) hs, rfl⟩
  · refine ⟨_, _, cN.objs.size, _, _, ?_, ⟨Tb _ _, by rw [Array.getElem?_setIfInBounds_ne (by decide)]; exact h0⟩, C0, by simp [hsz], IB.fresh, lK, acw _ IF (adL (acQ rfl _)), acQ rfl _, by first | (simp; done) | (rcases hpl with rfl | ⟨_, _, _, _, _, _, _, rfl⟩ <;> simp)⟩
    rw [abz _ _ lK]; exact ID
  · obtain ⟨sl, hs⟩ := xR.2.2 b o hb
    exact ⟨sl, keep b _ (qI b o hb gY) hs⟩
theorem Kr{base:Heap}{outer:List Env}{e:Addr}{oe:Obj}{vs:Array Value}
  (gX:A.frames=some (env::outer)) (hl:s.heap.FunFrames base (env::outer)) (hf:env.frame=some L)
  (he:s.heap.get? e=some oe) (lJ:base.StaysIn s.heap) (sJ:base.get? e=none) (hd:oe.data=.fields vs) (h1:vs[1]? =some .none) (h0:vs[0]? =some a0)
  (h:∀h',Heap.AX base (env::outer) e (kk oe) a0 s.heap h'->Q () { s with heap:=h' }):wpAny M A (aez env (.ref e)) Q E s:=by
 unfold aez noteFrame;simp only[hf];refine aaq (aaq (adC he hd h1 ?_));rw[if_neg (by decide)];exact Ei gX hl hf he lJ sJ hd (adg.mp h1).1 h0 h
theorem Ku{base:Heap}{outer:List Env}{e:Addr}{cls:Value×Option Addr}
  (gX:A.frames=some (env::outer)) (hl:s.heap.FunFrames base (env::outer)) (hf:env.frame=some L) (ht:s.heap.zG base e cls a0) (lJ:base.StaysIn s.heap) (sJ:base.get? e=none)
  (h:∀h',Heap.AX base (env::outer) e cls a0 s.heap h'->Q () { s with heap:=h' }):wpAny M A (aez env (.ref e)) Q E s:=by
 obtain⟨oe,vs,T,oT,ts,he,⟨BN,h0⟩,hd,h1,XW,lK,hT,C1,h3⟩:=ht;subst BN;unfold aez noteFrame;simp only[hf];refine aaq (aaq (adC he hd h1 ?_));rw[if_pos (show(abv T != abT)=true from by simp)];refine aaq (adC hT C1 h3 ?_);rw[if_neg (show ¬((abT==adU L)=true) from by simp[adU])];refine aaq (adH hT C1 (adg.mp h3).1 ?_);have other:∀b,b≠T->(s.heap.update T (acL (·.setIfInBounds 3 abT))).get? b=s.heap.get? b:=fun b hb=>abz _ _ (abD hb)
 have qI:∀b o,s.heap.get? b=some o->(∀vs,o.data≠.fields vs)->b≠T:=fun b o hb gY q=>by
  rw[q,hT] at hb;injection hb with hb;subst hb;exact gY ts C1
 refine Ei gX (hl.of_keeps fun b o hb gY=>⟨o,(other b (qI b o hb gY)).trans hb,rfl⟩) hf ((other e (abD lK)).trans he)
  (fun b o eI=>(other b fun q=>by rw[q,XW] at eI;cases eI).trans (lJ b o eI)) sJ hd (adg.mp h1).1 h0
  fun h' ⟨x1,x2,x3,x4⟩=>h h' ⟨x1,x2,x3,fun b o hb gY=>x4 b o ((other b (qI b o hb gY)).trans hb) gY⟩
noncomputable def Heap.vH(base:Heap)(l:List Env)(e:Addr)(cls:Value×Option Addr)(a0:Value)(h:Heap):Prop:=
 base.StaysIn h/\base.get? e=none/\h.FunFrames base l/\h.zG base e cls a0
theorem K7{base:Heap}{outer:List Env}{e:Addr}{cls:Value×Option Addr}
  (gX:A.frames=some (env::outer)) (hf:env.frame=some L) (m3:Heap.vH base (env::outer) e cls a0 s.heap)
  (hQ:∀h',Heap.vH base outer e cls a0 h'->s.heap.UpToSlots h'->Q () { s with heap:=h' }):wpAny M A (aez env (.ref e)) Q E s:=by
 obtain⟨f1,f2,f3,f4⟩:=m3;refine Ku gX f3 hf f4 f1 f2 fun h' hL=>?_
 obtain⟨k1,⟨_,_,k2⟩,k3,k4⟩:=hL;exact hQ h' ⟨k1,f2,k2,k3⟩ k4
end
end PySem
namespace IL
open PySem PySem.Spec PyProof.Rows L2
inductive W where
 | aJ | bl (b:Bool) | int (i:Int) | str (x:Str) | tup (ws:List W) | fl (ws:List W) | ref (i:Nat) | exc (c:Str) (ns:List Str) (ws:List W) | fn (x:Str) (ws:List W) | kt (ws:List W)
mutual
noncomputable def W.dec:(a b:W)->Decidable (a=b)
 | .aJ,.aJ=>abc rfl
 | .bl a,.bl b=>if h:a=b then abc (by rw[h]) else aaz (fun e=>h (W.bl.inj e))
 | .int a,.int b=>if h:a=b then abc (by rw[h]) else aaz (fun e=>h (W.int.inj e))
 | .str a,.str b=>if h:a=b then abc (by rw[h]) else aaz (fun e=>h (W.str.inj e))
 | .tup a,.tup b=>match W.oD a b with
  | abc h=>abc (by rw[h])
  | aaz h=>aaz (fun e=>h (W.tup.inj e))
 | .fl a,.fl b=>match W.oD a b with
  | abc h=>abc (by rw[h])
  | aaz h=>aaz (fun e=>h (W.fl.inj e))
 | .ref a,.ref b=>if h:a=b then abc (by rw[h]) else aaz (fun e=>h (W.ref.inj e))
 | .exc c ns a,.exc c' ie b=>match W.oD a b with
  | abc h=>if h1:c=c' then if h2:ns=ie then abc (by rw[h,h1,h2]) else aaz (fun e=>h2 (W.exc.inj e).2.1) else aaz (fun e=>h1 (W.exc.inj e).1)
  | aaz h=>aaz (fun e=>h (W.exc.inj e).2.2)
 | .fn c a,.fn c' b=>match W.oD a b with
  | abc h=>if h1:c=c' then abc (by rw[h,h1]) else aaz (fun e=>h1 (W.fn.inj e).1)
  | aaz h=>aaz (fun e=>h (W.fn.inj e).2)
 | .kt a,.kt b=>match W.oD a b with
  | abc h=>abc (by rw[h])
  | aaz h=>aaz (fun e=>h (W.kt.inj e))
 | .aJ,.bl _ | .aJ,.int _ | .aJ,.str _ | .aJ,.tup _ | .aJ,.fl _ | .aJ,.ref _ | .aJ,.exc _ _ _=>aaz (fun e=>nomatch e)
 | .bl _,.aJ | .bl _,.int _ | .bl _,.str _ | .bl _,.tup _ | .bl _,.fl _ | .bl _,.ref _ | .bl _,.exc _ _ _=>aaz (fun e=>nomatch e)
 | .int _,.aJ | .int _,.bl _ | .int _,.str _ | .int _,.tup _ | .int _,.fl _ | .int _,.ref _ | .int _,.exc _ _ _=>aaz (fun e=>nomatch e)
 | .str _,.aJ | .str _,.bl _ | .str _,.int _ | .str _,.tup _ | .str _,.fl _ | .str _,.ref _ | .str _,.exc _ _ _=>aaz (fun e=>nomatch e)
 | .tup _,.aJ | .tup _,.bl _ | .tup _,.int _ | .tup _,.str _ | .tup _,.fl _ | .tup _,.ref _ | .tup _,.exc _ _ _=>aaz (fun e=>nomatch e)
 | .fl _,.aJ | .fl _,.bl _ | .fl _,.int _ | .fl _,.str _ | .fl _,.tup _ | .fl _,.ref _ | .fl _,.exc _ _ _=>aaz (fun e=>nomatch e)
 | .ref _,.aJ | .ref _,.bl _ | .ref _,.int _ | .ref _,.str _ | .ref _,.tup _ | .ref _,.fl _ | .ref _,.exc _ _ _=>aaz (fun e=>nomatch e)
 | .exc _ _ _,.aJ | .exc _ _ _,.bl _ | .exc _ _ _,.int _ | .exc _ _ _,.str _ | .exc _ _ _,.tup _ | .exc _ _ _,.fl _ | .exc _ _ _,.ref _=>aaz (fun e=>nomatch e)
 | .aJ,.fn _ _ | .bl _,.fn _ _ | .int _,.fn _ _ | .str _,.fn _ _ | .tup _,.fn _ _ | .fl _,.fn _ _ | .ref _,.fn _ _ | .exc _ _ _,.fn _ _=>aaz (fun e=>nomatch e)
 | .fn _ _,.aJ | .fn _ _,.bl _ | .fn _ _,.int _ | .fn _ _,.str _ | .fn _ _,.tup _ | .fn _ _,.fl _ | .fn _ _,.ref _ | .fn _ _,.exc _ _ _=>aaz (fun e=>nomatch e)
 | .aJ,.kt _ | .bl _,.kt _ | .int _,.kt _ | .str _,.kt _ | .tup _,.kt _ | .fl _,.kt _ | .ref _,.kt _ | .exc _ _ _,.kt _ | .fn _ _,.kt _=>aaz (fun e=>nomatch e)
 | .kt _,.aJ | .kt _,.bl _ | .kt _,.int _ | .kt _,.str _ | .kt _,.tup _ | .kt _,.fl _ | .kt _,.ref _ | .kt _,.exc _ _ _ | .kt _,.fn _ _=>aaz (fun e=>nomatch e)
noncomputable def W.oD:(a b:List W)->Decidable (a=b)
 | [],[]=>abc rfl
 | a::as,b::bs=>match W.dec a b,W.oD as bs with
  | abc h,abc h'=>abc (by rw[h,h'])
  | aaz h,_=>aaz (fun e=>h (ady e).1)
  | _,aaz h=>aaz (fun e=>h (ady e).2)
 | [],_::_ | _::_,[]=>aaz (fun e=>nomatch e)
end
instance:DecidableEq W:=W.dec
inductive PO where
 | lst (ws:List W)
 | aG (kvs:List (W×W))
 | obj (c:Str) (fs:List (Str×W))
 | cF (kvs:List (W×W))
 | pd (kvs:List (W×W))
 deriving DecidableEq
noncomputable def PO.fz:PO->Bool
 | .cF _=>true
 | _=>false
abbrev PH:=List PO
abbrev Po(α:Type):=PH->Option (α×PH)
variable{α:Type}
noncomputable def ret(a:α):Po α:=fun ph=>some (a,ph)
noncomputable def fc:Po α:=fun _=>none
structure XC where
 cls:Str
 fs:List (Str×W)
inductive Out(α:Type) where
 | ok (a:α) (ph:PH)
 | ex (x:XC) (ph:PH)
 | no
noncomputable def Out.Run(r:Out α)(N:α->PH->Prop)(E:XC->PH->Prop):Prop:=match r with
 | .ok a ph=>N a ph
 | .ex x ph=>E x ph
 | .no=>False
variable{E:XC->PH->Prop}
theorem Out.Run.mono{r:Out α}{N N':α->PH->Prop}{E':XC->PH->Prop}(h:r.Run N E)(hn:∀a ph,N a ph->N' a ph)(he:∀x ph,E x ph->E' x ph):r.Run N' E':=by
 cases r with
 | ok a ph=>exact hn a ph h
 | ex x ph=>exact he x ph h
 | no=>exact h
abbrev Mo(α:Type):=PH->Out α
noncomputable def aA(a:α):Mo α:=fun ph=>.ok a ph
noncomputable def eJ:Mo α:=fun _=>.no
noncomputable def lift(o:Po α):Mo α:=fun ph=>match o ph with
 | some p=>.ok p.1 p.2
 | none=>.no
noncomputable def au{β:Type}(m:Mo α)(f:α->Mo β):Mo β:=fun ph=>match m ph with
 | .ok a ph'=>f a ph'
 | .ex x ph'=>.ex x ph'
 | .no=>.no
variable{ph:PH}
theorem cS{β:Type}{m:Mo α}{f:α->Mo β}{N:β->PH->Prop}:(au m f ph).Run N E=(m ph).Run (fun a ph1=>(f a ph1).Run N E) E:=by
 unfold au;cases m ph <;> rfl
theorem run_lift{o:Po α}{N:α->PH->Prop}(h:(lift o ph).Run N E):∃a ph',o ph=some (a,ph')/\N a ph':=by
 unfold lift at h;cases e:o ph with
 | none=>rw[e] at h;exact h.elim
 | some p=>rw[e] at h;exact⟨p.1,p.2,rfl,h⟩
abbrev aS:=List (Option W)
abbrev EM:=aS->Mo W
abbrev TM:=aS->Mo Bool
abbrev AM:=aS->Mo (List W)
inductive Fl where
 | nx (σ:aS) | rt (w:W) | bk (σ:aS) | ct (σ:aS)
abbrev SM:=aS->Mo Fl
noncomputable def KL(K:aao)(a:Addr)(xs:List V):Prop:=
 ∃(o:Obj) (its:Array Value) (n:Nat),K.lookup a=some o/\o.cls=.type "list"/\o.dict=none/\o.data=.seq its n/\its.size<=aaH/\Vals xs its.toList
noncomputable def wZ(K:aao)(H:Hp)(a:Addr)(xs:List V):Prop:=(∃o,H a=some (.aL o (.lst xs)))\/KL K a xs
variable{K:aao}{H:Hp}
theorem wZ.sq{a:Addr}{xs:List V}(h:wZ K H a xs):bA K H a xs:=by
 rcases h with⟨o,h⟩ | h
 ·exact .inl (.inr ⟨o,h⟩)
 ·exact .inr h
noncomputable def lp(H:Hp)(o:Obj)(ns:List Str)(vs:List V):Prop:=(ns=[]/\vs=[])\/∃d od,o.dict=some d/\ns.length=vs.length/\H d=some (.aL od (.xd (ns.zip vs)))
abbrev dz:HO:=.ext fun _=>True
structure jN where
 ar:Arguments
 bd:Expr
 sc:Scope
 pos:Pos
noncomputable def WQ:Stmt->Option jN
 | .Return (some (.Call _ [_,.Lambda a b s p] _ _)) _=>some ⟨a,b,s,p⟩
 | .Assign _ (.Call _ [.Call _ [_,.Lambda a b s p] _ _] _ _) _=>some ⟨a,b,s,p⟩
 | .Assign _ (.Call _ [_,.Lambda a b s p] _ _) _=>some ⟨a,b,s,p⟩
 | _=>none
noncomputable def B0(l:List Stmt):Option jN:=l.findSome? WQ
noncomputable def jD(K:aao)(x:Str):Option jN:=match abn K aaL x with
 | some (some (.ref f))=>(match K.lookup f with
  | some ⟨_,_,.func fd,_⟩=>(match fd.body with
   | .stmts b=>B0 b
   | _=>none)
  | _=>none)
 | _=>none
noncomputable def fL(K:aao):List (Str×Addr×Addr):=match K.lookup aaL with
 | some ⟨_,_,.dict es _,_⟩=>es.toList.filterMap fun e=>match e.key with
  | .str x _=>if(jD K x).isSome then(PySem.W.tabIn K x).map (x,·) else none
  | _=>none
 | _=>[]
noncomputable def rY(x:Str):Str:=(x++".<locals>.")++"<lambda>"
noncomputable def om(H:Hp)(v:Value)(x:Str):Prop:=∃c oc vs t,v=.ref c/\H c=some (.aL oc dz)/\oc.data=.fields vs/\vs[1]? =some (.str (rY x) t)
noncomputable def i9(H:Hp)(x:Str)(P:Addr):Prop:=∃ps,H P=some (.ff ps)/\acT ps.toList/\∀pos v,afh pos ps.toList=some v->om H v x
noncomputable def w4(L:jN):List Str:=((L.sc.names.filter fun p=>p.2==.free).map (·.1)).reverse
noncomputable def oE(K:aao)(H:Hp)(x:Str)(o:Obj)(cl:List (Str×Addr)):Prop:=∃L pm v ig,jD K x=some L/\o={ cls:=.type "function",data:=.func (aeA "<lambda>" (rY x) L.ar L.bd L.sc cl pm v ig) }/\om H v x /\
 (cl.length=2->cl.map (·.1)=w4 L)/\∀y,L.sc.names.lookup y=some .free->∃c,cl.lookup y=some c
noncomputable def kZ(H:Hp):List (Str×Addr)->List V->Prop
 | [],[]=>True
 | p::cl,v::vs=>(∃oc u,H p.2=some (.aL oc dz)/\oc.data=.cell (some u)/\RelV v u)/\(∀z∈cl,z.2≠p.2)/\kZ H cl vs
 | _,_=>False
noncomputable def WR(K:aao)(a:Addr)(vs:List V):Prop:=∃(o:Obj) (its:Array Value) (n:Nat),K.lookup a=some o/\o.cls=.type "tuple"/\o.data=.seq its n/\its.size<=aaH/\Vals vs its.toList
mutual
inductive aK(K:aao)(φ:Nat->Addr)(n:Nat)(H:Hp):W->V->Prop where
 | aJ:aK K φ n H .aJ .aJ
 | bl (b:Bool):aK K φ n H (.bl b) (.bl b)
 | int (i:Int):aK K φ n H (.int i) (.int i)
 | str (x:Str):aK K φ n H (.str x) (.str x)
 | tup {ws:List W} {a:Addr} {vs:List V} (h:H a=some (.tup vs)) (r:aM K φ n H ws vs):aK K φ n H (.tup ws) (.ref a)
 | fl {ws:List W} {a:Addr} {vs:List V} (h:wZ K H a vs) (r:aM K φ n H ws vs):aK K φ n H (.fl ws) (.ref a)
 | ref {i:Nat} (h:i<n):aK K φ n H (.ref i) (.ref (φ i))
 | exc {c:Str} {ns:List Str} {ws:List W} {a C:Addr} {vs:List V} {o:Obj} {u:HO} (h:H a=some (.aL o u)) (hc:o.cls=.ref C) (hn:abn K aaL c=some (some (.ref C))) (hk:PySem.W.notCls o=true) (hf:lp H o ns vs) (r:aM K φ n H ws vs):aK K φ n H (.exc c ns ws) (.ref a)
 | fn {x:Str} {ws:List W} {a:Addr} {vs:List V} {o:Obj} {cl:List (Str×Addr)} (h:H a=some (.aL o dz)) (hl:oE K H x o cl) (hc:kZ H cl vs) (r:aM K φ n H ws vs):aK K φ n H (.fn x ws) (.ref a)
 | kt {ws:List W} {a:Addr} {vs:List V} (h:WR K a vs) (r:aM K φ n H ws vs):aK K φ n H (.kt ws) (.ref a)
inductive aM(K:aao)(φ:Nat->Addr)(n:Nat)(H:Hp):List W->List V->Prop where
 | nil:aM K φ n H [] []
 | cons {w:W} {v:V} {ws:List W} {vs:List V} (h:aK K φ n H w v) (r:aM K φ n H ws vs):aM K φ n H (w::ws) (v::vs)
end
structure Step(K:aao)(φ:Nat->Addr)(n:Nat)(H:Hp)(ap:Nat->Addr)(n':Nat)(H':Hp):Prop where
 le:n<=n'
 eq:∀i,i<n->ap i=φ i
 tup:∀a xs,H a=some (.tup xs)->H' a=some (.tup xs)
 aL:∀a o u,H a=some (.aL o u)->H' a=some (.aL o u)
section
variable{K:aao}{φ ap C2:Nat->Addr}{n n' C3:Nat}{H H' gE:Hp}
theorem Step.refl:Step K φ n H φ n H:=⟨aat _,fun _ _=>rfl,fun _ _ h=>h,fun _ _ _ h=>h⟩
theorem Step.trans(a:Step K φ n H ap n' H')(b:Step K ap n' H' C2 C3 gE):Step K φ n H C2 C3 gE:=
 ⟨aaN a.le b.le,fun i h=>(b.eq i (aay h a.le)).trans (a.eq i h),fun c xs h=>b.tup c xs (a.tup c xs h),fun c o u h=>b.aL c o u (a.aL c o u h)⟩
theorem lp.mono(s:Step K φ n H ap n' H'){o:Obj}{ns:List Str}{vs:List V}(h:lp H o ns vs):lp H' o ns vs:=
 h.imp_right fun⟨d,od,e1,e2,e3⟩=>⟨d,od,e1,e2,s.aL _ _ _ e3⟩
theorem om.mono{v:Value}{x:Str}(h:om H v x)(s:∀a o,H a=some (.aL o dz)->H' a=some (.aL o dz)):om H' v x:=
 let ⟨c,oc,vs,t,e1,e2,e3⟩:=h;⟨c,oc,vs,t,e1,s _ _ e2,e3⟩
theorem oE.mono{x:Str}{o:Obj}{cl:List (Str×Addr)}(h:oE K H x o cl)(s:∀a o,H a=some (.aL o dz)->H' a=some (.aL o dz)):oE K H' x o cl:=
 let ⟨L,pm,v,ig,e1,e2,e3,e4⟩:=h;⟨L,pm,v,ig,e1,e2,e3.mono s,e4⟩
theorem kZ.mono(s:∀a o,H a=some (.aL o dz)->H' a=some (.aL o dz)):∀{cl:List (Str×Addr)} {vs:List V},kZ H cl vs->kZ H' cl vs
 | [],[],_=>trivial
 | _::_,_::_,⟨⟨oc,u,e1,e2⟩,d,r⟩=>⟨⟨oc,u,s _ _ e1,e2⟩,d,kZ.mono s r⟩
 | [],_::_,h=>h.elim
 | _::_,[],h=>h.elim
mutual
theorem aK.mono(s:Step K φ n H ap n' H'):∀{w:W} {v:V},aK K φ n H w v->aK K ap n' H' w v
 | _,_,.aJ=>.aJ
 | _,_,.bl b=>.bl b
 | _,_,.int i=>.int i
 | _,_,.str x=>.str x
 | _,_,.tup h r=>.tup (s.tup _ _ h) (aM.mono s r)
 | _,_,.fl h r=>.fl (h.elim (fun⟨o,e⟩=>.inl ⟨o,s.aL _ _ _ e⟩) .inr) (aM.mono s r)
 | _,_,.ref (i:=i) h=>(s.eq i h)▸.ref (aay h s.le)
 | _,_,.exc h hc hn hk hf r=>.exc (s.aL _ _ _ h) hc hn hk (hf.mono s) (aM.mono s r)
 | _,_,.fn h hl hc r=>.fn (s.aL _ _ _ h) (hl.mono fun a o z=>s.aL a o _ z) (hc.mono fun a o z=>s.aL a o _ z) (aM.mono s r)
 | _,_,.kt h r=>.kt h (aM.mono s r)
theorem aM.mono(s:Step K φ n H ap n' H'):∀{ws:List W} {vs:List V},aM K φ n H ws vs->aM K ap n' H' ws vs
 | _,_,.nil=>.nil
 | _,_,.cons h r=>.cons (aK.mono s h) (aM.mono s r)
end
theorem aM.length:∀{ws:List W} {vs:List V},aM K φ n H ws vs->ws.length=vs.length
 | _,_,.nil=>rfl
 | _,_,.cons _ r=>by simp[aM.length r]
theorem aM.get:∀{ws:List W} {vs:List V} {i:Nat} {w:W},aM K φ n H ws vs->ws[i]? =some w->∃v,vs[i]? =some v/\aK K φ n H w v
 | _,_,_,_,.nil,e=>by simp at e
 | _,_,0,_,.cons h _,e=>by simp at e;subst e;exact⟨_,rfl,h⟩
 | _,_,i+1,w,.cons _ r,e=>by
  obtain⟨u,h1,h2⟩:=aM.get (i:=i) (w:=w) r (by simpa using e);exact⟨u,by simpa using h1,h2⟩
theorem aM.append:∀{ws xs:List W} {vs us:List V},aM K φ n H ws vs->aM K φ n H xs us->aM K φ n H (ws++xs) (vs++us)
 | _,_,_,_,.nil,s=>s
 | _,_,_,_,.cons h r,s=>.cons h (aM.append r s)
theorem aM.take:∀{ws:List W} {vs:List V} (k:Nat),aM K φ n H ws vs->aM K φ n H (ws.take k) (vs.take k)
 | _,_,0,_=>.nil
 | _,_,_+1,.nil=>.nil
 | _,_,k+1,.cons h r=>.cons h (aM.take k r)
theorem aM.drop:∀{ws:List W} {vs:List V} (k:Nat),aM K φ n H ws vs->aM K φ n H (ws.drop k) (vs.drop k)
 | _,_,0,r=>r
 | _,_,_+1,.nil=>.nil
 | _,_,k+1,.cons h r=>aM.drop k r
theorem aM.set{w:W}{v:V}(q:aK K φ n H w v):∀{ws:List W} {vs:List V} (i:Nat),aM K φ n H ws vs->aM K φ n H (ws.set i w) (vs.set i v)
 | _,_,_,.nil=>.nil
 | _,_,0,.cons _ r=>.cons q r
 | _,_,i+1,.cons h r=>.cons h (aM.set q i r)
theorem aM.reverse:∀{ws:List W} {vs:List V},aM K φ n H ws vs->aM K φ n H ws.reverse vs.reverse
 | _,_,.nil=>.nil
 | _,_,.cons h r=>by simp only[List.reverse_cons];exact aM.append (aM.reverse r) (.cons h .nil)
end
noncomputable def bW:Key->W
 | .inl i=>.int i
 | .inr x=>.str x
inductive bX(K:aao)(φ:Nat->Addr)(n:Nat)(H:Hp):List (W×W)->List (Key×V)->Prop where
 | nil:bX K φ n H [] []
 | cons {k:Key} {w:W} {v:V} {kws:List (W×W)} {kvs:List (Key×V)} (h:aK K φ n H w v) (r:bX K φ n H kws kvs):bX K φ n H ((bW k,w)::kws) ((k,v)::kvs)
inductive ce(K:aao)(φ:Nat->Addr)(n:Nat)(H:Hp):List (W×W)->List (List Key×V)->Prop where
 | nil:ce K φ n H [] []
 | cons {k:List Key} {w:W} {v:V} {kws:List (W×W)} {kvs:List (List Key×V)} (h:aK K φ n H w v) (r:ce K φ n H kws kvs):ce K φ n H ((.tup (k.map bW),w)::kws) ((k,v)::kvs)
theorem bX.mono{K:aao}{φ ap:Nat->Addr}{n n':Nat}{H H':Hp}(s:Step K φ n H ap n' H'):∀{ws:List (W×W)} {vs:List (Key×V)},bX K φ n H ws vs->bX K ap n' H' ws vs
 | _,_,.nil=>.nil
 | _,_,.cons h r=>.cons (h.mono s) (bX.mono s r)
theorem ce.mono{K:aao}{φ ap:Nat->Addr}{n n':Nat}{H H':Hp}(s:Step K φ n H ap n' H'):∀{ws:List (W×W)} {vs:List (List Key×V)},ce K φ n H ws vs->ce K ap n' H' ws vs
 | _,_,.nil=>.nil
 | _,_,.cons h r=>.cons (h.mono s) (ce.mono s r)
inductive iI(K:aao)(φ:Nat->Addr)(n:Nat)(H:Hp):List (W×W)->List (V×V)->Prop where
 | nil:iI K φ n H [] []
 | cons {k w:W} {u v:V} {kws:List (W×W)} {kvs:List (V×V)} (hk:aK K φ n H k u) (h:aK K φ n H w v) (r:iI K φ n H kws kvs):iI K φ n H ((k,w)::kws) ((u,v)::kvs)
theorem iI.mono{K:aao}{φ ap:Nat->Addr}{n n':Nat}{H H':Hp}(s:Step K φ n H ap n' H'):∀{ws:List (W×W)} {vs:List (V×V)},iI K φ n H ws vs->iI K ap n' H' ws vs
 | _,_,.nil=>.nil
 | _,_,.cons hk h r=>.cons (hk.mono s) (h.mono s) (iI.mono s r)
inductive iJ(K:aao)(φ:Nat->Addr)(n:Nat)(H:Hp):List (Str×W)->List (Str×V)->Prop where
 | nil:iJ K φ n H [] []
 | cons {f:Str} {w:W} {v:V} {fs:List (Str×W)} {vs:List (Str×V)} (h:aK K φ n H w v) (r:iJ K φ n H fs vs):iJ K φ n H ((f,w)::fs) ((f,v)::vs)
theorem iJ.mono{K:aao}{φ ap:Nat->Addr}{n n':Nat}{H H':Hp}(s:Step K φ n H ap n' H'):∀{ws:List (Str×W)} {vs:List (Str×V)},iJ K φ n H ws vs->iJ K ap n' H' ws vs
 | _,_,.nil=>.nil
 | _,_,.cons h r=>.cons (h.mono s) (iJ.mono s r)
noncomputable def jE(K:aao)(φ:Nat->Addr)(n:Nat)(H:Hp)(o:PO)(a:Addr):Prop:=match o with
 | .lst ws=>∃vs,H a=some (.lst vs)/\aM K φ n H ws vs
 | .aG kws=>(∃kvs,H a=some (.dK kvs)/\bX K φ n H kws kvs)\/∃kvs,H a=some (.dT kvs)/\ce K φ n H kws kvs
 | .obj c fs=>∃C dx vs,abn K aaL c=some (some (.ref C))/\H a=some (.ins C dx vs)/\iJ K φ n H fs vs
 | .pd kws=>∃kvs,H a=some (.dU kvs)/\iI K φ n H kws kvs/\(kws.map (·.1)).Nodup
 | .cF kws=>∃o,o.cls=.type "dict"/\((∃kvs,H a=some (.aL o (.dK kvs))/\bX K φ n H kws kvs)\/∃kvs,H a=some (.aL o (.dT kvs))/\ce K φ n H kws kvs)
structure aD(K:aao)(φ:Nat->Addr)(ph:PH)(H:Hp):Prop where
 hp:∀i o,ph[i]? =some o->jE K φ ph.length H o (φ i)
 inj:∀i j,i<ph.length->j<ph.length->φ i=φ j->i=j
 tb:∀p∈fL K,i9 H p.1 p.2.2
theorem i9.upd{H:Hp}{x:Str}{P a:Addr}{o:HO}(h:i9 H x P)(n1:∀ps,H a≠some (.ff ps))(n2:∀oc,H a≠some (.aL oc dz)):i9 (upd H a o) x P:=by
 obtain⟨ps,e1,e2,e3⟩:=h;refine⟨ps,?_,e2,fun pos v e=>?_⟩
 ·rw[aT (fun z=>n1 ps (by rw[<- z];exact e1))];exact e1
 ·obtain⟨c,oc,vs,t,f1,f2,f3⟩:=e3 pos v e;refine⟨c,oc,vs,t,f1,?_,f3⟩;rw[aT (fun z=>n2 oc (by rw[<- z];exact f2))];exact f2
theorem i9.new{x:Str}{P a:Addr}{o:HO}(h:i9 H x P)(hn:H a=none):i9 (L2.upd H a o) x P:=h.upd (fun _ z=>by rw[hn] at z;cases z) fun _ z=>by rw[hn] at z;cases z
inductive bt(K:aao)(φ:Nat->Addr)(n:Nat)(H:Hp):aS->L2.St->Prop where
 | nil:bt K φ n H [] []
 | sm {w:W} {v:V} {ws:aS} {vs:L2.St} (h:aK K φ n H w v) (r:bt K φ n H ws vs):bt K φ n H (some w::ws) (some v::vs)
 | nn {v:Option V} {ws:aS} {vs:L2.St} (r:bt K φ n H ws vs):bt K φ n H (none::ws) (v::vs)
section
variable{K:aao}{φ ap C2:Nat->Addr}{n n' C3:Nat}{H H' gE:Hp}{ph:PH}
theorem bt.mono(s:Step K φ n H ap n' H'):∀{ws:aS} {vs:L2.St},bt K φ n H ws vs->bt K ap n' H' ws vs
 | _,_,.nil=>.nil
 | _,_,.sm h r=>.sm (h.mono s) (bt.mono s r)
 | _,_,.nn r=>.nn (bt.mono s r)
theorem bt.get:∀{ws:aS} {vs:L2.St} {i:Nat} {w:W},bt K φ n H ws vs->ws[i]? =some (some w)->∃v,vs[i]? =some (some v)/\aK K φ n H w v
 | _,_,_,_,.nil,e=>by simp at e
 | _,_,0,_,.sm h _,e=>by simp at e;subst e;exact⟨_,rfl,h⟩
 | _,_,0,_,.nn _,e=>by simp at e
 | _,_,i+1,w,.sm _ r,e=>by
  obtain⟨u,h1,h2⟩:=bt.get (i:=i) (w:=w) r (by simpa using e);exact⟨u,by simpa using h1,h2⟩
 | _,_,i+1,w,.nn r,e=>by
  obtain⟨u,h1,h2⟩:=bt.get (i:=i) (w:=w) r (by simpa using e);exact⟨u,by simpa using h1,h2⟩
theorem bt.set{w:W}{v:V}(q:aK K φ n H w v):∀{ws:aS} {vs:L2.St} (i:Nat),bt K φ n H ws vs->bt K φ n H (ws.set i (acA w)) (vs.set i (acA v))
 | _,_,_,.nil=>.nil
 | _,_,0,.sm _ r=>.sm q r
 | _,_,0,.nn r=>.sm q r
 | _,_,i+1,.sm h r=>.sm h (bt.set q i r)
 | _,_,i+1,.nn r=>.nn (bt.set q i r)
theorem bt.start:∀{ws:List W} {vs:List V} (k:Nat),aM K φ n H ws vs->bt K φ n H (ws.map acA++aaF k Option.none) (vs.map acA++aaF k Option.none)
 | _,_,0,.nil=>.nil
 | _,_,k+1,.nil=>.nn (bt.start k .nil)
 | _,_,k,.cons h r=>.sm h (bt.start k r)
theorem jE.some{o:PO}{a:Addr}(h:jE K φ n H o a):∃x,H a=acA x/\(o.fz=false->jL (acA x)):=by
 cases o with
 | lst ws=>obtain⟨vs,e,_⟩:=h;exact⟨_,e,fun _=>trivial⟩
 | aG kws=>
  rcases h with⟨vs,e,_⟩ | ⟨vs,e,_⟩
  ·exact⟨_,e,fun _=>trivial⟩
  ·exact⟨_,e,fun _=>trivial⟩
 | obj c fs=>obtain⟨C,dx,vs,_,e,_⟩:=h;exact⟨_,e,fun _=>trivial⟩
 | pd kws=>obtain⟨kvs,e,_⟩:=h;exact⟨_,e,fun _=>trivial⟩
 | cF kws=>
  obtain⟨o,_,⟨vs,e,_⟩ | ⟨vs,e,_⟩⟩:=h
  ·exact⟨_,e,fun z=>nomatch z⟩
  ·exact⟨_,e,fun z=>nomatch z⟩
theorem jE.mono{o:PO}{a:Addr}(s:Step K φ n H ap n' H')(e:H' a=H a)(h:jE K φ n H o a):jE K ap n' H' o a:=by
 cases o with
 | lst ws=>obtain⟨vs,q,r⟩:=h;exact⟨vs,e.trans q,r.mono s⟩
 | aG kws=>
  rcases h with⟨vs,q,r⟩ | ⟨vs,q,r⟩
  ·exact .inl ⟨vs,e.trans q,r.mono s⟩
  ·exact .inr ⟨vs,e.trans q,r.mono s⟩
 | obj c fs=>obtain⟨C,dx,vs,q1,q2,r⟩:=h;exact⟨C,dx,vs,q1,e.trans q2,r.mono s⟩
 | pd kws=>obtain⟨kvs,q,r,nd⟩:=h;exact⟨kvs,e.trans q,r.mono s,nd⟩
 | cF kws=>
  obtain⟨o,hc,⟨vs,q,r⟩ | ⟨vs,q,r⟩⟩:=h
  ·exact⟨o,hc,.inl ⟨vs,e.trans q,r.mono s⟩⟩
  ·exact⟨o,hc,.inr ⟨vs,e.trans q,r.mono s⟩⟩
variable{i:Nat}
theorem aD.at(h:aD K φ ph H)(hi:i<ph.length):∃x,H (φ i)=acA x/\(ph[i].fz=false->jL (acA x)):=(h.hp i ph[i] (by simp[hi])).some
theorem aD.mu(h:aD K φ ph H){o:PO}(hw:ph[i]? =acA o)(hz:o.fz=false):∃x,H (φ i)=acA x/\jL (acA x):=let ⟨x,e,k⟩:=(h.hp i o hw).some;⟨x,e,k hz⟩
variable{p:Addr}
theorem gJ{xs:List V}(hp:H p=none):Step K φ n H φ n (upd H p (.tup xs)):=by
 refine⟨aat _,fun _ _=>rfl,fun a ys h=>?_,fun a o u h=>?_⟩
 ·rw[aT (dh h hp)];exact h
 ·rw[aT (dh h hp)];exact h
theorem aD.tup{p:Addr}{xs:List V}(h:aD K φ ph H)(hp:H p=none):aD K φ ph (upd H p (.tup xs)):=by
 refine⟨fun i o e=>?_,h.inj,fun p hm=>(h.tb p hm).new hp⟩;have hi:i<ph.length:=(aam.mp e).1;obtain⟨x,ex,_⟩:=h.at hi;exact(h.hp i o e).mono (gJ hp) (aT (dh ex hp))
noncomputable def ext(φ:Nat->Addr)(n:Nat)(p:Addr):Nat->Addr:=fun i=>if i=n then p else φ i
theorem n8(h:i<n):ext φ n p i=φ i:=by unfold ext;rw[if_neg (by omega)]
theorem mw:ext φ n p n=p:=by unfold ext;rw[if_pos rfl]
theorem zb{o:HO}(hp:H p=none):Step K φ n H (ext φ n p) (n+1) (upd H p o):=by
 refine⟨acB _,fun i h=>n8 h,fun a ys h=>?_,fun a o u h=>?_⟩
 ·rw[aT (dh h hp)];exact h
 ·rw[aT (dh h hp)];exact h
theorem aD.new{p:Addr}{x:HO}{o:PO}(h:aD K φ ph H)(hp:H p=none)(r:jE K (ext φ ph.length p) (ph.length+1) (upd H p x) o p) :
  aD K (ext φ ph.length p) (ph++[o]) (upd H p x):=by
 refine⟨fun i o' e=>?_,fun i j hi hj e=>?_,fun p hm=>(h.tb p hm).new hp⟩
 ·rw[aaU];by_cases hi:i<ph.length
  ·rw[aaM hi] at e;obtain⟨y,ey,_⟩:=h.at hi;rw[n8 hi];exact(h.hp i o' e).mono (zb hp) (aT (dh ey hp))
  ·have hl:=(aam.mp e).1;simp at hl;have:i=ph.length:=by omega
   subst this;simp at e;subst e;rw[mw];exact r
 ·simp at hi hj
  have key:∀k,k<ph.length->φ k≠p:=fun k hk z=>by
   obtain⟨y,ey,_⟩:=h.at hk;rw[z,hp] at ey;cases ey
  by_cases h1:i<ph.length <;> by_cases h2:j<ph.length
  ·rw[n8 h1,n8 h2] at e;exact h.inj i j h1 h2 e
  ·have:j=ph.length:=by omega
   subst this;rw[n8 h1,mw] at e;exact(key i h1 e).elim
  ·have:i=ph.length:=by omega
   subst this;rw[n8 h2,mw] at e;exact(key j h2 e.symm).elim
  ·omega
theorem mf{a:Addr}{x y:HO}(ha:H a=some x)(mx:jL (some x)):Step K φ n H φ n (upd H a y):=by
 refine⟨aat _,fun _ _=>rfl,fun c ys h=>?_,fun c o u h=>?_⟩
 ·rw[aT (gq h ha (by rintro rfl;exact mx))];exact h
 ·rw[aT (gq h ha (by rintro rfl;exact mx))];exact h
theorem aD.put{x:HO}{o o0:PO}(h:aD K φ ph H)(hw:ph[i]? =some o0)(hz:o0.fz=false)(r:jE K φ ph.length (upd H (φ i) x) o (φ i)):aD K φ (ph.set i o) (upd H (φ i) x):=by
 have hi:i<ph.length:=(aam.mp hw).1;obtain⟨y,ey,my⟩:=h.mu hw hz;refine⟨fun j o' e=>?_,fun j k hj hk e=>?_,fun p hm=>(h.tb p hm).upd (fun ps z=>?_) fun oc z=>?_⟩
 ·rw[abg];by_cases hj:j=i
  ·subst hj;rw[aaQ hi] at e;cases e;exact r
  ·rw[abk (abD hj)] at e;have kC:=(aam.mp e).1;exact(h.hp j o' e).mono (mf ey my) (aT fun z=>hj (h.inj j i kC hi z))
 ·rw[abg] at hj hk;exact h.inj j k hj hk e
 ·rw[ey] at z;cases z;exact my
 ·rw[ey] at z;cases z;exact my
end
abbrev Tc(C:Addr)(dd:Option Addr)(t:Addr):Obj:={ cls:=.ref C,dict:=dd,data:=.fields #[.ref t,.none,.none,.none,.bool false,.none] }
structure G4(h h':Heap)(a C:Addr)(dd:Option Addr):Prop where
 keeps:∀b o,h.get? b=some o->h'.get? b=some o
 new:h.get? a=none
 there:∃t,h'.get? a=some (Tc C dd t)
noncomputable def Made(X:Cx)(C:Addr)(dd:Option Addr)(H':Hp)(e:Value)(s':aaw):Prop:=
 ∃pins σ s h' a,e=.ref a/\s'={ s with heap:=h' }/\Inv X pins σ H' s/\G4 s.heap h' a C dd
structure XX(fs:List Addr)(H H':Hp)(h B h':Heap):Prop where
 keep:∀b o,h.get? b=some o->H b=none->b∉fs->B.get? b=some o
 slot:∀b o,h.get? b=some o->H b=none->b∈fs->∃sl,h'.get? b=some { o with slots:=sl }
 free:∀b o,h.get? b=some o->H b=none->H' b=none
 there:∀b o,h.get? b=some o->b∉fs->∃o',B.get? b=some o'
 gb:∀b xs,H b=some (.tup xs)->H' b=some (.tup xs)
 fb:∀b o u,H b=some (.aL o u)->H' b=some (.aL o u)
 gc:∀b ps,H b=some (.ff ps)->∃more,H' b=some (.ff (ps++more))
noncomputable def Flew(P:abw)(w:World)(l:List Env)(H:Hp)(s:aaw)(C:Addr)(dd:Option Addr)(H':Hp)(e:Value)(s':aaw):Prop:=
 ∃a a0 B,e=.ref a/\s'.os=s.os/\aeN s'.gens/\Heap.vH B l a (.ref C,dd) a0 s'.heap/\cQ P w H' B/\XX (fv l) H H' s.heap B s'.heap
noncomputable def C4(K:aao)(φ:Nat->Addr)(n:Nat)(H:Hp)(dd:Option Addr)(fs:List (Str×W)):Prop:=fs=[]\/∃d od f w v,dd=some d/\fs=[(f,w)]/\H d=some (.aL od (.xd [(f,v)]))/\aK K φ n H w v
noncomputable def XY(X:Cx)(φ:Nat->Addr)(n:Nat)(x:XC)(H':Hp)(e:Value)(s':aaw):Prop:=∃C dd,X.mg x.cls=some (.ref C)/\C4 X.K φ n H' dd x.fs/\(Made X C dd H' e s'\/∃pins σ H s,Inv X pins σ H s/\Flew X.prog X.w X.stack H s C dd H' e s')
noncomputable def XE(X:Cx)(φ:Nat->Addr)(n:Nat)(H:Hp):XC->PH->Prop:=fun x ph'=>∀ap H' e s',aD X.K ap ph' H'->Step X.K φ n H ap ph'.length H'->XY X ap ph'.length x H' e s'->X.xe e s'
variable{X:Cx}{φ:Nat->Addr}{n:Nat}{ph':PH}
theorem XE.step{aq:Nat->Addr}{n1:Nat}{H1:Hp}{x:XC}(h:XE X φ n H x ph')(s:Step X.K φ n H aq n1 H1):XE X aq n1 H1 x ph':=fun ap H' e s' r t q=>h ap H' e s' r (s.trans t) q
noncomputable def tM(X:Cx)(m:EM):TE:=fun σ H Q=>∃φ ph ws,aD X.K φ ph H/\bt X.K φ ph.length H ws σ/\(m ws ph).Run (fun w ph'=>
 ∀ap H' v,aD X.K ap ph' H'->Step X.K φ ph.length H ap ph'.length H'->aK X.K ap ph'.length H' w v->Q v H') (XE X φ ph.length H)
noncomputable def tT(X:Cx)(m:TM):TT:=fun σ H Q=>∃φ ph ws,aD X.K φ ph H/\bt X.K φ ph.length H ws σ/\(m ws ph).Run (fun b ph'=>
 ∀ap H',aD X.K ap ph' H'->Step X.K φ ph.length H ap ph'.length H'->Q b H') (XE X φ ph.length H)
noncomputable def tA(X:Cx)(m:AM):TA:=fun σ H Q=>∃φ ph ws,aD X.K φ ph H/\bt X.K φ ph.length H ws σ/\(m ws ph).Run (fun xs ph'=>
 ∀ap H' vs,aD X.K ap ph' H'->Step X.K φ ph.length H ap ph'.length H'->aM X.K ap ph'.length H' xs vs->Q vs H') (XE X φ ph.length H)
noncomputable def ja(X:Cx)(D:Ends)(ap:Nat->Addr)(ph':PH)(H':Hp)(f:Fl):Prop:=match f with
 | .nx bQ=>∀ao,bt X.K ap ph'.length H' bQ ao->D.nx ao H'
 | .bk bQ=>∀ao,bt X.K ap ph'.length H' bQ ao->D.bk ao H'
 | .ct bQ=>∀ao,bt X.K ap ph'.length H' bQ ao->D.ct ao H'
 | .rt w=>∀v,aK X.K ap ph'.length H' w v->D.rt v H'
noncomputable def tS(X:Cx)(m:SM):TS:=fun D σ H=>∃φ ph ws,aD X.K φ ph H/\bt X.K φ ph.length H ws σ/\(m ws ph).Run (fun f ph'=>
 ∀ap H',aD X.K ap ph' H'->Step X.K φ ph.length H ap ph'.length H'->ja X D ap ph' H' f) (XE X φ ph.length H)
section
variable{X:Cx}{e:Expr}
theorem PE.imp{t t':TE}(h:PE X e t)(k:∀σ H Q,t' σ H Q->t σ H Q):PE X e t':=fun pins s σ H Q I q=>h pins s σ H Q I (k σ H Q q)
theorem PT.imp{t t':TT}(h:PT X e t)(k:∀σ H Q,t' σ H Q->t σ H Q):PT X e t':=fun pins s σ H Q I q=>h pins s σ H Q I (k σ H Q q)
theorem PA.imp{es:List Expr}{t t':TA}(h:PA X es t)(k:∀σ H Q,t' σ H Q->t σ H Q):PA X es t':=fun pos pins s σ H Q I q=>h pos pins s σ H Q I (k σ H Q q)
theorem PS.imp{st:Stmt}{t t':TS}(h:PS X st t)(k:∀D σ H,t' D σ H->t D σ H):PS X st t':=fun pins s σ H D I q=>h pins s σ H D I (k D σ H q)
theorem gC.imp{st:List Stmt}{t t':TS}(h:gC X st t)(k:∀D σ H,t' D σ H->t D σ H):gC X st t':=fun pins s σ H D I q=>h pins s σ H D I (k D σ H q)
abbrev IE(X:Cx)(e:Expr)(m:EM):Prop:=PE X e (tM X m)
abbrev IT(X:Cx)(e:Expr)(m:TM):Prop:=PT X e (tT X m)
abbrev IA(X:Cx)(es:List Expr)(m:AM):Prop:=PA X es (tA X m)
abbrev IS(X:Cx)(st:Stmt)(m:SM):Prop:=PS X st (tS X m)
abbrev iS(X:Cx)(st:List Stmt)(m:SM):Prop:=gC X st (tS X m)
end
noncomputable def aa(i:Nat):EM:=fun σ=>lift fun ph=>match σ[i]? with
 | some (some w)=>some (w,ph)
 | _=>none
noncomputable def eC(w:W):EM:=fun _=>aA w
noncomputable def ae(f:W->W->Po W)(a b:EM):EM:=fun σ=>au (a σ) fun x=>au (b σ) fun y=>lift (f x y)
noncomputable def jO(f:W->Po W)(a:EM):EM:=fun σ=>au (a σ) fun x=>lift (f x)
noncomputable def de(K:aao)(r:R2)(f:W->W->Po W):Prop:=∀{φ:Nat->Addr} {ph:PH} {H:Hp} {x y:W} {vx vy:V} {w:W} {ph':PH} {Q:VK},aD K φ ph H->aK K φ ph.length H x vx->aK K φ ph.length H y vy->f x y ph=some (w,ph') →
 (∀ap H' v,aD K ap ph' H'->Step K φ ph.length H ap ph'.length H'->aK K ap ph'.length H' w v->Q v H')->r vx vy H Q
noncomputable def IH(K:aao)(r:V->Hp->VK->Prop)(f:W->Po W):Prop:=∀{φ:Nat->Addr} {ph:PH} {H:Hp} {x:W} {vx:V} {w:W} {ph':PH} {Q:VK},aD K φ ph H->aK K φ ph.length H x vx->f x ph=some (w,ph') →
 (∀ap H' v,aD K ap ph' H'->Step K φ ph.length H ap ph'.length H'->aK K ap ph'.length H' w v->Q v H')->r vx H Q
section
variable{X:Cx}{a b c:Expr}{ma mb mc:EM}{pos:Pos}
theorem Td(i:Nat){x:Str}(hN:X.N[i]? =some x:=by rfl)(hv:jf X.env.scope x:=by first | exact Or.inl rfl | exact Or.inr (Or.inl rfl) | exact Or.inr (Or.inr rfl))(hd:(x==("__debug__":Str))=false:=by decide)
  (hcd:(x==("__classdict__":Str))=false:=by decide):IE X (.Name x pos) (aa i):=by
 refine PE.imp (Gq hN hv hd hcd) fun σ H Q h=>?_
 obtain⟨φ,ph,ws,hH,hS,h⟩:=h;obtain⟨w,ph',e,k⟩:=run_lift h;split at e
 ·rename_i w' ew;cases e;obtain⟨v,ev,rv⟩:=hS.get ew;exact⟨v,ev,k φ H v hH Step.refl rv⟩
 ·cases e
theorem w6{t:V}{w:W}(h:PE X a (tC t))(r:∀φ n H,aK X.K φ n H w t):IE X a (eC w):=by
 refine PE.imp h fun σ H Q h=>?_
 obtain⟨φ,ph,ws,hH,hS,h⟩:=h;exact h φ H _ hH Step.refl (r _ _ _)
variable{j:Nat}
theorem Te{i:Int}:IE X (.Constant (.int i) j pos) (eC (.int i)):=w6 So fun _ _ _=>.int i
theorem Tf{x:Str}:IE X (.Constant (.str x) j pos) (eC (.str x)):=w6 Sr fun _ _ _=>.str x
theorem VG{x:Bool}:IE X (.Constant (.bool x) j pos) (eC (.bl x)):=w6 Vk fun _ _ _=>.bl x
theorem Tg:IE X (.Constant .none j pos) (eC .aJ):=w6 Sq fun _ _ _=>.aJ
variable{β:Type}{σ:L2.St}{H:Hp}{φ:Nat->Addr}{ph:PH}{ws:aS}
theorem tM.bind{m:EM}{Q:VK}{f:W->Mo β}{N:β->PH->Prop}(hH:aD X.K φ ph H)(hS:bt X.K φ ph.length H ws σ)(h:(au (m ws) f ph).Run N (XE X φ ph.length H))
  (k:∀w ph1 aq H1 v,aD X.K aq ph1 H1->Step X.K φ ph.length H aq ph1.length H1->aK X.K aq ph1.length H1 w v->(f w ph1).Run N (XE X aq ph1.length H1)->Q v H1):tM X m σ H Q:=by
 rw[cS] at h;exact⟨φ,ph,ws,hH,hS,h.mono (fun w ph1 h1 aq H1 v ay s1 r1=>k w ph1 aq H1 v ay s1 r1 (h1.mono (fun _ _ z=>z) fun _ _ z=>z.step s1)) fun _ _ z=>z⟩
theorem tT.bind{m:TM}{Q:Bool->Hp->Prop}{f:Bool->Mo β}{N:β->PH->Prop}(hH:aD X.K φ ph H)(hS:bt X.K φ ph.length H ws σ)(h:(au (m ws) f ph).Run N (XE X φ ph.length H))
  (k:∀b ph1 aq H1,aD X.K aq ph1 H1->Step X.K φ ph.length H aq ph1.length H1->(f b ph1).Run N (XE X aq ph1.length H1)->Q b H1):tT X m σ H Q:=by
 rw[cS] at h;exact⟨φ,ph,ws,hH,hS,h.mono (fun b ph1 h1 aq H1 ay s1=>k b ph1 aq H1 ay s1 (h1.mono (fun _ _ z=>z) fun _ _ z=>z.step s1)) fun _ _ z=>z⟩
theorem tA.bind{m:AM}{Q:List V->Hp->Prop}{f:List W->Mo β}{N:β->PH->Prop}(hH:aD X.K φ ph H)(hS:bt X.K φ ph.length H ws σ)(h:(au (m ws) f ph).Run N (XE X φ ph.length H))
  (k:∀xs ph1 aq H1 vs,aD X.K aq ph1 H1->Step X.K φ ph.length H aq ph1.length H1->aM X.K aq ph1.length H1 xs vs->(f xs ph1).Run N (XE X aq ph1.length H1)->Q vs H1):tA X m σ H Q:=by
 rw[cS] at h;exact⟨φ,ph,ws,hH,hS,h.mono (fun w ph1 h1 aq H1 v ay s1 r1=>k w ph1 aq H1 v ay s1 r1 (h1.mono (fun _ _ z=>z) fun _ _ z=>z.step s1)) fun _ _ z=>z⟩
variable{r:R2}{f:W->W->Po W}
theorem qO(hi:de X.K r f){Q:VK}(h:tM X (ae f ma mb) σ H Q):sC r (tM X ma) (tM X mb) σ H Q:=by
 obtain⟨φ,ph,ws,hH,hS,h⟩:=h;refine tM.bind hH hS h fun x ph1 aq H1 vx ay s1 rx h=>tM.bind ay (hS.mono s1) h fun y aI a8 H2 vy bj s2 ry h=>?_
 obtain⟨w,ph',e,k⟩:=run_lift h;exact hi bj (rx.mono s2) ry e fun eD H3 v cX s3 r3=>k eD H3 v cX ((s1.trans s2).trans s3) r3
theorem oo{op:Operator}(ho:bJ X (acY op) r)(hi:de X.K r f)(ha:IE X a ma)(hb:IE X b mb):IE X (.BinOp a op b pos) (ae f ma mb):=
 PE.imp (Vv ho ha hb) fun _ _ _ h=>qO hi h
theorem VH{op:UnaryOp}{r:V->Hp->VK->Prop}{f:W->Po W}(ho:xD X (unaryOp op) r)(hi:IH X.K r f)(ha:IE X a ma):IE X (.UnaryOp op a pos) (jO f ma):=by
 refine PE.imp (Vw ho ha) fun σ H Q h=>?_
 obtain⟨φ,ph,ws,hH,hS,h⟩:=h;refine tM.bind hH hS h fun x ph1 aq H1 vx ay s1 rx h=>?_
 obtain⟨w,ph',e,k⟩:=run_lift h;exact hi ay rx e fun eD H3 v cX s3 r3=>k eD H3 v cX (s1.trans s3) r3
theorem Th{op:CmpOp}(ho:bJ X (abH op) r)(hi:de X.K r f)(ha:IE X a ma)(hb:IE X b mb)(hm:acv op b=false):IE X (.Compare a [op] [b] pos) (ae f ma mb):=
 PE.imp (Qr ho ha hb hm) fun _ _ _ h=>qO hi h
noncomputable def eT(m:EM):TM:=fun σ=>au (m σ) fun w=>lift (match w with
 | .bl b=>ret b
 | _=>fc)
theorem Ti{op:CmpOp}(ho:bJ X (abH op) r)(hi:de X.K r f)(ha:IE X a ma)(hb:IE X b mb)(hm:acv op b=false):IT X (.Compare a [op] [b] pos) (eT (ae f ma mb)):=by
 refine PT.imp (Qs ho ha hb hm) fun σ H Q h=>?_
 obtain⟨φ,ph,ws,hH,hS,h⟩:=h;refine qO hi (tM.bind hH hS h fun x ph1 aq H1 vx ay s1 rx h=>?_);obtain⟨w,ph',e,k⟩:=run_lift h;split at e
 ·cases e;cases rx;exact⟨_,rfl,k aq H1 ay s1⟩
 ·cases e
end
noncomputable def pe(g:Int->Int->Int):W->W->Po W:=fun x y=>match x,y with
 | .int i,.int j=>ret (.int (g i j))
 | _,_=>fc
noncomputable def oF(c:Int->Int->Bool)(g:Int->Int->Int):W->W->Po W:=fun x y=>match x,y with
 | .int i,.int j=>if c i j=true then ret (.int (g i j)) else fc
 | _,_=>fc
noncomputable def oG(g:Int->Int->Bool):W->W->Po W:=fun x y=>match x,y with
 | .int i,.int j=>ret (.bl (g i j))
 | _,_=>fc
theorem VI{g:Int->Int->Int}:de K (jg fun i j=>.int (g i j)) (pe g):=by
 intro φ ph H x y vx vy w ph' Q hH rx ry e k;unfold pe at e;split at e
 ·cases e;cases rx;cases ry;exact⟨_,_,rfl,rfl,k φ H _ hH Step.refl (.int _)⟩
 ·cases e
theorem Gz{C:Int->Int->Prop}{c:Int->Int->Bool}{g:Int->Int->Int}(hc:∀i j,c i j=true->C i j):de K (rI C fun i j=>.int (g i j)) (oF c g):=by
 intro φ ph H x y vx vy w ph' Q hH rx ry e k;unfold oF at e;split at e
 ·split at e
  ·cases e;cases rx;cases ry;exact⟨_,_,rfl,rfl,hc _ _ (by assumption),k φ H _ hH Step.refl (.int _)⟩
  ·cases e
 ·cases e
theorem z9{g:Int->Int->Bool}:de K (jg fun i j=>.bl (g i j)) (oG g):=by
 intro φ ph H x y vx vy w ph' Q hH rx ry e k;unfold oG at e;split at e
 ·cases e;cases rx;cases ry;exact⟨_,_,rfl,rfl,k φ H _ hH Step.refl (.bl _)⟩
 ·cases e
noncomputable def fq(a b:TM):TM:=fun σ=>au (a σ) fun c=>if c=true then b σ else aA false
noncomputable def dX(a b:TM):TM:=fun σ=>au (a σ) fun c=>if c=true then aA true else b σ
noncomputable def gw(a:TM):TM:=fun σ=>au (a σ) fun c=>aA (!c)
noncomputable def jb(a b:EM):EM:=fun σ=>au (a σ) fun w=>match w with
 | .bl c=>if c=true then b σ else aA (.bl false)
 | _=>eJ
noncomputable def XZ(a b:EM):EM:=fun σ=>au (a σ) fun w=>match w with
 | .bl c=>if c=true then aA (.bl true) else b σ
 | _=>eJ
noncomputable def w8(a:EM):EM:=fun σ=>au (a σ) fun w=>match w with
 | .bl c=>aA (.bl (!c))
 | _=>eJ
noncomputable def lL(t:TM)(a b:EM):EM:=fun σ=>au (t σ) fun c=>if c=true then a σ else b σ
section
variable{X:Cx}{a b c:Expr}{rest:List Expr}{ma mb mc:EM}{ta tb:TM}{pos:Pos}
theorem Tj(ha:IT X a ta):IT X (.UnaryOp .Not a pos) (gw ta):=by
 refine PT.imp (Sv ha) fun σ H Q h=>?_
 obtain⟨φ,ph,ws,hH,hS,h⟩:=h;exact tT.bind hH hS h fun x ph1 aq H1 ay s1 h=>h aq H1 ay s1
variable{H:Hp}
theorem and_imp{σ:L2.St}{Q:Bool->Hp->Prop}(h:tT X (fq ta tb) σ H Q):Hs (tT X ta) (tT X tb) σ H Q:=by
 obtain⟨φ,ph,ws,hH,hS,h⟩:=h;refine tT.bind hH hS h fun x ph1 aq H1 ay s1 h=>?_
 cases x with
 | true=>exact lm ⟨aq,ph1,ws,ay,hS.mono s1,h.mono (fun _ _ k a8 H2 bj s2=>k a8 H2 bj (s1.trans s2)) fun _ _ z=>z⟩
 | false=>exact lj (h aq H1 ay s1)
theorem or_imp{σ:L2.St}{Q:Bool->Hp->Prop}(h:tT X (dX ta tb) σ H Q):Ii (tT X ta) (tT X tb) σ H Q:=by
 obtain⟨φ,ph,ws,hH,hS,h⟩:=h;refine tT.bind hH hS h fun x ph1 aq H1 ay s1 h=>?_
 cases x with
 | false=>exact lj ⟨aq,ph1,ws,ay,hS.mono s1,h.mono (fun _ _ k a8 H2 bj s2=>k a8 H2 bj (s1.trans s2)) fun _ _ z=>z⟩
 | true=>exact lm (h aq H1 ay s1)
theorem Tn{op:BoolOp}(ha:IT X a ta):PW X (.BoolOp op [a] pos) (tT X ta):=by
 cases op with
 | And=>exact Qi ha
 | Or=>exact Ss ha
theorem To(ha:IT X a ta)(hb:PW X (.BoolOp .And (b::rest) pos) (tT X tb)):PW X (.BoolOp .And (a::b::rest) pos) (tT X (fq ta tb)):=
 fun wh pins s σ H Q I h=>Su ha hb wh pins s σ H Q I (and_imp h)
theorem VJ(ha:IT X a ta)(hb:PW X (.BoolOp .Or (b::rest) pos) (tT X tb)):PW X (.BoolOp .Or (a::b::rest) pos) (tT X (dX ta tb)):=
 fun wh pins s σ H Q I h=>Vl ha hb wh pins s σ H Q I (or_imp h)
theorem Tp(ha:IE X a ma)(hb:IE X (.BoolOp .And (b::rest) pos) mb):IE X (.BoolOp .And (a::b::rest) pos) (jb ma mb):=by
 refine PE.imp (Sx ha hb) fun σ H Q h=>?_
 obtain⟨φ,ph,ws,hH,hS,h⟩:=h;refine tM.bind hH hS h fun x ph1 aq H1 vx ay s1 rx h=>?_
 cases rx with
 | bl c=>
  refine⟨c,rfl,?_⟩;cases c with
  | true=>exact lm ⟨aq,ph1,ws,ay,hS.mono s1,h.mono (fun _ _ k a8 H2 v bj s2 r2=>k a8 H2 v bj (s1.trans s2) r2) fun _ _ z=>z⟩
  | false=>exact lj (h aq H1 _ ay s1 (.bl false))
 | _=>exact h.elim
theorem Tq{op:BoolOp}(ha:IE X a ma):IE X (.BoolOp op [a] pos) ma:=Sw ha
theorem Tr(ha:IE X a ma):IE X (.UnaryOp .Not a pos) (w8 ma):=by
 refine PE.imp (Sy ha) fun σ H Q h=>?_
 obtain⟨φ,ph,ws,hH,hS,h⟩:=h;refine tM.bind hH hS h fun x ph1 aq H1 vx ay s1 rx h=>?_
 cases rx with
 | bl c=>exact⟨_,rfl,h aq H1 _ ay s1 (.bl _)⟩
 | _=>exact h.elim
theorem VL(hc:IT X c ta)(ha:IE X a ma)(hb:IE X b mb):IE X (.IfExp c a b pos) (lL ta ma mb):=by
 refine PE.imp (OQ hc ha hb) fun σ H Q h=>?_
 obtain⟨φ,ph,ws,hH,hS,h⟩:=h;refine tT.bind hH hS h fun x ph1 aq H1 ay s1 h=>?_
 cases x with
 | true=>exact lm ⟨aq,ph1,ws,ay,hS.mono s1,h.mono (fun _ _ k a8 H2 v bj s2 r2=>k a8 H2 v bj (s1.trans s2) r2) fun _ _ z=>z⟩
 | false=>exact lj ⟨aq,ph1,ws,ay,hS.mono s1,h.mono (fun _ _ k a8 H2 v bj s2 r2=>k a8 H2 v bj (s1.trans s2) r2) fun _ _ z=>z⟩
noncomputable def oH(w:W):Po Bool:=fun ph=>match w with
 | .aJ=>some (false,ph)
 | .bl b=>some (b,ph)
 | .int i=>some (i != 0,ph)
 | .str y=>if y.length<=aaH then some ((y.length:Int) != 0,ph) else none
 | .tup ws=>some (!ws.isEmpty,ph)
 | .fl ws=>some (!ws.isEmpty,ph)
 | .ref i=>match ph[i]? with
  | some (.lst ws)=>some (!ws.isEmpty,ph)
  | _=>none
 | .exc .. =>none
 | .fn .. =>none
 | .kt .. =>none
noncomputable def eU(m:EM):TM:=fun σ=>au (m σ) fun w=>lift (oH w)
theorem Aa{K:aao}{φ:Nat->Addr}{n:Nat}{ws:List W}{vs:List V}(r:aM K φ n H ws vs):(!vs.isEmpty)= !ws.isEmpty:=by cases r <;> rfl
theorem Ts(ha:IE X a ma)(he:∀whole,isTrue a X.env whole=(do let v <- whole;standAt a.pos;afG [v] (truthy v)):=by intro _;rfl):IT X a (eU ma):=by
 refine PT.imp (OV ha he) fun σ H Q h=>?_
 obtain⟨φ,ph,ws,hH,hS,h⟩:=h;refine tM.bind hH hS h fun x ph1 aq H1 vx ay s1 rx h=>?_
 obtain⟨b,aI,e,k⟩:=run_lift h;unfold oH at e;cases rx with
 | aJ=>cases e;exact⟨_,rfl,k aq H1 ay s1⟩
 | bl b=>cases e;exact⟨_,rfl,k aq H1 ay s1⟩
 | int i=>cases e;exact⟨_,rfl,k aq H1 ay s1⟩
 | str y=>
  simp only at e;split at e
  ·rename_i hy;cases e;exact⟨_,⟨hy,rfl⟩,k aq H1 ay s1⟩
  ·cases e
 | tup hq r=>cases e;exact⟨_,.inr (.inl ⟨_,cE.of hq,rfl⟩),by rw[Aa r];exact k aq H1 ay s1⟩
 | fl hq r=>cases e;exact⟨_,.inl ⟨_,hq.sq,rfl⟩,by rw[Aa r];exact k aq H1 ay s1⟩
 | ref hi=>
  simp only at e;split at e
  ·rename_i bQ hw;cases e;obtain⟨vs,hv,r⟩:=ay.hp _ _ hw;exact⟨_,.inl ⟨vs,bA.of hv,rfl⟩,by rw[Aa r];exact k aq H1 ay s1⟩
  ·cases e
 | exc=>cases e
 | fn=>cases e
 | kt _ _=>cases e
end
noncomputable def aZ:SM:=fun σ=>aA (.nx σ)
noncomputable def av(a b:SM):SM:=fun σ=>au (a σ) fun f=>match f with
 | .nx ao=>b ao
 | f=>aA f
noncomputable def cO(e:EM):SM:=fun σ=>au (e σ) fun _=>aA (.nx σ)
noncomputable def aW(e:EM):SM:=fun σ=>au (e σ) fun w=>aA (.rt w)
noncomputable def aV(t:TM)(a b:SM):SM:=fun σ=>au (t σ) fun c=>if c=true then a σ else b σ
abbrev GM:=W->aS->Mo aS
noncomputable def gN(i:Nat):GM:=fun w σ=>aA (σ.set i (some w))
noncomputable def ax(e:EM)(g:GM):SM:=fun σ=>au (e σ) fun w=>au (g w σ) fun ao=>aA (.nx ao)
noncomputable def tG(X:Cx)(g:GM):TG:=fun v σ H Q=>∃φ ph ws w,aD X.K φ ph H/\bt X.K φ ph.length H ws σ/\aK X.K φ ph.length H w v/\(g w ws ph).Run (fun bQ ph'=>
 ∀ap H' ao,aD X.K ap ph' H'->Step X.K φ ph.length H ap ph'.length H'->bt X.K ap ph'.length H' bQ ao->Q ao H') (XE X φ ph.length H)
abbrev IG(X:Cx)(tg:Expr)(g:GM):Prop:=PG X tg (tG X g)
section
variable{X:Cx}{e c:Expr}{m:EM}{t:TM}{a b:SM}{st:Stmt}{as bs rest:List Stmt}{pos:Pos}{tg:Expr}{g:GM}
theorem PG.imp{t t':TG}(h:PG X tg t)(k:∀v σ H Q,t' v σ H Q->t v σ H Q):PG X tg t':=fun pins s σ H v u Q I r q=>h pins s σ H v u Q I r (k v σ H Q q)
theorem QC:iS X [] aZ:=gC.imp Qj fun D σ H h=>by
 obtain⟨φ,ph,ws,hH,hS,h⟩:=h;exact h φ H hH Step.refl σ hS
variable{σ:L2.St}{H:Hp}
theorem QD{D:Ends}(h:tS X (av a b) D σ H):Ht (tS X a) (tS X b) D σ H:=by
 obtain⟨φ,ph,ws,hH,hS,h⟩:=h;unfold av at h;rw[cS] at h;refine⟨φ,ph,ws,hH,hS,h.mono (fun f ph1 h aq H1 ay s1=>?_) fun _ _ z=>z⟩;cases f with
 | nx jP=>exact fun σ1 ij=>⟨aq,ph1,jP,ay,ij,h.mono (fun f aI k a8 H2 bj s2=>k a8 H2 bj (s1.trans s2)) fun _ _ z=>z.step s1⟩
 | bk jP=>exact h aq H1 ay s1
 | ct jP=>exact h aq H1 ay s1
 | rt w=>exact h aq H1 ay s1
theorem O0(h1:IS X st a)(h2:iS X rest b):iS X (st::rest) (av a b):=gC.imp (OR h1 h2) fun _ _ _ h=>QD h
theorem QF(h1:IS X st a):iS X [st] a:=Qk h1
theorem QG(he:IE X e m)(hs:adj e none pos.line X.env=pure false:=by rfl):IS X (.Expr e pos) (cO m):=PS.imp (Ql he hs) fun D σ H h=>by
 obtain⟨φ,ph,ws,hH,hS,h⟩:=h;exact tM.bind hH hS h fun w ph1 aq H1 v ay s1 r1 h=>h aq H1 ay s1 σ (hS.mono s1)
theorem Tt(he:IE X e m):IS X (.Return (some e) pos) (aW m):=PS.imp (Sz he) fun D σ H h=>by
 obtain⟨φ,ph,ws,hH,hS,h⟩:=h;exact tM.bind hH hS h fun w ph1 aq H1 v ay s1 r1 h=>h aq H1 ay s1 v r1
theorem VM(hc:IT X c t)(ha:iS X as a)(hb:iS X bs b):IS X (.If c as bs pos) (aV t a b):=PS.imp (Vq hc ha hb) fun D σ H h=>by
 obtain⟨φ,ph,ws,hH,hS,h⟩:=h;refine tT.bind hH hS h fun x ph1 aq H1 ay s1 h=>?_
 cases x with
 | true=>exact lm ⟨aq,ph1,ws,ay,hS.mono s1,h.mono (fun _ _ k a8 H2 bj s2=>k a8 H2 bj (s1.trans s2)) fun _ _ z=>z⟩
 | false=>exact lj ⟨aq,ph1,ws,ay,hS.mono s1,h.mono (fun _ _ k a8 H2 bj s2=>k a8 H2 bj (s1.trans s2)) fun _ _ z=>z⟩
theorem QH{i:Nat}{x:Str}(hN:X.N.Nodup)(hi:X.N[i]? =some x)(hx:Loc X.env.scope x)(hf:(X.fn x=true\/X.env.scope.names.lookup x=some .local)/\iF X x):IG X (.Name x pos) (gN i):=
 PG.imp (Qm hN hi hx hf) fun v σ H Q h=>by
  obtain⟨φ,ph,ws,w,hH,hS,fR,h⟩:=h;exact h φ H _ hH Step.refl (hS.set fR i)
theorem tG.bind{β:Type}{g:GM}{Q:L2.St->Hp->Prop}{φ:Nat->Addr}{ph:PH}{ws:aS}{w:W}{v:V}{f:aS->Mo β}{N:β->PH->Prop}(hH:aD X.K φ ph H)(hS:bt X.K φ ph.length H ws σ)(fR:aK X.K φ ph.length H w v)(h:(au (g w ws) f ph).Run N (XE X φ ph.length H))
  (k:∀jP ph1 aq H1 σ1,aD X.K aq ph1 H1->Step X.K φ ph.length H aq ph1.length H1->bt X.K aq ph1.length H1 jP σ1->(f jP ph1).Run N (XE X aq ph1.length H1)->Q σ1 H1):tG X g v σ H Q:=by
 rw[cS] at h;exact⟨φ,ph,ws,w,hH,hS,fR,h.mono (fun jP ph1 h1 aq H1 σ1 ay s1 r1=>k jP ph1 aq H1 σ1 ay s1 r1 (h1.mono (fun _ _ z=>z) fun _ _ z=>z.step s1)) fun _ _ z=>z⟩
theorem QI{D:Ends}(h:tS X (ax m g) D σ H):wV (tM X m) (tG X g) D σ H:=by
 obtain⟨φ,ph,ws,hH,hS,h⟩:=h;refine tM.bind hH hS h fun w ph1 aq H1 v ay s1 r1 h=>?_
 exact tG.bind ay (hS.mono s1) r1 h fun eW aI a8 H2 bw bj s2 ik h=>h a8 H2 bj (s1.trans s2) bw ik
theorem Tu{i:Nat}{x:Str}{pos':Pos}(hN:X.N.Nodup)(hi:X.N[i]? =some x)(hx:Loc X.env.scope x)(he:IE X e m)(hs:adj e (some (.Name x pos')) pos.line X.env=pure false:=by rfl)
  (hf:(X.fn x=true\/X.env.scope.names.lookup x=some .local)/\iF X x):IS X (.Assign [.Name x pos'] e pos) (ax m (gN i)):=
 PS.imp (SF hN hi hx he hs hf) fun D σ H h=>by
  obtain⟨φ,ph,ws,hH,hS,h⟩:=h;exact tM.bind hH hS h fun w ph1 aq H1 v ay s1 r1 h=>h aq H1 ay s1 _ ((hS.mono s1).set r1 i)
theorem Tv(he:IE X e m)(hg:IG X tg g)(hs:swapsWithSole [tg] e pos.line X.env=pure false:=by rfl)(hw:swappedStores [tg] e X.env=pure none:=by rfl)
  (h1:(abX [tg] X.env).map (·.2)=[afB tg X.env]:=by rfl):IS X (.Assign [tg] e pos) (ax m g):=PS.imp (SE he hg hs hw h1) fun _ _ _ h=>QI h
end
abbrev IM:=aS->Mo (List W×(PH->Bool))
noncomputable def cH(chk:PH->Bool)(g:GM)(b:SM):List W->SM
 | [],σ=>fun ph=>if chk ph=true then .ok (.nx σ) ph else .no
 | x::xs,σ=>fun ph=>if chk ph=true then au (g x σ) (fun σ1=>au (b σ1) fun f=>match f with
   | .nx ao=>cH chk g b xs ao
   | .ct ao=>cH chk g b xs ao
   | .bk ao=>aA (.nx ao)
   | .rt w=>aA (.rt w)) ph else .no
noncomputable def cT(im:IM)(g:GM)(b:SM):SM:=fun σ=>au (im σ) fun r=>cH r.2 g b r.1 σ
noncomputable def pf(K:aao)(J:It)(items:List W)(chk:PH->Bool)(φ:Nat->Addr)(n:Nat)(H:Hp):Prop:=
 ∀ap ph' H',aD K ap ph' H'->Step K φ n H ap ph'.length H'->chk ph'=true->∀i:Nat,
  (∀w,items[i]? =some w->J.go i H'/\∀x gE,J.o1 i H' x gE->aD K ap ph' gE/\Step K ap ph'.length H' ap ph'.length gE/\aK K ap ph'.length gE w x)/\(items[i]? =none->J.stop i H')
noncomputable def tI(X:Cx)(im:IM):TI:=fun σ H R=>∃φ ph ws,aD X.K φ ph H/\bt X.K φ ph.length H ws σ/\(im ws ph).Run (fun r ph'=>
 ∀ap H' J,aD X.K ap ph' H'->Step X.K φ ph.length H ap ph'.length H'->pf X.K J r.1 r.2 ap ph'.length H'->R J H') (XE X φ ph.length H)
abbrev II(X:Cx)(tg iter:Expr)(im:IM):Prop:=PI X tg iter (tI X im)
section
variable{X:Cx}{iter tg c:Expr}{im:IM}{g:GM}{b:SM}{t:TM}{body:List Stmt}{pos:Pos}
variable{H:Hp}
theorem QJ{D:Ends}{σ:L2.St}(h:tS X (cT im g b) D σ H):BO (tI X im) (tG X g) (tS X b) D σ H:=by
 obtain⟨φ,ph,ws,hH,hS,h⟩:=h;unfold cT at h;rw[cS] at h;refine⟨φ,ph,ws,hH,hS,h.mono (fun r ph1 h aq H1 J ay s1 hJ=>?_) fun _ _ z=>z⟩;obtain⟨items,chk⟩:=r;refine⟨fun i m bw H2=>∃a8 aI eW,m=(items.drop i).length/\aD X.K a8 aI H2/\bt X.K a8 aI.length H2 eW bw/\Step X.K aq ph1.length H1 a8 aI.length H2 /\
   (cH chk g b (items.drop i) eW aI).Run (fun f ph'=>∀ap H',aD X.K ap ph' H'->Step X.K a8 aI.length H2 ap ph'.length H'->ja X D ap ph' H' f) (XE X a8 aI.length H2),
  ⟨_,aq,ph1,ws,rfl,ay,hS.mono s1,Step.refl,h.mono (fun f ph' k ap H' r' s'=>k ap H' r' (s1.trans s')) fun _ _ z=>z.step s1⟩,?_⟩
 rintro i m bw H2 ⟨a8,aI,eW,rfl,bj,ik,s2,h2⟩;cases hd:items.drop i with
 | nil=>
  rw[hd] at h2;unfold cH at h2;split at h2
  ·rename_i hc;have hn:items[i]? =none:=by
    have:items.length<=i:=by simpa using hd
    simpa using this
   exact .inl ⟨(hJ a8 _ H2 bj s2 hc i).2 hn,h2 a8 H2 bj Step.refl bw ik⟩
  ·exact h2.elim
 | cons x xs=>
  rw[hd] at h2;unfold cH at h2;split at h2
  ·rename_i hc;have hx:items[i]? =some x:=by
    have:=congrArg (fun l=>l[0]?) hd
    simpa using this
   have jQ:items.drop (i+1)=xs:=by
    have:=congrArg (fun l=>l.drop 1) hd
    simpa[afC,aff] using this
   obtain⟨kD,hy⟩:=(hJ a8 _ H2 bj s2 hc i).1 x hx;refine .inr ⟨kD,fun ao H'=>∃ap d5 bQ,aD X.K ap d5 H'/\bt X.K ap d5.length H' bQ ao/\Step X.K aq ph1.length H1 ap d5.length H' /\
     (cH chk g b xs bQ d5).Run (fun f p'=>∀eD H3,aD X.K eD p' H3->Step X.K ap d5.length H' eD p'.length H3->ja X D eD p' H3 f) (XE X ap d5.length H'),
    fun ao H' ⟨ap,d5,bQ,q1,q2,q3,q4⟩=>⟨xs.length,by simp,ap,d5,bQ,by rw[jQ],q1,q2,q3,by rw[jQ];exact q4⟩,fun v H3 y=>?_⟩
   obtain⟨cX,s3,rv⟩:=hy v H3 y;have C5:(au (g x eW) (fun σ1=>au (b σ1) fun f=>match f with
    | .nx ao=>cH chk g b xs ao
    | .ct ao=>cH chk g b xs ao
    | .bk ao=>aA (.nx ao)
    | .rt w=>aA (.rt w)) aI).Run (fun f ph'=>∀ap H',aD X.K ap ph' H'->Step X.K a8 aI.length H2 ap ph'.length H'->ja X D ap ph' H' f) (XE X a8 aI.length H3):=Out.Run.mono h2 (fun _ _ z=>z) fun _ _ z=>z.step s3
   refine tG.bind cX (ik.mono s3) rv C5 fun C6 kE l6 H4 jt lM s4 C7 h4=>?_
   rw[cS] at h4;refine⟨l6,kE,C6,lM,C7,h4.mono (fun f jR h5 fI H5 fH s5=>?_) fun _ _ z=>z⟩;have ls:=((s2.trans s3).trans s4).trans s5;have gZ:=(s3.trans s4).trans s5;cases f with
   | nx eX=>exact fun fJ eL=>⟨fI,jR,eX,fH,eL,ls,h5.mono (fun f p' k ap H' r' s'=>k ap H' r' (gZ.trans s')) fun _ _ z=>z.step s5⟩
   | ct eX=>exact fun fJ eL=>⟨fI,jR,eX,fH,eL,ls,h5.mono (fun f p' k ap H' r' s'=>k ap H' r' (gZ.trans s')) fun _ _ z=>z.step s5⟩
   | bk eX=>exact fun fJ eL=>h5 fI H5 fH gZ fJ eL
   | rt w=>exact fun v hv=>h5 fI H5 fH gZ v hv
  ·exact h2.elim
theorem PI.imp{t t':TI}(h:PI X tg iter t)(k:∀σ H R,t' σ H R->t σ H R):PI X tg iter t':=fun pins s σ H R I q=>h pins s σ H R I (k σ H R q)
theorem Tw(hp:afS (model X.prog X.w) X.A X.env X.xe)(hc:X.calm=true)(hi:II X tg iter im)(hg:IG X tg g)(hb:iS X body b)(hs:∀x,abp iter X.env x=pure x:=by intro _;rfl) :
  IS X (.For tg iter body [] pos) (cT im g b):=PS.imp (Gs hp hc hi hg hb hs) fun _ _ _ h=>QJ h
noncomputable def lu(w:W):Po (List W×(PH->Bool)):=fun ph=>match w with
 | .ref i=>match ph[i]? with
  | some (.lst ws)=>some ((ws,fun ph'=>decide (ph'[i]? =some (.lst ws))),ph)
  | _=>none
 | .fl ws=>some ((ws,fun _=>true),ph)
 | _=>none
noncomputable def tupI(w:W):Po (List W×(PH->Bool)):=fun ph=>match w with
 | .tup ws=>some ((ws,fun _=>true),ph)
 | _=>none
noncomputable def xa(m:EM):IM:=fun σ=>au (m σ) fun w=>lift (lu w)
noncomputable def AY(m:EM):IM:=fun σ=>au (m σ) fun w=>lift (tupI w)
theorem QK{l:Expr}{m:EM}(hl:IE X l m):II X tg l (xa m):=by
 refine PI.imp (Qo hl) fun σ H R h=>?_
 obtain⟨φ,ph,ws,hH,hS,h⟩:=h;refine tM.bind hH hS h fun w ph1 aq H1 v ay s1 r1 h=>?_
 obtain⟨r,ph',e,k⟩:=run_lift h;unfold lu at e;cases r1 with
 | ref hi=>
  rename_i i;simp only at e;split at e
  ·rename_i items hw;cases e;obtain⟨vs,hv,r⟩:=ay.hp _ _ hw;refine⟨_,rfl,⟨vs,bA.of hv⟩,k aq H1 _ ay s1 ?_⟩;intro a8 aI H2 bj s2 hc j;have fO:aI[i]? =some (.lst items):=of_decide_eq_true hc;obtain⟨us,hu,ru⟩:=bj.hp _ _ fO;rw[s2.eq i hi] at hu;refine⟨fun w gF=>?_,fun hn=>?_⟩
   ·obtain⟨u,eu,kF⟩:=ru.get gF;refine⟨⟨us,u,bA.of hu,eu⟩,fun x gE hy=>?_⟩;obtain⟨rfl,hy⟩:=hy;have:=hy us (bA.of hu);rw[eu] at this;cases this;exact⟨bj,Step.refl,kF⟩
   ·refine⟨us,bA.of hu,?_⟩;rw[<- ru.length]
    simpa using hn
  ·cases e
 | fl hq r=>
  cases e;refine⟨_,rfl,⟨_,hq.sq⟩,k aq H1 _ ay s1 ?_⟩;intro a8 aI H2 bj s2 hc j;have h2:=aK.mono s2 (.fl hq r);cases h2 with
  | fl h2 r2=>
   refine⟨fun w gF=>?_,fun hn=>?_⟩
   ·obtain⟨u,eu,kF⟩:=r2.get gF;refine⟨⟨_,u,h2.sq,eu⟩,fun x gE hy=>?_⟩;obtain⟨rfl,hy⟩:=hy;have:=hy _ h2.sq;rw[eu] at this;cases this;exact⟨bj,Step.refl,kF⟩
   ·refine⟨_,h2.sq,?_⟩;rw[<- r2.length]
    simpa using hn
 | _=>cases e
theorem Tz{l:Expr}{m:EM}(hl:IE X l m):II X tg l (AY m):=by
 refine PI.imp (SI hl) fun σ H R h=>?_
 obtain⟨φ,ph,ws,hH,hS,h⟩:=h;refine tM.bind hH hS h fun w ph1 aq H1 v ay s1 r1 h=>?_
 obtain⟨r,ph',e,k⟩:=run_lift h;unfold tupI at e;cases r1 with
 | tup hq r=>
  cases e;refine⟨_,rfl,⟨_,cE.of hq⟩,k aq H1 _ ay s1 ?_⟩;intro a8 aI H2 bj s2 hc j;have h2:=cE.of (K:=X.K) (s2.tup _ _ hq);have r2:=r.mono s2;refine⟨fun w gF=>?_,fun hn=>?_⟩
  ·obtain⟨u,eu,kF⟩:=r2.get gF;refine⟨⟨_,u,h2,eu⟩,fun x gE hy=>?_⟩;obtain⟨rfl,hy⟩:=hy;have:=hy _ h2;rw[eu] at this;cases this;exact⟨bj,Step.refl,kF⟩
  ·refine⟨_,h2,?_⟩;rw[<- r2.length]
   simpa using hn
 | _=>cases e
noncomputable def dc(lo:Int)(n:Nat):List W:=(aaK n).map fun i:Nat=>.int (lo+((i:Nat):Int))
noncomputable def B1(xs:List W):Po (List W×(PH->Bool)):=fun ph=>match xs with
 | [.int j]=>if -(2 ^ 62)<=j/\j<2 ^ 62 then some ((dc 0 j.toNat,fun _=>true),ph) else none
 | _=>none
noncomputable def B2(xs:List W):Po (List W×(PH->Bool)):=fun ph=>match xs with
 | [.int i,.int j]=>if -(2 ^ 62)<=i/\i<2 ^ 62/\ -(2 ^ 62)<=j/\j<2 ^ 62 then some ((dc i (j-i).toNat,fun _=>true),ph) else none
 | _=>none
noncomputable def cY(m:AM):IM:=fun σ=>au (m σ) fun xs=>lift (B1 xs)
noncomputable def pg(m:AM):IM:=fun σ=>au (m σ) fun xs=>lift (B2 xs)
theorem GA{K:aao}{lo:Int}{n:Nat}{chk:PH->Bool}{φ:Nat->Addr}{k:Nat}:pf K (sA lo n) (dc lo n) chk φ k H:=by
 intro a8 aI H2 bj s2 hc j;unfold dc;refine⟨fun w gF=>?_,fun hn=>?_⟩
 ·rw[aau] at gF;have hj:j<n:=by
   by_cases hj:j<n
   ·exact hj
   ·rw[acb (by simpa using hj)] at gF;cases gF
  rw[aeg hj] at gF;cases gF;refine⟨hj,fun x gE hy=>?_⟩;obtain⟨rfl,rfl⟩:=hy;exact⟨bj,Step.refl,.int _⟩
 ·have:n<=j:=by simpa using hn
  exact this
theorem NW{a:Expr}{m:AM}{p:Pos}(hg:Gl X "range")(hm:X.mg "range"=none)(ha:IA X [a] m)(hs:aaP [a] X.env=[(false,eval a X.env)]:=by rfl):II X tg (.Call (.Name "range" p) [a] [] pos) (cY m):=by
 refine PI.imp (NN hg hm ha hs) fun σ H R h=>?_
 obtain⟨φ,ph,ws,hH,hS,h⟩:=h;refine tA.bind hH hS h fun xs ph1 aq H1 vs ay s1 r1 h=>?_
 obtain⟨r,ph',e,k⟩:=run_lift h;unfold B1 at e;split at e
 ·split at e
  ·rename_i hc;cases e;cases r1 with
   | cons r r'=>cases r;cases r';exact⟨_,rfl,hc.1,hc.2,k aq H1 _ ay s1 GA⟩
  ·cases e
 ·cases e
theorem NX{a b':Expr}{m:AM}{p:Pos}(hg:Gl X "range")(hm:X.mg "range"=none)(ha:IA X [a,b'] m)(hs:aaP [a,b'] X.env=[(false,eval a X.env),(false,eval b' X.env)]:=by rfl)(iP:aaP [b'] X.env=[(false,eval b' X.env)]:=by rfl) :
  II X tg (.Call (.Name "range" p) [a,b'] [] pos) (pg m):=by
 refine PI.imp (NO hg hm ha hs iP) fun σ H R h=>?_
 obtain⟨φ,ph,ws,hH,hS,h⟩:=h;refine tA.bind hH hS h fun xs ph1 aq H1 vs ay s1 r1 h=>?_
 obtain⟨r,ph',e,k⟩:=run_lift h;unfold B2 at e;split at e
 ·split at e
  ·rename_i hc;cases e;cases r1 with
   | cons r r'=>
    cases r;cases r' with
    | cons r r'=>cases r;cases r';exact⟨_,_,rfl,hc,k aq H1 _ ay s1 GA⟩
  ·cases e
 ·cases e
noncomputable def dA(t:TM)(b:SM):Nat->SM
 | 0=>fun _=>eJ
 | n+1=>fun σ=>au (t σ) fun c=>if c=true then au (b σ) fun f=>match f with
   | .nx ao=>dA t b n ao
   | .ct ao=>dA t b n ao
   | .bk ao=>aA (.nx ao)
   | .rt w=>aA (.rt w)
  else aA (.nx σ)
noncomputable def Out.oI{α:Type}:Out α->Bool
 | .no=>true
 | _=>false
open Classical in
noncomputable def hW(t:TM)(b:SM):SM:=fun σ ph=>if h:∃n,(dA t b n σ ph).oI=false then dA t b h.choose σ ph else .no
theorem NY{D:Ends}{σ:L2.St}(h:tS X (hW t b) D σ H):Gr (tT X t) (tS X b) D σ H:=by
 obtain⟨φ,ph,ws,hH,hS,h⟩:=h;have⟨n,h⟩:∃n,(dA t b n ws ph).Run (fun f ph'=>∀ap H',aD X.K ap ph' H'->Step X.K φ ph.length H ap ph'.length H'->ja X D ap ph' H' f) (XE X φ ph.length H):=by
  unfold hW at h;split at h
  ·exact⟨_,h⟩
  ·exact h.elim
 refine⟨fun m bw H2=>∃a8 aI eW,aD X.K a8 aI H2/\bt X.K a8 aI.length H2 eW bw /\
  (dA t b m eW aI).Run (fun f ph'=>∀ap H',aD X.K ap ph' H'->Step X.K a8 aI.length H2 ap ph'.length H'->ja X D ap ph' H' f) (XE X a8 aI.length H2),⟨n,φ,ph,ws,hH,hS,h⟩,?_⟩
 rintro m bw H2 ⟨a8,aI,eW,bj,ik,h2⟩;cases m with
 | zero=>exact h2.elim
 | succ m=>
  refine tT.bind bj ik h2 fun c g6 eD H3 cX s3 h3=>?_
  cases c with
  | false=>exact lj (h3 eD H3 cX s3 bw (ik.mono s3))
  | true=>
   have IJ:(au (b eW) (fun f=>match f with
    | .nx ao=>dA t b m ao
    | .ct ao=>dA t b m ao
    | .bk ao=>aA (.nx ao)
    | .rt w=>aA (.rt w)) g6).Run _ _:=h3
   rw[cS] at IJ;refine lm ⟨fun ao H'=>∃ap d5 bQ,aD X.K ap d5 H'/\bt X.K ap d5.length H' bQ ao /\
    (dA t b m bQ d5).Run (fun f p'=>∀l6 H4,aD X.K l6 p' H4->Step X.K ap d5.length H' l6 p'.length H4->ja X D l6 p' H4 f) (XE X ap d5.length H'),fun ao H' q=>⟨m,acs _,q⟩,?_⟩
   refine⟨eD,g6,eW,cX,ik.mono s3,IJ.mono (fun f jR h5 fI H5 fH s5=>?_) fun _ _ z=>z⟩;have gZ:=s3.trans s5;cases f with
   | nx eX=>exact fun fJ eL=>⟨fI,jR,eX,fH,eL,h5.mono (fun f p' k ap H' r' s'=>k ap H' r' (gZ.trans s')) fun _ _ z=>z.step s5⟩
   | ct eX=>exact fun fJ eL=>⟨fI,jR,eX,fH,eL,h5.mono (fun f p' k ap H' r' s'=>k ap H' r' (gZ.trans s')) fun _ _ z=>z.step s5⟩
   | bk eX=>exact fun fJ eL=>h5 fI H5 fH gZ fJ eL
   | rt w=>exact fun v hv=>h5 fI H5 fH gZ v hv
theorem O1(hp:afS (model X.prog X.w) X.A X.env X.xe)(hc:IT X c t)(hb:iS X body b):IS X (.While c body [] pos) (hW t b):=
 PS.imp (OT hp hc hb) fun _ _ _ h=>NY h
end
noncomputable def af:AM:=fun _=>aA []
noncomputable def ab(e:EM)(r:AM):AM:=fun σ=>au (e σ) fun w=>au (r σ) fun ws=>aA (w::ws)
noncomputable def ko(ws:List W):Po W:=fun ph=>if ws.length<=aaH then some (.tup ws,ph) else none
noncomputable def lx(ws:List W):Po W:=fun ph=>if ws.length<=aaH then some (.ref ph.length,ph++[.lst ws]) else none
noncomputable def aQ(a:AM):EM:=fun σ=>au (a σ) fun ws=>lift (ko ws)
noncomputable def aR(a:AM):EM:=fun σ=>au (a σ) fun ws=>lift (lx ws)
section
variable{X:Cx}{e:Expr}{es:List Expr}{m:EM}{a:AM}{pos:Pos}
theorem TB:IA X [] af:=PA.imp Gw fun σ H Q h=>by
 obtain⟨φ,ph,ws,hH,hS,h⟩:=h;exact h φ H [] hH Step.refl .nil
theorem QL(he:IE X e m)(hr:IA X es a)(hs:aaP (e::es) X.env=(false,eval e X.env)::aaP es X.env:=by rfl):IA X (e::es) (ab m a):=PA.imp (zC he hr hs) fun σ H Q h=>by
 obtain⟨φ,ph,ws,hH,hS,h⟩:=h;refine tM.bind hH hS h fun w ph1 aq H1 v ay s1 r1 h=>tA.bind ay (hS.mono s1) h fun ys aI a8 H2 vs bj s2 r2 h=>?_
 exact h a8 H2 _ bj (s1.trans s2) (.cons (r1.mono s2) r2)
theorem TC{x1:Nat}(h:IA X es a):IE X (.Tuple es x1 pos) (aQ a):=PE.imp (SU h) fun σ H Q h=>by
 obtain⟨φ,ph,ws,hH,hS,h⟩:=h;refine tA.bind hH hS h fun xs ph1 aq H1 vs ay s1 r1 h=>?_
 obtain⟨w,ph',e,k⟩:=run_lift h;unfold ko at e;split at e
 ·rename_i hz;cases e;refine⟨by rw[<- r1.length];exact hz,fun p hp=>?_⟩;exact k aq _ _ (ay.tup hp) (s1.trans (gJ hp)) (.tup cj (r1.mono (gJ hp)))
 ·cases e
theorem i0{K:aao}{φ:Nat->Addr}{ph:PH}{H:Hp}{p:Addr}{ws:List W}{vs:List V}(hH:aD K φ ph H)(r:aM K φ ph.length H ws vs)(hp:H p=none) :
  aD K (ext φ ph.length p) (ph++[.lst ws]) (upd H p (.lst vs))/\Step K φ ph.length H (ext φ ph.length p) (ph++[PO.lst ws]).length (upd H p (.lst vs))/\aK K (ext φ ph.length p) (ph++[PO.lst ws]).length (upd H p (.lst vs)) (.ref ph.length) (.ref p):=by
 have hl:(ph++[PO.lst ws]).length=ph.length+1:=by simp
 rw[hl];have s:=zb (K:=K) (φ:=φ) (n:=ph.length) (o:=HO.lst vs) hp;refine⟨hH.new hp ⟨vs,cj,r.mono s⟩,s,?_⟩;have q:aK K (ext φ ph.length p) (ph.length+1) (upd H p (.lst vs)) (.ref ph.length) (.ref (ext φ ph.length p ph.length)):=.ref (acs _);rw[mw] at q;exact q
theorem TF(h:IA X es a):IE X (.List es pos) (aR a):=PE.imp (SV h) fun σ H Q h=>by
 obtain⟨φ,ph,ws,hH,hS,h⟩:=h;refine tA.bind hH hS h fun xs ph1 aq H1 vs ay s1 r1 h=>?_
 obtain⟨w,ph',e,k⟩:=run_lift h;unfold lx at e;split at e
 ·rename_i hz;cases e;refine⟨by rw[<- r1.length];exact hz,fun p hp=>?_⟩;obtain⟨q1,q2,q3⟩:=i0 ay r1 hp;exact k _ _ _ q1 (s1.trans q2) q3
 ·cases e
end
noncomputable def aC(f:List W->Mo W)(a:AM):EM:=fun σ=>au (a σ) f
noncomputable def dY:Fl->Mo W
 | .rt w=>aA w
 | .nx _=>aA .aJ
 | _=>eJ
noncomputable def fM(body:SM)(n np:Nat)(args:List W):Mo W:=if args.length=np then au (body (args.map some++aaF (n-args.length) none)) dY else eJ
theorem bi{body:SM}{np:Nat}{xs:List W}(h:xs.length≠np):fM body n np xs ph=.no:=by
 unfold fM;rw[if_neg h];rfl
noncomputable def bG(P:abw)(w:World):lG:=fun l H s E e s'=>∃C dd H',Flew P w l H s C dd H' e s'/\E (.ref C) dd H'
noncomputable def bT(K:aao)(mg:Str->Option Value)(np:Nat)(f:List W->Mo W):Sp:=fun vs H Q E=>vs.length=np/\∃φ ph args,aD K φ ph H/\aM K φ ph.length H args vs/\(f args ph).Run (fun w ph'=>
 ∀ap H' v,aD K ap ph' H'->Step K φ ph.length H ap ph'.length H'->aK K ap ph'.length H' w v->Q v H') (fun x ph'=>
 ∀ap H' C dd,aD K ap ph' H'->Step K φ ph.length H ap ph'.length H'->mg x.cls=some (.ref C)->C4 K ap ph'.length H' dd x.fs->E (.ref C) dd H')
section
variable{X:Cx}{k:Nat}{f:Addr}{fd:aaV}{ps:List Str}{fm:List W->Mo W}{x:Str}{p pos:Pos}{e:Expr}{es:List Expr}{a:AM}
theorem QM{CX:lG}{sp:Sp}{E:XK}{pins:List (Addr×Obj)}{σ:L2.St}{H:Hp}{s:aaw}{Q:VK}{us:List Value}{vs:List V}(F:bM X.prog X.w X.K X.mg X.base CX k f fd ps sp)(hr:du k X.A)(hb:Binds X.K fd ps [])
  (I:Inv X pins σ H s) (r:Vals vs us) (h:sp vs H Q E) (hx:∀e s',CX X.stack H s E e s'->X.xe e s'):wpAny (model X.prog X.w) X.A (call (.ref f) us) (EP X pins σ Q) X.xe s:=by
 have hl:(us++[]).length=ps.length:=by rw[aee,<- r.length];exact F.len _ _ _ _ h
 have xS:=hb s us I.gA hl;rw[aee] at xS;refine wpAny_call (adK (F.run X.A X.stack s H ⟨us,[]⟩ us vs Q E hr I.WK xS r h) fun r s' hq=>?_);cases r with
 | error e=>exact hx e s' hq
 | ok fl=>
  cases fl with
  | ret u=>exact I.after hq
  | _=>exact adp hq
theorem QN(F:bM X.prog X.w X.K X.mg X.base (bG X.prog X.w) k f fd ps (bT X.K X.mg ps.length fm))(hl:∀{xs:List W} {ph:PH},xs.length≠ps.length->fm xs ph=.no)(hr:du k X.A)(hg:Gl X x)(hm:X.mg x=some (.ref f))
  (hk:acz X.K (.ref f)=true) (hb:Binds X.K fd ps []) (ha:IA X (e::es) a) (eh:(x==("__debug__":Str))=false:=by decide) (he:aaP (e::es) X.env=(false,eval e X.env)::aaP es X.env:=by rfl) (hpl:(adi pos (aaP es X.env)).any (·.1)=false:=by rfl) :
  IE X (.Call (.Name x p) (e::es) [] pos) (aC fm a):=by
 intro pins s σ H Q I h;obtain⟨φ,ph,ws,hH,hS,h⟩:=h;have hA:tA X a σ H (fun vs H1=>∃aq ph1 xs,aD X.K aq ph1 H1/\aM X.K aq ph1.length H1 xs vs/\(fm xs ph1).Run (fun w ph'=>∀ap H' v,aD X.K ap ph' H'->Step X.K aq ph1.length H1 ap ph'.length H'->aK X.K ap ph'.length H' w v->Q v H') (XE X aq ph1.length H1)):=
  tA.bind hH hS h fun xs ph1 aq H1 vs ay s1 r1 h=>⟨aq,ph1,xs,ay,r1,h.mono (fun w ph' k ap H' v r' s' q=>k ap H' v r' (s1.trans s') q) fun _ _ z=>z⟩
 refine abQ (Qg I hg hm (PySem.W.callWith_K (h₀:=X.base) I.ok.mod.xu hk (bb (ha pos pins s σ H _ I hA) fun us s1 ⟨vs,H1,I1,r,q⟩=>⟨I1.gA,?_⟩) he hpl) eh);obtain⟨aq,ph1,xs,ay,r1,h1⟩:=q;have bP:vs.length=ps.length:=by
  rw[<- r1.length];by_cases z:xs.length=ps.length
  ·exact z
  ·rw[hl z] at h1;exact h1.elim
 refine QM (E:=fun c dd H'=>∃x ph' ap,fm xs ph1=.ex x ph'/\aD X.K ap ph' H'/\Step X.K aq ph1.length H1 ap ph'.length H'/\∃C,c=.ref C/\X.mg x.cls=some (.ref C)/\C4 X.K ap ph'.length H' dd x.fs) F hr hb I1 r ⟨bP,aq,ph1,xs,ay,r1,?_⟩ fun e s' hx=>?_
 ·cases q:fm xs ph1 with
  | ok w ph'=>rw[q] at h1;exact h1
  | ex x ph'=>exact fun ap H' C dd hr hs hm hf=>⟨x,ph',ap,rfl,hr,hs,C,rfl,hm,hf⟩
  | no=>rw[q] at h1;exact h1
 ·obtain⟨C,dd,H',m3,x,ph',ap,ef,iT,X0,C',ec,C8,X1⟩:=hx;cases ec;rw[ef] at h1;exact h1 ap H' e s' iT X0 ⟨C,dd,C8,X1,.inr ⟨pins,σ,H1,s1,I1,m3⟩⟩
end
section
variable{P:abw}{w:World}{K:aao}{mg:Str->Option Value}{base:Heap}
variable{H':Hp}
theorem QO{h:Heap}{fr:List Addr}(aH:cQ P w H' h)(hf:∀b∈fr,H' b=none):cQ P w H' (afc h fr):=fun a o e=>by
 refine(aH a o e).gQ (fun b u hb q=>adn _ q fun hm=>?_) (fun _ q=>q) fun _ _ q=>q
 have:=hf b hm
 rcases hb with z | z
 ·rw[z,e] at this;cases this
 ·rw[z] at this;cases this
theorem zc{env:Env}{l:List Env}(hf:env.frame=some env.locals):fv (env::l)=env.locals::fv l:=by
 unfold fv;rw[acI,hf]
variable{E:Value->aaw->Prop}{C:Addr}{dd:Option Addr}
theorem MH{M:Model}{A:acM}{s:aaw}{base h:Heap}{env:Env}{outer:List Env}{L e:Addr}{Q:Unit->aaw->Prop}
  (gX:A.frames=some (env::outer)) (hf:env.frame=some L) (lJ:base.StaysIn h) (hl:h.FunFrames base (env::outer)) (hx:G4 h s.heap e C dd)
  (hQ:∀h' t,Heap.vH base outer e (.ref C,dd) (.ref t) h'->s.heap.UpToSlots h'->Q () { s with heap:=h' }):wpAny M A (aez env (.ref e)) Q E s:=by
 obtain⟨t,he⟩:=hx.there;have fresh:∀b,h.get? b=none->base.get? b=none:=fun b hb=>by
  cases hq:base.get? b with
  | none=>rfl
  | some o'=>have:=lJ b o' hq;rw[hb] at this;cases this
 refine Kr (a0:=.ref t) gX (hl.of_keeps fun b o hb _=>⟨o,hx.keeps b o hb,rfl⟩) hf he (fun b o hb=>hx.keeps b o (lJ b o hb)) (fresh e hx.new) rfl rfl rfl fun h' hL=>?_
 obtain⟨k1,⟨_,_,k2⟩,k3,k4⟩:=hL;exact hQ h' t ⟨k1,fresh e hx.new,k2,k3⟩ k4
theorem EE{X:Cx}{e:Value}{s':aaw}(c9:X.stack=X.env::X.outer)(hf:X.env.frame=some X.env.locals)(hex:X.ex=[])(hm:Made X C dd H' e s') :
  wpAny (model X.prog X.w) X.A (aez X.env e) (fun _ fQ=>Flew X.prog X.w X.outer X.aO X.aE C dd H' e fQ) E s':=by
 obtain⟨pins,σ,s,h',a,rfl,rfl,I,hx⟩:=hm;have sf:=I.vF;have hl:=I.stack;rw[c9] at sf hl;have pk:∀env∈X.env::X.outer,∀b,env.frame=some b->b∈fv (X.env::X.outer):=fun env he b hb=>aer.mpr ⟨env,he,hb⟩
 have iU:∀b:Addr,b∉X.ex:=fun b z=>by rw[hex] at z;exact nomatch z
 have out:∀b o,X.aE.heap.get? b=some o->b∉X.fs->b∉fv (X.env::X.outer):=fun b o e hb hm=>by
  rw[zc hf] at hm
  rcases aaO.mp hm with z | z
  ·exact absurd (aay (aax e) I.ok.above) (by rw[z];exact abP _)
  ·exact hb z
 refine MH (base:=afc s.heap (fv (X.env::X.outer))) (h:=s.heap) (by rw[I.ok.frames,c9]) hf (fun b o q=>afQ _ q) (PySem.W.funFrames_hide hl pk) hx fun X2 t f1 f4=>?_
 refine⟨a,.ref t,_,rfl,I.os,I.bare,f1,QO I.aH sf,⟨fun b o e n hb=>adn _ (I.base.keep b o e n hb (iU b)) (out b o e hb),fun b o e n hb=>?_,fun b o e n=>I.base.free b o e n (iU b),fun b o e hb=>?_,I.base.gb,I.base.fb,I.base.gc⟩⟩
 ·obtain⟨sl,e1⟩:=I.base.slot b o e n hb (iU b);obtain⟨_,o',ho,hd⟩:=I.ok.gR.mem hb;rw[e] at ho;cases ho;obtain⟨sG,e2⟩:=f4 b _ (hx.keeps b _ e1) hd;exact⟨sG,e2⟩
 ·obtain⟨o',e1⟩:=I.base.there b o e (iU b);exact⟨o',adn _ e1 (out b o e hb)⟩
theorem EF{X:Cx}{H0:Hp}{e:Value}{s s':aaw}{pins:List (Addr×Obj)}{σ:L2.St}(c9:X.stack=X.env::X.outer)(hf:X.env.frame=some X.env.locals)(hex:X.ex=[])(I:Inv X pins σ H0 s)
  (hm:Flew X.prog X.w X.stack H0 s C dd H' e s'):wpAny (model X.prog X.w) X.A (aez X.env e) (fun _ fQ=>Flew X.prog X.w X.outer X.aO X.aE C dd H' e fQ) E s':=by
 obtain⟨a,a0,B,rfl,ho,VN,m3,aH,u⟩:=hm;rw[c9] at m3 u;have iU:∀b:Addr,b∉X.ex:=fun b z=>by rw[hex] at z;exact nomatch z
 have out:∀b o,X.aE.heap.get? b=some o->b∉X.fs->b∉fv (X.env::X.outer):=fun b o e hb hm=>by
  rw[zc hf] at hm
  rcases aaO.mp hm with z | z
  ·exact absurd (aay (aax e) I.ok.above) (by rw[z];exact abP _)
  ·exact hb z
 refine K7 (by rw[I.ok.frames,c9]) hf m3 fun X2 f1 f4=>?_
 refine⟨a,a0,B,rfl,ho.trans I.os,VN,f1,aH,⟨fun b o e n hb=>u.keep b o (I.base.keep b o e n hb (iU b)) (I.base.free b o e n (iU b)) (out b o e hb),fun b o e n hb=>?_,fun b o e n=>?_,fun b o e hb=>?_,
  fun b xs e=>u.gb b xs (I.base.gb b xs e),fun b ob xs e=>u.fb b ob xs (I.base.fb b ob xs e),fun b ps e=>?_⟩⟩
 ·obtain⟨sl,e1⟩:=I.base.slot b o e n hb (iU b);obtain⟨_,o',fG,hd⟩:=I.ok.gR.mem hb;rw[e] at fG;cases fG;obtain⟨sG,e2⟩:=u.slot b _ e1 (I.base.free b o e n (iU b)) (by rw[zc hf];exact aaY _ hb);obtain⟨X3,e3⟩:=f4 b _ e2 hd;exact⟨X3,e3⟩
 ·obtain⟨o',e1⟩:=I.base.there b o e (iU b);exact u.free b o' e1 (I.base.free b o e n (iU b))
 ·obtain⟨o',e1⟩:=I.base.there b o e (iU b);exact u.there b o' e1 (out b o e hb)
 ·obtain⟨m1,e1⟩:=I.base.gc b ps e;obtain⟨m2,e2⟩:=u.gc b _ e1;exact⟨m1++m2,by rw[e2,afR]⟩
theorem TH{x qual:Str}{st:Stmt}{f:Addr}{fd:aaV}{N ps:List Str}{k:Nat}{body:SM}(F:jj K x qual st f fd)(S:cx N ps (bf st))
  (kg:∀(bI:Value) (A:acM) (outer:List Env) (s:aaw) (H:Hp) (E:XK),du k (A.deeper (aes qual (bf st) s.heap.objs.size f bI)) →
   iS (gd (bG P w) P w K mg base N qual (bf st) f bI A outer s H E) (fB st) body):bM P w K mg base (bG P w) (k+1) f fd ps (bT K mg ps.length (fM body N.length ps.length)):=by
 obtain⟨oc,od,kV,doc,pm,an,bI,ct,gW,rfl,lk,hcd⟩:=F.ex;refine VC lk hcd S (fun vs H Q E h=>h.1) fun A outer s H vs Q E hr h=>?_
 obtain⟨hl,φ,ph,args,hH,ra,h⟩:=h;refine⟨_,kg bI A outer s H E hr,?_⟩;have g7:args.length=vs.length:=ra.length;unfold fM at h;rw[if_pos (g7.trans hl),cS,g7] at h;refine⟨φ,ph,_,hH,bt.start (N.length-vs.length) ra,h.mono (fun fl ph' h aq H1 ay s1=>?_) fun x ph' h ap H' e s' r' cJ th=>?_⟩
 ·cases fl with
  | rt w=>exact fun v rv=>h aq H1 v ay s1 rv
  | nx ao=>exact fun σ1 ij=>h aq H1 .aJ ay s1 .aJ
  | bk ao=>exact h.elim
  | ct ao=>exact h.elim
 ·obtain⟨C,dd,hm,C9,th⟩:=th;have hE:=h ap H' C dd r' cJ hm C9;have key:wpAny (model P w) (A.deeper (aes qual (bf st) s.heap.objs.size f bI)) (aez (aes qual (bf st) s.heap.objs.size f bI) e) (fun _ fQ=>Flew P w outer H s C dd H' e fQ) (fun e' fQ=>bG P w outer H s E e' fQ) s':=by
   rcases th with th | ⟨pins,σ,H0,s0,I0,th⟩
   ·exact EE (X:=gd (bG P w) P w K mg base N qual (bf st) f bI A outer s H E) rfl rfl rfl th
   ·exact EF (X:=gd (bG P w) P w K mg base N qual (bf st) f bI A outer s H E) rfl rfl rfl I0 th
  exact abE key (fun _ fQ q=>⟨C,dd,H',q,hE⟩) fun _ _ q=>q
end
theorem FW{K:aao}{φ:Nat->Addr}{n:Nat}{H:Hp}:∀(ns:List Int),aM K φ n H (ns.map W.int) (ns.map V.int)
 | []=>.nil
 | n::ns=>.cons (.int n) (FW ns)
theorem bJ.or{f:Value->Value->Sem Value}{r r':R2}(h:bJ X f r)(h':bJ X f r'):bJ X f (fun x y H Q=>r x y H Q\/r' x y H Q):=by
 intro pins s σ H x y v u Q I rx ry q
 rcases q with q | q
 ·exact h pins s σ H x y v u Q I rx ry q
 ·exact h' pins s σ H x y v u Q I rx ry q
noncomputable def cC(w:W)(ph:PH):Option (List W):=match w with
 | .tup ws=>some ws
 | .fl ws=>some ws
 | .ref i=>match ph[i]? with
  | some (.lst ws)=>some ws
  | _=>none
 | _=>none
variable{v:V}{ws:List W}
theorem zd{w:W}(hH:aD K φ ph H)(r:aK K φ ph.length H w v)(e:cC w ph=some ws) :
  ∃a vs,v=.ref a/\(bA K H a vs\/cE K H a vs)/\aM K φ ph.length H ws vs:=by
 unfold cC at e;cases r with
 | tup h r=>cases e;exact⟨_,_,rfl,.inr (cE.of h),r⟩
 | fl h r=>cases e;exact⟨_,_,rfl,.inl h.sq,r⟩
 | ref hi=>
  simp only at e;split at e
  ·rename_i bQ hw;cases e;obtain⟨vs,hv,r⟩:=hH.hp _ _ hw;exact⟨_,vs,rfl,.inl (bA.of hv),r⟩
  ·cases e
 | _=>cases e
theorem NZ{w:W}(hH:aD K φ ph H)(r:aK K φ ph.length H w v)(e:cC w ph=some ws) :
  ∃a vs,v=.ref a/\(bA K H a vs\/H a=some (.tup vs))/\aM K φ ph.length H ws vs:=by
 unfold cC at e;cases r with
 | tup h r=>cases e;exact⟨_,_,rfl,.inr h,r⟩
 | fl h r=>cases e;exact⟨_,_,rfl,.inl h.sq,r⟩
 | ref hi=>
  simp only at e;split at e
  ·rename_i bQ hw;cases e;obtain⟨vs,hv,r⟩:=hH.hp _ _ hw;exact⟨_,vs,rfl,.inl (bA.of hv),r⟩
  ·cases e
 | _=>cases e
variable{vs:List V}
theorem zH{i:Int}{w:W}(r:aM K φ n H ws vs)(e:cA ws i=some w):∃v,cA vs i=some v/\aK K φ n H w v:=by
 unfold cA at e ⊢;rw[r.length] at e;cases q:gD vs.length i with
 | none=>rw[q] at e;cases e
 | some j=>
  rw[q] at e;exact r.get e
noncomputable def fg:W->W->Po W:=fun x y ph=>match y with
 | .int i=>match x with
  | .str z=>if z.length<=aaH then(cA z.cps.toList i).map fun c=>(.str ⟨#[c]⟩,ph) else none
  | .kt ws=>(cA ws i).map fun w=>(w,ph)
  | x=>(cC x ph).bind fun ws=>(cA ws i).map fun w=>(w,ph)
 | _=>none
theorem VO : de K (xM K) fg := by
  intro φ ph H x y vx vy w ph' Q hH rx ry e k;unfold fg at e;cases ry with
  | int i =>
    cases rx with
    | str z =>
      simp only at e;split at e
      · rename_i hz
        cases q : cA z.cps.toList i with
        | none => rw [q] at e; cases e
        | some c =>
          rw [q] at e;cases e;exact .inr (.inr ⟨z, i, c, rfl, rfl, hz, q, k φ H _ hH Step.refl (.str _)⟩)
      · cases e
    | kt h r =>
      simp only at e;cases q : cA _ i with
      | none => rw [q] at e; cases e
      | some c =>
        rw [q] at e;cases e;obtain ⟨v, ev, rv⟩ := zH r q;exact .inr (.inl ⟨_, _, i, v, rfl, rfl, .inr h, ev, k φ H _ hH Step.refl rv⟩)
    | _ =>
      all_goals
        first
          | (cases e; done)
          | (rename_i h r
             simp only [cC, Option.bind] at e;cases q : cA _ i with
             | none => rw [q] at e; cases e
             | some c =>
               rw [q] at e;cases e;obtain ⟨v, ev, rv⟩ := zH r q
               first
                 | exact .inr (.inl ⟨_, _, i, v, rfl, rfl, cE.of h, ev, k φ H _ hH Step.refl rv⟩)
                 | exact .inl ⟨_, _, i, v, rfl, rfl, h.sq, ev, k φ H _ hH Step.refl rv⟩)
          | (rename_i hi
             simp only [cC] at e;split at e
             · rename_i bQ hw
               simp only [Option.bind] at e;cases q : cA bQ i with
               | none => rw [q] at e; cases e
               | some c =>
                 rw [q] at e;cases e;obtain ⟨vs, hv, r⟩ := hH.hp _ _ hw;obtain ⟨v, ev, rv⟩ := zH r q;exact .inl ⟨_, _, i, v, rfl, rfl, bA.of hv, ev, k φ H _ hH Step.refl rv⟩
             · cases e)
  | _ => cases e
noncomputable def f6(K:aao)(r:List V->Hp->VK->Prop)(f:List W->Po W):Prop:=∀{φ:Nat->Addr} {ph:PH} {H:Hp} {xs:List W} {vs:List V} {w:W} {ph':PH} {Q:VK},aD K φ ph H->aM K φ ph.length H xs vs->f xs ph=some (w,ph') →
 (∀ap H' v,aD K ap ph' H'->Step K φ ph.length H ap ph'.length H'->aK K ap ph'.length H' w v->Q v H')->r vs H Q
noncomputable def aX(f:List W->Po W)(a:AM):EM:=fun σ=>au (a σ) fun xs=>lift (f xs)
section
variable{X:Cx}{x:Str}{p pos:Pos}{e:Expr}{es:List Expr}{t:AM}{id T:String}{r:List V->Hp->VK->Prop}{f:List W->Po W}
theorem Ft(hi:f6 X.K r f){σ:L2.St}{H:Hp}{Q:VK}(h:tM X (aX f t) σ H Q):CY r (tA X t) σ H Q:=by
 obtain⟨φ,ph,ws,hH,hS,h⟩:=h;refine tA.bind hH hS h fun xs ph1 aq H1 vs ay s1 r1 h=>?_
 obtain⟨w,ph',e,k⟩:=run_lift h;exact hi ay r1 e fun a8 H2 v bj s2 r2=>k a8 H2 v bj (s1.trans s2) r2
theorem O2(hc:c6 X (.builtin id) r)(hi:f6 X.K r f)(hg:Gl X x)(hm:X.mg x=none)(hv:abB x=some (.builtin id))(ha:IA X (e::es) t)(hn:x≠"__name__":=by decide)(eh:(x==("__debug__":Str))=false:=by decide)
  (he:aaP (e::es) X.env=(false,eval e X.env)::aaP es X.env:=by rfl) (hpl:(adi pos (aaP es X.env)).any (·.1)=false:=by rfl):IE X (.Call (.Name x p) (e::es) [] pos) (aX f t):=
 PE.imp (Fo hc hg hm hv ha hn eh he hpl) fun _ _ _ h=>Ft hi h
theorem N0(hc:c6 X (.type T) r)(hi:f6 X.K r f)(hg:Gl X x)(hm:X.mg x=none)(hv:abB x=some (.type T))(ha:IA X (e::es) t)(hn:x≠"__name__":=by decide)(eh:(x==("__debug__":Str))=false:=by decide)
  (he:aaP (e::es) X.env=(false,eval e X.env)::aaP es X.env:=by rfl) (hpl:(adi pos (aaP es X.env)).any (·.1)=false:=by rfl):IE X (.Call (.Name x p) (e::es) [] pos) (aX f t):=
 PE.imp (NS hc hg hm hv ha hn eh he hpl) fun _ _ _ h=>Ft hi h
end
theorem c6.or{f:Value}{r r':List V->Hp->VK->Prop}(h:c6 X f r)(h':c6 X f r'):c6 X f (fun xs H Q=>r xs H Q\/r' xs H Q):=by
 intro pins s σ H xs us Q I rx q
 rcases q with q | q
 ·exact h pins s σ H xs us Q I rx q
 ·exact h' pins s σ H xs us Q I rx q
noncomputable def bv:List W->Po W:=fun xs ph=>match xs with
 | [.str z]=>if z.length<=aaH then some (.int z.length,ph) else none
 | [.kt ws]=>some (.int ws.length,ph)
 | [w]=>(cC w ph).map fun ws=>(.int ws.length,ph)
 | _=>none
abbrev HG(K:aao):List V->Hp->VK->Prop:=fun xs H Q=>(∃p ys,xs=[.ref p]/\(bA K H p ys\/cE K H p ys)/\Q (.int ys.length) H)\/(∃z,xs=[.str z]/\z.length<=aaH/\Q (.int z.length) H)
theorem GB:f6 K (HG K) bv:=by
 intro φ ph H xs vs w ph' Q hH r e k;unfold bv at e;split at e
 ·split at e
  ·rename_i hz;cases e;cases r with
   | cons r r'=>cases r;cases r';exact .inr ⟨_,rfl,hz,k φ H _ hH Step.refl (.int _)⟩
  ·cases e
 ·cases e;cases r with
  | cons r r'=>
   cases r';cases r with
   | kt h rs=>exact .inl ⟨_,_,rfl,.inr (.inr h),by rw[<- rs.length];exact k φ H _ hH Step.refl (.int _)⟩
 ·rename_i w0 dm aag;cases r with
  | cons r r'=>
   cases r';cases q:cC w0 ph with
   | none=>rw[q] at e;cases e
   | some ws=>
    rw[q] at e;cases e;obtain⟨a,ys,rfl,hs,rs⟩:=zd hH r q;exact .inl ⟨a,ys,rfl,hs,by rw[<- rs.length];exact k φ H _ hH Step.refl (.int _)⟩
 ·cases e
theorem EX:c6 X (.builtin "len") (HG X.K):=c6.or ME MF
noncomputable def lN(K:aao)(T:String)(r:V->List V->Hp->VK->Prop)(f:W->List W->Po W):Prop:=∀{φ:Nat->Addr} {ph:PH} {H:Hp} {x:W} {xs:List W} {vx:V} {vs:List V} {w:W} {ph':PH} {Q:VK},
 aD K φ ph H->aK K φ ph.length H x vx->aM K φ ph.length H xs vs->f x xs ph=some (w,ph') →
 (∀ap H' v,aD K ap ph' H'->Step K φ ph.length H ap ph'.length H'->aK K ap ph'.length H' w v->Q v H')->r vx vs H Q
noncomputable def m4(K:aao)(T:String)(ty:W->PH->Bool):Prop:=∀{φ:Nat->Addr} {ph:PH} {H:Hp} {x:W} {vx:V},aD K φ ph H->aK K φ ph.length H x vx->ty x ph=true->xN K T vx H
noncomputable def oJ(b:PH->Bool):Po Unit:=fun ph=>if b ph=true then some ((),ph) else none
noncomputable def cz(ty:W->PH->Bool)(f:W->List W->Po W)(o:EM)(a:AM):EM:=fun σ=>au (o σ) fun x=>au (lift (oJ (ty x))) fun _=>au (a σ) fun xs=>lift (f x xs)
noncomputable def bU(w:W)(ph:PH):Bool:=match w with
 | .ref i=>match ph[i]? with
  | some (.lst _)=>true
  | _=>false
 | .fl _=>true
 | _=>false
theorem G5:m4 K "list" bU:=by
 intro φ ph H x vx hH rx e;unfold bU at e;cases rx with
 | ref hi=>
  simp only at e;split at e
  ·rename_i bQ hw;obtain⟨vs,hv,r⟩:=hH.hp _ _ hw;exact .inl ⟨rfl,vs,bA.of hv⟩
  ·cases e
 | fl h r=>exact .inl ⟨rfl,_,h.sq⟩
 | _=>cases e
section
variable{X:Cx}{o e:Expr}{es:List Expr}{mo:EM}{t:AM}{name:Str}{apos eG:Pos}{T id:String}{r:V->List V->Hp->VK->Prop}{ty:W->PH->Bool}{f:W->List W->Po W}
theorem O3(ht:m4 X.K T ty)(hi:lN X.K T r f){σ:L2.St}{H:Hp}{Q:VK}(h:tM X (cz ty f mo t) σ H Q):Iw X.K T r (tM X mo) (tA X t) σ H Q:=by
 obtain⟨φ,ph,ws,hH,hS,h⟩:=h;refine tM.bind hH hS h fun x ph1 aq H1 v ay s1 r1 h=>?_
 rw[cS] at h;obtain⟨_,aI,e2,h⟩:=run_lift h;unfold oJ at e2;split at e2
 ·rename_i hy;cases e2;refine⟨ht ay r1 hy,tA.bind ay (hS.mono s1) h fun xs aI a8 H2 vs bj s2 r2 h=>?_⟩;obtain⟨w,ph',e,k⟩:=run_lift h;exact hi bj (r1.mono s2) r2 e fun eD H3 v cX s3 r3=>k eD H3 v cX ((s1.trans s2).trans s3) r3
 ·cases e2
theorem VP(pa:aea T)(slot:Slot T name id)(ic:typeOf (.builtin id)=pure (.type "method_descriptor"))(hm:mY X id r)(ht:m4 X.K T ty)(hi:lN X.K T r f)(ho:IE X o mo)(ha:IA X (e::es) t)
  (gr:acK o name X.env (eval o X.env)=eval o X.env:=by rfl)
  (BS:((adi eG (aaP (e::es) X.env)).all (fun x=> !x.1)&&(backToKw eG (keywordEach [] X.env)).all (fun x=>x.1.isSome)
   && decide ((e::es).length+([]:List Keyword).length+(if([]:List Keyword).isEmpty then 0 else 1)<30))=true:=by rfl)
  (gu:(apos.endLine==eG.line)=true:=by rfl) (hs:aaP (e::es) X.env=(false,eval e X.env)::aaP es X.env:=by rfl) (z7:(adi eG (aaP es X.env)).any (·.1)=false:=by rfl) :
  IE X (.Call (.Attribute o name apos) (e::es) [] eG) (cz ty f mo t):=
 PE.imp (VF pa slot ic hm ho ha gr BS gu hs z7) fun _ _ _ h=>O3 ht hi h
theorem TJ(pa:aea T)(slot:Slot T name id)(ic:typeOf (.builtin id)=pure (.type "method_descriptor"))(hm:mY X id r)(ht:m4 X.K T ty)(hi:lN X.K T r f)(ho:IE X o mo)
  (gr:acK o name X.env (eval o X.env)=eval o X.env:=by rfl) (gu:(apos.endLine==eG.line)=true:=by rfl):IE X (.Call (.Attribute o name apos) [] [] eG) (cz ty f mo af):=by
 refine PE.imp (S5 pa slot ic hm ho gr gu) fun σ H Q h=>?_
 obtain⟨φ,ph,ws,hH,hS,h⟩:=h;refine tM.bind hH hS h fun x ph1 aq H1 v ay s1 r1 h=>?_
 rw[cS] at h;obtain⟨_,aI,e2,h⟩:=run_lift h;unfold oJ at e2;split at e2
 ·rename_i hy;cases e2;refine⟨ht ay r1 hy,?_⟩;obtain⟨w,ph',e,k⟩:=run_lift h;exact hi ay r1 .nil e fun eD H3 v cX s3 r3=>k eD H3 v cX (s1.trans s3) r3
 ·cases e2
end
variable{i:Nat}
theorem vp{xT:List W}(hH:aD K φ ph H)(hi:ph[i]? =some (.lst xT))(r:aM K φ ph.length H ws vs) :
  aD K φ (ph.set i (.lst ws)) (upd H (φ i) (.lst vs))/\Step K φ ph.length H φ (ph.set i (.lst ws)).length (upd H (φ i) (.lst vs)):=by
 obtain⟨y,ey,my⟩:=hH.mu hi rfl;have s:=mf (K:=K) (φ:=φ) (n:=ph.length) (y:=HO.lst vs) ey my;rw[abg];exact⟨hH.put hi rfl ⟨vs,cj,r.mono s⟩,s⟩
noncomputable def cB:W->List W->Po W:=fun x xs ph=>match x,xs with
 | .ref i,[y]=>match ph[i]? with
  | some (.lst ws)=>if ws.length<aaH then some (.aJ,ph.set i (.lst (ws++[y]))) else none
  | _=>none
 | _,_=>none
theorem N1:lN K "list" FU cB:=by
 intro φ ph H x xs vx vs w ph' Q hH rx rs e k;unfold cB at e;split at e
 ·rename_i i y;split at e
  ·rename_i ws hw;split at e
   ·rename_i hz;cases e;cases rx with
    | ref hi=>
     cases rs with
     | cons ry rr=>
      cases rr;obtain⟨us,hv,r⟩:=hH.hp _ _ hw;obtain⟨q1,q2⟩:=vp hH hw (r.append (.cons ry .nil));exact⟨_,us,_,rfl,rfl,hv,by rw[<- r.length];exact hz,k φ _ _ q1 q2 .aJ⟩
   ·cases e
  ·cases e
 ·cases e
noncomputable def aac:W->List W->Po W:=fun x xs ph=>match x,xs with
 | .ref i,[]=>match ph[i]? with
  | some (.lst _)=>some (.aJ,ph.set i (.lst []))
  | _=>none
 | _,_=>none
noncomputable def oK:W->List W->Po W:=fun x xs ph=>match x,xs with
 | .ref i,[]=>match ph[i]? with
  | some (.lst ws)=>match ws[ws.length-1]? with
   | some y=>some (y,ph.set i (.lst ws.dropLast))
   | none=>none
  | _=>none
 | _,_=>none
theorem aM.dropLast{K:aao}{φ:Nat->Addr}{n:Nat}{H:Hp}:∀{ws:List W} {vs:List V},aM K φ n H ws vs->aM K φ n H ws.dropLast vs.dropLast
 | _,_,.nil=>.nil
 | _,_,.cons h .nil=>.nil
 | _,_,.cons h (.cons h' r)=>.cons h (aM.dropLast (.cons h' r))
theorem TK:lN K "list" HD oK:=by
 intro φ ph H x xs vx vs w ph' Q hH rx rs e k;unfold oK at e;split at e
 ·rename_i i;split at e
  ·rename_i ws hw;split at e
   ·rename_i y hy;cases e;cases rx with
    | ref hi=>
     cases rs;obtain⟨us,hv,r⟩:=hH.hp _ _ hw;obtain⟨u,hu,ru⟩:=r.get hy;rw[r.length] at hu;obtain⟨q1,q2⟩:=vp hH hw r.dropLast;exact⟨_,us,u,rfl,rfl,hv,hu,k φ _ _ q1 q2 (ru.mono (by rw[abg] at q2;simpa using q2))⟩
   ·cases e
  ·cases e
 ·cases e
noncomputable def jc:W->Po W:=fun x=>match x with
 | .int i=>ret (.int (-i))
 | _=>fc
theorem TL:IH K (rU fun i=>.int (-i)) jc:=by
 intro φ ph H x vx w ph' Q hH rx e k;unfold jc at e;split at e
 ·cases e;cases rx;exact⟨_,rfl,k φ H _ hH Step.refl (.int _)⟩
 ·cases e
noncomputable def dj:W->W->Po W:=pe fun i j=>i-j
theorem TN:de K (jg fun i j=>.int (i-j)) dj:=VI
noncomputable def aN:W->W->Po W:=oF (fun _ j=>decide (j≠0)) fun i j=>i.fmod j
theorem TR:de K (rI (fun _ j=>j≠0) fun i j=>.int (i.fmod j)) aN:=Gz fun i j h=>by simpa using h
noncomputable def G6(i j:Int):Prop:=j≠0/\j.natAbs<2 ^ 64
theorem O4:bJ X (acY .FloorDiv) (rI G6 fun i j=>.int (i.fdiv j)):=xE fun i j _ _ _ _ _ hc q=>floordiv_int hc.1 q (.inl (PyProof.noPylong_of_log2 (by
 have h0:j.natAbs≠0:=by have:=hc.1;omega
 have:=(Nat.log2_lt h0).mpr hc.2;omega)))
noncomputable def bS:W->W->Po W:=oF (fun _ j=>decide (j≠0)&&decide (j.natAbs<2 ^ 64)) fun i j=>i.fdiv j
theorem TU:de K (rI G6 fun i j=>.int (i.fdiv j)) bS:=Gz fun i j h=>by
 rw[aaG] at h;exact⟨of_decide_eq_true h.1,of_decide_eq_true h.2⟩
noncomputable def dB:W->W->Po W:=oG fun i j=>decide (i<j)
noncomputable def kG:W->W->Po W:=oG fun i j=>decide (i<=j)
noncomputable def kH:W->W->Po W:=oG fun i j=>decide (j<i)
noncomputable def X4:W->W->Po W:=oG fun i j=>decide (j<=i)
noncomputable def mulC(i j:Int):Bool:=(decide (-(2 ^ 64)<i)&&decide (i<2 ^ 64))||(decide (-(2 ^ 64)<j)&&decide (j<2 ^ 64))
noncomputable def mN:W->W->Po W:=fun x y=>match x,y with
 | .int i,.int j=>if mulC i j=true then ret (.int (i*j)) else fc
 | _,_=>fc
theorem TV:de K (rI rX fun i j=>.int (i*j)) mN:=by
 intro φ ph H x y vx vy w ph' Q hH rx ry e k;unfold mN at e;split at e
 ·split at e
  ·rename_i hc;cases e;cases rx;cases ry;refine⟨_,_,rfl,rfl,?_,k φ H _ hH Step.refl (.int _)⟩;unfold mulC at hc;simp only[acU,aaG,decide_eq_true_eq] at hc;exact hc
  ·cases e
 ·cases e
noncomputable def addW:W->W->Po W:=fun x y ph=>match x,y with
 | .int i,.int j=>some (.int (i+j),ph)
 | .str i,.str j=>if i.length+j.length<=aaH then some (.str (i++j),ph) else none
 | .ref a,.ref b=>match ph[a]?,ph[b]? with
  | some (.lst xs),some (.lst ys)=>if xs.length+ys.length<=aaH then some (.ref ph.length,ph++[.lst (xs++ys)]) else none
  | _,_=>none
 | .tup xs,.tup ys=>if xs≠[]/\xs.length+ys.length<=aaH then some (.tup (xs++ys),ph) else none
 | _,_=>none
abbrev G7(K:aao):R2:=fun x y H Q=>((jg fun i j=>.int (i+j)) x y H Q\/∃i j,x=.str i/\y=.str j/\i.length+j.length<=aaH/\Q (.str (i++j)) H)\/(HE x y H Q\/G1 K x y H Q)
theorem QP:bJ X (acY .Add) (G7 X.K):=bJ.or (bJ.or SJ Nt) (bJ.or S7 Qx)
theorem TX:de K (G7 K) addW:=by
 intro φ ph H x y vx vy w ph' Q hH rx ry e k;unfold addW at e;split at e
 ·cases e;cases rx;cases ry;exact .inl (.inl ⟨_,_,rfl,rfl,k φ H _ hH Step.refl (.int _)⟩)
 ·split at e
  ·rename_i hz;cases e;cases rx;cases ry;exact .inl (.inr ⟨_,_,rfl,rfl,hz,k φ H _ hH Step.refl (.str _)⟩)
  ·cases e
 ·split at e
  ·rename_i xs ys hx hy;split at e
   ·rename_i hz;cases e;cases rx;cases ry;obtain⟨us,hu,ru⟩:=hH.hp _ _ hx;obtain⟨vs,hv,rv⟩:=hH.hp _ _ hy;refine .inr (.inl ⟨_,_,us,vs,rfl,rfl,hu,hv,by rw[<- ru.length,<- rv.length];exact hz,fun p hp=>?_⟩);obtain⟨q1,q2,q3⟩:=i0 hH (ru.append rv) hp;exact k _ _ _ q1 q2 q3
   ·cases e
  ·cases e
 ·split at e
  ·rename_i xs ys hz;cases e;cases rx with
   | tup hx rx=>
    cases ry with
    | tup hy ry=>
     rename_i a us b vs;refine .inr (.inr ⟨a,b,us,vs,rfl,rfl,cE.of hx,cE.of hy,?_,by rw[<- rx.length,<- ry.length];exact hz.2,fun he=>?_,fun hn p hp=>?_⟩)
     ·rintro rfl;cases rx;exact hz.1 rfl
     ·subst he;cases ry;refine k φ H _ hH Step.refl ?_;rw[aee];exact .tup hx rx
     ·exact k φ _ _ (hH.tup hp) (gJ hp) (.tup cj ((rx.append ry).mono (gJ hp)))
  ·cases e
 ·cases e
noncomputable def oM:W->W->Po W:=fun x y=>match y with
 | .aJ=>ret (.bl (decide (x=.aJ)))
 | _=>fc
noncomputable def kh:W->W->Po W:=fun x y=>match y with
 | .aJ=>ret (.bl (!decide (x=.aJ)))
 | _=>fc
variable{x:W}
theorem FX(r:aK K φ n H x v):decide (x=.aJ)=decide (v=.aJ):=by
 cases r <;> simp
theorem TY:de K (fun x y H Q=>y=.aJ/\Q (.bl (decide (x=.aJ))) H) oM:=by
 intro φ ph H x y vx vy w ph' Q hH rx ry e k;unfold oM at e;split at e
 ·cases e;cases ry;exact⟨rfl,by rw[<- FX rx];exact k φ H _ hH Step.refl (.bl _)⟩
 ·cases e
theorem QQ:de K (fun x y H Q=>y=.aJ/\Q (.bl (!decide (x=.aJ))) H) kh:=by
 intro φ ph H x y vx vy w ph' Q hH rx ry e k;unfold kh at e;split at e
 ·cases e;cases ry;exact⟨rfl,by rw[<- FX rx];exact k φ H _ hH Step.refl (.bl _)⟩
 ·cases e
noncomputable def mO:List W->Po W:=fun xs=>match xs with
 | [.int i]=>ret (.int i)
 | [.bl b]=>ret (.int (if b then 1 else 0))
 | _=>fc
theorem TZ:f6 K (fun xs H Q=>(∃i,xs=[.int i]/\Q (.int i) H)\/∃k,xs=[.bl k]/\Q (.int (if k then 1 else 0)) H) mO:=by
 intro φ ph H xs vs w ph' Q hH r e k;unfold mO at e;split at e
 ·cases e;cases r with
  | cons r r'=>cases r;cases r';exact .inl ⟨_,rfl,k φ H _ hH Step.refl (.int _)⟩
 ·cases e;cases r with
  | cons r r'=>cases r;cases r';exact .inr ⟨_,rfl,k φ H _ hH Step.refl (.int _)⟩
 ·cases e
noncomputable def WS:List W->Po W:=fun xs=>match xs with
 | [.int i]=>ret (.int (if i<0 then -i else i))
 | _=>fc
noncomputable def rJ(w:W)(ph:PH):Option String:=match w with
 | .aJ=>some "NoneType"
 | .bl _=>some "bool"
 | .int _=>some "int"
 | .str _=>some "str"
 | .tup _=>some "tuple"
 | .fl _=>some "list"
 | .ref i=>match ph[i]? with
  | some (.lst _)=>some "list"
  | some (.aG _)=>some "dict"
  | _=>none
 | .exc .. =>none
 | .fn .. =>none
 | .kt .. =>none
noncomputable def ft(t c:String):Bool:=t==c||(t=="bool"&&c=="int")
noncomputable def iV(c:String)(w:W):Po W:=fun ph=>match rJ w ph with
 | some t=>some (.bl (ft t c),ph)
 | none=>none
noncomputable def kI(c:String)(m:EM):EM:=fun σ=>au (m σ) fun w=>lift (iV c w)
inductive jF(K:aao)(H:Hp):V->String->Prop where
 | aJ:jF K H .aJ "NoneType"
 | bl (x:Bool):jF K H (.bl x) "bool"
 | int (i:Int):jF K H (.int i) "int"
 | str (x:Str):jF K H (.str x) "str"
 | lst {a:Addr} {xs:List V} (e:bA K H a xs):jF K H (.ref a) "list"
 | tup {a:Addr} {xs:List V} (e:cE K H a xs):jF K H (.ref a) "tuple"
 | dk {a:Addr} {kvs:List (Key×V)} (e:H a=some (.dK kvs)):jF K H (.ref a) "dict"
 | dt {a:Addr} {kvs:List (List Key×V)} (e:H a=some (.dT kvs)):jF K H (.ref a) "dict"
theorem QR{w:W}{t:String}(hH:aD K φ ph H)(r:aK K φ ph.length H w v)(e:rJ w ph=some t):jF K H v t:=by
 unfold rJ at e;cases r with
 | aJ=>cases e;exact .aJ
 | bl b=>cases e;exact .bl b
 | int b=>cases e;exact .int b
 | str b=>cases e;exact .str b
 | tup h r=>cases e;exact .tup (cE.of h)
 | fl h r=>cases e;exact .lst h.sq
 | ref hi=>
  simp only at e;split at e
  ·rename_i ws hw;cases e;obtain⟨vs,hv,_⟩:=hH.hp _ _ hw;exact .lst (bA.of hv)
  ·rename_i ws hw;cases e
   rcases hH.hp _ _ hw with⟨kvs,q,_⟩ | ⟨kvs,q,_⟩
   ·exact .dk q
   ·exact .dt q
  ·cases e
 | exc=>cases e
 | fn=>cases e
 | kt=>cases e
noncomputable def mP(K:aao)(c:String):Prop:=∀t∈["NoneType","bool","int","str","list","tuple","dict"],PySem.W.kitOne K (.type t) (.type c)=some (ft t c)
noncomputable def X5(K:aao)(c:String):List V->Hp->VK->Prop:=fun xs H Q=>∃x t,xs=[x,.ty c]/\jF K H x t/\Q (.bl (ft t c)) H
theorem QS{c:String}(hk:mP X.K c):c6 X (.builtin "isinstance") (X5 X.K c):=by
 intro pins s σ H xs us Q I r h;obtain⟨x,t,rfl,kv,q⟩:=h;obtain⟨u,u2,rfl,rx,rc⟩:=Vals.two r;obtain rfl:u2=aeD c:=rc;have fin:∀tk,EP X pins σ Q (.bool (ft t c)) { s with toks:=tk }:=fun tk=>⟨.bl _,H,I.tok tk,rfl,q⟩
 cases kv with
 | aJ=>cases(show u=abT from rx);exact acm PySem.W.kitx_none I.gA adF (hk _ (by decide)) (fun z=>nomatch z) fin
 | bl y=>cases(show u=Value.bool y from rx);exact acm PySem.W.kitx_bool I.gA adF (hk _ (by decide)) (fun z=>nomatch z) fin
 | int i=>obtain⟨t,rfl⟩:=(show ∃t,u=afO i t from rx);exact acm PySem.W.kitx_int I.gA adF (hk _ (by decide)) (fun z=>nomatch z) fin
 | str y=>obtain⟨t,rfl⟩:=(show ∃t,u=agg y t from rx);exact acm PySem.W.kitx_str I.gA adF (hk _ (by decide)) (fun z=>nomatch z) fin
 | @lst a ys e=>
  cases(show u=abv a from rx);obtain⟨its,_,⟨o,n,h1,h2,_⟩,_⟩:=I.list e;exact acm PySem.W.kitx_list I.gA ⟨_,h1,h2⟩ (hk _ (by decide)) (fun z=>nomatch z) fin
 | @tup a ys e=>
  cases(show u=abv a from rx);obtain⟨its,_,⟨o,h1,h2,_⟩,_⟩:=I.tuple e;exact acm PySem.W.kitx_tuple I.gA ⟨_,h1,h2⟩ (hk _ (by decide)) (fun z=>nomatch z) fin
 | @dk a kvs e=>
  cases(show u=abv a from rx);obtain⟨_,_,vs,_,ob,_,_,h1,h2,_⟩:=rG I.aH e;exact acm aga I.gA ⟨_,h1,h2.1⟩ (hk _ (by decide)) (fun z=>nomatch z) fin
 | @dt a kvs e=>
  cases(show u=abv a from rx);obtain⟨_,_,xs,_,ob,_,_,h1,h2,_⟩:=AW I.aH e;exact acm aga I.gA ⟨_,h1,h2.1⟩ (hk _ (by decide)) (fun z=>nomatch z) fin
section
variable{X:Cx}{e:Expr}{m:EM}{p p2 pos:Pos}
theorem VQ{c:Str}{cn:String}(hk:mP X.K cn)(hv:abB c=some (.type cn))(hg:Gl X "isinstance")(hm:X.mg "isinstance"=none)(Dc:Gl X c)(Dd:X.mg c=none)(he:IE X e m)
  (hn:c≠"__name__":=by decide) (hd:(c==("__debug__":Str))=false:=by decide)
  (hs:aaP [e,.Name c p2] X.env=[(false,eval e X.env),(false,eval (.Name c p2) X.env)]:=by rfl) (iP:aaP [.Name c p2] X.env=[(false,eval (.Name c p2) X.env)]:=by rfl)
  (hpl:(adi pos (aaP [.Name c p2] X.env)).any (·.1)=false:=by rfl) :
  IE X (.Call (.Name "isinstance" p) [e,.Name c p2] [] pos) (kI cn m):=by
 refine PE.imp (Fo (QS hk) hg hm PyProof.Rows.boot_isinstance (zC he (zC (Qh (v:=.ty cn) Dc Dd hv rfl hn hd) Gw (by rw[iP];rfl)) (by rw[hs,iP])) (he:=by rw[hs,iP]) (hpl:=hpl)) fun σ H Q h=>?_
 obtain⟨φ,ph,ws,hH,hS,h⟩:=h;refine tM.bind hH hS h fun x ph1 aq H1 vx ay s1 rx h=>?_
 obtain⟨w,ph',e,k⟩:=run_lift h;unfold iV at e;split at e
 ·rename_i t ht;cases e;exact⟨vx,t,rfl,QR ay rx ht,k aq H1 _ ay s1 (.bl _)⟩
 ·cases e
end
theorem O5:mP K "int":=by
 intro t ht;simp only[aaO,adQ,or_false] at ht
 rcases ht with rfl | rfl | rfl | rfl | rfl | rfl | rfl <;> rfl
theorem N2:mP K "bool":=by
 intro t ht;simp only[aaO,adQ,or_false] at ht
 rcases ht with rfl | rfl | rfl | rfl | rfl | rfl | rfl <;> rfl
theorem N3:mP K "list":=by
 intro t ht;simp only[aaO,adQ,or_false] at ht
 rcases ht with rfl | rfl | rfl | rfl | rfl | rfl | rfl <;> rfl
theorem Ny:mP K "tuple":=by
 intro t ht;simp only[aaO,adQ,or_false] at ht
 rcases ht with rfl | rfl | rfl | rfl | rfl | rfl | rfl <;> rfl
noncomputable def bH{α β:Type}(f:α->Option β):List α->Option (List β)
 | []=>some []
 | a::as=>match f a,bH f as with
  | some b,some bs=>some (b::bs)
  | _,_=>none
noncomputable def dat(ph:PH):Nat->W->Option acR
 | _,.aJ=>some .none
 | _,.bl b=>some (.bool b)
 | _,.int i=>some (.int i)
 | _,.str x=>if adq x=true then some (.str x) else none
 | n+1,.tup ws=>(bH (dat ph n) ws).map .tuple
 | n+1,.fl ws=>(bH (dat ph n) ws).map .list
 | n+1,.kt ws=>(bH (dat ph n) ws).map .tuple
 | n+1,.ref i=>match ph[i]? with
  | some (.lst ws)=>(bH (dat ph n) ws).map .list
  | _=>none
 | _,_=>none
section
variable{X:Cx}{pins:List (Addr×Obj)}{σ:L2.St}{H:Hp}{s:aaw}{φ:Nat->Addr}{ph:PH}
noncomputable def lO(s:aaw)(n:Nat)(u:Value)(d:acR):Prop:=(∃as,Reads s.heap u d as)/\d.canLay0=true/\d.depth<=n
theorem yO{n:Nat}(ih:∀{w:W} {v:V} {u:Value} {d:acR},aK X.K φ ph.length H w v->RelV v u->dat ph n w=some d->lO s n u d) :
  ∀{ws:List W} {vs:List V} {us:List Value} {ds:List acR},aM X.K φ ph.length H ws vs->Vals vs us->bH (dat ph n) ws=some ds →
   (∃as,ReadsAll s.heap us ds as)/\agb ds=true/\PyData.depthAll ds<=n
 | _,_,_,_,.nil,.nil,e=>by cases e;exact⟨⟨_,.nil⟩,rfl,abA _⟩
 | w::ws,_,_,ds,.cons h r,.cons hv rv,e=>by
  unfold bH at e;split at e
  ·rename_i b bs e1 e2;cases e;obtain⟨⟨as,r1⟩,c1,d1⟩:=ih h hv e1;obtain⟨⟨IK,r2⟩,c2,d2⟩:=yO ih r rv e2;refine⟨⟨_,.cons r1 r2⟩,?_,?_⟩
   ·simp only[agb,c1,c2,afV]
   ·simp only[PyData.depthAll];omega
  ·cases e
theorem nJ(I:Inv X pins σ H s)(hH:aD X.K φ ph H):∀(n:Nat) {w:W} {v:V} {u:Value} {d:acR},aK X.K φ ph.length H w v->RelV v u->dat ph n w=some d->lO s n u d:=by
 have xc:∀(n:Nat) (ih:∀{w:W} {v:V} {u:Value} {d:acR},aK X.K φ ph.length H w v->RelV v u->dat ph n w=some d->lO s n u d) {ws:List W} {vs:List V} {d:acR} {a:Addr},
   aM X.K φ ph.length H ws vs->((bA X.K H a vs/\(bH (dat ph n) ws).map PyData.list=some d)\/(cE X.K H a vs/\(bH (dat ph n) ws).map afi=some d))->lO s (n+1) (.ref a) d:=by
  intro n ih ws vs d a r h
  rcases h with⟨hq,e⟩ | ⟨hq,e⟩
  ·obtain⟨its,rv,⟨o,k,h1,h2,h3,h4⟩,_⟩:=I.list hq;obtain⟨ds,e1,e2⟩:=aaA.mp e;subst e2;obtain⟨⟨as,r1⟩,c1,d1⟩:=yO ih r rv e1;refine⟨⟨_,.list h1 h2 h4 (by simpa using r1)⟩,by simpa only[aeB] using c1,?_⟩;simp only[PyData.depth];omega
  ·obtain⟨its,rv,⟨o,h1,h2,k,h4⟩,_⟩:=I.tuple hq;obtain⟨ds,e1,e2⟩:=aaA.mp e;subst e2;obtain⟨⟨as,r1⟩,c1,d1⟩:=yO ih r rv e1;refine⟨⟨_,.tuple h1 h2 h4 (by simpa using r1)⟩,by simpa only[aeB] using c1,?_⟩;simp only[PyData.depth];omega
 intro n
 induction n with
 | zero=>
  intro w v u d r rv e;cases r with
  | aJ=>cases rv;cases e;exact⟨⟨_,.none⟩,rfl,aat _⟩
  | bl b=>cases rv;cases e;exact⟨⟨_,.bool b⟩,rfl,aat _⟩
  | int i=>obtain⟨t,rfl⟩:=rv;cases e;exact⟨⟨_,.int i t⟩,rfl,aat _⟩
  | str x=>
   obtain⟨t,rfl⟩:=rv;unfold dat at e;split at e
   ·rename_i hx;cases e;exact⟨⟨_,.str x t⟩,by simpa only[aeB] using hx,aat _⟩
   ·cases e
  | _=>cases e
 | succ n ih=>
  intro w v u d r rv e;cases r with
  | aJ=>cases rv;cases e;exact⟨⟨_,.none⟩,rfl,abA _⟩
  | bl b=>cases rv;cases e;exact⟨⟨_,.bool b⟩,rfl,abA _⟩
  | int i=>obtain⟨t,rfl⟩:=rv;cases e;exact⟨⟨_,.int i t⟩,rfl,abA _⟩
  | str x=>
   obtain⟨t,rfl⟩:=rv;unfold dat at e;split at e
   ·rename_i hx;cases e;exact⟨⟨_,.str x t⟩,by simpa only[aeB] using hx,abA _⟩
   ·cases e
  | tup h r=>cases rv;exact xc n ih r (.inr ⟨cE.of h,e⟩)
  | exc=>unfold dat at e;cases e
  | fn=>unfold dat at e;cases e
  | kt h r=>cases rv;exact xc n ih r (.inr ⟨.inr h,e⟩)
  | fl h r=>cases rv;exact xc n ih r (.inl ⟨h.sq,e⟩)
  | ref hi=>
   cases rv;unfold dat at e;split at e
   ·rename_i ws hw;obtain⟨vs,hv,r⟩:=hH.hp _ _ hw;exact xc n ih r (.inl ⟨bA.of hv,e⟩)
   ·cases e
end
noncomputable def fw(ph:PH)(x y:W):Option Bool:=match dat ph 40 x,dat ph 40 y with
 | some a,some b=>some (abd a b)
 | _,_=>none
noncomputable def aY:W->W->Po W:=fun x y ph=>(fw ph x y).map fun b=>(.bl b,ph)
noncomputable def dJ:W->W->Po W:=fun x y ph=>(fw ph x y).map fun b=>(.bl (!b),ph)
noncomputable def rD(K:aao)(f:Bool->Bool):R2:=fun x y H Q=>∃φ ph wx wy b,aD K φ ph H/\aK K φ ph.length H wx x/\aK K φ ph.length H wy y/\fw ph wx wy=some b/\Q (.bl (f b)) H
variable{y:W}
theorem Fu{b:Bool}(h:fw ph x y=some b):∃dx dy,dat ph 40 x=some dx/\dat ph 40 y=some dy/\b=abd dx dy:=by
 unfold fw at h;split at h
 ·rename_i dx dy h1 h2;cases h;exact⟨dx,dy,h1,h2,rfl⟩
 ·cases h
theorem T1(hu:X.A.units+64<cLine):bJ X (abH .Eq) (rD X.K fun b=>b):=by
 intro pins s σ H x y v u Q I rx ry h;obtain⟨φ,ph,wx,wy,b,hH,r1,r2,e,q⟩:=h;obtain⟨dx,dy,e1,e2,rfl⟩:=Fu e;obtain⟨⟨as,k1⟩,c1,l1⟩:=nJ I hH 40 r1 rx e1;obtain⟨⟨bs,k2⟩,c2,l2⟩:=nJ I hH 40 r2 ry e2;exact SeqAt.compareEq_reads k1 k2 c1 c2 (by omega) ⟨.bl _,H,I,rfl,q⟩
theorem T2(hu:X.A.units+64<cLine):bJ X (abH .NotEq) (rD X.K fun b=> !b):=by
 intro pins s σ H x y v u Q I rx ry h;obtain⟨φ,ph,wx,wy,b,hH,r1,r2,e,q⟩:=h;obtain⟨dx,dy,e1,e2,rfl⟩:=Fu e;obtain⟨⟨as,k1⟩,c1,l1⟩:=nJ I hH 40 r1 rx e1;obtain⟨⟨bs,k2⟩,c2,l2⟩:=nJ I hH 40 r2 ry e2;exact SeqAt.compareNe_reads k1 k2 c1 c2 (by omega) ⟨.bl _,H,I,rfl,q⟩
theorem VR:de K (rD K fun b=>b) aY:=by
 intro φ ph H x y vx vy w ph' Q hH rx ry e k;obtain⟨b,e1,e2⟩:=aaA.mp e;cases e2;exact⟨φ,ph,x,y,b,hH,rx,ry,e1,k φ H _ hH Step.refl (.bl _)⟩
theorem VS:de K (rD K fun b=> !b) dJ:=by
 intro φ ph H x y vx vy w ph' Q hH rx ry e k;obtain⟨b,e1,e2⟩:=aaA.mp e;cases e2;exact⟨φ,ph,x,y,b,hH,rx,ry,e1,k φ H _ hH Step.refl (.bl _)⟩
noncomputable def inD(ph:PH)(x y:W):Option Bool:=match cC y ph,dat ph 40 x with
 | some ws,some dx=>(bH (dat ph 40) ws).map fun ds=>ds.any fun d=>abd d dx
 | _,_=>none
noncomputable def jk:W->W->Po W:=fun x y ph=>(inD ph x y).map fun b=>(.bl b,ph)
noncomputable def xf:W->W->Po W:=fun x y ph=>(inD ph x y).map fun b=>(.bl (!b),ph)
noncomputable def oN(K:aao)(f:Bool->Bool):R2:=fun x y H Q=>∃φ ph wx wy b,aD K φ ph H/\aK K φ ph.length H wx x/\aK K φ ph.length H wy y/\inD ph wx wy=some b/\Q (.bl (f b)) H
open Classical in
noncomputable def mG(s:aaw)(dx:acR)(u:Value):Bool:=if h:∃d,lO s 40 u d then abd h.choose dx else false
variable{d:acR}
theorem Fv{s:aaw}{dx:acR}{u:Value}(h:lO s 40 u d):mG s dx u=abd d dx:=by
 unfold mG;have hx:∃d,lO s 40 u d:=⟨d,h⟩
 rw[dif_pos hx];obtain⟨⟨as,r⟩,c,_⟩:=h;obtain⟨⟨as',r'⟩,c',_⟩:=hx.choose_spec;rw[SeqAt.Reads.unique _ _ _ _ _ c' r' r]
section
variable{X:Cx}{pins:List (Addr×Obj)}{σ:L2.St}{H:Hp}{s:aaw}{φ:Nat->Addr}{ph:PH}
theorem FY(I:Inv X pins σ H s)(hH:aD X.K φ ph H){dx:acR}:∀{ws:List W} {vs:List V} {us:List Value} {ds:List acR},aM X.K φ ph.length H ws vs->Vals vs us->bH (dat ph 40) ws=some ds →
  (us.any (mG s dx)=ds.any fun d=>abd d dx)/\∀u∈us,∃d,lO s 40 u d
 | _,_,_,_,.nil,.nil,e=>by cases e;exact⟨rfl,fun _ h=>nomatch h⟩
 | w::ws,_,_,ds,.cons h r,.cons hv rv,e=>by
  unfold bH at e;split at e
  ·rename_i b bs e1 e2;cases e;have q:=nJ I hH 40 h hv e1;obtain⟨r1,r2⟩:=FY I hH (dx:=dx) r rv e2;refine⟨by rw[aca,aca,r1,Fv q],fun u hu=>?_⟩
   rcases aaO.mp hu with rfl | hu
   ·exact⟨_,q⟩
   ·exact r2 u hu
  ·cases e
theorem FZ(I:Inv X pins σ H s)(hH:aD X.K φ ph H){wx wy:W}{x y:V}{v u:Value}{b:Bool}(hu:X.A.units+64<cLine)(r1:aK X.K φ ph.length H wx x)(r2:aK X.K φ ph.length H wy y)(rx:RelV x v)(ry:RelV y u)(e:inD ph wx wy=some b) :
  ∃(a:Addr) (its:List Value) (f:Value->Bool),u=.ref a/\(s.heap.IsList a its.toArray\/s.heap.IsTuple a its.toArray)/\(∀z,z∈its.toArray->SeqAt.EqAt X.A.in1 s z v (f z))/\its.toArray.any f=b:=by
 unfold inD at e;split at e
 ·rename_i ws dx hs hd;obtain⟨ds,e1,e2⟩:=aaA.mp e;obtain⟨a,vs,rfl,hq,rs⟩:=zd hH r2 hs;cases ry;obtain⟨⟨as,k1⟩,c1,l1⟩:=nJ I hH 40 r1 rx hd;have fin:∀{its:List Value},Vals vs its->(∀z,z∈its.toArray->SeqAt.EqAt X.A.in1 s z v (mG s dx z))/\its.toArray.any (mG s dx)=b:=fun{its} rv=>by
   obtain⟨q1,q2⟩:=FY I hH (dx:=dx) rs rv e1;refine⟨fun z hz=>?_,by rw[show its.toArray.any (mG s dx)=its.any (mG s dx) by simp,q1,e2]⟩;obtain⟨d,hd⟩:=q2 z (by simpa using hz);rw[Fv hd];obtain⟨⟨bs,k2⟩,c2,l2⟩:=hd;intro prog w E Q hQ;exact SeqAt.eqBoolOverData prog w _ E s z v d dx bs as Q k2 k1 c2 c1 (by show X.A.units+1+_<_;omega) hQ
  rcases hq with hq | hq
  ·obtain⟨its,rv,pl,_⟩:=I.list hq;obtain⟨f1,f2⟩:=fin rv;exact⟨a,its,_,rfl,.inl pl.isList,f1,f2⟩
  ·obtain⟨its,rv,pl,_⟩:=I.tuple hq;obtain⟨f1,f2⟩:=fin rv;exact⟨a,its,_,rfl,.inr pl,f1,f2⟩
 ·cases e
end
theorem T3(hu:X.A.units+64<cLine):bJ X (abH .In) (oN X.K fun b=>b):=by
 intro pins s σ H x y v u Q I rx ry h;obtain⟨φ,ph,wx,wy,b,hH,r1,r2,e,q⟩:=h;obtain⟨a,its,f,rfl,hq,hf,hb⟩:=FZ I hH hu r1 r2 rx ry e;subst hb
 rcases hq with hq | hq
 ·exact SeqAt.in_listAt f hq hf ⟨.bl _,H,I,rfl,q⟩
 ·exact SeqAt.in_tupleAt f hq hf ⟨.bl _,H,I,rfl,q⟩
theorem QU(hu:X.A.units+64<cLine):bJ X (abH .NotIn) (oN X.K fun b=> !b):=by
 intro pins s σ H x y v u Q I rx ry h;obtain⟨φ,ph,wx,wy,b,hH,r1,r2,e,q⟩:=h;obtain⟨a,its,f,rfl,hq,hf,hb⟩:=FZ I hH hu r1 r2 rx ry e;subst hb
 rcases hq with hq | hq
 ·exact SeqAt.notIn_listAt f hq hf ⟨.bl _,H,I,rfl,q⟩
 ·exact SeqAt.notIn_tupleAt f hq hf ⟨.bl _,H,I,rfl,q⟩
theorem VT:de K (oN K fun b=>b) jk:=by
 intro φ ph H x y vx vy w ph' Q hH rx ry e k;obtain⟨b,e1,e2⟩:=aaA.mp e;cases e2;exact⟨φ,ph,x,y,b,hH,rx,ry,e1,k φ H _ hH Step.refl (.bl _)⟩
theorem T4:de K (oN K fun b=> !b) xf:=by
 intro φ ph H x y vx vy w ph' Q hH rx ry e k;obtain⟨b,e1,e2⟩:=aaA.mp e;cases e2;exact⟨φ,ph,x,y,b,hH,rx,ry,e1,k φ H _ hH Step.refl (.bl _)⟩
noncomputable def nO(env:Env)(x:Str×ada)(s:List (Str×Addr)):Sem (ForInStep (List (Str×Addr))):=
 if(x.2==aaR)=true then do
  let a <- cellOf env x.1
  pure (acn ((x.1,a)::s))
 else pure (acn s)
theorem ze(env:Env):∀(names:List (Str×ada)) (acc:List (Str×Addr)),(∀y∈names,y.2=.free->∃c,env.cells.lookup y.1=some c) →
  ∃cl,(forIn names acc (nO env):Sem (List (Str×Addr)))=pure cl/\(∀x c,cl.lookup x=some c->acc.lookup x=some c\/(env.cells.lookup x=some c/\(x,aaR)∈names)) /\
   (∀x,((∃c,acc.lookup x=some c)\/(x,aaR)∈names)->∃c,cl.lookup x=some c)
 | [],acc,_=>⟨acc,rfl,fun x c h=>.inl h,fun x h=>h.elim id fun z=>nomatch z⟩
 | (n,k)::r,acc,h=>by
  by_cases hk:k=.free
  ·subst hk;obtain⟨c,hc⟩:=h (n,.free) abr rfl;obtain⟨cl,e,h1,h2⟩:=ze env r ((n,c)::acc) fun y hy=>h y (aaY _ hy)
   refine⟨cl,?_,fun x c' hx=>?_,fun x hx=>h2 x ?_⟩
   ·rw[List.forIn_cons];have eb:nO env (n,.free) acc=pure (acn ((n,c)::acc)):=by
     unfold nO;rw[if_pos (by rfl)];unfold cellOf;rw[hc];rfl
    rw[eb];exact e
   ·rcases h1 x c' hx with z | z
    ·rw[aaJ] at z;cases q:x==n with
     | true=>
      rw[q] at z;cases z;have:x=n:=eq_of_beq q;subst this;exact .inr ⟨hc,abr⟩
     | false=>rw[q] at z;exact .inl z
    ·exact .inr ⟨z.1,aaY _ z.2⟩
   ·rcases hx with⟨c',hx⟩ | hx
    ·rw[aaJ];cases q:x==n with
     | true=>exact .inl ⟨c,rfl⟩
     | false=>exact .inl ⟨c',hx⟩
    ·rcases aaO.mp hx with z | z
     ·cases z;exact .inl ⟨c,by rw[aaJ];simp⟩
     ·exact .inr z
  ·obtain⟨cl,e,h1,h2⟩:=ze env r acc fun y hy=>h y (aaY _ hy)
   refine⟨cl,?_,fun x c' hx=>?_,fun x hx=>h2 x ?_⟩
   ·rw[List.forIn_cons];have eb:nO env (n,k) acc=pure (acn acc):=by
     unfold nO;rw[if_neg (by simpa using hk)]
    rw[eb];exact e
   ·rcases h1 x c' hx with z | z
    ·exact .inl z
    ·exact .inr ⟨z.1,aaY _ z.2⟩
   ·rcases hx with hx | hx
    ·exact .inl hx
    ·rcases aaO.mp hx with z | z
     ·cases z;exact absurd rfl hk
     ·exact .inr z
variable{env:Env}
theorem QV{scope:Scope}(h:∀y∈scope.names,y.2=.free->∃c,env.cells.lookup y.1=some c) :
  ∃cl,adG scope env=pure cl/\(∀x c,cl.lookup x=some c->env.cells.lookup x=some c/\(x,aaR)∈scope.names)/\(∀x,(x,aaR)∈scope.names->∃c,cl.lookup x=some c):=by
 obtain⟨cl,e,h1,h2⟩:=ze env scope.names [] h;refine⟨cl,?_,fun x c hx=>?_,fun x hx=>h2 x (.inr hx)⟩
 ·unfold adG;show(forIn scope.names [] (nO env) >>= fun s=>pure s)=pure cl;rw[e];rfl
 ·rcases h1 x c hx with z | z
  ·cases z
  ·exact z
noncomputable def bV(X:Cx)(N:List Str)(scope:Scope)(cl:List (Str×Addr))(C:Addr)(aE:aaw)(aO:Hp)(ex:List Addr):Cx:=
 { X with N:=N,aE:=aE,aO:=aO,env:=compEnvC scope cl C X.env,outer:=X.stack,stack:=X.stack,ex:=ex,fn:=fun _=>false,pn:=[],xe:=fun _ _=>False,kp:=fun _=>True }
noncomputable def kq(cap:List (Option Nat))(σ:L2.St):L2.St:=cap.map fun o=>o.bind fun i=>(σ[i]?).join
noncomputable def rK(wi:TI)(cap:List (Option Nat))(g:TG)(tc:TT)(te:TE):TE:=fun σ H Q=>wi σ H fun J H1=>∀D,H1 D=none->∃W:Nat->Nat->L2.St->Hp->Prop,(∃m,W 0 m (kq cap σ) (upd H1 D (.lst []))) /\
 ∀i m bw H2,W i m bw H2->(J.stop i H2/\Q (.ref D) H2)\/(J.go i H2/\∀x H3,J.o1 i H2 x H3->g x bw H3 fun jt H4=>tc jt H4 fun b H5=>
  if b=true then te jt H5 fun v H6=>∃xs,H6 D=some (.lst xs)/\xs.length<aaH/\∃m',m'<m/\W (i+1) m' jt (upd H6 D (.lst (xs++[v]))) else ∃m',m'<m/\W (i+1) m' jt H5)
noncomputable def PF(X:Cx)(ifs:List Expr)(t:TT):Prop:=
 ∀(pins:List (Addr×Obj)) (s:aaw) (σ:L2.St) (H:Hp) (Q:Bool->Hp->Prop),Inv X pins σ H s->t σ H Q →
  wpAny (model X.prog X.w) X.A (forIn ifs true fun c r=>if r=true then do let ok <- isTrue c X.env (eval c X.env);pure (acn ok) else pure (acn r)) (TP X pins σ Q) X.xe s
theorem T5:PF X [] (fun _ H Q=>Q true H):=fun pins s σ H Q I h=>wpAny_tests_nil ⟨H,I,h⟩
theorem T6{c:Expr}{t:TT}(h:PT X c t):PF X [c] t:=fun pins s σ H Q I q=>wpAny_tests_one (h pins s σ H Q I q)
theorem yw{env:Env}{x:Str}:∀{names:List (Str×ada)},names.lookup x=some .free →
  (names.map fun(n,k)=>if(k==aaR&&env.scope.kind==.function&&env.kindOf n==some .cell) then(n,acf) else(n,k)).lookup x=some .cell \/
  (names.map fun(n,k)=>if(k==aaR&&env.scope.kind==.function&&env.kindOf n==some .cell) then(n,acf) else(n,k)).lookup x=some .free
 | [],h=>by cases h
 | (n,k)::r,h=>by
  rw[aaX];cases q:x==n with
  | true=>
   rw[aaJ,q] at h;cases h;by_cases hc:(aaR==aaR&&env.scope.kind==.function&&env.kindOf n==some .cell)=true
   ·left
    show acV x ((if(aaR==aaR&&env.scope.kind==.function&&env.kindOf n==some .cell)=true then(n,acf) else(n,aaR))::_)=_;rw[if_pos hc,aaJ,q]
   ·right
    show acV x ((if(aaR==aaR&&env.scope.kind==.function&&env.kindOf n==some .cell)=true then(n,acf) else(n,aaR))::_)=_;rw[if_neg hc,aaJ,q]
  | false=>
   rw[aaJ,q] at h;have ih:=yw (env:=env) h;show acV x ((if(k==aaR&&env.scope.kind==.function&&env.kindOf n==some .cell)=true then(n,acf) else(n,k))::_)=_\/acV x ((if(k==aaR&&env.scope.kind==.function&&env.kindOf n==some .cell)=true then(n,acf) else(n,k))::_)=_;by_cases hc:(k==aaR&&env.scope.kind==.function&&env.kindOf n==some .cell)=true
   ·rw[if_pos hc,aaJ,q];exact ih
   ·rw[if_neg hc,aaJ,q];exact ih
theorem yK{env:Env}{x:Str}{k':ada}(sL:k'=.cell\/k'=.free):∀{names:List (Str×ada)},(∀y∈names,y.2≠.cell) →
  (names.map fun(n,k)=>if(k==aaR&&env.scope.kind==.function&&env.kindOf n==some .cell) then(n,acf) else(n,k)).lookup x=some k'->names.lookup x=some .free
 | [],_,h=>by cases h
 | (n,k)::r,hc,h=>by
  have h':acV x ((if(k==aaR&&env.scope.kind==.function&&env.kindOf n==some .cell)=true then(n,acf) else(n,k))::r.map _)=some k':=h;rw[aaJ];cases q:x==n with
  | true=>
   by_cases hb:(k==aaR&&env.scope.kind==.function&&env.kindOf n==some .cell)=true
   ·simp only[aaG] at hb;have:k=.free:=by simpa using hb.1.1
    rw[this]
   ·rw[if_neg hb,aaJ,q] at h';cases h'
    rcases sL with z | z
    ·exact absurd z (hc (n,k') abr)
    ·rw[z]
  | false=>
   refine yK (env:=env) sL (names:=r) (fun y hy=>hc y (aaY _ hy)) ?_;by_cases hb:(k==aaR&&env.scope.kind==.function&&env.kindOf n==some .cell)=true
   ·rw[if_pos hb,aaJ,q] at h';exact h'
   ·rw[if_neg hb,aaJ,q] at h';exact h'
theorem mem_lookup{x:Str}{k:ada}:∀{names:List (Str×ada)},names.lookup x=some k->(x,k)∈names
 | [],h=>by cases h
 | (n,j)::r,h=>by
  rw[aaJ] at h;cases q:x==n with
  | true=>rw[q] at h;cases h;rw[eq_of_beq q];exact abr
  | false=>rw[q] at h;exact aaY _ (mem_lookup h)
structure jS(X:Cx)(N:List Str)(cap:List (Option Nat))(scope:Scope):Prop where
 len:cap.length=N.length
 at_:∀(i j:Nat) (x:Str),N[i]? =some x->cap[i]? =some (some j)->X.N[j]? =some x/\scope.names.lookup x=some .free/\(X.env.kindOf x=some .cell\/X.env.kindOf x=some .free)
 free:∀y∈scope.names,y.2=.free->X.env.kindOf y.1=some .cell\/X.env.kindOf y.1=some .free
 cell:∀y∈scope.names,y.2≠.cell
 kind:scope.kind=.function
 loc:∀y∈scope.names,y.2=.local->scope.names.lookup y.1=some .local
section
variable{X:Cx}{pins:List (Addr×Obj)}{σ:L2.St}{H:Hp}{s:aaw}{N:List Str}{cap:List (Option Nat)}{scope:Scope}{cl:List (Str×Addr)}{fp:List Addr}
theorem QW (I : Inv X pins σ H s) (c : jS X N cap scope) (gh : ∀ x c, cl.lookup x = some c -> X.env.cells.lookup x = some c /\ (x, aaR) ∈ scope.names) (xg : ∀ x, (x, aaR) ∈ scope.names -> ∃ c, cl.lookup x = some c)
    (hf : ∀ b ∈ fp, b < s.heap.objs.size /\ b ≠ X.env.locals /\ b ∉ X.fs /\ (b ∈ X.ex \/ X.aE.heap.objs.size <= b) /\ (∀ x c, X.env.cells.lookup x = some c -> c ≠ b)) {cN : Heap} {m : Str -> Option Value} {tk : Nat}
    (cD : cN.Ns s.heap.objs.size m) (hk : ∀ b o, s.heap.get? b = some o -> cN.get? b = some o) : Inv (bV X N scope cl s.heap.objs.size s H fp) [] (kq cap σ) H { s with heap := cN, toks := tk } := by
  have WT : ∀ {x : Str}, ((bV X N scope cl s.heap.objs.size s H fp).env.kindOf x = some .cell \/ (bV X N scope cl s.heap.objs.size s H fp).env.kindOf x = some .free) -> scope.names.lookup x = some .free := fun {x} hx => by
    rcases hx with hx | hx
    · exact yK (env := X.env) (.inl rfl) c.cell hx
    · exact yK (env := X.env) (.inr rfl) c.cell hx
  have ok : (bV X N scope cl s.heap.objs.size s H fp).Ok :=
    { mod := I.ok.mod
      kind := c.kind
      glob := I.ok.glob
      blt := I.ok.blt
      above := aat _
      inj := fun x y d h1 h2 => I.ok.inj x y d (gh x d h1).1 (gh y d h2).1
      has := fun x hx => xg x (mem_lookup (WT hx))
      oX := fun x d hz => nomatch hz
      hd := I.ok.hd
      frames := I.ok.frames
      su := .inl rfl
      CU := fun b hb => ⟨aaW (hf b hb).1, fun x d hd => (hf b hb).2.2.2.2 x d (gh x d hd).1⟩
      bs := I.bs
      ky := aaN I.ok.ky I.sz
      oB := fun b o e hb => by
        rcases (hf b hb).2.2.2.1 with z | z
        · exact I.ok.oB b o e z
        · exact absurd (aay (aax (I.ok.bs b o e).1) z) (abP _)
      oC := fun b hb hz => by
        rcases aaO.mp (I.z6 b hz) with e | e
        · exact (hf b hb).2.1 e
        · exact (hf b hb).2.2.1 e
      gR := I.stack
      mW := I.vF }
  refine ⟨ok, rfl, I.bare, Un.kept hk, ⟨m, cD, fun i x v e1 e2 _ => ?_⟩, fun x d e => ?_, I.aH.fresh (aat _), fun x d e => ⟨(fun z => nomatch z), (I.gM x d (gh x d e).1).2⟩, (fun p hp => nomatch hp), I.aH.kept hk, ⟨?_, trivial⟩⟩
  · unfold kq at e2
    rw [aau] at e2;cases q : cap[i]? with
    | none => rw [q] at e2; cases e2
    | some o =>
      rw [q] at e2;cases o with
      | none => cases e2
      | some j =>
        have e3 : (σ[j]?).join = some v := abq e2;have e4 : σ[j]? = some (some v) := by
          cases z : σ[j]? with
          | none => rw [z] at e3; cases e3
          | some w => rw [z] at e3; exact congrArg some e3
        obtain ⟨h1, h2, h3⟩ := c.at_ i j x e1 q;obtain ⟨m0, _, hl⟩ := I.loc;obtain ⟨u, ru, lk⟩ := hl j x v h1 e4 (.inr h3);refine ⟨u, ru, ?_⟩
        rcases lk with ⟨z, _⟩ | ⟨_, d, hd, iD⟩
        · rcases h3 with z' | z' <;> (rw [z] at z'; cases z')
        · obtain ⟨d', oY⟩ := xg x (mem_lookup h2)
          have e5 := (gh x d' oY).1;rw [hd] at e5;cases e5;obtain ⟨ob, ho, B3⟩ := iD;exact .inr ⟨yw (env := X.env) h2, d, oY, ob, hk _ _ ho, B3⟩
  · obtain ⟨v, ob, ho, B3⟩ := I.cell x d (gh x d e).1
    exact ⟨v, ob, hk _ _ ho, B3⟩
  · show (kq cap σ).length = N.length
    unfold kq;rw [aan];exact c.len
theorem Un.but{fs ex:List Addr}{H H':Hp}{h h1 h2:Heap}{C:Addr}(u:Un fs ex H H' h h1)(sb:∀b,b≠C->h2.get? b=h1.get? b)(hC:h.get? C=none):Un fs ex H H' h h2:=by
 have ne:∀b o,h.get? b=some o->b≠C:=fun b o e z=>by rw[z,hC] at e;cases e
 exact⟨fun b o e n h1 h2=>(sb b (ne b o e)).trans (u.keep b o e n h1 h2),fun b o e n h1 h2=>by
  obtain⟨sl,q⟩:=u.slot b o e n h1 h2;exact⟨sl,(sb b (ne b o e)).trans q⟩,u.free,fun b o e h1=>by
  obtain⟨o',q⟩:=u.there b o e h1;exact⟨o',(sb b (ne b o e)).trans q⟩,u.gb,u.fb,u.gc⟩
theorem F0{ao:L2.St}{H':Hp}{s':aaw}{h':Heap}(I:Inv X pins σ H s)(J:Inv (bV X N scope cl s.heap.objs.size s H fp) [] ao H' s')(sb:aeq s.heap.objs.size s'.heap h')
  (hf:∀b∈fp,iG X pins H b):Inv X pins σ H' { s' with heap:=h' }:=by
 have hC:H' s.heap.objs.size=none:=J.free;refine I.Vj (ch:=fp) J.os (Un.but J.base sb.2 (afy (aat _))) (fun a o e=>?_) J.bare fun b hb=>⟨(hf b hb).2.2.2.1,(hf b hb).2.1,(hf b hb).2.2.2.2.1,(hf b hb).2.2.2.2.2⟩
 refine(J.aH a o e).gQ (fun b u hb q=>(sb.2 b ?_).trans q) (fun _ q=>q) fun _ _ q=>q
 rintro rfl
 rcases hb with z | z
 ·rw[<- z,hC] at e;cases e
 ·rw[hC] at z;cases z
end
section
variable{prog:abw}{w:World}{A:acM}{R:Result->aaw->Prop}{s:aaw}
theorem N4{elt target iter:Expr}{ifs:List Expr}{scope:Scope}{pos:Pos}{it acc:Value}{env:Env}(J:Nat->aaw->Prop)
  (turn:∀k s,J k s->wpAny (model prog w) A (pyNext it) (fun r s1=>match r with
   | none=>R (.ok .next) s1
   | some v=>wpAny (model prog w) A (aed target it v) (fun _ s2=>wpAny (model prog w) A (afB target env v) (fun _ s3=>
     wpAny (model prog w) A (forIn ifs true fun c r=>if r=true then do let ok <- isTrue c env (eval c env);pure (acn ok) else pure (acn r)) (fun ok s4=>
      if ok=true then wpAny (model prog w) A (eval elt env) (fun x s5=>wpAny (model prog w) A (call (.builtin "list.append") [acc,x]) (fun _ s6=>∃j,j<k/\J j s6) (fun _ _=>False) s5) (fun _ _=>False) s4
      else ∃j,j<k/\J j s4) (fun _ _=>False) s3) (fun _ _=>False) s2) (fun _ _=>False) s1) (fun _ _=>False) s)
  (k:Nat) (h:J k s):codeAny (model prog w) A (.compLoop (.ListComp elt [⟨target,iter,ifs,0⟩] scope pos) 0 it acc env) R s:=by
 have no:∀{E:Value->aaw->Prop} (e:Value) (s:aaw),False->E e s:=fun _ _ z=>z.elim
 refine codeAny_loop (c:=.compLoop (.ListComp elt [⟨target,iter,ifs,0⟩] scope pos) 0 it acc env) rfl J (fun k s hJ=>?_) k h;show wpAny (model prog w) A ((compTurn (.ListComp elt [⟨target,iter,ifs,0⟩] scope pos) 0 it acc env).onRaise fun x=>do noteFrame x env;theTreesLotGoes x) _ _ s;refine wpAny_noted ?_;rw[compTurn_list];refine aaq (wpAny_standAt (aaq (abE (turn k s hJ) (fun r s1 h1=>?_) no)));cases r with
 | none=>exact aaE h1
 | some v=>
  refine aaq (abE h1 (fun _ s2 h2=>aaq (abE h2 (fun _ s3 h3=>aaq (abE h3 (fun ok s4 h4=>?_) no)) no)) no);cases ok with
  | false=>exact aaE ⟨rfl,h4⟩
  | true=>exact aaq (aaq (abE h4 (fun x s5 h5=>aaq (abE h5 (fun _ s6 h6=>aaE (aaE ⟨rfl,h6⟩)) no)) no))
end
section
variable{X:Cx}{tg iter elt:Expr}{ifs:List Expr}{scope:Scope}{pos:Pos}{N:List Str}{cap:List (Option Nat)}{wi:TI}{g:TG}{tc:TT}{te:TE}
theorem EY{use:Option (Value->Sem Unit)}{Q':Value->aaw->Prop}{pins:List (Addr×Obj)}{s:aaw}{σ:L2.St}{H:Hp}{Q:VK}{p0:Pos}(hc:X.calm=true)(c:jS X N cap scope)(hi:PI X tg iter wi)(hg:∀cl C aE aO ex,PG (bV X N scope cl C aE aO ex) tg g)(ht:∀cl C aE aO ex,PF (bV X N scope cl C aE aO ex) ifs tc)
  (he:∀cl C aE aO ex,PE (bV X N scope cl C aE aO ex) elt te) (hs:∀x,abp iter X.env x=pure x) (I:Inv X pins σ H s) (h:rK wi cap g tc te σ H Q)
  (fin:∀(s3 s6:aaw) (H3 H6:Hp) (fp:List Addr) (tH:L2.St) (cl:List (Str×Addr)) (D:Addr),Inv X pins σ H3 s3->(∀b∈fp,iG X pins H3 b)->Inv (bV X N scope cl s3.heap.objs.size s3 H3 fp) [] tH H6 s6->Q (.ref D) H6 →
   compPost (model X.prog X.w) X.A X.xe use Q' (.ref D) s3.heap.objs.size (.ok .next) s6) :
  wpAny (model X.prog X.w) X.A (comprehension (.ListComp elt [⟨tg,iter,ifs,0⟩] scope pos) scope X.env p0 (newList []) false (eval iter X.env) use) Q' X.xe s:=by
 obtain⟨cl,VU,gh,xg⟩:=QV (scope:=scope) (env:=X.env) fun y hy hf=>I.ok.has y.1 (c.free y hy hf)
 refine wpAny_comprehension_free (use:=use) rfl hs VU c.kind c.loc (abE (hi pins s σ H _ I h) (fun v s1 h1=>abE h1 (fun CV s2 h2=>?_) fun _ _ z=>z) fun _ _ z=>z);obtain⟨it,fp,tn,J,H2,rfl,I2,T,fP,f2,h2⟩:=h2;refine abu (wpAny_newFunctionEnv c.cell (by intro y hy;simp at hy) (fun cN cD pq=>?_) c.kind);have hD:H2 s2.heap.objs.size=none:=I2.fresh;obtain⟨W,⟨m0,w0⟩,turn⟩:=h2 s2.heap.objs.size hD;have I3:=I2.BV (its:=[]) (ys:=[]) (t':=s2.toks) .nil (abA _);have jl:∀b∈fp,iG X pins (upd H2 s2.heap.objs.size (.lst [])) b:=fun b hb=>by
  obtain⟨a1,a2⟩:=f2 b hb;refine⟨?_,a2⟩;obtain⟨o,ho,_⟩:=T.obj 0 _ fP b hb;rw[aT (aaW (aax ho))];exact a1
 have IP:∀b∈fp,b<s2.heap.objs.size:=fun b hb=>by
  obtain⟨o,ho,_⟩:=T.obj 0 _ fP b hb;exact aax ho
 revert cD pq
 generalize m5:({ s2 with heap:=s2.heap.push { cls:=.type "list",data:=.seq ([]:List Value).toArray },toks:=s2.toks }:aaw)=s3 at I3;intro cD pq;have IQ:s3.heap=s2.heap.push { cls:=.type "list",data:=.seq ([]:List Value).toArray }:=by rw[<- m5]
 have e3:s3.heap.objs.size=s2.heap.objs.size+1:=by rw[IQ,afD]
 have IR:∀b o,s2.heap.get? b=some o->s3.heap.get? b=some o:=fun b o e=>by rw[IQ];exact aas _ e
 have De:∀b o,s3.heap.get? b=some o->cN.get? b=some o:=fun b o e=>pq.extBut b o (aaW (aax e)) (aas _ e)
 have WU:cN.Ns s3.heap.objs.size (fun x=>([]:List (Str×Value)).reverse.lookup x):=cD;have I4:=QW (fp:=fp) (tk:=s3.toks+([]:List (Str×Value)).length) I3 c gh xg (fun b hb=>⟨by rw[e3];exact Nat.lt_succ_of_lt (IP b hb),(jl b hb).2.1,(jl b hb).2.2.1,(jl b hb).2.2.2.1,(jl b hb).2.2.2.2.1⟩) WU De;have loop:∀s4:aaw,s4={ s3 with heap:=cN,toks:=s3.toks+([]:List (Str×Value)).length } →
   codeAny (model X.prog X.w) X.A (.compLoop (.ListComp elt [⟨tg,iter,ifs,0⟩] scope pos) 0 (.ref it) (.ref s2.heap.objs.size) (compEnvC scope cl s3.heap.objs.size X.env))
    (compPost (model X.prog X.w) X.A X.xe use Q' (.ref s2.heap.objs.size) s3.heap.objs.size) s4:=by
  rintro s4 rfl;refine N4 (fun m s=>∃i bw Df,Inv (bV X N scope cl s3.heap.objs.size s3 (upd H2 s2.heap.objs.size (.lst [])) fp) [] bw Df s/\tn i s.heap/\(∀b∈fp,Df b=none)/\W i m bw Df) ?_ m0
   ⟨0,kq cap σ,_,I4,T.keep _ _ _ fP fun b hb o e=>De b o (IR b o e),fun b hb=>(jl b hb).1,w0⟩
  rintro k s5 ⟨i,fJ,H5,I5,o2,xy,w5⟩;have Dg:∀{H':Hp} {ps:List (Addr×Obj)},(∀b∈fp,H' b=none)->(∀p∈ps,∀b∈fp,p.1≠b)->∀b∈fp,iG (bV X N scope cl s3.heap.objs.size s3 (upd H2 s2.heap.objs.size (.lst [])) fp) ps H' b:=fun{H' ps} hn hp b hb=>
   ⟨hn b hb,(fun z=>by have q:=IP b hb;have z':b=s3.heap.objs.size:=z;rw[z',e3] at q;exact absurd q (Nat.not_lt.mpr (acB _))),I5.ok.oC b hb,.inl hb,fun x d hd=>(jl b hb).2.2.2.2.1 x d (gh x d hd).1,fun p X6=>hp p (by simpa[bV] using X6) b hb⟩
  rcases turn i k fJ H5 w5 with⟨stop,qn⟩ | ⟨go,step⟩
  ·refine abE (T.done (bV X N scope cl s3.heap.objs.size s3 (upd H2 s2.heap.objs.size (.lst [])) fp) rfl rfl rfl hc i [] s5 fJ H5 _ I5 (Dg xy (fun _ z=>nomatch z)) o2 stop) (fun r s6 hr=>?_) fun _ _ z=>z
   obtain⟨rfl,I6⟩:=hr;exact fin s3 s6 _ H5 fp fJ cl _ I3 jl I6 qn
  ·refine abE (T.item (bV X N scope cl s3.heap.objs.size s3 (upd H2 s2.heap.objs.size (.lst [])) fp) rfl rfl rfl hc i [] s5 fJ H5 _ I5 (Dg xy (fun _ z=>nomatch z)) o2 go) (fun r s6 hr=>?_) fun _ _ z=>z
   obtain⟨u,rfl,h6⟩:=hr;refine abE h6 (fun _ s7 ⟨x,H7,I7,rx,y7,Dh,X7⟩=>?_) fun _ _ z=>z
   have X8:=I7.pinned (Dg X7 (fun _ z=>nomatch z)) (T.obj _ _ Dh);have back:∀{jW:L2.St} {H8:Hp} {s8:aaw},Inv (bV X N scope cl s3.heap.objs.size s3 (upd H2 s2.heap.objs.size (.lst [])) fp) ([]++qX fp s7.heap) jW H8 s8 →
     Inv (bV X N scope cl s3.heap.objs.size s3 (upd H2 s2.heap.objs.size (.lst [])) fp) [] jW H8 s8/\tn (i+1) s8.heap/\∀b∈fp,H8 b=none:=fun{jW H8 s8} I8=>by
    refine⟨I8.vn,T.keep _ _ _ Dh fun b hb o e=>(I8.pin (b,o) (aaT _ (aaT _ (u4 hb e)))).1,fun b hb=>?_⟩;obtain⟨o,e,d⟩:=T.obj _ _ Dh b hb;exact(I8.pin (b,o) (aaT _ (aaT _ (u4 hb e)))).2.1
   refine bb (hg cl _ _ _ fp _ s7 fJ H7 x u _ X8 rx (step x H7 y7)) fun _ s8 ⟨jW,H8,I8,q8⟩=>?_
   refine bb (ht cl _ _ _ fp _ s8 jW H8 _ I8 q8) fun ok s9 ⟨H9,I9,q9⟩=>?_
   cases ok with
   | false=>
    obtain⟨m',hm,w9⟩:=q9;obtain⟨a1,a2,a3⟩:=back I9;exact⟨m',hm,i+1,jW,H9,a1,a2,a3,w9⟩
   | true=>
    refine bb (he cl _ _ _ fp _ s9 jW H9 _ I9 q9) fun y X9 ⟨gG,Ya,Yb,Yc,xs,hx,hz,m',hm,Yd⟩=>?_
    refine bb (EU (X:=bV X N scope cl s3.heap.objs.size s3 (upd H2 s2.heap.objs.size (.lst [])) fp) _ X9 jW Ya (.ref s2.heap.objs.size) [gG] (.ref s2.heap.objs.size) [y] (fun _ H'=>W (i+1) m' jW H') Yb rfl (.cons Yc .nil) ⟨_,xs,_,rfl,rfl,hx,hz,Yd⟩) fun _ s11 ⟨_,Ye,Yf,_,Yg⟩=>?_
    obtain⟨a1,a2,a3⟩:=back Yf;exact⟨m',hm,i+1,jW,Ye,a1,a2,a3,Yg⟩
 exact codeAny_compStart_list (loop _ rfl) (T.self _ 0 _ _ _ (T.keep _ _ _ fP fun b hb o e=>De b o (IR b o e)) (loop _ rfl))
theorem QX(hc:X.calm=true)(c:jS X N cap scope)(hi:PI X tg iter wi)(hg:∀cl C aE aO ex,PG (bV X N scope cl C aE aO ex) tg g)(ht:∀cl C aE aO ex,PF (bV X N scope cl C aE aO ex) ifs tc)
  (he:∀cl C aE aO ex,PE (bV X N scope cl C aE aO ex) elt te) (hs:∀x,abp iter X.env x=pure x:=by intro _;rfl):PE X (.ListComp elt [⟨tg,iter,ifs,0⟩] scope pos) (rK wi cap g tc te):=by
 intro pins s σ H Q I h;rw[eval_ListComp];refine EY hc c hi hg ht he hs I h fun s3 s6 H3 H6 fp tH cl D I3 jl I6 q=>?_
 obtain⟨m6,Di,_⟩:=I6.loc;exact⟨m6,Di,fun h' sb=>⟨.ref D,H6,F0 I3 I6 sb jl,rfl,q⟩⟩
theorem F1{i:Nat}{x:Str}{pos' d7:Pos}(hN:X.N.Nodup)(gj:X.N[i]? =some x)(m7:iF X x)(hx:X.env.scope.names.lookup x=some .local)(m8:adj (.ListComp elt [⟨tg,iter,ifs,0⟩] scope pos) (some (.Name x pos')) d7.line X.env=pure true)
  (hc:X.calm=true) (c:jS X N cap scope) (hi:PI X tg iter wi) (hg:∀cl C aE aO ex,PG (bV X N scope cl C aE aO ex) tg g) (ht:∀cl C aE aO ex,PF (bV X N scope cl C aE aO ex) ifs tc)
  (he:∀cl C aE aO ex,PE (bV X N scope cl C aE aO ex) elt te) (hs:∀x,abp iter X.env x=pure x:=by intro _;rfl) :
  PS X (.Assign [.Name x pos'] (.ListComp elt [⟨tg,iter,ifs,0⟩] scope pos) d7) (wV (rK wi cap g tc te) (AR i)):=by
 intro pins s σ H D I h;rw[exec_Assign_Name_used x pos' _ d7 m8];refine aaq (wpAny_standAt (aaq ?_));show wpAny (model X.prog X.w) X.A (comprehension (.ListComp elt [⟨tg,iter,ifs,0⟩] scope pos) scope X.env _ (newList []) false (eval iter X.env) (some (afB (.Name x pos') X.env)) >>= fun _=>pure ()) _ _ s;refine aaq (EY hc c hi hg ht he hs I h fun s3 s6 H3 H6 fp tH cl Dl I3 jl I6 q=>?_);obtain⟨m6,Di,_⟩:=I6.loc;have WV:s6.heap.Ns s3.heap.objs.size m6:=Di;have I7:Inv X pins σ H6 s6:=F0 (h':=s6.heap) I3 I6 ⟨rfl,fun _ _=>rfl⟩ jl;refine wpAny_assign_Name (EL I7 hN gj (.inl hx) (v:=.ref Dl) rfl (fun s8 I8 h8=>?_) ⟨.inr hx,m7⟩);obtain⟨a,Yh,ha⟩:=h8;have fresh:H6 s3.heap.objs.size=none:=I6.free;have sv:s3.heap.objs.size≠X.env.locals:=abU I3.lt;have mX:∀y d,X.env.cells.lookup y=some d->d≠s3.heap.objs.size:=fun y d e=>by
  obtain⟨v,o,ho,_⟩:=I3.cell y d e;exact aaW (aax ho)
 have Yi:∀p∈X.pn++pins,p.1≠s3.heap.objs.size:=fun p hp=>aaW (aax (I3.pin p hp).1)
 have Yj:s3.heap.objs.size≠a:=by
  rcases ha with z | z
  ·rw[z];exact sv
  ·exact abD (mX x a z)
 refine⟨m6,WV.sameBut Yh Yj,fun h' sb=>aaE (aaE ⟨_,H6,?_,q⟩)⟩;exact I8.turned (t':=s8.toks) (fun b o hb e=>(sb.2 b hb).trans e) fresh sv (.inr I3.sz) mX Yi
end
noncomputable def fF(cap:List (Option Nat))(σ:aS):aS:=cap.map fun o=>o.bind fun i=>(σ[i]?).join
noncomputable def eV(m:Mo α):Mo α:=fun ph=>match m ph with
 | .ok a ph'=>.ok a ph'
 | _=>.no
theorem vq{m:Mo α}{N:α->PH->Prop}{E':XC->PH->Prop}(h:(eV m ph).Run N E):(m ph).Run N E':=by
 unfold eV at h;cases e:m ph with
 | ok a ph'=>rw[e] at h;exact h
 | ex x ph'=>rw[e] at h;exact h.elim
 | no=>rw[e] at h;exact h
noncomputable def eP(chk:PH->Bool)(g:GM)(c:TM)(e:EM)(L:Nat):List W->aS->Mo Unit
 | [],_=>fun ph=>if chk ph=true then .ok () ph else .no
 | x::xs,σ=>fun ph=>if chk ph=true then au (eV (g x σ)) (fun σ1=>au (eV (c σ1)) fun t=>if t=true then au (eV (e σ1)) fun w=>au (lift (cB (.ref L) [w])) fun _=>eP chk g c e L xs σ1 else eP chk g c e L xs σ1) ph else .no
noncomputable def dW(im:IM)(cap:List (Option Nat))(g:GM)(c:TM)(e:EM):EM:=fun σ=>au (im σ) fun r ph=>au (eP r.2 g c e ph.length r.1 (fF cap σ)) (fun _=>aA (.ref ph.length)) (ph++[.lst []])
section
variable{K:aao}{φ:Nat->Addr}{n:Nat}{H:Hp}
theorem bt.cap{ws:aS}{σ:L2.St}(h:bt K φ n H ws σ):∀(cap:List (Option Nat)),bt K φ n H (fF cap ws) (kq cap σ)
 | []=>.nil
 | o::r=>by
  have ih:=bt.cap h r;unfold fF kq at ih ⊢;rw[aaX,aaX];cases o with
  | none=>exact .nn ih
  | some i=>
   cases q:ws[i]? with
   | none=>simp only[aby,q,Option.join_none];exact .nn ih
   | some o=>
    cases o with
    | none=>simp only[aby,q,Option.join_some];exact .nn ih
    | some w=>
     obtain⟨v,ev,rv⟩:=h.get q;simp only[aby,q,ev,Option.join_some];exact .sm rv ih
theorem M7{L:Nat}{w u:W}{ph ph':PH}(h:cB (.ref L) [w] ph=some (u,ph')):∃ws,ph[L]? =some (.lst ws)/\ws.length<aaH/\ph'=ph.set L (.lst (ws++[w])):=by
 unfold cB at h;simp only at h;split at h
 ·rename_i ws hw;split at h
  ·rename_i hz;cases h;exact⟨ws,hw,hz,rfl⟩
  ·cases h
 ·cases h
end
noncomputable def xU(K:aao)(m:EM):TE:=fun σ H Q=>∃φ ph ws,aD K φ ph H/\bt K φ ph.length H ws σ/\(m ws ph).Run (fun w ph'=>
 ∀ap H' v,aD K ap ph' H'->Step K φ ph.length H ap ph'.length H'->aK K ap ph'.length H' w v->Q v H') (fun _ _=>False)
noncomputable def kJ(K:aao)(m:TM):TT:=fun σ H Q=>∃φ ph ws,aD K φ ph H/\bt K φ ph.length H ws σ/\(m ws ph).Run (fun b ph'=>
 ∀ap H',aD K ap ph' H'->Step K φ ph.length H ap ph'.length H'->Q b H') (fun _ _=>False)
noncomputable def xV(K:aao)(g:GM):TG:=fun v σ H Q=>∃φ ph ws w,aD K φ ph H/\bt K φ ph.length H ws σ/\aK K φ ph.length H w v/\(g w ws ph).Run (fun bQ ph'=>
 ∀ap H' ao,aD K ap ph' H'->Step K φ ph.length H ap ph'.length H'->bt K ap ph'.length H' bQ ao->Q ao H') (fun _ _=>False)
section
variable{X:Cx}{e:Expr}
theorem e0{m:EM}(h:IE X e m):PE X e (xU X.K m):=PE.imp h fun _ _ _ ⟨φ,ph,ws,a,b,c⟩=>⟨φ,ph,ws,a,b,c.mono (fun _ _ z=>z) fun _ _ z=>z.elim⟩
theorem t0{m:TM}(h:IT X e m):PT X e (kJ X.K m):=PT.imp h fun _ _ _ ⟨φ,ph,ws,a,b,c⟩=>⟨φ,ph,ws,a,b,c.mono (fun _ _ z=>z) fun _ _ z=>z.elim⟩
theorem g0{g:GM}(h:IG X e g):PG X e (xV X.K g):=PG.imp h fun _ _ _ _ ⟨φ,ph,ws,w,a,b,r,c⟩=>⟨φ,ph,ws,w,a,b,r,c.mono (fun _ _ z=>z) fun _ _ z=>z.elim⟩
end
section
variable{X:Cx}{tg iter elt:Expr}{ifs:List Expr}{scope:Scope}{pos:Pos}{N:List Str}{cap:List (Option Nat)}{im:IM}{g:GM}{c:TM}{e:EM}
theorem EZ{σ:L2.St}{Q:VK}{aq:Nat->Addr}{ph1:PH}{H1:Hp}{ws:aS}{J:It}{items:List W}{chk:PH->Bool}{D:Addr}(ay:aD X.K aq ph1 H1)(hS:bt X.K aq ph1.length H1 ws σ)(hJ:pf X.K J items chk aq ph1.length H1)(hD:H1 D=none)
  (h:(eP chk g c e ph1.length items (fF cap ws) (ph1++[.lst []])).Run (fun _ ph'=>∀ap H' v,aD X.K ap ph' H'->Step X.K aq ph1.length H1 ap ph'.length H'->aK X.K ap ph'.length H' (.ref ph1.length) v->Q v H') (fun _ _=>True)) :
  ∃W:Nat->Nat->L2.St->Hp->Prop,(∃m,W 0 m (kq cap σ) (upd H1 D (.lst []))) /\
   ∀i m bw H2,W i m bw H2->(J.stop i H2/\Q (.ref D) H2)\/(J.go i H2/\∀x H3,J.o1 i H2 x H3->xV X.K g x bw H3 fun jt H4=>kJ X.K c jt H4 fun b H5=>
    if b=true then xU X.K e jt H5 fun v H6=>∃xs,H6 D=some (.lst xs)/\xs.length<aaH/\∃m',m'<m/\W (i+1) m' jt (upd H6 D (.lst (xs++[v]))) else ∃m',m'<m/\W (i+1) m' jt H5):=by
 have nl:=i0 (ws:=[]) (vs:=[]) ay .nil hD;have hl:(ph1++[PO.lst []]).length=ph1.length+1:=by simp
 rw[hl] at nl;obtain⟨bj,s2,_⟩:=nl;refine⟨fun i m bw H2=>∃a8 aI eW,m=(items.drop i).length/\aD X.K a8 aI H2/\bt X.K a8 aI.length H2 eW bw/\Step X.K (ext aq ph1.length D) (ph1.length+1) (upd H1 D (.lst [])) a8 aI.length H2 /\
   (eP chk g c e ph1.length (items.drop i) eW aI).Run (fun _ ph'=>∀ap H' v,aD X.K ap ph' H'->Step X.K a8 aI.length H2 ap ph'.length H'->aK X.K ap ph'.length H' (.ref ph1.length) v->Q v H') (fun _ _=>True),
  ⟨_,ext aq ph1.length D,ph1++[PO.lst []],fF cap ws,rfl,bj,?_,by rw[hl];exact Step.refl,?_⟩,?_⟩
 ·rw[hl];exact(bt.cap (hS.mono s2) cap)
 ·exact Out.Run.mono h (fun _ ph' k ap H' v r' cJ rv=>k ap H' v r' (s2.trans (by rw[hl] at cJ;exact cJ)) rv) fun _ _ _=>trivial
 rintro i m bw H2 ⟨a8,aI,eW,rfl,lP,ik,fP,h4⟩;have mQ:a8 ph1.length=D:=by rw[fP.eq _ (acs _),mw]
 cases hd:items.drop i with
 | nil=>
  rw[hd] at h4;unfold eP at h4;split at h4
  ·rename_i hc;have hn:items[i]? =none:=by
    have:items.length<=i:=by simpa using hd
    simpa using this
   refine .inl ⟨(hJ a8 _ H2 lP (s2.trans fP) hc i).2 hn,h4 a8 H2 _ lP Step.refl ?_⟩;rw[<- mQ];exact .ref (aay (acs _) fP.le)
  ·exact h4.elim
 | cons x xs=>
  rw[hd] at h4;unfold eP at h4;split at h4
  ·rename_i hc;have hx:items[i]? =some x:=by
    have:=congrArg (fun l=>l[0]?) hd
    simpa using this
   have jQ:items.drop (i+1)=xs:=by
    have:=congrArg (fun l=>l.drop 1) hd
    simpa[afC,aff] using this
   obtain⟨kD,hy⟩:=(hJ a8 _ H2 lP (s2.trans fP) hc i).1 x hx;refine .inr ⟨kD,fun v H3 y=>?_⟩;obtain⟨cX,s3,rv⟩:=hy v H3 y;rw[cS] at h4;refine⟨a8,aI,eW,x,cX,ik.mono s3,rv,(vq h4).mono (fun eX jR h5 fI H5 fJ fH s5 eL=>?_) fun _ _ z=>z⟩;rw[cS] at h5;refine⟨fI,jR,eX,fH,eL,(vq h5).mono (fun t Dj h6 Ki H6 jm s6=>?_) fun _ _ z=>z⟩;have Dk:=(s3.trans s5).trans s6;have ls:=fP.trans Dk;cases t with
   | false=>
    refine lj ⟨xs.length,by simp,Ki,Dj,eX,by rw[jQ],jm,eL.mono s6,ls,?_⟩;rw[jQ];exact Out.Run.mono h6 (fun _ ph' k ap H' v r' cJ q=>k ap H' v r' (Dk.trans cJ) q) fun _ _ z=>z
   | true=>
    have IU:(au (eV (e eX)) (fun w=>au (lift (cB (.ref ph1.length) [w])) fun _=>eP chk g c e ph1.length xs eX) Dj).Run _ _:=h6;rw[cS] at IU;refine lm ⟨Ki,Dj,eX,jm,eL.mono s6,(vq IU).mono (fun w7 Yk h7 Kj H7 v7 IV s7 r7=>?_) fun _ _ z=>z⟩;rw[cS] at h7;obtain⟨u8,ph8,e8,h8⟩:=run_lift h7;obtain⟨wsL,hL,hz,rfl⟩:=M7 e8;have Yl:=Dk.trans s7;have G8:=ls.trans s7;have VV:Kj ph1.length=D:=by rw[G8.eq _ (acs _),mw]
    obtain⟨vs,hv,IW⟩:=IV.hp _ _ hL;have dM:ph1.length<Yk.length:=(aam.mp hL).1;obtain⟨q1,q2⟩:=vp IV hL (IW.append (.cons r7 .nil));rw[VV] at hv q1 q2;refine⟨vs,hv,by rw[<- IW.length];exact hz,xs.length,by simp,Kj,_,eX,by rw[jQ],q1,((eL.mono s6).mono s7).mono q2,G8.trans q2,?_⟩;rw[jQ];exact Out.Run.mono h8 (fun _ ph' k ap H' v r' cJ q=>k ap H' v r' ((Yl.trans q2).trans cJ) q) fun _ _ z=>z
  ·exact h4.elim
theorem Fw{σ:L2.St}{H:Hp}{Q:VK}(h:tM X (dW im cap g c e) σ H Q):rK (tI X im) cap (xV X.K g) (kJ X.K c) (xU X.K e) σ H Q:=by
 obtain⟨φ,ph,ws,hH,hS,h⟩:=h;unfold dW at h;rw[cS] at h;refine⟨φ,ph,ws,hH,hS,h.mono (fun r ph1 h aq H1 J ay s1 hJ D hD=>?_) fun _ _ z=>z⟩;rw[cS] at h;exact EZ ay (hS.mono s1) hJ hD (Out.Run.mono h (fun _ ph' k ap H' v r' cJ rv=>k ap H' v r' (s1.trans cJ) rv) fun _ _ _=>trivial)
theorem PF.imp{t t':TT}(h:PF X ifs t)(k:∀σ H Q,t' σ H Q->t σ H Q):PF X ifs t':=fun pins s σ H Q I q=>h pins s σ H Q I (k σ H Q q)
noncomputable def dH:TM:=fun _=>aA true
theorem T7:PF X [] (kJ X.K dH):=PF.imp T5 fun σ H Q h=>by
 obtain⟨φ,ph,ws,hH,hS,h⟩:=h;exact h φ H hH Step.refl
theorem T8{cd:Expr}(h:IT X cd c):PF X [cd] (kJ X.K c):=T6 (t0 h)
theorem QY(hc:X.calm=true)(cp:jS X N cap scope)(hi:II X tg iter im)(hg:∀cl C aE aO ex,IG (bV X N scope cl C aE aO ex) tg g)(ht:∀cl C aE aO ex,PF (bV X N scope cl C aE aO ex) ifs (kJ X.K c))
  (he:∀cl C aE aO ex,IE (bV X N scope cl C aE aO ex) elt e) (hs:∀x,abp iter X.env x=pure x:=by intro _;rfl):IE X (.ListComp elt [⟨tg,iter,ifs,0⟩] scope pos) (dW im cap g c e):=
 PE.imp (QX hc cp hi (fun cl C aE aO ex=>g0 (hg cl C aE aO ex)) ht (fun cl C aE aO ex=>e0 (he cl C aE aO ex)) hs) fun _ _ _ h=>Fw h
theorem QZ{i:Nat}{x:Str}{pos' d7:Pos}(hN:X.N.Nodup)(gj:X.N[i]? =some x)(m7:iF X x)(hx:X.env.scope.names.lookup x=some .local)
  (hc:X.calm=true) (cp:jS X N cap scope) (hi:II X tg iter im) (hg:∀cl C aE aO ex,IG (bV X N scope cl C aE aO ex) tg g) (ht:∀cl C aE aO ex,PF (bV X N scope cl C aE aO ex) ifs (kJ X.K c))
  (he:∀cl C aE aO ex,IE (bV X N scope cl C aE aO ex) elt e) (m8:adj (.ListComp elt [⟨tg,iter,ifs,0⟩] scope pos) (some (.Name x pos')) d7.line X.env=pure true:=by rfl) (hs:∀x,abp iter X.env x=pure x:=by intro _;rfl) :
  IS X (.Assign [.Name x pos'] (.ListComp elt [⟨tg,iter,ifs,0⟩] scope pos) d7) (ax (dW im cap g c e) (gN i)):=
 PS.imp (F1 hN gj m7 hx m8 hc cp hi (fun cl C aE aO ex=>g0 (hg cl C aE aO ex)) ht (fun cl C aE aO ex=>e0 (he cl C aE aO ex)) hs) fun D σ H h=>by
  obtain⟨φ,ph,ws,hH,hS,h⟩:=h;unfold ax at h;rw[cS] at h;exact Fw ⟨φ,ph,ws,hH,hS,h.mono (fun w ph1 h aq H1 v ay s1 r1=>h aq H1 ay s1 _ ((hS.mono s1).set r1 i)) fun _ _ z=>z⟩
end
noncomputable def xh:List GM->List W->aS->Mo aS
 | [],[],σ=>aA σ
 | g::gs,w::ws,σ=>au (g w σ) fun ao=>xh gs ws ao
 | _,_,_=>eJ
noncomputable def gT(gs:List GM):GM:=fun w σ=>match w with
 | .tup ws=>xh gs ws σ
 | _=>eJ
noncomputable def sM(X:Cx)(gs:List GM):kA:=fun vs σ H Q=>∃φ ph ws xs,aD X.K φ ph H/\bt X.K φ ph.length H ws σ/\aM X.K φ ph.length H xs vs/\(xh gs xs ws ph).Run (fun bQ ph'=>
 ∀ap H' ao,aD X.K ap ph' H'->Step X.K φ ph.length H ap ph'.length H'->bt X.K ap ph'.length H' bQ ao->Q ao H') (XE X φ ph.length H)
noncomputable def jd(n:Nat)(gs:List GM):GM:=fun w σ=>match w with
 | .tup ws=>if ws.length=n then xh gs ws σ else eJ
 | _=>eJ
section
variable{X:Cx}{tg:Expr}{es:List Expr}{g:GM}{gs:List GM}{pos:Pos}
theorem gV.imp{t t':kA}(h:gV X es t)(k:∀v σ H Q,t' v σ H Q->t v σ H Q):gV X es t':=fun pins s σ H v u Q I r q=>h pins s σ H v u Q I r (k v σ H Q q)
theorem Q0:gV X [] (sM X []):=gV.imp Qn fun vs σ H Q h=>by
 obtain⟨φ,ph,ws,xs,hH,hS,r,h⟩:=h;cases r with
 | nil=>exact⟨rfl,h φ H σ hH Step.refl hS⟩
 | cons _ _=>exact h.elim
theorem O6{e:Expr}(h1:IG X e g)(h2:gV X es (sM X gs))(hs:(abX (e::es) X.env).map (·.2)=afB e X.env::(abX es X.env).map (·.2):=by rfl):gV X (e::es) (sM X (g::gs)):=
 gV.imp (OS h1 h2 hs) fun vs σ H Q h=>by
  obtain⟨φ,ph,ws,xs,hH,hS,r,h⟩:=h;cases r with
  | nil=>exact h.elim
  | cons fR rr=>
   refine⟨_,_,rfl,tG.bind hH hS fR h fun jP ph1 aq H1 σ1 ay s1 ij h1=>?_⟩;exact⟨aq,ph1,jP,_,ay,ij,rr.mono s1,h1.mono (fun bQ ph' k ap H' ao r' s' q=>k ap H' ao r' (s1.trans s') q) fun _ _ z=>z⟩
theorem T9{k n:Nat}(hc:X.calm=true)(h:gV X es (sM X gs))(hn:(abX es X.env).length=n:=by rfl)(c9:(abX es X.env).findIdx? (·.1)=none:=by rfl):IG X (.Tuple es k pos) (jd n gs):=
 PG.imp (SA hc h hn c9) fun v σ H Q h=>by
  obtain⟨φ,ph,ws,w,hH,hS,r,h⟩:=h;unfold jd at h;cases r with
  | tup hq r=>
   simp only at h;split at h
   ·rename_i hl;exact⟨_,_,rfl,cE.of hq,by rw[<- r.length];exact hl,φ,ph,ws,_,hH,hS,r,h⟩
   ·exact h.elim
  | _=>exact h.elim
noncomputable def HH(o i v:W):Po Unit:=fun ph=>match o,i with
 | .ref r,.int k=>match ph[r]? with
  | some (.lst ws)=>match gD ws.length k with
   | some j=>some ((),ph.set r (.lst (ws.set j v)))
   | none=>none
  | _=>none
 | _,_=>none
end
noncomputable def mR(ws:List W)(lo hi:Option Int):List W:=(ws.drop (HT.bB ws.length 0 lo)).take (HT.bB ws.length ws.length hi-HT.bB ws.length 0 lo)
theorem zI(r:aM K φ n H ws vs)(lo hi:Option Int):aM K φ n H (mR ws lo hi) (lg vs lo hi):=by
 unfold mR lg;rw[r.length];exact(r.drop _).take _
noncomputable def pv(w:W)(lo hi:Option Int):Po W:=fun ph=>match w with
 | .tup ws=>if HT.bB ws.length 0 lo=0/\HT.bB ws.length ws.length hi=ws.length then none else some (.tup (mR ws lo hi),ph)
 | .fl ws=>some (.ref ph.length,ph++[.lst (mR ws lo hi)])
 | .ref i=>match ph[i]? with
  | some (.lst ws)=>some (.ref ph.length,ph++[.lst (mR ws lo hi)])
  | _=>none
 | _=>none
abbrev OM:=aS->Mo (Option Int)
noncomputable def wj:OM:=fun _=>aA none
noncomputable def rL(m:EM):OM:=fun σ=>au (m σ) fun w=>lift (match w with
 | .int i=>ret (some i)
 | _=>fc)
noncomputable def sN(m:EM)(lo hi:OM):EM:=fun σ=>au (m σ) fun w=>au (lo σ) fun l=>au (hi σ) fun h=>lift (pv w l h)
noncomputable def tO(X:Cx)(m:OM):TO:=fun σ H Q=>∃φ ph ws,aD X.K φ ph H/\bt X.K φ ph.length H ws σ/\(m ws ph).Run (fun o ph'=>
 ∀ap H',aD X.K ap ph' H'->Step X.K φ ph.length H ap ph'.length H'->Q o H') (XE X φ ph.length H)
abbrev sO(X:Cx)(e:Option Expr)(m:OM):Prop:=L2.PO X e (tO X m)
section
variable{X:Cx}{e:Expr}{lo hi:Option Expr}{m:EM}{ml mh:OM}{pos p2:Pos}
theorem Q1:sO X none wj:=fun pins s σ H Q I ⟨φ,ph,ws,hH,hS,h⟩=>Qv pins s σ H Q I (h φ H hH Step.refl)
theorem Q3(he:IE X e m):sO X (some e) (rL m):=fun pins s σ H Q I ⟨φ,ph,ws,hH,hS,h⟩=>Qw he pins s σ H Q I (tM.bind hH hS h fun w ph1 aq H1 v ay s1 r1 h=>by
 obtain⟨o,ph',e,k⟩:=run_lift h;split at e
 ·cases e;cases r1;exact⟨_,rfl,k aq H1 ay s1⟩
 ·cases e)
theorem tO.bind{β:Type}{m:OM}{σ:L2.St}{H:Hp}{Q:Option Int->Hp->Prop}{φ:Nat->Addr}{ph:PH}{ws:aS}{f:Option Int->Mo β}{N:β->PH->Prop}(hH:aD X.K φ ph H)(hS:bt X.K φ ph.length H ws σ)(h:(au (m ws) f ph).Run N (XE X φ ph.length H))
  (k:∀b ph1 aq H1,aD X.K aq ph1 H1->Step X.K φ ph.length H aq ph1.length H1->(f b ph1).Run N (XE X aq ph1.length H1)->Q b H1):tO X m σ H Q:=by
 rw[cS] at h;exact⟨φ,ph,ws,hH,hS,h.mono (fun b ph1 h1 aq H1 ay s1=>k b ph1 aq H1 ay s1 (h1.mono (fun _ _ z=>z) fun _ _ z=>z.step s1)) fun _ _ z=>z⟩
theorem VW(he:IE X e m)(hl:sO X lo ml)(hh:sO X hi mh):IE X (.Subscript e (.Slice lo hi none p2) pos) (sN m ml mh):=
 PE.imp (OX (lH.or SY Qz) he hl hh) fun σ H Q h=>by
  obtain⟨φ,ph,ws,hH,hS,h⟩:=h;refine tM.bind hH hS h fun w ph1 aq H1 v ay s1 r1 h=>tO.bind ay (hS.mono s1) h fun l aI a8 H2 bj s2 h=>tO.bind bj ((hS.mono s1).mono s2) h fun u g6 eD H3 cX s3 h=>?_
  obtain⟨w',ph',e,k⟩:=run_lift h;have r3:=(r1.mono s2).mono s3;have Dm:=(s1.trans s2).trans s3;unfold pv at e;cases r3 with
  | tup hq r=>
   simp only at e;split at e
   ·cases e
   ·rename_i hw;cases e;refine .inl ⟨_,_,rfl,cE.of hq,by rw[<- r.length];exact hw,fun p hp=>?_⟩;exact k eD _ _ (cX.tup hp) (Dm.trans (gJ hp)) (.tup cj ((zI r l u).mono (gJ hp)))
  | fl hq r=>
   cases e;refine .inr ⟨_,_,rfl,hq.sq,fun p hp=>?_⟩;obtain⟨q1,q2,q3⟩:=i0 cX (zI r l u) hp;exact k _ _ _ q1 (Dm.trans q2) q3
  | ref gj=>
   simp only at e;split at e
   ·rename_i bQ hw;cases e;obtain⟨vs,hv,r⟩:=cX.hp _ _ hw;refine .inr ⟨_,_,rfl,bA.of hv,fun p hp=>?_⟩;obtain⟨q1,q2,q3⟩:=i0 cX (zI r l u) hp;exact k _ _ _ q1 (Dm.trans q2) q3
   ·cases e
  | _=>cases e
end
noncomputable def mH:List W->Po W:=fun xs ph=>match xs with
 | [w]=>match cC w ph with
  | some ws=>some (.ref ph.length,ph++[.lst ws])
  | none=>none
 | _=>none
theorem Q4:f6 K (fun xs H Q=>∃p ys,xs=[.ref p]/\(bA K H p ys\/cE K H p ys)/\∀l,H l=none->Q (.ref l) (upd H l (.lst ys))) mH:=by
 intro φ ph H xs vs w ph' Q hH r e k;unfold mH at e;split at e
 ·split at e
  ·rename_i w0 ws hw;cases e;cases r with
   | cons r r'=>
    cases r';obtain⟨a,ys,rfl,hs,rs⟩:=zd hH r hw;refine⟨a,ys,rfl,hs,fun l hl=>?_⟩;obtain⟨q1,q2,q3⟩:=i0 hH rs hl;exact k _ _ _ q1 q2 q3
  ·cases e
 ·cases e
noncomputable def k0:List W->Po W:=fun xs ph=>match xs with
 | [w]=>match cC w ph with
  | some ws=>some (.tup ws,ph)
  | none=>none
 | _=>none
theorem zf:f6 K (fun xs H Q=>∃p ys,xs=[.ref p]/\((bA K H p ys/\∀l,H l=none->Q (.ref l) (upd H l (.tup ys)))\/(cE K H p ys/\Q (.ref p) H))) k0:=by
 intro φ ph H xs vs w ph' Q hH r e k;unfold k0 at e;split at e
 ·split at e
  ·rename_i w0 ws hw;cases e;cases r with
   | cons r r'=>
    cases r';obtain⟨a,ys,rfl,hs,rs⟩:=NZ hH r hw;refine⟨a,ys,rfl,?_⟩
    rcases hs with hs | hs
    ·exact .inl ⟨hs,fun l hl=>k φ _ _ (hH.tup hl) (gJ hl) (.tup cj (rs.mono (gJ hl)))⟩
    ·exact .inr ⟨cE.of hs,k φ H _ hH Step.refl (.tup hs rs)⟩
  ·cases e
 ·cases e
noncomputable def rM:List W->Po W:=fun xs=>match xs with
 | [.int i,.int j]=>ret (.int (if j>i then j else i))
 | _=>fc
noncomputable def rN:List W->Po W:=fun xs=>match xs with
 | [.int i,.int j]=>ret (.int (if j<i then j else i))
 | _=>fc
theorem F2:f6 K (fun xs H Q=>∃i j,xs=[.int i,.int j]/\Q (.int (if j>i then j else i)) H) rM:=by
 intro φ ph H xs vs w ph' Q hH r e k;unfold rM at e;split at e
 ·cases e;cases r with
  | cons r r'=>
   cases r;cases r' with
   | cons r r'=>cases r;cases r';exact⟨_,_,rfl,k φ H _ hH Step.refl (.int _)⟩
 ·cases e
theorem Q5:f6 K (fun xs H Q=>∃i j,xs=[.int i,.int j]/\Q (.int (if j<i then j else i)) H) rN:=by
 intro φ ph H xs vs w ph' Q hH r e k;unfold rN at e;split at e
 ·cases e;cases r with
  | cons r r'=>
   cases r;cases r' with
   | cons r r'=>cases r;cases r';exact⟨_,_,rfl,k φ H _ hH Step.refl (.int _)⟩
 ·cases e
noncomputable def k5(f f':W->W->Po W)(a b c:EM):EM:=fun σ=>au (a σ) fun x=>au (b σ) fun y=>au (lift (f x y)) fun z=>match z with
 | .bl k=>if k=true then au (c σ) fun u=>lift (f' y u) else aA (.bl false)
 | _=>eJ
section
variable{X:Cx}{a b c:Expr}{ma mb mc:EM}{pos:Pos}{op jh:CmpOp}{r r':R2}{f f':W->W->Po W}
theorem N5(hi:de X.K r f)(gj:de X.K r' f'){σ:L2.St}{H:Hp}{Q:VK}(h:tM X (k5 f f' ma mb mc) σ H Q):Gv r r' (tM X ma) (tM X mb) (tM X mc) σ H Q:=by
 obtain⟨φ,ph,ws,hH,hS,h⟩:=h;refine tM.bind hH hS h fun x ph1 aq H1 vx ay s1 rx h=>tM.bind ay (hS.mono s1) h fun y aI a8 H2 vy bj s2 ry h=>?_
 rw[cS] at h;obtain⟨z,g6,e,h⟩:=run_lift h;refine hi bj (rx.mono s2) ry e fun eD H3 vz cX s3 rz=>?_
 have Ym:=((hS.mono s1).mono s2).mono s3;cases rz with
 | bl k=>
  refine⟨k,rfl,?_⟩;cases k with
  | false=>exact lj (h eD H3 _ cX ((s1.trans s2).trans s3) (.bl false))
  | true=>
   have h':(au (mc ws) (fun u=>lift (f' y u)) g6).Run (fun w ph'=>∀ap H' v,aD X.K ap ph' H'->Step X.K φ ph.length H ap ph'.length H'->aK X.K ap ph'.length H' w v->Q v H') (XE X eD g6.length H3):=Out.Run.mono h (fun _ _ z=>z) fun _ _ z=>z.step s3
   refine lm (tM.bind cX Ym h' fun u kE l6 H4 vu lM s4 ru h=>?_);obtain⟨w,ph',e',k'⟩:=run_lift h;exact gj lM ((ry.mono s3).mono s4) ru e' fun fI H5 v fH s5 r5=>k' fI H5 v fH ((((s1.trans s2).trans s3).trans s4).trans s5) r5
 | _=>exact h.elim
theorem O7(ho:bJ X (abH op) r)(hi:de X.K r f)(fG:bJ X (abH jh) r')(gj:de X.K r' f')(ha:IE X a ma)(hb:IE X b mb)(hc:IE X c mc)(hm:lastMarks [op,jh] [b,c]=false:=by with_unfolding_all rfl) :
  IE X (.Compare a [op,jh] [b,c] pos) (k5 f f' ma mb mc):=PE.imp (OU ho fG ha hb hc hm) fun _ _ _ h=>N5 hi gj h
end
structure fT(X:Cx)(N:List Str)(sc:Scope):Prop where
 hN:X.N=N
 kB:∀x,jf sc x->jf X.env.scope x
 loc:∀x,Loc sc x->Loc X.env.scope x
 gl:∀x,sc.names.lookup x=some .globalImplicit->Gl X x
 fn:∀x,Loc sc x->(X.fn x=true\/X.env.scope.names.lookup x=some .local)/\iF X x
 nd:N.Nodup
structure fU(X:Cx)(N:List Str)(sc:Scope)(k:Nat):Prop extends fT X N sc where
 calm:X.calm=true
 room:du k X.A
structure Bd(X:Cx)(N:List Str)(sc:Scope)(k:Nat):Prop extends fU X N sc k where
 xi:afS (model X.prog X.w) X.A X.env X.xe
section
variable{X:Cx}{N:List Str}{sc:Scope}{k:Nat}{pos:Pos}
variable{x:Str}
theorem fT.var(B:fT X N sc)(i:Nat)(hN:N[i]? =some x)(hv:jf sc x)(hd:(x==("__debug__":Str))=false)(hcd:(x==("__classdict__":Str))=false):IE X (.Name x pos) (aa i):=
 Td i (hN:=by rw[B.hN];exact hN) (hv:=B.kB x hv) (hd:=hd) (hcd:=hcd)
theorem fT.name(B:fT X N sc)(i:Nat)(hN:N[i]? =some x)(hl:Loc sc x):IG X (.Name x pos) (gN i):=
 QH (by rw[B.hN];exact B.nd) (by rw[B.hN];exact hN) (B.loc x hl) (B.fn x hl)
theorem fT.set(B:fT X N sc)(i:Nat){e:Expr}{m:EM}{pos':Pos}(hN:N[i]? =some x)(hl:Loc sc x)(he:IE X e m)(hs:adj e (some (.Name x pos')) pos.line X.env=pure false:=by rfl):IS X (.Assign [.Name x pos'] e pos) (ax m (gN i)):=
 Tu (by rw[B.hN];exact B.nd) (by rw[B.hN];exact hN) (B.loc x hl) he hs (B.fn x hl)
theorem Bd.WW(B:Bd X N sc k){iter tg:Expr}{im:IM}{g:GM}{b:SM}{body:List Stmt}(hi:II X tg iter im)(hg:IG X tg g)(hb:iS X body b)(hs:∀x,abp iter X.env x=pure x:=by intro _;rfl):IS X (.For tg iter body [] pos) (cT im g b):=
 Tw B.xi B.calm hi hg hb hs
theorem Bd.Ua(B:Bd X N sc k){c:Expr}{t:TM}{b:SM}{body:List Stmt}(hc:IT X c t)(hb:iS X body b):IS X (.While c body [] pos) (hW t b):=O1 B.xi hc hb
theorem Eg{env:Env}{x:Str}:∀{names:List (Str×ada)},names.lookup x=some .globalImplicit →
  (names.map fun(n,k)=>if(k==aaR&&env.scope.kind==.function&&env.kindOf n==some .cell) then(n,acf) else(n,k)).lookup x=some .globalImplicit
 | [],h=>by cases h
 | (n,k)::r,h=>by
  show acV x ((if(k==aaR&&env.scope.kind==.function&&env.kindOf n==some .cell)=true then(n,acf) else(n,k))::_)=_;rw[aaJ] at h;cases q:x==n with
  | true=>
   rw[q] at h;cases h;have pb:¬((aeP==aaR&&env.scope.kind==.function&&env.kindOf n==some .cell)=true):=by
    rw[show(aeP==aaR)=false from rfl,aey,aey];exact abe
   rw[if_neg pb,aaJ,q]
  | false=>
   rw[q] at h;have ih:=Eg (env:=env) h;split
   ·rw[aaJ,q];exact ih
   ·rw[aaJ,q];exact ih
theorem Bd.bV(B:Bd X N sc k){N':List Str}{scope:Scope}{cl:List (Str×Addr)}{C:Addr}{aE:aaw}{aO:Hp}{ex:List Addr}(hc:∀y∈scope.names,y.2≠.cell)(nd:N'.Nodup):Bd (bV X N' scope cl C aE aO ex) N' scope k where
 hN:=rfl
 kB:=fun x h=>by
  rcases h with h | h | h
  ·exact .inl (adV (env:=X.env) h)
  ·exact absurd rfl (hc _ (mem_lookup h))
  ·exact .inr (yw (env:=X.env) h)
 loc:=fun x h=>by
  rcases h with h | h
  ·exact .inl (adV (env:=X.env) h)
  ·exact absurd rfl (hc _ (mem_lookup h))
 gl:=fun x h=>Eg (env:=X.env) h
 calm:=B.calm
 room:=B.room
 fn:=fun x h=>by
  rcases h with h | h
  ·exact⟨.inr (adV (env:=X.env) h),fun _ _ _ _ _=>trivial⟩
  ·exact absurd rfl (hc _ (mem_lookup h))
 xi:=afj
 nd:=nd
noncomputable def G9(sc scope:Scope)(N N':List Str)(cap:List (Option Nat)):Bool:=
 cap.length==N'.length&&(aaK N'.length).all (fun i=>match cap[i]? with
  | some (some j)=>(match N'[i]? with
   | some x=>N[j]? ==some x&&scope.names.lookup x==some .free&&(sc.names.lookup x==some .cell||sc.names.lookup x==some .free)
   | none=>false)
  | _=>true)&&scope.names.all (fun y=>y.2 != .cell&&(y.2 != .free||sc.names.lookup y.1==some .cell||sc.names.lookup y.1==some .free)&&(y.2 != .local||scope.names.lookup y.1==some .local))&&scope.kind==.function
theorem Bd.cap(hN:X.N=N)(ba:X.env.scope=sc){N':List Str}{scope:Scope}{cap:List (Option Nat)}(h:G9 sc scope N N' cap=true):jS X N' cap scope:=by
 unfold G9 at h;simp only[aaG,abJ,beq_iff_eq,bne_iff_ne,acU,ne_eq] at h;obtain⟨⟨⟨h1,h2⟩,h3⟩,h4⟩:=h;have hk:∀x,X.env.kindOf x=sc.names.lookup x:=fun x=>by unfold Env.kindOf;rw[ba]
 refine⟨h1,fun i j x e1 e2=>?_,fun y hy hf=>?_,fun y hy=>(h3 y hy).1.1,h4,fun y hy hl=>?_⟩
 ·have hi:i<N'.length:=(aam.mp e1).1;have:=h2 i (abG.mpr hi);rw[e2,e1] at this;simp only[aaG,beq_iff_eq,acU] at this;obtain⟨⟨a1,a2⟩,a3⟩:=this;rw[hN,hk];exact⟨a1,a2,a3⟩
 ·rw[hk]
  rcases(h3 y hy).1.2 with(z | z) | z
  ·exact absurd hf z
  ·exact .inl z
  ·exact .inr z
 ·rcases(h3 y hy).2 with z | z
  ·exact absurd hl z
  ·exact z
end
noncomputable def isStar:Expr->Bool
 | .Starred .. =>true
 | _=>false
theorem dR{e:Expr}{es:List Expr}(h:isStar e=false):aaP (e::es) env=(false,eval e env)::aaP es env:=by
 cases e <;> first | rfl | cases h
noncomputable def eN(es:List Expr):Bool:=es.all fun e=> !isStar e
theorem any_none{env:Env}{pos:Pos}:∀{es:List Expr},eN es=true->(adi pos (aaP es env)).any (·.1)=false
 | [],_=>rfl
 | e::es,h=>by
  unfold eN at h;rw[acx,aaG] at h;have h1:isStar e=false:=by simpa using h.1
  rw[dR h1];show(false||(adi pos (aaP es env)).any (·.1))=false;rw[any_none (es:=es) h.2];rfl
theorem all_none{env:Env}{pos:Pos}:∀{es:List Expr},eN es=true->(adi pos (aaP es env)).all (fun x=> !x.1)=true
 | [],_=>rfl
 | e::es,h=>by
  unfold eN at h;rw[acx,aaG] at h;have h1:isStar e=false:=by simpa using h.1
  rw[dR h1];show(!false&&(adi pos (aaP es env)).all (fun x=> !x.1))=true;rw[all_none (es:=es) h.2];rfl
section
variable{X:Cx}{e:Expr}{es:List Expr}{m:EM}{a:AM}{pos:Pos}
theorem WX(h:isStar e=false)(he:IE X e m)(hr:IA X es a):IA X (e::es) (ab m a):=QL he hr (dR h)
end
section
variable{X:Cx}{k:Nat}{f:Addr}{fd:aaV}{ps:List Str}{fm:List W->Mo W}{x:Str}{p pos:Pos}{e:Expr}{es:List Expr}{a:AM}
theorem Ub(hn:eN (e::es)=true)(eh:(x==("__debug__":Str))=false)(F:bM X.prog X.w X.K X.mg X.base (bG X.prog X.w) k f fd ps (bT X.K X.mg ps.length fm))(hl:∀{xs:List W} {ph:PH},xs.length≠ps.length->fm xs ph=.no)(hr:du k X.A)(hg:Gl X x)(hm:X.mg x=some (.ref f))
  (hk:acz X.K (.ref f)=true) (hb:Binds X.K fd ps []) (ha:IA X (e::es) a):IE X (.Call (.Name x p) (e::es) [] pos) (aC fm a):=by
 unfold eN at hn;rw[acx,aaG] at hn;exact QN F hl hr hg hm hk hb ha eh (dR (by simpa using hn.1)) (any_none hn.2)
variable{t:AM}{id T:String}{r:List V->Hp->VK->Prop}{fp:List W->Po W}
theorem Uc(cD:eN (e::es)=true)(hn:x≠"__name__")(eh:(x==("__debug__":Str))=false)(hc:c6 X (.builtin id) r)(hi:f6 X.K r fp)(hg:Gl X x)(hm:X.mg x=none)(hv:abB x=some (.builtin id))(ha:IA X (e::es) t):IE X (.Call (.Name x p) (e::es) [] pos) (aX fp t):=by
 unfold eN at cD;rw[acx,aaG] at cD;exact O2 hc hi hg hm hv ha hn eh (dR (by simpa using cD.1)) (any_none cD.2)
theorem Ud(cD:eN (e::es)=true)(hn:x≠"__name__")(eh:(x==("__debug__":Str))=false)(hc:c6 X (.type T) r)(hi:f6 X.K r fp)(hg:Gl X x)(hm:X.mg x=none)(hv:abB x=some (.type T))(ha:IA X (e::es) t):IE X (.Call (.Name x p) (e::es) [] pos) (aX fp t):=by
 unfold eN at cD;rw[acx,aaG] at cD;exact N0 hc hi hg hm hv ha hn eh (dR (by simpa using cD.1)) (any_none cD.2)
end
section
variable{X:Cx}{o e:Expr}{es:List Expr}{mo:EM}{t:AM}{name:Str}{apos eG:Pos}{T id:String}{r:V->List V->Hp->VK->Prop}{ty:W->PH->Bool}{f:W->List W->Po W}
theorem Ue(cD:eN (e::es)=true)(bP:decide ((e::es).length<30)=true)(pa:aea T)(slot:Slot T name id)(ic:typeOf (.builtin id)=pure (.type "method_descriptor"))(hm:mY X id r)(ht:m4 X.K T ty)(hi:lN X.K T r f)(ho:IE X o mo)(ha:IA X (e::es) t)
  (gr:acK o name X.env (eval o X.env)=eval o X.env:=by rfl) (gu:(apos.endLine==eG.line)=true:=by rfl):IE X (.Call (.Attribute o name apos) (e::es) [] eG) (cz ty f mo t):=by
 have BX:=all_none (env:=X.env) (pos:=eG) cD;unfold eN at cD;rw[acx,aaG] at cD;refine VP pa slot ic hm ht hi ho ha gr ?_ gu (dR (by simpa using cD.1)) (any_none cD.2);rw[BX,show(backToKw eG (keywordEach [] X.env)).all (fun x=>x.1.isSome)=true from rfl]
 simpa using bP
end
structure JE(X:Cx)(e:Expr)(m:EM):Prop where
 h:IE X e m
structure JT(X:Cx)(e:Expr)(m:TM):Prop where
 h:IT X e m
structure JW(X:Cx)(e:Expr)(m:TM):Prop where
 h:PW X e (tT X m)
structure JA(X:Cx)(es:List Expr)(m:AM):Prop where
 h:IA X es m
structure JS(X:Cx)(st:Stmt)(m:SM):Prop where
 h:IS X st m
structure JB(X:Cx)(st:List Stmt)(m:SM):Prop where
 h:iS X st m
structure JG(X:Cx)(e:Expr)(g:GM):Prop where
 h:IG X e g
structure xW(X:Cx)(es:List Expr)(gs:List GM):Prop where
 h:gV X es (sM X gs)
structure JI(X:Cx)(tg iter:Expr)(im:IM):Prop where
 h:II X tg iter im
structure JO(X:Cx)(e:Option Expr)(m:OM):Prop where
 h:sO X e m
structure JF(X:Cx)(ifs:List Expr)(c:TM):Prop where
 h:PF X ifs (kJ X.K c)
section
variable{X:Cx}{N:List Str}{sc:Scope}{k:Nat}{a b c e o:Expr}{es rest:List Expr}{ma mb mc m mo:EM}{ta tb t:TM}{am:AM}{sa sb:SM}{st:Stmt}{as bs body:List Stmt}{p p2 pos pos':Pos}{g:GM}{gs:List GM}{im:IM}{tg iter:Expr}
variable{x:Str}
theorem fT.WY(B:fT X N sc)(i:Nat)(hN:N[i]? =some x)(hv:jf sc x)(hd:(x==("__debug__":Str))=false)(hcd:(x==("__classdict__":Str))=false):JE X (.Name x pos) (aa i):=⟨B.var i hN hv hd hcd⟩
variable{j:Nat}
theorem aj{i:Int}:JE X (.Constant (.int i) j pos) (eC (.int i)):=⟨Te⟩
theorem bx:JE X (.Constant (.str x) j pos) (eC (.str x)):=⟨Tf⟩
theorem kj{x:Bool}:JE X (.Constant (.bool x) j pos) (eC (.bl x)):=⟨VG⟩
theorem mB:JE X (.Constant .none j pos) (eC .aJ):=⟨Tg⟩
theorem Ab(ha:JE X a ma):JE X (.UnaryOp .USub a pos) (jO jc ma):=⟨VH SQ TL ha.h⟩
theorem Ug(ha:JE X a ma):JE X (.UnaryOp .Not a pos) (w8 ma):=⟨Tr ha.h⟩
theorem bO(ha:JE X a ma)(hb:JE X b mb):JE X (.BinOp a .Add b pos) (ae addW ma mb):=⟨oo QP TX ha.h hb.h⟩
theorem fY(ha:JE X a ma)(hb:JE X b mb):JE X (.BinOp a .Sub b pos) (ae dj ma mb):=⟨oo SK TN ha.h hb.h⟩
theorem bL(ha:JE X a ma)(hb:JE X b mb):JE X (.BinOp a .Mod b pos) (ae aN ma mb):=⟨oo Qp TR ha.h hb.h⟩
theorem dE(ha:JE X a ma)(hb:JE X b mb):JE X (.BinOp a .FloorDiv b pos) (ae bS ma mb):=⟨oo O4 TU ha.h hb.h⟩
structure Cp(X:Cx)(op:CmpOp)(b:Expr)(f:W->W->Po W):Prop where
 ex:∃r,bJ X (abH op) r/\de X.K r f
 bm:acv op b=false
theorem hZ:Cp X .Lt b dB:=⟨⟨_,Vx,z9⟩,ms _⟩
theorem wk:Cp X .LtE b kG:=⟨⟨_,Vy,z9⟩,ms _⟩
theorem wm:Cp X .Gt b kH:=⟨⟨_,Vz,z9⟩,ms _⟩
theorem fU.eq(B:fU X N sc k):Cp X .Eq b aY:=⟨⟨_,T1 B.room.units,VR⟩,ms _⟩
theorem fU.ne(B:fU X N sc k):Cp X .NotEq b dJ:=⟨⟨_,T2 B.room.units,VS⟩,ms _⟩
theorem VX:Cp X .Is b oM:=⟨⟨_,SR,TY⟩,ms _⟩
theorem GC:Cp X .IsNot b kh:=⟨⟨_,Qq,QQ⟩,ms _⟩
variable{op:CmpOp}{f:W->W->Po W}
theorem jA(hc:Cp X op b f)(ha:JE X a ma)(hb:JE X b mb):JE X (.Compare a [op] [b] pos) (ae f ma mb):=let ⟨_,h1,h2⟩:=hc.ex;⟨Th h1 h2 ha.h hb.h hc.bm⟩
theorem a9(hc:Cp X op b f)(ha:JE X a ma)(hb:JE X b mb):JT X (.Compare a [op] [b] pos) (eT (ae f ma mb)):=let ⟨_,h1,h2⟩:=hc.ex;⟨Ti h1 h2 ha.h hb.h hc.bm⟩
theorem Fx{jh:CmpOp}{f':W->W->Po W}(h1:Cp X op b f)(h2:Cp X jh c f')(hm:lastMarks [op,jh] [b,c]=false)(ha:JE X a ma)(hb:JE X b mb)(hc:JE X c mc):JE X (.Compare a [op,jh] [b,c] pos) (k5 f f' ma mb mc):=
 let ⟨_,q1,q2⟩:=h1.ex;let ⟨_,q3,q4⟩:=h2.ex;⟨O7 q1 q2 q3 q4 ha.h hb.h hc.h hm⟩
theorem n9{op:BoolOp}(ha:JE X a ma):JE X (.BoolOp op [a] pos) ma:=⟨Tq ha.h⟩
theorem oa(ha:JE X a ma)(hb:JE X (.BoolOp .And (b::rest) pos) mb):JE X (.BoolOp .And (a::b::rest) pos) (jb ma mb):=⟨Tp ha.h hb.h⟩
theorem gL{op:BoolOp}(ha:JT X a ta):JW X (.BoolOp op [a] pos) ta:=⟨Tn ha.h⟩
theorem mC(ha:JT X a ta)(hb:JW X (.BoolOp .And (b::rest) pos) tb):JW X (.BoolOp .And (a::b::rest) pos) (fq ta tb):=⟨To ha.h hb.h⟩
theorem jG(ha:JT X a ta)(hb:JW X (.BoolOp .Or (b::rest) pos) tb):JW X (.BoolOp .Or (a::b::rest) pos) (dX ta tb):=⟨VJ ha.h hb.h⟩
theorem gS(h:JW X a ta):JT X a ta:=⟨h.h.pt⟩
theorem og(ha:JT X a ta):JT X (.UnaryOp .Not a pos) (gw ta):=⟨Tj ha.h⟩
noncomputable def plainT:Expr->Bool
 | .Name .. =>true | .Call .. =>true | .Subscript .. =>true | .Constant .. =>true | .BinOp .. =>true
 | _=>false
theorem kc(hp:plainT a=true)(ha:JE X a ma):JT X a (eU ma):=⟨by
 cases a <;> first | cases hp;done | exact Ts ha.h⟩
theorem AZ(hc:JT X c ta)(ha:JE X a ma)(hb:JE X b mb):JE X (.IfExp c a b pos) (lL ta ma mb):=⟨VL hc.h ha.h hb.h⟩
theorem ak:JA X [] af:=⟨TB⟩
theorem WZ(h:isStar e=false)(he:JE X e m)(hr:JA X es am):JA X (e::es) (ab m am):=⟨WX h he.h hr.h⟩
theorem bE{x1:Nat}(h:JA X es am):JE X (.Tuple es x1 pos) (aQ am):=⟨TC h.h⟩
theorem bD(h:JA X es am):JE X (.List es pos) (aR am):=⟨TF h.h⟩
theorem Q6:JO X none wj:=⟨Q1⟩
theorem Q7(he:JE X e m):JO X (some e) (rL m):=⟨Q3 he.h⟩
theorem VY{lo hi:Option Expr}{ml mh:OM}(he:JE X e m)(hl:JO X lo ml)(hh:JO X hi mh):JE X (.Subscript e (.Slice lo hi none p2) pos) (sN m ml mh):=⟨VW he.h hl.h hh.h⟩
theorem bF:JB X [] aZ:=⟨QC⟩
theorem az{rs:List Stmt}(h1:JS X st sa)(h2:JB X rs sb):JB X (st::rs) (av sa sb):=⟨O0 h1.h h2.h⟩
theorem aF(h1:JS X st sa):JB X [st] sa:=⟨QF h1.h⟩
theorem bh(he:JE X e m):JS X (.Return (some e) pos) (aW m):=⟨Tt he.h⟩
noncomputable def Ac:Expr->Bool
 | .ListComp .. =>false | .SetComp .. =>false | .DictComp .. =>false
 | _=>true
theorem Fy{x:Option Expr}{n:Nat}{env:Env}(h:Ac e=true):adj e x n env=pure false:=by
 cases e <;> first | rfl | cases h
theorem eO(hn:Ac e=true)(he:JE X e m):JS X (.Expr e pos) (cO m):=⟨QG he.h (Fy hn)⟩
theorem bz(hc:JT X c t)(ha:JB X as sa)(hb:JB X bs sb):JS X (.If c as bs pos) (aV t sa sb):=⟨VM hc.h ha.h hb.h⟩
theorem fT.aU(B:fT X N sc)(i:Nat)(hN:N[i]? =some x)(hl:Loc sc x)(hn:Ac e=true)(he:JE X e m):JS X (.Assign [.Name x pos'] e pos) (ax m (gN i)):=⟨B.set i hN hl he.h (Fy hn)⟩
theorem k7(he:JE X e m)(hg:JG X tg g)(hs:swapsWithSole [tg] e pos.line X.env=pure false:=by rfl)(hw:swappedStores [tg] e X.env=pure none:=by rfl)
  (h1:(abX [tg] X.env).map (·.2)=[afB tg X.env]:=by rfl):JS X (.Assign [tg] e pos) (ax m g):=⟨Tv he.h hg.h hs hw h1⟩
theorem fT.cm(B:fT X N sc)(i:Nat)(hN:N[i]? =some x)(hl:Loc sc x):JG X (.Name x pos) (gN i):=⟨B.name i hN hl⟩
theorem vI:xW X [] []:=⟨Q0⟩
theorem i4(h1:JG X e g)(h2:xW X es gs)(hs:(abX (e::es) X.env).map (·.2)=afB e X.env::(abX es X.env).map (·.2):=by rfl):xW X (e::es) (g::gs):=⟨O6 h1.h h2.h hs⟩
theorem vS{n:Nat}(hc:X.calm=true)(h:xW X es gs)(hn:(abX es X.env).length=n:=by rfl)(c9:(abX es X.env).findIdx? (·.1)=none:=by rfl):JG X (.Tuple es j pos) (jd n gs):=⟨T9 hc h.h hn c9⟩
theorem Bd.fe(B:Bd X N sc k)(hi:JI X tg iter im)(hg:JG X tg g)(hb:JB X body sb)(hs:∀x,abp iter X.env x=pure x:=by intro _;rfl):JS X (.For tg iter body [] pos) (cT im g sb):=⟨B.WW hi.h hg.h hb.h hs⟩
theorem Bd.vT(B:Bd X N sc k)(hc:JT X c t)(hb:JB X body sb):JS X (.While c body [] pos) (hW t sb):=⟨B.Ua hc.h hb.h⟩
theorem fX(hg:Gl X "range")(hm:X.mg "range"=none)(hn:isStar a=false)(ha:JA X [a] am):JI X tg (.Call (.Name "range" p) [a] [] pos) (cY am):=⟨NW hg hm ha.h (dR hn)⟩
theorem N6(hg:Gl X "range")(hm:X.mg "range"=none)(hn:isStar a=false)(IX:isStar b=false)(ha:JA X [a,b] am):JI X tg (.Call (.Name "range" p) [a,b] [] pos) (pg am):=⟨NX hg hm ha.h (by rw[dR hn,dR IX];rfl) (dR IX)⟩
theorem oh{k:Nat}{f:Addr}{fd:aaV}{ps:List Str}{fm:List W->Mo W}(hn:eN (e::es)=true)(eh:(x==("__debug__":Str))=false)(F:bM X.prog X.w X.K X.mg X.base (bG X.prog X.w) k f fd ps (bT X.K X.mg ps.length fm))(hl:∀{xs:List W} {ph:PH},xs.length≠ps.length->fm xs ph=.no)(hr:du k X.A)(hg:Gl X x)(hm:X.mg x=some (.ref f))
  (hk:acz X.K (.ref f)=true) (hb:Binds X.K fd ps []) (ha:JA X (e::es) am):JE X (.Call (.Name x p) (e::es) [] pos) (aC fm am):=⟨Ub hn eh F hl hr hg hm hk hb ha.h⟩
variable{id:String}
theorem mD{r:List V->Hp->VK->Prop}{fp:List W->Po W}(cD:eN (e::es)=true)(hn:x≠"__name__")(eh:(x==("__debug__":Str))=false)(hc:c6 X (.builtin id) r)(hi:f6 X.K r fp)(hg:Gl X x)(hm:X.mg x=none)(hv:abB x=some (.builtin id))(ha:JA X (e::es) am):JE X (.Call (.Name x p) (e::es) [] pos) (aX fp am):=⟨Uc cD hn eh hc hi hg hm hv ha.h⟩
variable{T:String}
theorem mE{r:List V->Hp->VK->Prop}{fp:List W->Po W}(cD:eN (e::es)=true)(hn:x≠"__name__")(eh:(x==("__debug__":Str))=false)(hc:c6 X (.type T) r)(hi:f6 X.K r fp)(hg:Gl X x)(hm:X.mg x=none)(hv:abB x=some (.type T))(ha:JA X (e::es) am):JE X (.Call (.Name x p) (e::es) [] pos) (aX fp am):=⟨Ud cD hn eh hc hi hg hm hv ha.h⟩
theorem Uh{name:Str}{r:V->List V->Hp->VK->Prop}{ty:W->PH->Bool}{f:W->List W->Po W}(cD:eN (e::es)=true)(bP:decide ((e::es).length<30)=true)(pa:aea T)(slot:Slot T name id)(ic:typeOf (.builtin id)=pure (.type "method_descriptor"))(hm:mY X id r)(ht:m4 X.K T ty)(hi:lN X.K T r f)(ho:JE X o mo)(ha:JA X (e::es) am)
  (gr:acK o name X.env (eval o X.env)=eval o X.env:=by rfl) (gu:(p.endLine==pos.line)=true:=by rfl):JE X (.Call (.Attribute o name p) (e::es) [] pos) (cz ty f mo am):=⟨Ue cD bP pa slot ic hm ht hi ho.h ha.h gr gu⟩
theorem Q8{name:Str}{r:V->List V->Hp->VK->Prop}{ty:W->PH->Bool}{f:W->List W->Po W}(pa:aea T)(slot:Slot T name id)(ic:typeOf (.builtin id)=pure (.type "method_descriptor"))(hm:mY X id r)(ht:m4 X.K T ty)(hi:lN X.K T r f)(ho:JE X o mo)
  (gr:acK o name X.env (eval o X.env)=eval o X.env:=by rfl) (gu:(p.endLine==pos.line)=true:=by rfl):JE X (.Call (.Attribute o name p) [] [] pos) (cz ty f mo af):=⟨TJ pa slot ic hm ht hi ho.h gr gu⟩
theorem wo{c:Str}{cn:String}{p2:Pos}(hk:mP X.K cn)(hv:abB c=some (.type cn))(hn:c≠"__name__")(hd:(c==("__debug__":Str))=false)(c9:isStar e=false)(hg:Gl X "isinstance")(hm:X.mg "isinstance"=none)(Dc:Gl X c)(Dd:X.mg c=none)(he:JE X e m) :
  JE X (.Call (.Name "isinstance" p) [e,.Name c p2] [] pos) (kI cn m):=⟨VQ hk hv hg hm Dc Dd he.h hn hd (by rw[dR c9,dR rfl];rfl) (dR rfl) (any_none rfl)⟩
theorem jB:JF X [] dH:=⟨T7⟩
theorem GD(h:JT X c t):JF X [c] t:=⟨T8 h.h⟩
theorem nV{scope:Scope}{ifs:List Expr}{N':List Str}{cap:List (Option Nat)}(hc:X.calm=true)(cp:jS X N' cap scope)(hi:JI X tg iter im)(hg:∀cl C aE aO ex,JG (bV X N' scope cl C aE aO ex) tg g)(ht:∀cl C aE aO ex,JF (bV X N' scope cl C aE aO ex) ifs t)
  (he:∀cl C aE aO ex,JE (bV X N' scope cl C aE aO ex) e m) (hs:∀x,abp iter X.env x=pure x:=by intro _;rfl):JE X (.ListComp e [⟨tg,iter,ifs,0⟩] scope pos) (dW im cap g t m):=
 ⟨QY hc cp hi.h (fun cl C aE aO ex=>(hg cl C aE aO ex).h) (fun cl C aE aO ex=>(ht cl C aE aO ex).h) (fun cl C aE aO ex=>(he cl C aE aO ex).h) hs⟩
theorem qP{scope:Scope}{ifs:List Expr}{N':List Str}{cap:List (Option Nat)}{i:Nat}(hN:X.N.Nodup)(gj:X.N[i]? =some x)(m7:iF X x)(hx:X.env.scope.names.lookup x=some .local)
  (hc:X.calm=true) (cp:jS X N' cap scope) (hi:JI X tg iter im) (hg:∀cl C aE aO ex,JG (bV X N' scope cl C aE aO ex) tg g) (ht:∀cl C aE aO ex,JF (bV X N' scope cl C aE aO ex) ifs t)
  (he:∀cl C aE aO ex,JE (bV X N' scope cl C aE aO ex) e m) (m8:adj (.ListComp e [⟨tg,iter,ifs,0⟩] scope p) (some (.Name x pos')) pos.line X.env=pure true) (hs:∀x,abp iter X.env x=pure x:=by intro _;rfl) :
  JS X (.Assign [.Name x pos'] (.ListComp e [⟨tg,iter,ifs,0⟩] scope p) pos) (ax (dW im cap g t m) (gN i)):=
 ⟨QZ hN gj m7 hx hc cp hi.h (fun cl C aE aO ex=>(hg cl C aE aO ex).h) (fun cl C aE aO ex=>(ht cl C aE aO ex).h) (fun cl C aE aO ex=>(he cl C aE aO ex).h) m8 hs⟩
end
open PySem PySem.Spec PyProof.Rows L2 PySem.W Builtin.ObjectAttr Builtin.Getset_descriptor
noncomputable def Dn(x:XC):Mo α:=fun ph=>.ex x ph
open PySem PySem.Spec PyProof.Rows L2 PySem.W
structure rZ(X:Cx):Prop where
 st:X.stack=X.env::X.outer
 fr:X.env.frame=some X.env.locals
 ex:X.ex=[]
theorem O8{a:Addr}{o:HO}(ha:H a=none):Step K φ n H φ n (upd H a o):=by
 refine⟨aat _,fun _ _=>rfl,fun c xs h=>?_,fun c ob u h=>by rw[aT (fun z=>by rw[z,ha] at h;cases h)];exact h⟩;rw[aT (fun z=>by rw[z,ha] at h;cases h)];exact h
theorem O9{a:Addr}{o:HO}(h:aD K φ ph H)(ha:H a=none):aD K φ ph (upd H a o):=
 ⟨fun i p e=>by
  obtain⟨x,hx,_⟩:=h.at (aam.mp e).1;exact(h.hp i p e).mono (O8 ha) (aT fun z=>by rw[z,ha] at hx;cases hx),h.inj,fun p hm=>(h.tb p hm).new ha⟩
noncomputable def xj:W->W->Po W:=fun x y=>match x,y with
 | .int i,.int j=>if(decide (0<=j)&&decide (j<=1000000)&&decide (i.natAbs<2 ^ 64))=true then ret (.int (i ^ j.toNat)) else fc
 | _,_=>fc
theorem Ui:de K (rI Hw fun i j=>.int (i ^ j.toNat)) xj:=by
 intro φ ph H x y vx vy w ph' Q hH rx ry e k;unfold xj at e;split at e
 ·split at e
  ·rename_i hc;cases e;cases rx;cases ry;simp only[aaG,decide_eq_true_eq] at hc;exact⟨_,_,rfl,rfl,⟨hc.1.1,hc.1.2,hc.2⟩,k φ H _ hH Step.refl (.int _)⟩
  ·cases e
 ·cases e
variable{a:Expr}{ma mb:EM}{pos:Pos}
theorem Uj{b:Expr}(ha:JE X a ma)(hb:JE X b mb):JE X (.BinOp a .Pow b pos) (ae xj ma mb):=⟨oo SO Ui ha.h hb.h⟩
theorem Q9(hH:aD K φ ph H)(r:aK K φ ph.length H x v)(h:bU x ph=true)(e:cC x ph=some ws):∃a vs,v=.ref a/\bA K H a vs/\aM K φ ph.length H ws vs:=by
 unfold bU at h;unfold cC at e;cases r with
 | fl hq r=>cases e;exact⟨_,_,rfl,hq.sq,r⟩
 | ref hi=>
  simp only at e;split at e
  ·rename_i bQ hw;cases e;obtain⟨vs,hv,r⟩:=hH.hp _ _ hw;exact⟨_,vs,rfl,bA.of hv,r⟩
  ·cases e
 | _=>cases h
variable{P:abw}
theorem F3{w:World}{mg:Str->Option Value}{base:Heap}{x qual:Str}{st:Stmt}{f:Addr}{fd:aaV}{N ps:List Str}{k np:Nat}{body:SM}(hn:N.length=n)(hp:ps.length=np)(F:jj K x qual st f fd)(S:cx N ps (bf st))
  (kg:∀{X:Cx},X.prog=P->X.w=w->X.K=K->X.mg=mg->X.base=base->Bd X N (bf st) k->rZ X->X.env.scope=bf st->JB X (fB st) body):bM P w K mg base (bG P w) (k+1) f fd ps (bT K mg np (fM body n np)):=by
 subst hn hp;exact TH F S fun bI A outer s H E hr=>(kg (X:=gd (bG P w) P w K mg base N qual (bf st) f bI A outer s H E) rfl rfl rfl rfl rfl ⟨⟨⟨rfl,fun _ z=>z,fun _ z=>z,fun _ z=>z,fun _ _=>⟨.inl rfl,fun _ _ _ _ _=>trivial⟩,S.nd⟩,rfl,hr⟩,agc⟩ ⟨rfl,rfl,rfl⟩ rfl).h
noncomputable def kX(o:Obj):Option Addr:=match o.cls,o.data with
 | .type t,.fields vs=>if t="code" then(match(vs[11]? :Option Value),vs.getD 18 .none,vs.getD 7 .none,vs.getD 9 .none,vs.getD 10 .none with
  | some (.ref P),.str _ _,.int _ _,.bool _,.int _ _=>some P
  | _,_,_,_,_=>none) else none
 | _,_=>none
variable{h:Heap}{o:Obj}
theorem E0{c P:Addr}(e:h.get? c=some o)(t:kX o=some P)(hn:c≠P):adl h c P:=by
 unfold kX at t;split at t
 ·rename_i t0 vs h1 h2;split at t
  ·rename_i ht;split at t
   ·rename_i P' f tf fl tg b tx tt g1 g2 g3 g4 g5;cases t;refine⟨o,vs,f,tf,fl,tg,b,tx,tt,e,by rw[h1,ht],h2,g1,?_,g2,g3,g4,g5,hn⟩;rw[Array.getD_eq_getD_getElem?,g1];rfl
   ·cases t
  ·cases t
 ·cases t
noncomputable def mI(K:aao)(b:Addr):Bool:=(fL K).any fun p=>p.2.2==b
theorem Fz{b:Addr}(h:mI K b=true):∃p∈fL K,p.2.2=b:=by
 obtain⟨p,h1,h2⟩:=abK.mp h;exact⟨p,h1,eq_of_beq h2⟩
theorem N7{p:Str×Addr×Addr}(h:p∈fL K):mI K p.2.2=true:=abK.mpr ⟨p,h,beq_self_eq_true _⟩
noncomputable def H0(K:aao)(a:Addr)(o:Obj)(xs:List V):Hp:=fun b=>if mI K b=true then some (.ff #[]) else if b=a/\K.lookup a=none then some (.aL o (.lst xs)) else none
section
variable{Pg:abw}{w:World}{K:aao}{mg mb:Str->Option Value}{k:Nat}{fa a:Addr}{fd:aaV}{x:Str}{bR:aaw}{vs:List Value}{ns:List Int}{fm:List W->Mo W}
theorem Pa(KX:K.In bR.heap)(cD:bR.heap.Ns aaL mg)(hb:bR.heap.Ns adZ mb)(xS:∀x:Str,x≠"__name__"->mb x=abB x)(W0:bR.heap.NoLimit)
  (sP:∃bm ob,mg "__builtins__"=some (.ref bm)/\bm≠adZ/\bR.heap.get? bm=some ob/\ob.cls=.type "module"/\ob.dict=some adZ/\ob.data=.plain) (hg:bR.gens= #[])
  (hT:∀p∈fL K,adl bR.heap p.2.1 p.2.2/\bR.heap.get? p.2.2=some (ach #[])) (hK:afE K=true)
  (ha:bR.heap.get? a=some { cls:=.type "list",data:=.seq vs.toArray }) (hi:afd vs ns) (hl:ns.length<=63) (hr:du k callerA)
  (F:∀base:Heap,K.In base->base.Ns aaL mg->bM Pg w K mg base (bG Pg w) k fa fd [x] (bT K mg 1 fm)) (VZ:∀(s:aaw) (u:Value),BindsTo s fd ⟨[u],[]⟩ [(x,u)])
  (good:∃ph',fm [.fl (ns.map W.int)] []=.ok (.bl true) ph') :
  codeAny (model Pg w) callerA (.call (.ref fa) ⟨[.ref a],[]⟩) (fun r s'=>r=.ok (.ret (.bool true))/\OldK bR.heap s'.heap/\s'.os=bR.os/\aeN s'.gens) bR:=by
 have rv:=EV hi;have W2:=hi.length;have fS:ns.length<=sizeLine:=aaN hl (by decide);have tabOf:∀{b:Addr},mI K b=true->bR.heap.get? b=some (ach #[]):=fun h=>by
  obtain⟨p,h1,rfl⟩:=Fz h;exact(hT p h1).2
 have free:∀{b:Addr} {o:Obj},bR.heap.get? b=some o->o≠ach #[]->(b=a->K.lookup a≠none)->H0 K a { cls:=.type "list",data:=.seq vs.toArray } (ns.map V.int) b=none:=fun{b o} e n1 n2=>by
  unfold H0;rw[if_neg (fun h=>n1 (abq (e.symm.trans (tabOf h)))),if_neg (fun h=>n2 h.1 h.2)]
 have A0:∀{b:Addr} {o:Obj},bR.heap.get? b=some o->o.cls≠.none->o.cls≠.type "list"->H0 K a { cls:=.type "list",data:=.seq vs.toArray } (ns.map V.int) b=none:=fun{b o} e n1 n2=>free e (fun z=>n1 (by rw[z])) fun z=>by
  subst z;rw[ha] at e;cases e;exact absurd rfl n2
 have A1:∀{b:Addr} {o:Obj} {es:Array afb} {ep:Nat},bR.heap.get? b=some o->o.data=.dict es ep->H0 K a { cls:=.type "list",data:=.seq vs.toArray } (ns.map V.int) b=none:=fun{b o es ep} e d=>free e (fun z=>by rw[z] at d;cases d) fun z=>by
  subst z;rw[ha] at e;cases e;have d':Data.seq vs.toArray _=Data.dict es ep:=d;cases d'
 have na:mI K a=false:=by
  cases q:mI K a with
  | false=>rfl
  | true=>have:=tabOf q;rw[ha] at this;cases this
 revert free A0 A1
 generalize eH:H0 K a { cls:=.type "list",data:=.seq vs.toArray } (ns.map V.int)=H;intro free A0 A1;have GF:∀b u,H b=some u->(mI K b=true/\u=.ff #[])\/(b=a/\u=.aL { cls:=.type "list",data:=.seq vs.toArray } (.lst (ns.map V.int))):=fun b u e=>by
  rw[<- eH] at e;unfold H0 at e;split at e
  ·rename_i h;cases e;exact .inl ⟨h,rfl⟩
  ·split at e
   ·rename_i h;cases e;exact .inr ⟨h.1,rfl⟩
   ·cases e
 have aH:cQ Pg w H bR.heap:=fun b u e=>by
  rcases GF b u e with⟨h,rfl⟩ | ⟨rfl,rfl⟩
  ·exact tabOf h
  ·exact⟨ha,by rw[aan];exact fS,vs,_,rv,ha⟩
 have tb:∀p∈fL K,i9 H p.1 p.2.2:=fun p hp=>⟨#[],by rw[<- eH];exact if_pos (N7 hp),trivial,fun pos v e=>nomatch e⟩
 have hS:wZ K H a (ns.map V.int):=by
  cases q:K.lookup a with
  | some o=>
   have e:=KX a o q;rw[ha] at e;cases e;exact .inr ⟨_,vs.toArray,_,q,rfl,rfl,rfl,by rw[aaB,W2];exact fS,by simpa using rv⟩
  | none=>exact .inl ⟨_,by rw[<- eH];unfold H0;rw[if_neg (by rw[na];simp),if_pos ⟨rfl,q⟩]⟩
 have pw:∀{b:Addr} {o:Obj},bR.heap.get? b=some o->H b=none->(km bR.heap H).get? b=some o:=fun e n=>OP e n
 have xX:∀{b:Addr} {m:Str->Option Value},bR.heap.Ns b m->(km bR.heap H).Ns b m:=fun{b m} ⟨o,es,ep,e,d,r⟩=>⟨o,es,ep,pw e (A1 e d),d,r⟩
 have IY:K.In (km bR.heap H):=fun b o e=>pw (KX b o e) (free (KX b o e) (fun z=>by
  have h2:=abJ.mp hK (b,o) (PySem.W.mem_of_lookupK e);subst z;exact absurd (show false=true from h2) abe) fun z q=>by rw[<- z,e] at q;cases q)
 have hM:Mod K mg (km bR.heap H):=⟨IY,xX cD,⟨mb,xX hb,xS⟩,let ⟨mc,h1,h2⟩:=W0;⟨mc,xX h1,h2⟩,
  let ⟨bm,ob,b1,b2,b3,b4,b5⟩:=sP;⟨bm,ob,b1,b2,pw b3 (A0 b3 (by rw[b4];exact fun z=>nomatch z) (by rw[b4];exact fun z=>absurd (Value.type.inj z) (by decide))),b4,b5⟩⟩
 have e0:wW Pg w K mg (km bR.heap H) callerA [] bR H:=⟨rfl,hM,fun b o e=>Qe e,Nat.le_of_eq (NK _ _),trivial,fun b hb=>absurd (show b∈([]:List Addr) from hb) (by simp),aH,.of_eq hg⟩
 obtain⟨ph',eg⟩:=good;refine adK ((F _ IY (xX cD)).run callerA [] bR H ⟨[.ref a],[]⟩ [.ref a] [.ref a] (fun v _=>v=.bl true) (fun _ _ _=>False) hr e0 (VZ bR (.ref a)) (.cons rfl .nil)
  ⟨rfl,fun _=>0,[],[.fl (ns.map W.int)],⟨fun i o e=>by simp at e,fun i j hi=>absurd hi (by simp),tb⟩,.cons (.fl hS (FW ns)) .nil,?_⟩) fun r s' h=>?_
 ·rw[eg];intro ap H' v _ _ r;cases r;rfl
 ·cases r with
  | error e=>obtain⟨_,_,_,_,z⟩:=h;exact z.elim
  | ok fl=>
   cases fl with
   | next=>exact adp h
   | brk=>exact adp h
   | cont=>exact adp h
   | ret u=>
    obtain⟨v,H',os,bare,un,HI,r',q⟩:=h;have q':v=.bl true:=q;subst q';obtain rfl:u=Value.bool true:=r';refine⟨rfl,⟨fun b o e=>?_,fun b o e=>un.there b o e (by simp)⟩,os,bare⟩;cases q:H b with
    | none=>exact .inl (un.keep b o e q (fun z=>absurd (show b∈([]:List Addr) from z) (by simp)) (by simp))
    | some u=>
     rcases GF b u q with⟨h1,rfl⟩ | ⟨rfl,rfl⟩
     ·obtain⟨more,z⟩:=un.gc b _ q;have e2:s'.heap.get? b=some (ach (#[]++more)):=HI b _ z;obtain⟨p,hp,rfl⟩:=Fz h1;have e3:=(hT p hp).2;rw[e] at e3;cases e3;exact .inr (.inl ⟨((hT p hp).1.tab (hT p hp).2).isCodeTable,rfl,#[],more,rfl,e2⟩)
     ·obtain⟨e2,_⟩:=HI _ _ (un.fb _ _ _ q);rw[ha] at e;cases e;exact .inl e2
end
noncomputable def Uk(K:aao)(ts:List Addr):Bool:=(fL K).all fun p=>ts.contains p.2.2&&(match K.lookup p.2.1 with
 | some o=>kX o==some p.2.2
 | none=>false)&& !(p.2.1==p.2.2)
theorem Ra{ts:List Addr}(hT:Uk K ts=true)(KX:K.In h)(hP:∀P∈ts,h.get? P=some (ach #[]))(p:Str×Addr×Addr)(hp:p∈fL K):adl h p.2.1 p.2.2/\h.get? p.2.2=some (ach #[]):=by
 have z:=abJ.mp hT p hp;rw[aaG,aaG] at z;obtain⟨⟨z1,z2⟩,z3⟩:=z;refine⟨?_,hP _ (List.contains_iff_mem.mp z1)⟩;cases e:K.lookup p.2.1 with
 | none=>rw[e] at z2;cases z2
 | some o=>
  rw[e] at z2;exact E0 (KX _ _ e) (eq_of_beq z2) fun q=>by rw[q] at z3;simp at z3
theorem Rb{l:afk}{q:abw}{loose:List Str}{XP:(Str->Option Value)->Heap->Prop}{YP:World->Heap->Prop}{d:DefRec}{K:Params->aao}{x:Str}{fm:List W->Mo W}(k:Nat)
  (good:∀ns:List Int,ns.length<=63->∃ph',fm [.fl (ns.map W.int)] []=.ok (.bl true) ph') (hn:l.most=some 63) (sI:d.params.defaults=[]) (hr:du k callerA) (hY:∀(w:World) (h:Heap),YP w h->(K w.params).In h)
  (hK:∀w:World,afE (K w.params)=true) (hT:∀(w:World) (h:Heap),YP w h->∀p∈fL (K w.params),adl h p.2.1 p.2.2/\h.get? p.2.2=some (ach #[]))
  (F:∀(w:World) (mg:Str->Option Value) (fa:Addr) (h:Heap),(K w.params).In h->h.Ns aaL mg->mg d.name=some (.ref fa) →
   ∃fd:aaV,(∀(s:aaw) (u:Value),BindsTo s fd ⟨[u],[]⟩ [(x,u)])/\∀base:Heap,(K w.params).In base->base.Ns aaL mg->bM l.prog w (K w.params) mg base (bG l.prog w) k fa fd [x] (bT (K w.params) mg 1 fm)) :
  PySem.W.WalkO q loose XP YP l.row.toRowW d [] (fun f vs=>PySem.call f vs):=by
 refine Iy.M5 hn sI fun w aE bR mg mb fa o pm cd doc a vs ns G Y ho hd hcd hmg BY AV bP hg=>?_
 have KX:=hY w _ Y;obtain⟨fd,hb,hF⟩:=F w mg fa _ KX G.T.g hmg;exact Pa KX G.T.g G.T.b G.T.builtins G.T.nolimit G.T.bmain hg (hT w _ Y) (hK w) BY AV bP hr hF hb (good ns bP)
noncomputable def xY:W->Option Bool
 | .bl b=>some b
 | _=>none
noncomputable def r8(w:W)(ph:PH):Option (List Bool):=if bU w ph=true then(cC w ph).bind (bH xY) else none
noncomputable def oO:List W->Po W:=fun xs ph=>match xs with
 | [w]=>(r8 w ph).map fun bs=>(.bl (bs.any id),ph)
 | _=>none
section
variable{X:Cx}
theorem Rc(bs:List Bool):((aaK bs.length).any fun i=>(bs[i]?).getD false)=bs.any id:=by
 rw[aco,abK,abK];constructor
 ·rintro⟨i,hi,e⟩;have hi:=abG.mp hi;simp only[aaZ hi,adR] at e;exact⟨_,acu hi,e⟩
 ·rintro⟨b,hb,e⟩;obtain⟨i,hi,q⟩:=List.getElem_of_mem hb;exact⟨i,abG.mpr hi,by simp only[aaZ hi,adR,q];exact e⟩
theorem Pb{h h':Heap}{o:Obj}(hk:∀b x,b∉[h.objs.size]->(h.push o).get? b=some x->h'.get? b=some x):∀b x,h.get? b=some x->h'.get? b=some x:=
 fun b x e=>hk b x (fun hm=>by rw[aav.mp hm] at e;exact abP _ (aax e)) (aas _ e)
theorem Nz(hc:X.calm=true):c6 X (.builtin "any") (fun xs H Q=>∃p,∃bs:List Bool,xs=[.ref p]/\bA X.K H p (bs.map V.bl)/\Q (.bl (bs.any id)) H):=by
 intro pins s σ H xs us Q I r h;obtain⟨p,bs,rfl,hq,q⟩:=h;obtain⟨u,rfl,rx⟩:=vals1 r;cases rx;obtain⟨its,r',pl,hz⟩:=I.list hq;have bP:=r'.length;rw[aan] at bP;have dM:p<s.heap.objs.size:=by obtain⟨_,e,_⟩:=pl.isList;exact aax e
 refine call_any_walk (wpAny_pyIter_list pl.isList ?_);refine⟨s.heap.objs.size,[s.heap.objs.size,p],[s.heap.objs.size],its.toArray.size,_,_,fun i=>(bs[i]?).getD false,rfl,Walks.list (A:=X.A.in1) (I.ok.hd hc) _ p (aaW dM) its.toArray,
  ⟨⟨_,aaI _ rfl,rfl,rfl⟩,pl.isList.push _⟩,fun i v s' Q' E' hP hQ=>?_,fun h' tk hk=>?_⟩
 ·have hP:its[i]? =some v:=by simpa using hP
  have hi:i<bs.length:=by rw[bP];exact(aam.mp hP).1
  obtain⟨u,hu,ru⟩:=r'.get (i:=i) (x:=.bl bs[i]) (by simp[hi]);rw[hP] at hu;cases hu;have ru:v=.bool bs[i]:=ru;subst ru;simp only[aaZ hi,adR] at hQ;exact acC hQ
 ·rw[aaB,<- bP,Rc];exact⟨.bl _,H,I.kept (Pb hk),rfl,q⟩
theorem zJ{K:aao}{φ:Nat->Addr}{n:Nat}{H:Hp}:∀{ws:List W} {vs:List V} {bs:List Bool},aM K φ n H ws vs->bH xY ws=some bs->vs=bs.map V.bl
 | _,_,_,.nil,e=>by cases e;rfl
 | w::ws,_,bs,.cons h r,e=>by
  unfold bH at e;split at e
  ·rename_i b IK e1 e2;cases e;have q:=zJ r e2;unfold xY at e1;cases h <;> cases e1
   rw[q];rfl
  ·cases e
theorem Pd{K:aao}{φ:Nat->Addr}{ph:PH}{H:Hp}{w:W}{v:V}{bs:List Bool}(hH:aD K φ ph H)(r:aK K φ ph.length H w v)(e:r8 w ph=some bs):∃p,v=.ref p/\bA K H p (bs.map V.bl):=by
 unfold r8 at e;split at e
 ·rename_i hL;cases r with
  | ref hi=>
   unfold bU at hL;simp only at hL;split at hL
   ·rename_i ws hw;obtain⟨vs,hv,rs⟩:=hH.hp _ _ hw;simp only[cC,hw,aby] at e;rw[zJ rs e] at hv;exact⟨_,rfl,bA.of hv⟩
   ·cases hL
  | fl h rs=>
   simp only[cC,aby] at e;have q:=zJ rs e;subst q;exact⟨_,rfl,h.sq⟩
  | _=>cases hL
 ·cases e
theorem Ul{K:aao}:f6 K (fun xs H Q=>∃p,∃bs:List Bool,xs=[.ref p]/\bA K H p (bs.map V.bl)/\Q (.bl (bs.any id)) H) oO:=by
 intro φ ph H xs vs w ph' Q hH r e k;unfold oO at e;split at e
 ·rename_i x;cases q:r8 x ph with
  | none=>rw[q] at e;cases e
  | some bs=>
   rw[q] at e;cases e;cases r with
   | cons r r'=>
    cases r';obtain⟨p,rfl,hs⟩:=Pd hH r q;exact⟨p,bs,rfl,hs,k φ H _ hH Step.refl (.bl _)⟩
 ·cases e
end
noncomputable def wq(w:W):Po (List W×(PH->Bool)):=fun ph=>match w with
 | .tup ws=>some ((ws,fun _=>true),ph)
 | w=>lu w ph
noncomputable def c8(m:EM):IM:=fun σ=>au (m σ) fun w=>lift (wq w)
variable{m:EM}
theorem V0{σ:L2.St}{R:It->Hp->Prop}(h:tI X (c8 m) σ H R):tI X (xa m) σ H R\/tI X (AY m) σ H R:=by
 obtain⟨φ,ph,ws,hH,hS,h⟩:=h;unfold c8 at h;rw[cS] at h;cases q:m ws ph with
 | no=>rw[q] at h;exact h.elim
 | ex x ph'=>
  refine .inl ⟨φ,ph,ws,hH,hS,?_⟩;unfold xa;rw[cS,q];rw[q] at h;exact h
 | ok w ph'=>
  rw[q] at h;have h:(lift (wq w) ph').Run _ _:=h;by_cases hw:∃us,w=.tup us
  ·obtain⟨us,rfl⟩:=hw;refine .inr ⟨φ,ph,ws,hH,hS,?_⟩;unfold AY;rw[cS,q];exact h
  ·refine .inl ⟨φ,ph,ws,hH,hS,?_⟩;unfold xa;rw[cS,q];have e:wq w=lu w:=by
    funext p
    cases w <;> first | rfl | exact absurd ⟨_,rfl⟩ hw
   rw[e] at h;exact h
variable{tg:Expr}
theorem hV{e:Expr}(hl:JE X e m):JI X tg e (c8 m):=⟨by
 intro pins s σ H R I h
 rcases V0 h with h | h
 ·exact QK hl.h pins s σ H R I h
 ·exact Tz hl.h pins s σ H R I h⟩
section
variable{X:Cx}{pins:List (Addr×Obj)}{σ:L2.St}{H:Hp}{s:aaw}{h':Heap}
theorem Rf{t':Nat}{fp:List Addr}{T:Addr}{o:HO}(I:Inv X pins σ H s)(k:∀b u,b∉fp->s.heap.get? b=some u->h'.get? b=some u)(hf:∀b∈fp,iG X pins H b)(hp:s.heap.objs.size<=T)
  (new:dr X.prog X.w (upd H T o) h' T o):Inv X pins σ (upd H T o) { s with heap:=h',toks:=t' }:=by
 have hn:=I.aH.fresh hp;have neT:∀b u,s.heap.get? b=some u->b≠T:=fun b u e=>aaW (aay (aax e) hp)
 have lF:∀b u,H b=some u->b∉fp:=fun b u e z=>by rw[(hf b z).1] at e;cases e
 refine I.step (g':=s.gens) (d':=s.drawn) (ch:=fp) (fun b hb=>?_) (fun b u _ _ hc e _=>k b u hc e) (fun b u _ _ hc e _=>⟨u.slots,k b u hc e⟩) (fun b u _ e n=>by rw[aT (neT b u e)];exact n)
  (fun b u hc e=>⟨u,k b u hc e⟩) (fun b xs e=>by rw[aT (dh e hn)];exact e) (fun b u v e=>by rw[aT (dh e hn)];exact e) (fun b ps e=>⟨#[],by rw[aT (dh e hn),e];simp⟩) (fun m hm=>?_) (fun b u e=>?_) I.bare
 ·obtain⟨_,f1,_,f3,f4,f5⟩:=hf b hb;exact⟨f3,f1,f4,f5⟩
 ·obtain⟨u,es,ep,ho,r⟩:=hm;exact⟨u,es,ep,k _ u (fun z=>(hf _ z).2.1 rfl) ho,r⟩
 ·by_cases hb:b=T
  ·subst hb;rw[cj] at e;cases e;exact new
  ·rw[aT hb] at e;refine(I.aH b u e).gQ (fun c v hc q=>k c v ?_ q) (fun c q=>by rw[aT (dh q hn)];exact q) fun c xs q=>by rw[aT (dh q hn)];exact q
   rcases hc with z | z
   ·rw[z];exact lF b u e
   ·exact lF c _ z
theorem Rg{t':Nat}{fp:List Addr}(I:Inv X pins σ H s)(k:∀b u,b∉fp->s.heap.get? b=some u->h'.get? b=some u)(hf:∀b∈fp,iG X pins H b):Inv X pins σ H { s with heap:=h',toks:=t' }:=by
 have lF:∀b u,H b=some u->b∉fp:=fun b u e z=>by rw[(hf b z).1] at e;cases e
 refine I.step (g':=s.gens) (d':=s.drawn) (ch:=fp) (fun b hb=>?_) (fun b u _ _ hc e _=>k b u hc e) (fun b u _ _ hc e _=>⟨u.slots,k b u hc e⟩) (fun b u _ e n=>n)
  (fun b u hc e=>⟨u,k b u hc e⟩) (fun b xs e=>e) (fun b u v e=>e) (fun b ps e=>⟨#[],by rw[e];simp⟩) (fun m hm=>?_) (fun b u e=>?_) I.bare
 ·obtain⟨_,f1,_,f3,f4,f5⟩:=hf b hb;exact⟨f3,f1,f4,f5⟩
 ·obtain⟨u,es,ep,ho,r⟩:=hm;exact⟨u,es,ep,k _ u (fun z=>(hf _ z).2.1 rfl) ho,r⟩
 ·refine(I.aH b u e).gQ (fun c v hc q=>k c v ?_ q) (fun _ q=>q) fun _ _ q=>q
  rcases hc with z | z
  ·rw[z];exact lF b u e
  ·exact lF c _ z
end
noncomputable def IZ(K:aao)(a:Addr):It:=
 ⟨fun i H=>∃xs x,bA K H a xs/\xs[i]? =some x,fun i H x H'=>∃T y,x=.ref T/\H T=none/\H'=upd H T (.tup [.int i,y])/\∀xs,bA K H a xs->xs[i]? =some y,fun i H=>∃xs,bA K H a xs/\xs.length<=i⟩
variable{j:Nat}
theorem N8{w:World}{mS:List Expr}(a e it:Addr)(Do:e≠it):Turn P w K (.Tuple mS j pos) (IZ K a) [e,it] e (fun i h=>(∃old,IsEnum h e it (i:Int) old)/\h.IsListIter it a i) where
 mem:=by simp
 obj:=fun i h st b hb=>by
  obtain⟨⟨old,he⟩,o,e1,c,d⟩:=st
  rcases aaO.mp hb with rfl | hb
  ·exact⟨_,he,fun v z=>by cases z⟩
  ·have:b=it:=by simpa using hb
   subst this;exact⟨o,e1,fun v z=>by rw[d] at z;cases z⟩
 keep:=fun i h h' st k=>⟨let ⟨old,he⟩:=st.1;⟨old,k e (by simp) _ he⟩,st.2.at fun o q=>k it (by simp) o q⟩
 item:=by
  intro X hP hw hK hc i pins s σ H E I hf st hg;subst hP hw hK;obtain⟨⟨old,he⟩,hit⟩:=st;obtain⟨xs,x,hq,hx⟩:=hg;obtain⟨its,rv,p,hz⟩:=I.list hq;obtain⟨u,hu,ru⟩:=rv.get hx;refine wpAny_pyNext_enum_item he hit p.isList (x:=u) (by simpa using hu) Do fun h1 ho xk hT hsz hk=>⟨_,rfl,?_⟩
  refine wpAny_letOwnedTupleGo_enum ho fun h2 Yn iP=>?_
  have kk:∀b o,b∉[e,it]->s.heap.get? b=some o->h2.get? b=some o:=fun b o hb q=>by
   have jn:b≠e:=fun z=>hb (by simp[z])
   have lQ:b≠it:=fun z=>hb (by simp[z])
   exact(iP.2 b jn).trans (hk b o jn lQ q)
  have lK:s.heap.objs.size≠e:=abU (aax he);have new:dr X.prog X.w (upd H s.heap.objs.size (.tup [.int i,x])) h2 s.heap.objs.size (.tup [.int i,x]):=
   ⟨by show 2<=aaH;decide,[.int i s.toks,u],.cons ⟨_,rfl⟩ (.cons ru .nil),_,(iP.2 _ lK).trans hT,rfl,_,rfl⟩
  refine⟨.ref s.heap.objs.size,_,Rf (s:=s) (h':=h2) (t':=s.toks+1) I kk hf (aat _) new,rfl,⟨_,x,rfl,I.aH.fresh (aat _),rfl,fun ys hy=>by rw[I.Fj hy hq];exact hx⟩,⟨⟨_,by simpa using Yn⟩,xk.at fun o q=>(iP.2 it Do.symm).trans q⟩,fun b hb=>?_⟩;rw[aT (fun z=>?_)]
  ·exact(hf b hb).1
  ·subst z
   rcases aaO.mp hb with z | z
   ·exact lK z
   ·have z:s.heap.objs.size=it:=by simpa using z
    obtain⟨o,e1,_⟩:=hit;exact abU (aax e1) z
 done:=by
  intro X hP hw hK hc i pins s σ H E I hf st hg;subst hP hw hK;obtain⟨⟨old,he⟩,hit⟩:=st;obtain⟨xs,hq,hx⟩:=hg;obtain⟨its,rv,p,hz⟩:=I.list hq;have hl:=rv.length;exact wpAny_pyNext_enum_end (I.ok.hd hc) he hit p.isList (by simp;omega) fun h1 eb=>⟨rfl,Rg (t':=s.toks) I (fun b o hb q=>eb b o (fun z=>hb (by simp[z])) q) hf⟩
 self:=fun _ _ _ _ _ st h=>let ⟨_,he⟩:=st.1;wpAny_pyIter_enum he h
noncomputable def W3(K:aao)(ta:TA):TI:=fun σ H R=>ta σ H fun vs H1=>∃a,vs=[.ref a]/\(∃xs,bA K H1 a xs)/\R (IZ K a) H1
variable{tp p:Pos}
theorem Rh{ta:TA}{mS:List Expr}(hg:Gl X "enumerate")(hm:X.mg "enumerate"=none)(ha:PA X [a] ta)(hs:aaP [a] X.env=[(false,eval a X.env)]:=by rfl) :
  PI X (.Tuple mS j tp) (.Call (.Name "enumerate" p) [a] [] pos) (W3 X.K ta):=by
 intro pins s σ H R I h;refine Call_ (jz I hg hm PyProof.Rows.boot_enumerate (abm (bb (ha pos pins s σ H _ I h) fun us s1 ⟨vs,H1,I1,r1,q1⟩=>?_) hs rfl));obtain⟨a,e,⟨xs,hq⟩,q⟩:=q1;subst e;cases r1 with
 | cons r rr=>
  cases rr;cases r;obtain⟨its,rv,pl,hz⟩:=I1.list hq;refine call_enumerate_list pl.isList fun h' he hit hsz hk=>?_
  refine wpAny_pyIter_enum he ?_;have I2:Inv X pins σ H1 { s1 with heap:=h' }:=I1.kept (t':=s1.toks) hk;refine⟨s1.heap.objs.size+1,[s1.heap.objs.size+1,s1.heap.objs.size],_,_,H1,rfl,I2,N8 a _ _ (Nat.succ_ne_self _),⟨⟨_,by simpa using he⟩,hit⟩,fun b hb=>?_,q⟩;have hb:s1.heap.objs.size<=b:=by
   rcases aaO.mp hb with rfl | hb
   ·exact acB _
   ·have:b=s1.heap.objs.size:=by simpa using hb
    exact Nat.le_of_eq this.symm
  exact I1.rW hb (I1.aH.fresh hb)
noncomputable def i6(ws:List W):List W:=(aaK ws.length).map fun(i:Nat)=>.tup [.int ((i:Nat):Int),ws.getD i .aJ]
noncomputable def A2(xs:List W):Po (List W×(PH->Bool)):=fun ph=>match xs with
 | [w]=>(lu w ph).map fun r=>((i6 r.1.1,r.1.2),r.2)
 | _=>none
noncomputable def rO(m:AM):IM:=fun σ=>au (m σ) fun xs=>lift (A2 xs)
theorem E1{w:W}(h:(i6 ws)[i]? =some w):∃x,ws[i]? =some x/\w=.tup [.int i,x]:=by
 unfold i6 at h;rw[aau] at h;cases q:(aaK ws.length)[i]? with
 | none=>rw[q] at h;cases h
 | some k=>
  rw[q] at h;obtain⟨hi,e⟩:=aam.mp q;rw[aev] at e;subst e;rw[abN] at hi;cases h;exact⟨ws[i],by simp[hi],by simp[hi]⟩
theorem EG(h:(i6 ws)[i]? =none):ws.length<=i:=by
 unfold i6 at h
 simpa using h
theorem Ri{am:AM}{mS:List Expr}(hg:Gl X "enumerate")(hm:X.mg "enumerate"=none)(ha:IA X [a] am)(hs:aaP [a] X.env=[(false,eval a X.env)]:=by rfl) :
  II X (.Tuple mS j tp) (.Call (.Name "enumerate" p) [a] [] pos) (rO am):=by
 refine PI.imp (Rh hg hm ha hs) fun σ H R h=>?_
 obtain⟨φ,ph,ws,hH,hS,h⟩:=h;refine tA.bind hH hS h fun xs ph1 aq H1 vs ay s1 r1 h=>?_
 obtain⟨r,ph',e,k⟩:=run_lift h;unfold A2 at e;split at e
 ·rename_i w;cases r1 with
  | cons r1 rr=>
   cases rr;unfold lu at e;cases r1 with
   | ref hi=>
    rename_i i;simp only at e;cases q:ph1[i]? with
    | none=>rw[q] at e;cases e
    | some o=>
     cases o with
     | aG _=>rw[q] at e;cases e
     | obj _ _=>rw[q] at e;cases e
     | cF _=>rw[q] at e;cases e
     | pd _=>rw[q] at e;cases e
     | lst items=>
      rw[q] at e;simp only[abh] at e;cases e;obtain⟨vs,hv,r⟩:=ay.hp _ _ q;refine⟨_,rfl,⟨vs,bA.of hv⟩,k aq H1 _ ay s1 ?_⟩;intro a8 aI H2 bj s2 hc j;have fO:aI[i]? =some (.lst items):=of_decide_eq_true hc;obtain⟨us,hu,ru⟩:=bj.hp _ _ fO;rw[s2.eq i hi] at hu;refine⟨fun w gF=>?_,fun hn=>?_⟩
      ·obtain⟨x,hx,rfl⟩:=E1 gF;obtain⟨u,eu,kF⟩:=ru.get hx;refine⟨⟨us,u,bA.of hu,eu⟩,fun y gE hy=>?_⟩;obtain⟨T,z,rfl,hT,rfl,hy⟩:=hy;have:=hy us (bA.of hu);rw[eu] at this;cases this;exact⟨bj.tup hT,gJ hT,.tup cj (.cons (.int _) (.cons (kF.mono (gJ hT)) .nil))⟩
      ·refine⟨us,bA.of hu,?_⟩;rw[<- ru.length];exact EG hn
   | fl hq r=>
    simp only[abh] at e;cases e;refine⟨_,rfl,⟨_,hq.sq⟩,k aq H1 _ ay s1 ?_⟩;intro a8 aI H2 bj s2 hc j;have h2:=aK.mono s2 (.fl hq r);cases h2 with
    | fl h2 r2=>
     refine⟨fun w gF=>?_,fun hn=>?_⟩
     ·obtain⟨x,hx,rfl⟩:=E1 gF;obtain⟨u,eu,kF⟩:=r2.get hx;refine⟨⟨_,u,h2.sq,eu⟩,fun y gE hy=>?_⟩;obtain⟨T,z,rfl,hT,rfl,hy⟩:=hy;have:=hy _ h2.sq;rw[eu] at this;cases this;exact⟨bj.tup hT,gJ hT,.tup cj (.cons (.int _) (.cons (kF.mono (gJ hT)) .nil))⟩
     ·refine⟨_,h2.sq,?_⟩;rw[<- r2.length];exact EG hn
   | _=>cases e
 ·cases e
theorem Rj{am:AM}{mS:List Expr}(hg:Gl X "enumerate")(hm:X.mg "enumerate"=none)(hn:isStar a=false)(ha:JA X [a] am) :
  JI X (.Tuple mS j tp) (.Call (.Name "enumerate" p) [a] [] pos) (rO am):=⟨Ri hg hm ha.h (dR hn)⟩
theorem nK{e:Expr}{gens:List Comprehension}{scope:Scope}{pos':Pos}{x:Str}{line:Nat}(hk:env.scope.kind=.function)(hx:env.scope.names.lookup x=some .local)(hl:(pos'.line==p.line)=true)
  (hn:(scope.names.any fun y=>y.1==x&&(y.2==.local||y.2==.cell))=false):adj (.ListComp e gens scope p) (some (.Name x pos')) line env=pure true:=by
 have e1:(env.kindOf x==some .local)=true:=by unfold Env.kindOf;rw[hx];rfl
 have e2:(env.blockKind==.function)=true:=by unfold Env.blockKind;rw[hk];rfl
 show pure (env.blockKind==.function&&env.kindOf x==some .local&&pos'.line==p.line&& !(scope.names.any fun y=>y.1==x&&(y.2==.local||y.2==.cell)))=_;rw[e1,e2,hl,hn];rfl
noncomputable def newD:Po W:=fun ph=>some (.ref ph.length,ph++[.aG []])
noncomputable def ly:EM:=fun _=>lift newD
theorem Pe{p:Addr}(hH:aD K φ ph H)(hp:H p=none) :
  aD K (ext φ ph.length p) (ph++[.aG []]) (upd H p (.dK []))/\Step K φ ph.length H (ext φ ph.length p) (ph++[PO.aG []]).length (upd H p (.dK []))/\aK K (ext φ ph.length p) (ph++[PO.aG []]).length (upd H p (.dK [])) (.ref ph.length) (.ref p):=by
 have hl:(ph++[PO.aG []]).length=ph.length+1:=by simp
 rw[hl];have s:=zb (K:=K) (φ:=φ) (n:=ph.length) (o:=HO.dK []) hp;refine⟨hH.new hp (.inl ⟨[],cj,.nil⟩),s,?_⟩;have q:aK K (ext φ ph.length p) (ph.length+1) (upd H p (.dK [])) (.ref ph.length) (.ref (ext φ ph.length p ph.length)):=.ref (acs _);rw[mw] at q;exact q
theorem qZ:JE X (.Dict [] [] pos) ly:=⟨PE.imp OZ fun σ H Q h p hp=>by
 obtain⟨φ,ph,ws,hH,hS,h⟩:=h;obtain⟨w,ph',e,k⟩:=run_lift h;cases e;obtain⟨q1,q2,q3⟩:=Pe hH hp;exact k _ _ _ q1 q2 q3⟩
theorem vt{a b:Key}(h:bW a=bW b):a=b:=by
 cases a <;> cases b <;> simp_all [bW]
theorem ve:∀{a b:List Key},a.map bW=b.map bW->a=b
 | [],[],_=>rfl
 | [],_::_,e=>by simp at e
 | _::_,[],e=>by simp at e
 | x::xs,y::ys,e=>by
  rw[aaX,aaX] at e;injection e with e1 e2
  rw[vt e1,ve e2]
noncomputable def mT:W->Option Key
 | .int i=>some (.inl i)
 | .str x=>some (.inr x)
 | _=>none
noncomputable def r9:W->Option (List Key)
 | .tup ws=>bH mT ws
 | _=>none
variable{k:Key}
theorem vJ{w:W}(h:mT w=some k):w=bW k:=by
 cases w <;> simp only[mT] at h <;> first | (cases h;done) | (cases h;rfl)
theorem FA:∀{ws:List W} {ks:List Key},bH mT ws=some ks->ws=ks.map bW
 | [],ks,h=>by cases h;rfl
 | w::ws,ks,h=>by
  unfold bH at h;split at h
  ·rename_i b bs e1 e2;cases h;rw[vJ e1,FA e2];rfl
  ·cases h
theorem zK{w:W}{ks:List Key}(h:r9 w=some ks):w=.tup (ks.map bW):=by
 cases w <;> simp only[r9] at h <;> first | (cases h;done) | rw[FA h]
theorem wu(r:aK K φ n H (bW k) v):v=kV k:=by
 cases k with
 | inl i=>cases r;rfl
 | inr x=>cases r;rfl
theorem GG{K:aao}{φ:Nat->Addr}{n:Nat}{H:Hp}:∀{ks:List Key} {vs:List V},aM K φ n H (ks.map bW) vs->vs=ks.map kV
 | [],_,r=>by cases r;rfl
 | k::ks,_,r=>by
  cases r with
  | cons h r=>rw[wu h,GG r];rfl
theorem Ad{ks:List Key}(r:aK K φ n H (.tup (ks.map bW)) v):∃b,v=.ref b/\H b=some (.tup (ks.map kV)):=by
 cases r with
 | tup h r=>rw[GG r] at h;exact⟨_,rfl,h⟩
noncomputable def dg(kws:List (W×W))(k:W):Option W:=(kws.find? fun p=>decide (p.1=k)).map (·.2)
noncomputable def f7(kws:List (W×W))(k w:W):List (W×W):=if(kws.any fun p=>decide (p.1=k))=true then kws.map (fun p=>if p.1=k then(p.1,w) else p) else kws++[(k,w)]
noncomputable def oP(K:aao)(φ:Nat->Addr)(n:Nat)(H:Hp):Option W->Option V->Prop
 | none,none=>True
 | some w,some v=>aK K φ n H w v
 | _,_=>False
section
variable{K:aao}{φ:Nat->Addr}{n:Nat}{H:Hp}
theorem Um{a b:Key}:decide (bW a=bW b)=decide (a=b):=by
 rw[decide_eq_decide];exact⟨vt,fun e=>by rw[e]⟩
theorem Rk{a b:List Key}:decide (W.tup (a.map bW)=W.tup (b.map bW))=decide (a=b):=by
 rw[decide_eq_decide];exact⟨fun e=>ve (W.tup.inj e),fun e=>by rw[e]⟩
theorem bX.val(k:Key):∀{kws:List (W×W)} {kvs:List (Key×V)},bX K φ n H kws kvs->oP K φ n H (dg kws (bW k)) (iH kvs k)
 | _,_,.nil=>trivial
 | _,_,.cons (k:=j) (w:=w) (v:=v) h r=>by
  unfold dg;rw[abR];by_cases e:j=k
  ·rw[decide_eq_true (congrArg bW e),qG (p:=(j,v)) e];exact h
  ·rw[decide_eq_false (fun z=>e (vt z)),qH (p:=(j,v)) e];exact bX.val k r
theorem ce.val(k:List Key):∀{kws:List (W×W)} {kvs:List (List Key×V)},ce K φ n H kws kvs->oP K φ n H (dg kws (.tup (k.map bW))) (iH kvs k)
 | _,_,.nil=>trivial
 | _,_,.cons (k:=j) (w:=w) (v:=v) h r=>by
  unfold dg;rw[abR];by_cases e:j=k
  ·rw[decide_eq_true (by rw[e]),qG (p:=(j,v)) e];exact h
  ·rw[decide_eq_false (fun z=>e (ve (W.tup.inj z))),qH (p:=(j,v)) e];exact ce.val k r
theorem bX.len:∀{kws:List (W×W)} {kvs:List (Key×V)},bX K φ n H kws kvs->kws.length=kvs.length
 | _,_,.nil=>rfl
 | _,_,.cons _ r=>by rw[abb,abb,bX.len r]
theorem ce.len:∀{kws:List (W×W)} {kvs:List (List Key×V)},ce K φ n H kws kvs->kws.length=kvs.length
 | _,_,.nil=>rfl
 | _,_,.cons _ r=>by rw[abb,abb,ce.len r]
theorem bX.any(k:Key):∀{kws:List (W×W)} {kvs:List (Key×V)},bX K φ n H kws kvs->(kws.any fun p=>decide (p.1=bW k))=kvs.any fun p=>decide (p.1=k)
 | _,_,.nil=>rfl
 | _,_,.cons (k:=j) _ r=>by
  rw[aca,aca,bX.any k r];show(decide (bW j=bW k)||_)=(decide (j=k)||_);rw[Um]
theorem ce.any(k:List Key):∀{kws:List (W×W)} {kvs:List (List Key×V)},ce K φ n H kws kvs->(kws.any fun p=>decide (p.1=.tup (k.map bW)))=kvs.any fun p=>decide (p.1=k)
 | _,_,.nil=>rfl
 | _,_,.cons (k:=j) _ r=>by
  rw[aca,aca,ce.any k r];show(decide (W.tup (j.map bW)=W.tup (k.map bW))||_)=(decide (j=k)||_);rw[Rk]
theorem bX.i8(k:Key){w:W}{v:V}(q:aK K φ n H w v):∀{kws:List (W×W)} {kvs:List (Key×V)},bX K φ n H kws kvs->bX K φ n H (kws.map fun p=>if p.1=bW k then(p.1,w) else p) (kvs.map fun p=>if p.1=k then(p.1,v) else p)
 | _,_,.nil=>.nil
 | _,_,.cons (k:=j) h r=>by
  rw[aaX,aaX];by_cases e:j=k
  ·rw[if_pos (show bW j=bW k by rw[e]),if_pos (show j=k from e)];exact .cons q (bX.i8 k q r)
  ·rw[if_neg (show ¬bW j=bW k from fun z=>e (vt z)),if_neg (show ¬j=k from e)];exact .cons h (bX.i8 k q r)
theorem ce.i8(k:List Key){w:W}{v:V}(q:aK K φ n H w v):∀{kws:List (W×W)} {kvs:List (List Key×V)},ce K φ n H kws kvs->ce K φ n H (kws.map fun p=>if p.1=.tup (k.map bW) then(p.1,w) else p) (kvs.map fun p=>if p.1=k then(p.1,v) else p)
 | _,_,.nil=>.nil
 | _,_,.cons (k:=j) h r=>by
  rw[aaX,aaX];by_cases e:j=k
  ·rw[if_pos (show W.tup (j.map bW)=W.tup (k.map bW) by rw[e]),if_pos (show j=k from e)];exact .cons q (ce.i8 k q r)
  ·rw[if_neg (show ¬W.tup (j.map bW)=W.tup (k.map bW) from fun z=>e (ve (W.tup.inj z))),if_neg (show ¬j=k from e)];exact .cons h (ce.i8 k q r)
theorem bX.snoc(k:Key){w:W}{v:V}(q:aK K φ n H w v):∀{kws:List (W×W)} {kvs:List (Key×V)},bX K φ n H kws kvs->bX K φ n H (kws++[(bW k,w)]) (kvs++[(k,v)])
 | _,_,.nil=>.cons q .nil
 | _,_,.cons h r=>.cons h (bX.snoc k q r)
theorem ce.snoc(k:List Key){w:W}{v:V}(q:aK K φ n H w v):∀{kws:List (W×W)} {kvs:List (List Key×V)},ce K φ n H kws kvs->ce K φ n H (kws++[(.tup (k.map bW),w)]) (kvs++[(k,v)])
 | _,_,.nil=>.cons q .nil
 | _,_,.cons h r=>.cons h (ce.snoc k q r)
theorem bX.put(k:Key){w:W}{v:V}(q:aK K φ n H w v){kws:List (W×W)}{kvs:List (Key×V)}(r:bX K φ n H kws kvs):bX K φ n H (f7 kws (bW k) w) (putK kvs k v):=by
 unfold f7 putK;rw[r.any k];by_cases e:(kvs.any fun kv=>decide (kv.1=k))=true
 ·rw[if_pos e,if_pos e];exact r.i8 k q
 ·rw[if_neg e,if_neg e];exact r.snoc k q
theorem ce.put(k:List Key){w:W}{v:V}(q:aK K φ n H w v){kws:List (W×W)}{kvs:List (List Key×V)}(r:ce K φ n H kws kvs):ce K φ n H (f7 kws (.tup (k.map bW)) w) (putK kvs k v):=by
 unfold f7 putK;rw[r.any k];by_cases e:(kvs.any fun kv=>decide (kv.1=k))=true
 ·rw[if_pos e,if_pos e];exact r.i8 k q
 ·rw[if_neg e,if_neg e];exact r.snoc k q
end
section
variable{X:Cx}{pins:List (Addr×Obj)}{σ:L2.St}{H:Hp}{s:aaw}{a:Addr}
theorem rh(I:Inv X pins σ H s)(e:H a=some (.dK [])):Inv X pins σ (upd H a (.dT [])) s:=by
 obtain⟨z,hd,vs,rel,o,es,ep,h1,h2,h3,h4,h5,h6⟩:=rG I.aH e;cases rel;have he:es.toList=[]:=by
  generalize es.toList=l at h5;cases h5;rfl
 exact I.write (x:=a) (e:=a) (h':=s.heap) (t':=s.toks) (o:=.dT []) (by rw[e];trivial) (.inl rfl) (fun _ _ _ q=>q) ⟨o,h1⟩ ⟨abA _,hd,[],.nil,o,es,ep,h1,h2,h3,by rw[he];rfl,adI⟩
theorem oi(I:Inv X pins σ H s)(e:H a=some (.dT [])):Inv X pins σ (upd H a (.dK [])) s:=by
 obtain⟨z,hd,xs,rel,o,es,ep,h1,h2,h3,h4,h5,h6⟩:=AW I.aH e;cases rel;have he:es= #[]:=by
  have:es.toList=[]:=h4
  simpa using this
 subst he;exact I.write (x:=a) (e:=a) (h':=s.heap) (t':=s.toks) (o:=.dK []) (by rw[e];trivial) (.inl rfl) (fun _ _ _ q=>q) ⟨o,h1⟩ ⟨abA _,hd,[],.nil,o,#[],ep,h1,h2,h3,fun x hx=>by simp at hx,.nil,adI⟩
theorem vv{o u:HO}(e:H a=some o):upd (upd H a u) a o=H:=by
 rw[zB]
 funext b
 unfold upd;split
 ·rename_i q;rw[q,e]
 ·rfl
end
noncomputable def rP(H:Hp)(a:Addr)(y:V)(o:Option V):Prop:=gy H a y o\/(o=none/\((H a=some (.dK [])/\∃(k:List Key) (b:Addr),y=.ref b/\H b=some (.tup (k.map kV)))\/(H a=some (.dT [])/\∃k:Key,y=kV k)))
noncomputable def Ha(H:Hp)(a:Addr)(y v:V)(H':Hp):Prop:=wY H a y v H'\/(H a=some (.dK [])/\∃(k:List Key) (b:Addr),y=.ref b/\H b=some (.tup (k.map kV))/\H'=upd H a (.dT [(k,v)]))\/(H a=some (.dT [])/\∃k:Key,y=kV k/\H'=upd H a (.dK [(k,v)]))
section
variable{X:Cx}
theorem Uo(hu:X.A.units+1<cLine):bJ X (abH .In) (fun y x H Q=>∃a o,x=.ref a/\rP H a y o/\Q (.bl o.isSome) H):=by
 intro pins s σ H y x u v Q I ry rx h;obtain⟨a,o,rfl,g,q⟩:=h;cases rx
 rcases g with g | ⟨rfl,⟨e,k,b,ey,eb⟩ | ⟨e,k,ey⟩⟩
 ·exact BZ hu I g ry fun s3 I3=>⟨.bl o.isSome,H,I3,rfl,q⟩
 ·subst ey;have g:gy (upd H a (.dT [])) a (.ref b) none:=.inr ⟨[],k,b,.inl cj,rfl,by rw[aT (gq eb e (fun z=>nomatch z))];exact eb,rfl⟩;exact BZ hu (rh I e) g ry fun s3 I3=>⟨.bl false,H,by have:=oi I3 cj;rwa [vv e] at this,rfl,q⟩
 ·subst ey;have g:gy (upd H a (.dK [])) a (kV k) none:=.inl ⟨[],k,.inl cj,rfl,rfl⟩;exact BZ hu (oi I e) g ry fun s3 I3=>⟨.bl false,H,by have:=rh I3 cj;rwa [vv e] at this,rfl,q⟩
theorem Rl(hu:X.A.units+1<cLine):bJ X (abH .NotIn) (fun y x H Q=>∃a o,x=.ref a/\rP H a y o/\Q (.bl (!o.isSome)) H):=by
 intro pins s σ H y x u v Q I ry rx h;obtain⟨a,o,rfl,g,q⟩:=h;cases rx
 rcases g with g | ⟨rfl,⟨e,k,b,ey,eb⟩ | ⟨e,k,ey⟩⟩
 ·exact zF hu I g ry fun s3 I3=>⟨.bl (!o.isSome),H,I3,rfl,q⟩
 ·subst ey;have g:gy (upd H a (.dT [])) a (.ref b) none:=.inr ⟨[],k,b,.inl cj,rfl,by rw[aT (gq eb e (fun z=>nomatch z))];exact eb,rfl⟩;exact zF hu (rh I e) g ry fun s3 I3=>⟨.bl true,H,by have:=oi I3 cj;rwa [vv e] at this,rfl,q⟩
 ·subst ey;have g:gy (upd H a (.dK [])) a (kV k) none:=.inl ⟨[],k,.inl cj,rfl,rfl⟩;exact zF hu (oi I e) g ry fun s3 I3=>⟨.bl true,H,by have:=rh I3 cj;rwa [vv e] at this,rfl,q⟩
theorem set_dict(hu:X.A.units+1<cLine):lc X (fun o i v H Q=>∃a H',o=.ref a/\Ha H a i v H'/\Q H'):=by
 intro pins s σ H o i v ov iv u Q I ro ri rv h;obtain⟨a,H',rfl,g,q⟩:=h;cases ro
 rcases g with g | ⟨e,k,b,ey,eb,eH⟩ | ⟨e,k,ey,eH⟩
 ·exact yQ hu I g ri rv fun s3 I3=>⟨H',I3,q⟩
 ·subst ey eH;have g:wY (upd H a (.dT [])) a (.ref b) v (upd (upd H a (.dT [])) a (.dT (putK [] k v))):=.inr ⟨[],k,b,cj,rfl,by rw[aT (gq eb e (fun z=>nomatch z))];exact eb,by decide,rfl⟩;refine yQ hu (rh I e) g ri rv fun s3 I3=>⟨_,?_,q⟩
  rw[zB] at I3;exact I3
 ·subst ey eH;have g:wY (upd H a (.dK [])) a (kV k) v (upd (upd H a (.dK [])) a (.dK (putK [] k v))):=.inl ⟨[],k,cj,rfl,by decide,rfl⟩;refine yQ hu (oi I e) g ri rv fun s3 I3=>⟨_,?_,q⟩
  rw[zB] at I3;exact I3
theorem F4(hu:X.A.units+1<cLine):iQ X (fun x y H Q=>∃a v,x=.ref a/\gy H a y (some v)/\Q v H):=by
 intro value slice pins s σ H x y v u Q I rx ry h hs;obtain⟨a,w,rfl,g,q⟩:=h;cases rx;have hT:=M6 I g;unfold subscriptTail;refine aaq ?_;rw[getitemInPython_of_ne hT.not_modules];refine aaq (afl hT PySem.F.slot_dict_getitem.lookup ?_);have fin:wpAny (model X.prog X.w) X.A (subscripted slice false (.ref a) u) (fun r Ef=>wpAny (model X.prog X.w) X.A (letTemporaryGo value (.ref a) r >>= fun _=>pure r) (EP X pins σ Q) X.xe Ef) X.xe s:=by
  rw[hs];exact wpAny_operating (NV hu I g ry fun w' s3 I3 fR=>aaq (wpAny_letTemporaryGo (aaE ⟨w,H,I3,fR,q⟩)))
 first
  | exact aaE (aaq fin)
  | exact aaq (aaE (aaq fin))
  | exact aaq fin
end
noncomputable def jo:W->Bool
 | .tup _=>true
 | _=>false
noncomputable def d0(kws:List (W×W))(x:W):Bool:=((mT x).isSome&&kws.all fun p=> !jo p.1)||((r9 x).isSome&&kws.all fun p=>jo p.1)
noncomputable def eQ(y:W)(ph:PH):Option (Nat×List (W×W)):=match y with
 | .ref i=>match ph[i]? with
  | some (.aG kws)=>some (i,kws)
  | _=>none
 | _=>none
section
variable{K:aao}{φ:Nat->Addr}{ph:PH}{H:Hp}
variable{kws:List (W×W)}
theorem bX.Dp{kvs:List (Key×V)}{n:Nat}(r:bX K φ n H kws kvs)(h:kws.all (fun p=>jo p.1)=true):kws=[]/\kvs=[]:=by
 cases r with
 | nil=>exact⟨rfl,rfl⟩
 | cons h' r=>
  rename_i k w v kws kvs;rw[acx] at h;have:jo (bW k)=true:=by simp only[aaG] at h;exact h.1
  cases k <;> cases this
theorem ce.xl{kvs:List (List Key×V)}{n:Nat}(r:ce K φ n H kws kvs)(h:kws.all (fun p=> !jo p.1)=true):kws=[]/\kvs=[]:=by
 cases r with
 | nil=>exact⟨rfl,rfl⟩
 | cons h' r=>
  rw[acx] at h;have h:=(aaG _ _▸h).1;cases h
variable{v:V}{i:Nat}
theorem nL{y:W}(hH:aD K φ ph H)(r:aK K φ ph.length H y v)(e:eQ y ph=some (i,kws)):y=.ref i/\i<ph.length/\ph[i]? =some (.aG kws)/\v=.ref (φ i):=by
 unfold eQ at e;cases r with
 | ref hi=>
  simp only at e;split at e
  ·rename_i aah hw;cases e;exact⟨rfl,hi,hw,rfl⟩
  ·cases e
 | _=>cases e
theorem zg{x:W}(hH:aD K φ ph H)(hd:ph[i]? =some (.aG kws))(r:aK K φ ph.length H x v)(hk:d0 kws x=true):∃o,rP H (φ i) v o/\oP K φ ph.length H (dg kws x) o:=by
 unfold d0 at hk;rw[acU,aaG,aaG] at hk
 rcases hk with⟨h1,h2⟩ | ⟨h1,h2⟩
 ·obtain⟨k,hk⟩:=abt.mp h1;have:=vJ hk;subst this;have:=wu r;subst this
  rcases hH.hp _ _ hd with⟨kvs,q,rd⟩ | ⟨kvs,q,rd⟩
  ·exact⟨_,.inl (.inl ⟨kvs,k,.inl q,rfl,rfl⟩),rd.val k⟩
  ·obtain⟨rfl,rfl⟩:=rd.xl h2;exact⟨none,.inr ⟨rfl,.inr ⟨q,k,rfl⟩⟩,trivial⟩
 ·obtain⟨ks,hk⟩:=abt.mp h1;have:=zK hk;subst this;obtain⟨b,rfl,hb⟩:=Ad r
  rcases hH.hp _ _ hd with⟨kvs,q,rd⟩ | ⟨kvs,q,rd⟩
  ·obtain⟨rfl,rfl⟩:=rd.Dp h2;exact⟨none,.inr ⟨rfl,.inl ⟨q,ks,b,rfl,hb⟩⟩,trivial⟩
  ·exact⟨_,.inl (.inr ⟨kvs,ks,b,.inl q,rfl,hb,rfl⟩),rd.val ks⟩
theorem Pf{x w:W}{u:V}(hH:aD K φ ph H)(hi:i<ph.length)(hd:ph[i]? =some (.aG kws))(r:aK K φ ph.length H x v)(rw:aK K φ ph.length H w u)(hk:d0 kws x=true)(hz:kws.length<aaH) :
  ∃H',Ha H (φ i) v u H'/\aD K φ (ph.set i (.aG (f7 kws x w))) H'/\Step K φ ph.length H φ (ph.set i (.aG (f7 kws x w))).length H':=by
 obtain⟨y,ey,my⟩:=hH.mu hd rfl;rw[abg];unfold d0 at hk;rw[acU,aaG,aaG] at hk
 rcases hk with⟨h1,h2⟩ | ⟨h1,h2⟩
 ·obtain⟨k,hk⟩:=abt.mp h1;have:=vJ hk;subst this;have:=wu r;subst this
  rcases hH.hp _ _ hd with⟨kvs,q,rd⟩ | ⟨kvs,q,rd⟩
  ·have s:=mf (K:=K) (φ:=φ) (n:=ph.length) (y:=HO.dK (putK kvs k u)) ey my;exact⟨_,.inl (.inl ⟨kvs,k,q,rfl,by rw[<- rd.len];exact hz,rfl⟩),hH.put hd rfl (.inl ⟨_,cj,(rd.put k rw).mono s⟩),s⟩
  ·obtain⟨rfl,rfl⟩:=rd.xl h2;have s:=mf (K:=K) (φ:=φ) (n:=ph.length) (y:=HO.dK [(k,u)]) ey my;exact⟨_,.inr (.inr ⟨q,k,rfl,rfl⟩),hH.put hd rfl (.inl ⟨_,cj,((bX.nil).put k rw).mono s⟩),s⟩
 ·obtain⟨ks,hk⟩:=abt.mp h1;have:=zK hk;subst this;obtain⟨b,rfl,hb⟩:=Ad r
  rcases hH.hp _ _ hd with⟨kvs,q,rd⟩ | ⟨kvs,q,rd⟩
  ·obtain⟨rfl,rfl⟩:=rd.Dp h2;have s:=mf (K:=K) (φ:=φ) (n:=ph.length) (y:=HO.dT [(ks,u)]) ey my;exact⟨_,.inr (.inl ⟨q,ks,b,rfl,hb,rfl⟩),hH.put hd rfl (.inr ⟨_,cj,((ce.nil).put ks rw).mono s⟩),s⟩
  ·have s:=mf (K:=K) (φ:=φ) (n:=ph.length) (y:=HO.dT (putK kvs ks u)) ey my;exact⟨_,.inl (.inr ⟨kvs,ks,b,q,rfl,hb,by rw[<- rd.len];exact hz,rfl⟩),hH.put hd rfl (.inr ⟨_,cj,(rd.put ks rw).mono s⟩),s⟩
end
noncomputable def dN:W->W->Po W:=fun x y ph=>match eQ y ph with
 | some p=>if d0 p.2 x=true then some (.bl (dg p.2 x).isSome,ph) else none
 | none=>jk x y ph
noncomputable def bY:W->W->Po W:=fun x y ph=>match eQ y ph with
 | some p=>if d0 p.2 x=true then some (.bl (!(dg p.2 x).isSome),ph) else none
 | none=>xf x y ph
noncomputable def ah:W->W->Po W:=fun x y ph=>match eQ x ph with
 | some p=>if d0 p.2 y=true then(dg p.2 y).map fun w=>(w,ph) else none
 | none=>fg x y ph
noncomputable def lz(o i v:W):Po Unit:=fun ph=>match eQ o ph with
 | some p=>if d0 p.2 i=true/\p.2.length<aaH then some ((),ph.set p.1 (.aG (f7 p.2 i v))) else none
 | none=>HH o i v ph
theorem oP.isSome{K:aao}{φ:Nat->Addr}{n:Nat}{H:Hp}{a:Option W}{b:Option V}(h:oP K φ n H a b):a.isSome=b.isSome:=by
 cases a <;> cases b <;> first | rfl | exact h.elim
theorem V1:de K (fun x y H Q=>oN K (fun b=>b) x y H Q\/∃a o,y=.ref a/\rP H a x o/\Q (.bl o.isSome) H) dN:=by
 intro φ ph H x y vx vy w ph' Q hH rx ry e k;unfold dN at e;split at e
 ·rename_i p hp;obtain⟨i,kws⟩:=p;obtain⟨rfl,hi,hd,rfl⟩:=nL hH ry hp;split at e
  ·rename_i hk;cases e;obtain⟨o,g,ro⟩:=zg hH hd rx hk;exact .inr ⟨_,o,rfl,g,by rw[<- ro.isSome];exact k φ H _ hH Step.refl (.bl _)⟩
  ·cases e
 ·exact .inl (VT hH rx ry e k)
theorem Up:de K (fun x y H Q=>oN K (fun b=> !b) x y H Q\/∃a o,y=.ref a/\rP H a x o/\Q (.bl (!o.isSome)) H) bY:=by
 intro φ ph H x y vx vy w ph' Q hH rx ry e k;unfold bY at e;split at e
 ·rename_i p hp;obtain⟨i,kws⟩:=p;obtain⟨rfl,hi,hd,rfl⟩:=nL hH ry hp;split at e
  ·rename_i hk;cases e;obtain⟨o,g,ro⟩:=zg hH hd rx hk;exact .inr ⟨_,o,rfl,g,by rw[<- ro.isSome];exact k φ H _ hH Step.refl (.bl _)⟩
  ·cases e
 ·exact .inl (T4 hH rx ry e k)
theorem V2:de K (fun x y H Q=>xM K x y H Q\/∃a v,x=.ref a/\gy H a y (some v)/\Q v H) ah:=by
 intro φ ph H x y vx vy w ph' Q hH rx ry e k;unfold ah at e;split at e
 ·rename_i p hp;obtain⟨i,kws⟩:=p;obtain⟨rfl,hi,hd,rfl⟩:=nL hH rx hp;split at e
  ·rename_i hk;cases q:dg kws y with
   | none=>rw[q] at e;cases e
   | some u=>
    rw[q] at e;cases e;obtain⟨o,g,ro⟩:=zg hH hd ry hk;rw[q] at ro;cases o with
    | none=>exact ro.elim
    | some v=>
     rcases g with g | ⟨z,_⟩
     ·exact .inr ⟨_,v,rfl,g,k φ H _ hH Step.refl ro⟩
     ·cases z
  ·cases e
 ·exact .inl (VO hH rx ry e k)
section
variable{X:Cx}{a b o i:Expr}{ma mb mo mi:EM}{pos:Pos}{N:List Str}{sc:Scope}{k:Nat}
theorem fU.Uq(B:fU X N sc k)(hp:vG b)(ha:JE X a ma)(hb:JE X b mb):JE X (.Subscript a b pos) (ae ah ma mb):=
 ⟨PE.imp (G2 (iQ.or Gx (F4 (rC B.room))) ha.h hb.h hp) fun _ _ _ h=>qO V2 h⟩
theorem fU.lA(B:fU X N sc k)(h:acv .In b=false):Cp X .In b dN:=⟨⟨_,bJ.or (T3 B.room.units) (Uo (rC B.room)),V1⟩,h⟩
theorem fU.iE(B:fU X N sc k)(h:acv .NotIn b=false):Cp X .NotIn b bY:=⟨⟨_,bJ.or (QU B.room.units) (Rl (rC B.room)),Up⟩,h⟩
theorem lc.or{t t':wU}(h:lc X t)(h':lc X t'):lc X (fun o i v H Q=>t o i v H Q\/t' o i v H Q):=by
 intro pins s σ H o i v ov iv u Q I ro ri rv q
 rcases q with q | q
 ·exact h pins s σ H o i v ov iv u Q I ro ri rv q
 ·exact h' pins s σ H o i v ov iv u Q I ro ri rv q
noncomputable def h9(o i:EM):GM:=fun v σ=>au (o σ) fun ow=>au (i σ) fun iw=>au (lift (lz ow iw v)) fun _=>aA σ
theorem fU.nW(B:fU X N sc k)(ho:JE X o mo)(hi:JE X i mi)(ha:∀v,afB (.Subscript o i pos) X.env v=(do
   let ov <- afG [v] (eval o X.env)
   let iv <- afG [v,ov] (eval i X.env)
   standAt pos
   afG [v,ov,iv] (setItem ov iv v)
   release [v,ov,iv] []):=by intro _;rfl):JG X (.Subscript o i pos) (h9 mo mi):=
 ⟨PG.imp (SD ho.h hi.h (lc.or set_list (set_dict (rC B.room))) ha) fun v σ H Q h=>by
  obtain⟨φ,ph,ws,w,hH,hS,rv,h⟩:=h;refine tM.bind hH hS h fun ow ph1 aq H1 vo ay s1 ro h=>tM.bind ay (hS.mono s1) h fun iw aI a8 H2 vi bj s2 ri h=>?_
  rw[cS] at h;obtain⟨_,g6,e,k⟩:=run_lift h;have Ja:=ro.mono s2;have xZ:=(rv.mono s1).mono s2;unfold lz at e;split at e
  ·rename_i p hp;obtain⟨r,kws⟩:=p;obtain⟨rfl,hr,hd,rfl⟩:=nL bj Ja hp;split at e
   ·rename_i hk;cases e;obtain⟨H',g,q1,q2⟩:=Pf bj hr hd ri xZ hk.1 hk.2;exact .inr ⟨_,H',rfl,g,k a8 _ σ q1 ((s1.trans s2).trans q2) (((hS.mono s1).mono s2).mono q2)⟩
   ·cases e
  ·unfold HH at e;split at e
   ·rename_i r k';split at e
    ·rename_i bQ hw;split at e
     ·rename_i j hj;cases e;cases Ja with
      | ref dM=>
       cases ri;obtain⟨us,hu,ru⟩:=bj.hp _ _ hw;obtain⟨q1,q2⟩:=vp bj hw (ru.set xZ j);exact .inl ⟨_,us,_,j,rfl,rfl,hu,by rw[<- ru.length];exact hj,k a8 _ σ q1 ((s1.trans s2).trans q2) (((hS.mono s1).mono s2).mono q2)⟩
     ·cases e
    ·cases e
   ·cases e⟩
end
noncomputable def oQ:W->Option Int
 | .int i=>some i
 | _=>none
noncomputable def A3(w:W)(ph:PH):Option (List Int):=if bU w ph=true then(cC w ph).bind (bH oQ) else none
noncomputable def rQ(f:Nat->Int):Nat->Int
 | 0=>f 0
 | k+1=>if f (k+1)<rQ f k then f (k+1) else rQ f k
section
variable{X:Cx}
theorem Ph(f:Nat->Int):∀k,f (argBest (fun i j=>decide (f i<f j)) k)=rQ f k
 | 0=>rfl
 | k+1=>by
  have ih:=Ph f k;unfold argBest rQ;rw[ih];by_cases h:f (k+1)<rQ f k
  ·simp[h]
  ·simp[h,ih]
theorem vw{K:aao}{φ:Nat->Addr}{n:Nat}{H:Hp}:∀{ws:List W} {vs:List V} {ns:List Int},aM K φ n H ws vs->bH oQ ws=some ns->vs=ns.map V.int
 | _,_,_,.nil,e=>by cases e;rfl
 | w::ws,_,bs,.cons h r,e=>by
  unfold bH at e;split at e
  ·rename_i b IK e1 e2;cases e;have q:=vw r e2;unfold oQ at e1;cases h <;> cases e1
   rw[q];rfl
  ·cases e
theorem N9{K:aao}{φ:Nat->Addr}{ph:PH}{H:Hp}{w:W}{v:V}{ns:List Int}(hH:aD K φ ph H)(r:aK K φ ph.length H w v)(e:A3 w ph=some ns):∃p,v=.ref p/\bA K H p (ns.map V.int):=by
 unfold A3 at e;split at e
 ·rename_i hL;cases r with
  | ref hi=>
   unfold bU at hL;simp only at hL;split at hL
   ·rename_i ws hw;obtain⟨vs,hv,rs⟩:=hH.hp _ _ hw;simp only[cC,hw,aby] at e;rw[vw rs e] at hv;exact⟨_,rfl,bA.of hv⟩
   ·cases hL
  | fl h rs=>
   simp only[cC,aby] at e;have q:=vw rs e;subst q;exact⟨_,rfl,h.sq⟩
  | _=>cases hL
 ·cases e
end
noncomputable def cI:W->W->Po W:=fun x y ph=>match x,y with
 | .ref i,.int k=>match ph[i]? with
  | some (.lst ws)=>if -(2 ^ 63)<=k/\k<2 ^ 63/\ws.length*k.toNat<=aaH then some (.ref ph.length,ph++[.lst (aaF k.toNat ws).flatten]) else none
  | _=>none
 | x,y=>mN x y ph
theorem aM.rep{K:aao}{φ:Nat->Addr}{n:Nat}{H:Hp}{ws:List W}{vs:List V}(r:aM K φ n H ws vs):∀k:Nat,aM K φ n H (aaF k ws).flatten (aaF k vs).flatten
 | 0=>.nil
 | k+1=>by
  rw[abZ,abZ,acF,acF];exact r.append (aM.rep r k)
theorem Ur:de K (fun x y H Q=>(rI rX fun i j=>.int (i*j)) x y H Q\/HF x y H Q) cI:=by
 intro φ ph H x y vx vy w ph' Q hH rx ry e k;unfold cI at e;split at e
 ·rename_i i j;split at e
  ·rename_i ws hw;split at e
   ·rename_i hz;cases e;cases rx with
    | ref hi=>
     cases ry;obtain⟨us,hu,ru⟩:=hH.hp _ _ hw;refine .inr ⟨_,_,us,rfl,rfl,hu,hz.1,hz.2.1,by rw[<- ru.length];exact hz.2.2,fun p hp=>?_⟩;obtain⟨q1,q2,q3⟩:=i0 hH (ru.rep j.toNat) hp;exact k _ _ _ q1 q2 q3
   ·cases e
  ·cases e
 ·exact .inl (TV hH rx ry e k)
theorem fC{b:Expr}(ha:JE X a ma)(hb:JE X b mb):JE X (.BinOp a .Mult b pos) (ae cI ma mb):=⟨oo (bJ.or SN S8) Ur ha.h hb.h⟩
noncomputable def fE:HO->Prop
 | .dK _=>True
 | .dT _=>True
 | _=>False
noncomputable def NF(X:Cx)(d:Addr):Prop:=∀o u,X.aO d≠some (.aL o u)
variable{u:HO}
theorem F5(h:fE u):jL (some u):=by cases u <;> first | exact trivial | exact h.elim
section
variable{X:Cx}{pins:List (Addr×Obj)}{σ:L2.St}{H:Hp}{s:aaw}{d:Addr}{u:HO}
theorem Rm{P:abw}{w:World}{h:Heap}(hu:fE u)(ok:dr P w H h d u):∃o es ep,h.get? d=some o/\o.cls=.type "dict"/\o.data=.dict es ep/\(d==acd)=false:=by
 cases u with
 | dK kvs=>obtain⟨_,z,vs,_,o,es,ep,h1,h2,h3,_⟩:=ok;exact⟨o,es,ep,h1,h2.1,h3,z⟩
 | dT kvs=>obtain⟨_,z,xs,_,o,es,ep,h1,h2,h3,_⟩:=ok;exact⟨o,es,ep,h1,h2.1,h3,z⟩
 | _=>exact hu.elim
theorem NA(I:Inv X pins σ H s)(e:H d=some u)(hu:fE u):∃o es ep,s.heap.get? d=some o/\o.cls=.type "dict"/\o.data=.dict es ep/\(d==acd)=false/\NF X d/\Inv X pins σ (upd H d (.aL o u)) s:=by
 have hk:=I.aH d u e;obtain⟨o,es,ep,h1,h2,h3,h4⟩:=Rm hu hk;refine⟨o,es,ep,h1,h2,h3,h4,fun o' u' z=>?_,?_⟩
 ·have q:=I.base.fb d o' u' z;rw[e] at q;cases q;exact hu
 ·refine I.write (x:=d) (e:=d) (h':=s.heap) (t':=s.toks) (o:=.aL o u) (by rw[e];exact F5 hu) (.inl rfl) (fun _ _ _ q=>q) ⟨o,h1⟩ ⟨h1,?_⟩;refine hk.gQ (fun _ _ _ q=>q) (fun b q=>?_) fun b xs q=>?_
  ·rw[aT (gq q e (fun z=>by subst z;exact hu))];exact q
  ·rw[aT (gq q e (fun z=>by subst z;exact hu))];exact q
theorem zh{o:Obj}(I:Inv X pins σ H s)(e:H d=some (.aL o u))(hu:fE u)(nf:NF X d):Inv X pins σ (upd H d u) s:=by
 have nn:∀b,H b=none->b≠d:=fun b q z=>by rw[z,e] at q;cases q
 refine⟨I.ok,I.os,I.bare,⟨I.base.keep,I.base.slot,fun b ob q n hx=>?_,I.base.there,fun b xs q=>?_,fun b ob v q=>?_,fun b ps q=>?_⟩,I.loc,I.cell,?_,fun x c q=>?_,fun p hp=>?_,fun a v q=>?_,I.lk⟩
 ·have z:=I.base.free b ob q n hx;rw[aT (nn b z)];exact z
 ·have z:=I.base.gb b xs q;rw[aT (gq z e (fun z=>nomatch z))];exact z
 ·have z:=I.base.fb b ob v q;by_cases hb:b=d
  ·subst hb;exact(nf _ _ q).elim
  ·rw[aT hb];exact z
 ·obtain⟨m,z⟩:=I.base.gc b ps q;exact⟨m,by rw[aT (gq z e (fun z=>nomatch z))];exact z⟩
 ·rw[aT (nn _ I.free)];exact I.free
 ·refine⟨fun z=>?_,(I.gM x c q).2.imp (fun z=>?_) fun⟨ob,z⟩=>⟨ob,?_⟩⟩
  ·have z:=(I.gM x c q).1 z;rw[aT (nn _ z)];exact z
  ·rw[aT (nn _ z)];exact z
  ·rw[aT (fun y=>by rw[y,e] at z;cases z;exact hu)];exact z
 ·obtain⟨q1,q2,q3⟩:=I.pin p hp;exact⟨q1,by rw[aT (nn _ q2)];exact q2,q3⟩
 ·by_cases hb:a=d
  ·subst hb;rw[cj] at q;cases q;exact(I.aH a _ e).2.gQ (fun _ _ _ q=>q) (fun b q=>by rw[aT (gq q e (fun z=>nomatch z))];exact q) fun b xs q=>by rw[aT (gq q e (fun z=>nomatch z))];exact q
  ·rw[aT hb] at q;exact(I.aH a _ q).gQ (fun _ _ _ q=>q) (fun b q=>by rw[aT (gq q e (fun z=>nomatch z))];exact q) fun b xs q=>by rw[aT (gq q e (fun z=>nomatch z))];exact q
end
section
variable{K:aao}{φ:Nat->Addr}{n:Nat}{H:Hp}{d:Addr}{o:Obj}{u:HO}(e:H d=some (.aL o u))(hu:fE u)(hc:o.cls=.type "dict")
include e hu hc
theorem Ae{a:Addr}{o':Obj}{u':HO}(h:H a=some (.aL o' u'))(k:(∀v,fE v->u'≠v)\/∃C,o'.cls=.ref C):a≠d:=fun z=>by
 subst z;rw[e] at h;cases h
 rcases k with k | ⟨C,k⟩
 ·exact k u hu rfl
 ·rw[hc] at k;cases k
theorem lp.cq{x:Obj}{ns:List Str}{vs:List V}(h:lp H x ns vs):lp (upd H d u) x ns vs:=
 h.imp_right fun⟨b,od,e1,e2,e3⟩=>⟨b,od,e1,e2,by rw[aT (Ae e hu hc e3 (.inl fun v hv z=>by subst z;exact hv))];exact e3⟩
omit hc in
theorem zi:∀(a:Addr) (o':Obj),H a=some (.aL o' dz)->upd H d u a=some (.aL o' dz):=fun a o' h=>by
 rw[aT (fun z=>by rw[z,e] at h;cases h;exact hu)];exact h
mutual
theorem aK.cq:∀{w:W} {v:V},aK K φ n H w v->aK K φ n (upd H d u) w v
 | _,_,.aJ=>.aJ
 | _,_,.bl b=>.bl b
 | _,_,.int i=>.int i
 | _,_,.str x=>.str x
 | _,_,.tup h r=>.tup (by rw[aT (gq h e (fun z=>nomatch z))];exact h) (aM.cq r)
 | _,_,.fl h r=>.fl (h.elim (fun⟨o',q⟩=>.inl ⟨o',by rw[aT (Ae e hu hc q (.inl fun v hv z=>by subst z;exact hv))];exact q⟩) .inr) (aM.cq r)
 | _,_,.ref h=>.ref h
 | _,_,.exc h fO hn hk hf r=>.exc (by rw[aT (Ae e hu hc h (.inr ⟨_,fO⟩))];exact h) fO hn hk (lp.cq e hu hc hf) (aM.cq r)
 | _,_,.fn h hl hv r=>.fn (zi e hu _ _ h) (hl.mono (zi e hu)) (hv.mono (zi e hu)) (aM.cq r)
 | _,_,.kt h r=>.kt h (aM.cq r)
theorem aM.cq:∀{ws:List W} {vs:List V},aM K φ n H ws vs->aM K φ n (upd H d u) ws vs
 | _,_,.nil=>.nil
 | _,_,.cons h r=>.cons (aK.cq h) (aM.cq r)
end
theorem bX.cq:∀{ws:List (W×W)} {vs:List (Key×V)},bX K φ n H ws vs->bX K φ n (upd H d u) ws vs
 | _,_,.nil=>.nil
 | _,_,.cons h r=>.cons (h.cq e hu hc) (bX.cq r)
theorem ce.cq:∀{ws:List (W×W)} {vs:List (List Key×V)},ce K φ n H ws vs->ce K φ n (upd H d u) ws vs
 | _,_,.nil=>.nil
 | _,_,.cons h r=>.cons (h.cq e hu hc) (ce.cq r)
theorem iJ.cq:∀{ws:List (Str×W)} {vs:List (Str×V)},iJ K φ n H ws vs->iJ K φ n (upd H d u) ws vs
 | _,_,.nil=>.nil
 | _,_,.cons h r=>.cons (h.cq e hu hc) (iJ.cq r)
theorem iI.cq:∀{ws:List (W×W)} {vs:List (V×V)},iI K φ n H ws vs->iI K φ n (upd H d u) ws vs
 | _,_,.nil=>.nil
 | _,_,.cons hk h r=>.cons (hk.cq e hu hc) (h.cq e hu hc) (iI.cq r)
theorem Ut{p:PO}{a:Addr}(ha:a≠d)(h:jE K φ n H p a):jE K φ n (upd H d u) p a:=by
 have q0:upd H d u a=H a:=aT ha;cases p with
 | lst ws=>obtain⟨vs,q,r⟩:=h;exact⟨vs,q0.trans q,r.cq e hu hc⟩
 | aG kws=>
  rcases h with⟨vs,q,r⟩ | ⟨vs,q,r⟩
  ·exact .inl ⟨vs,q0.trans q,r.cq e hu hc⟩
  ·exact .inr ⟨vs,q0.trans q,r.cq e hu hc⟩
 | obj c fs=>obtain⟨C,dx,vs,q1,q2,r⟩:=h;exact⟨C,dx,vs,q1,q0.trans q2,r.cq e hu hc⟩
 | pd kws=>obtain⟨kvs,q,r,nd⟩:=h;exact⟨kvs,q0.trans q,r.cq e hu hc,nd⟩
 | cF kws=>
  obtain⟨o,fO,⟨vs,q,r⟩ | ⟨vs,q,r⟩⟩:=h
  ·exact⟨o,fO,.inl ⟨vs,q0.trans q,r.cq e hu hc⟩⟩
  ·exact⟨o,fO,.inr ⟨vs,q0.trans q,r.cq e hu hc⟩⟩
end
theorem aD.cq{K:aao}{φ:Nat->Addr}{ph:PH}{H:Hp}{i:Nat}{kws:List (W×W)}{o:Obj}{u:HO}(h:aD K φ ph H)(hi:i<ph.length)(e:H (φ i)=some (.aL o u))(hu:fE u)(hw:ph[i]? =some (.cF kws)):aD K φ (ph.set i (.aG kws)) (upd H (φ i) u):=by
 have key:o.cls=.type "dict"/\((∃kvs,u=.dK kvs/\bX K φ ph.length H kws kvs)\/∃kvs,u=.dT kvs/\ce K φ ph.length H kws kvs):=by
  obtain⟨o',fO,⟨vs,q,r⟩ | ⟨vs,q,r⟩⟩:=h.hp i _ hw
  ·rw[e] at q;cases q;exact⟨fO,.inl ⟨vs,rfl,r⟩⟩
  ·rw[e] at q;cases q;exact⟨fO,.inr ⟨vs,rfl,r⟩⟩
 obtain⟨hc,key⟩:=key;refine⟨fun j p ej=>?_,fun j k hj hk z=>by rw[abg] at hj hk;exact h.inj j k hj hk z,fun p hm=>(h.tb p hm).upd (fun ps z=>by rw[e] at z;cases z) fun oc z=>by rw[e] at z;cases z;exact hu⟩;rw[abg];by_cases hj:j=i
 ·subst hj;rw[aaQ hi] at ej;cases ej
  rcases key with⟨kvs,rfl,r⟩ | ⟨kvs,rfl,r⟩
  ·exact .inl ⟨kvs,cj,r.cq e hu hc⟩
  ·exact .inr ⟨kvs,cj,r.cq e hu hc⟩
 ·rw[abk (abD hj)] at ej;exact Ut e hu hc (fun z=>hj (h.inj j i (aam.mp ej).1 hi z)) (h.hp j p ej)
theorem yR{ap:Nat->Addr}{n':Nat}{H':Hp}{d:Addr}{v:HO}(hd:H d=some v)(hv:fE v)(s:Step K φ n (upd H d (.aL o u)) ap n' H'):Step K φ n H ap n' (upd H' d u):=by
 have ne:∀a x,H a=some x->¬fE x->a≠d:=fun a x q nx z=>by
  subst z;rw[hd] at q;cases q;exact nx hv
 refine⟨s.le,s.eq,fun a xs h=>?_,fun a o' u' h=>?_⟩
 ·have ha:=ne a _ h (fun z=>z);rw[aT ha];exact s.tup a xs (by rw[aT ha];exact h)
 ·have ha:=ne a _ h (fun z=>z);rw[aT ha];exact s.aL a o' u' (by rw[aT ha];exact h)
noncomputable def wz:HO->Nat
 | .dK kvs=>kvs.length
 | .dT kvs=>kvs.length
 | _=>0
noncomputable def Hc(H:Hp)(u:HO)(i:Nat)(y v:V):Prop:=match u with
 | .dK kvs=>∃k,kvs[i]? =some (k,v)/\y=kV k
 | .dT kvs=>∃k b,kvs[i]? =some (k,v)/\y=.ref b/\H b=some (.tup (k.map kV))
 | _=>False
theorem V3{w:World}{x:Value}(h:(eE P w).is k x=true):RelV (kV k) x:=by
 rcases iZ h with⟨i,t,rfl,rfl⟩ | ⟨y,t,rfl,rfl⟩
 ·exact⟨t,rfl⟩
 ·exact⟨t,rfl⟩
theorem adT.at{α β:Type}{R:α->β->Prop}:∀{xs:List α} {ys:List β} {i:Nat} {y:β},adT R xs ys->ys[i]? =some y->∃x,xs[i]? =some x/\R x y
 | _,_,_,_,.nil,e=>by simp at e
 | _,_,0,_,.cons h _,e=>by simp at e;subst e;exact⟨_,rfl,h⟩
 | _,_,i+1,y,.cons _ r,e=>by
  obtain⟨x,h1,h2⟩:=adT.at (i:=i) r (by simpa using e);exact⟨x,by simpa using h1,h2⟩
theorem F6{w:World}{d:Addr}{es:Array afb}{ep:Nat}(hu:fE u)(ok:dr P w H h d u)(ho:h.get? d=some o)(hd:o.data=.dict es ep) :
  wz u=es.size/\∀i e,es[i]? =some e->∃y v,Hc H u i y v/\RelV y e.key/\RelV v e.val:=by
 cases u with
 | dK kvs=>
  obtain⟨_,z,vs,rel,o',sx,sy,h1,h2,h3,h4,h5,h6⟩:=ok;rw[ho] at h1;cases h1;rw[hd] at h3;cases h3;have l1:=adv rel;have l2:=h5.length;refine⟨by show kvs.length=_;rw[l1,<- l2];simp,fun i e he=>?_⟩;have lR:es.toList[i]? =some e:=by simpa using he
  have hi:i<vs.length:=by rw[<- l2];exact(aam.mp lR).1
  obtain⟨q1,q2⟩:=h5.get? (i:=i) (e:=e) (k:=vs[i].1) (v:=vs[i].2) lR (by simp[hi]);obtain⟨p,e1,e2,e3⟩:=adT.at (i:=i) (y:=vs[i]) rel (by simp[hi]);refine⟨kV p.1,p.2,⟨p.1,e1,rfl⟩,?_,by rw[q2];exact e3⟩;rw[e2];exact V3 q1
 | dT kvs=>
  obtain⟨_,z,xs,rel,o',sx,sy,h1,h2,h3,h4,h5⟩:=ok;rw[ho] at h1;cases h1;rw[hd] at h3;cases h3;have l1:=adv rel;have l2:=congrArg agh h4;rw[aan] at l2;refine⟨by show kvs.length=_;rw[l1,<- l2];simp,fun i e he=>?_⟩;have lR:es.toList[i]? =some e:=by simpa using he
  rw[h4,aau] at lR;cases q:xs[i]? with
  | none=>rw[q] at lR;cases lR
  | some x=>
   rw[q] at lR;cases lR;obtain⟨p,e1,e2,e3,e4⟩:=adT.at (i:=i) (y:=x) rel q;exact⟨.ref x.2.1,p.2,⟨p.1,x.2.1,e1,rfl,e3⟩,rfl,e4⟩
 | _=>exact hu.elim
noncomputable def A4(i:Nat)(kws:List (W×W))(L:Nat):Mo W:=fun ph=>if ph[i]? =some (.cF kws) then .ok (.ref L) (ph.set i (.aG kws)) else .no
theorem yS{K:aao}{φ:Nat->Addr}{n:Nat}{H:Hp}:∀(ks:List Key),aM K φ n H (ks.map bW) (ks.map kV)
 | []=>.nil
 | .inl i::ks=>.cons (.int i) (yS ks)
 | .inr x::ks=>.cons (.str x) (yS ks)
theorem Pj:∀(k:Key),aK K φ n H (bW k) (kV k)
 | .inl i=>.int i
 | .inr x=>.str x
theorem bX.get{K:aao}{φ:Nat->Addr}{n:Nat}{H:Hp}:∀{kws:List (W×W)} {kvs:List (Key×V)} {i:Nat} {k:Key} {v:V},bX K φ n H kws kvs->kvs[i]? =some (k,v)->∃w,kws[i]? =some (bW k,w)/\aK K φ n H w v
 | _,_,_,_,_,.nil,e=>by simp at e
 | _,_,0,_,_,.cons h _,e=>by simp at e;obtain⟨rfl,rfl⟩:=e;exact⟨_,rfl,h⟩
 | _,_,i+1,k,v,.cons _ r,e=>by
  obtain⟨u,h1,h2⟩:=bX.get (i:=i) (k:=k) (v:=v) r (by simpa using e);exact⟨u,by simpa using h1,h2⟩
theorem ce.get{K:aao}{φ:Nat->Addr}{n:Nat}{H:Hp}:∀{kws:List (W×W)} {kvs:List (List Key×V)} {i:Nat} {k:List Key} {v:V},ce K φ n H kws kvs->kvs[i]? =some (k,v)->∃w,kws[i]? =some (.tup (k.map bW),w)/\aK K φ n H w v
 | _,_,_,_,_,.nil,e=>by simp at e
 | _,_,0,_,_,.cons h _,e=>by simp at e;obtain⟨rfl,rfl⟩:=e;exact⟨_,rfl,h⟩
 | _,_,i+1,k,v,.cons _ r,e=>by
  obtain⟨u,h1,h2⟩:=ce.get (i:=i) (k:=k) (v:=v) r (by simpa using e);exact⟨u,by simpa using h1,h2⟩
noncomputable def QT(X:Cx)(Q:VK):VK:=fun v H'=>∃d o u,H' d=some (.aL o u)/\fE u/\NF X d/\Q v (upd H' d u)
noncomputable def HJ:W->W->Po W:=pe fun i j=>i+j
section
variable{X:Cx}{N:List Str}{sc:Scope}{e:Expr}{m:EM}{pos pos':Pos}
theorem Rn{i:Nat}{g:Int->Int->Int}{D:Ends}{σ:L2.St}{H:Hp}(h:tS X (ax (ae (pe g) (aa i) m) (gN i)) D σ H):Hu i (tM X m) (Ik g) D σ H:=by
 obtain⟨φ,ph,ws,hH,hS,h⟩:=h;unfold ax ae at h;rw[cS,cS] at h;obtain⟨w,ph',e,k⟩:=run_lift h;split at e
 ·rename_i w' ew;cases e;obtain⟨v,ev,rv⟩:=hS.get ew;refine⟨v,ev,?_⟩;rw[cS] at k;refine⟨φ,ph,ws,hH,hS,k.mono (fun y ph1 k aq H1 vy ay s1 ry=>?_) fun _ _ z=>z⟩;obtain⟨z,aI,e,k⟩:=run_lift k;have xZ:=rv.mono s1;unfold pe at e;split at e
  ·cases e;cases xZ;cases ry;refine⟨_,_,rfl,rfl,?_⟩;exact k aq H1 ay s1 _ ((hS.mono s1).set (.int _) i)
  ·cases e
 ·cases e
theorem fT.V4(B:fT X N sc)(i:Nat){x:Str}(hN:N[i]? =some x)(hl:Loc sc x)(he:JE X e m):JS X (.AugAssign (.Name x pos') .Add e pos) (ax (ae HJ (aa i) m) (gN i)):=
 ⟨PS.imp (SG (by rw[B.hN];exact B.nd) (by rw[B.hN];exact hN) (B.loc x hl) he.h SH (B.fn x hl)) fun _ _ _ h=>Rn h⟩
end
noncomputable def HK(x:Str):Bool:= !(x==("__debug__":Str))&& !(x==("__classdict__":Str))
section
variable{X:Cx}{N:List Str}{sc:Scope}{k:Nat}{b:Expr}
theorem fT.jv{pos:Pos}(B:fT X N sc)(i:Nat){x:Str}(hN:N[i]? =some x)(hv:jf sc x)(hk:HK x=true):JE X (.Name x pos) (aa i):=by
 unfold HK at hk;rw[aaG] at hk;exact B.WY i hN hv (by simpa using hk.1) (by simpa using hk.2)
theorem fU.ah{pos:Pos}{a:Expr}{ma mb:EM}(B:fU X N sc k)(ha:JE X a ma)(hb:JE X b mb)(hp:vG b:=by intro _ _;rfl):JE X (.Subscript a b pos) (ae ah ma mb):=B.Uq hp ha hb
end
noncomputable def hQ(P:abw)(w:World):Option (Key ⊕ List Key)->Int
 | none=>0xFCA86420
 | some (.inl k)=>BM w k
 | some (.inr ks)=>tupleKeyHash (eE P w) ks
theorem qJ:∀{xs:List V} {us:List Value},xs.length=us.length->(∀(j:Nat) x u,xs[j]? =some x->us[j]? =some u->L2.RelV x u)->Vals xs us
 | [],[],_,_=>.nil
 | [],_::_,h,_=>by simp at h
 | _::_,[],h,_=>by simp at h
 | x::xs,u::us,h,k=>.cons (k 0 x u rfl rfl) (qJ (by simpa using h) fun j y v h1 h2=>k (j+1) y v (by simpa using h1) (by simpa using h2))
theorem Oa{w:World}{u:Value}(h:(eE P w).is k u=true):L2.RelV (kV k) u:=by
 rcases iZ h with⟨i,t,rfl,rfl⟩ | ⟨x,t,rfl,rfl⟩
 ·exact⟨t,rfl⟩
 ·exact⟨t,rfl⟩
section
variable{X:Cx}{pins:List (Addr×Obj)}{σ:L2.St}{H:Hp}{s:aaw}
theorem F7(I:Inv X pins σ H s){d:Addr}{kvs:List (Key×V)}(hd:H d=some (.dK kvs)\/(H d=some (.dT [])/\kvs=[])):∃vs,KV kvs vs/\s.heap.DictOf (eE X.prog X.w) d vs/\(d==acd)=false/\kvs.length<=sizeLine:=by
 rcases hd with e | ⟨e,rfl⟩
 ·obtain⟨z,y,vs,rel,dd⟩:=rG I.aH e;exact⟨vs,rel,dd,y,z⟩
 ·obtain⟨z,y,vs,rel,dd⟩:=rG (kvs:=[]) (oi I e).aH cj;exact⟨vs,rel,dd,y,z⟩
theorem E2{kvs:List (Key×V)}{vs:List (Key×Value)}{acc:Array Value}(rel:KV kvs vs)(fu:aeh (fun i v=>∃k x,vs[i]? =some (k,x)/\(eE X.prog X.w).is k v=true) acc vs.length):Vals (kvs.map fun kv=>kV kv.1) acc.toList:=by
 have hk:=rel.keys;refine qJ (by have e1:=rel.length;have e2:=fu.1;have e3:acc.toList.length=acc.size:=ack;rw[aan];omega) fun j x u h1 h2=>?_
 obtain⟨k,y,e,hi⟩:=fu.2 j u (by simpa using h2);rw[aau] at h1;obtain⟨kv,e1,rfl⟩:=aaA.mp h1;have e2:(kvs.map (·.1))[j]? =some kv.1:=by rw[aau,e1];rfl
 rw[hk,aau,e] at e2;have e3:k=kv.1:=by simpa using e2
 rw[<- e3];exact Oa hi
end
noncomputable def Af:List V->Hp->VK->Prop:=fun xs H Q=>∃d kvs,xs=[.ref d]/\(H d=some (.dK kvs)\/(H d=some (.dT [])/\kvs=[]))/\∀p,H p=none->Q (.ref p) (upd H p (.lst (kvs.map fun kv=>kV kv.1)))
section
variable{X:Cx}
theorem NB(hc:X.calm=true):c6 X (.type "list") Af:=by
 intro pins s σ H xs us Q I r h;obtain⟨d,kvs,rfl,hd,h⟩:=h;obtain⟨u,rfl,rx⟩:=vals1 r;obtain rfl:u=abv d:=rx;obtain⟨vs,rel,dd,y,z⟩:=F7 I hd;obtain⟨ep,m9⟩:=dd.dictAt;refine PySem.W.kdl_call (age (knd:=eE X.prog X.w) (kvs:=vs) (ep:=ep) y) (I.ok.hd hc) m9 (by rw[<- rel.length];exact z) fun h' tk acc c hk hD fu=>⟨.ref s.heap.objs.size,_,I.laid (t':=tk) (a:=s.heap.objs.size) (o:=.lst (kvs.map fun kv=>kV kv.1)) (fun b u q=>hk b u q) (aat _) ⟨by simpa using z,acc.toList,c,E2 rel fu,by simpa using hD⟩,rfl,h _ (I.aH.fresh (aat _))⟩
noncomputable def Hd(K:aao):List V->Hp->VK->Prop:=fun xs H Q=>∃(l:Addr) (ns:List Int),xs=[.ref l]/\(bA K H l (ns.map V.int)\/∃kvs:List (Key×V),(H l=some (.dK kvs)\/(H l=some (.dT [])/\kvs=[]))/\(kvs.map fun kv=>kV kv.1)=ns.map V.int)/\ns.length<64 /\
 ∀(p:Addr) (ie:List Int),H p=none->ie.Perm ns->ie.Pairwise (· <= ·)->Q (.ref p) (upd H p (.lst (ie.map V.int)))
theorem Em:∀{us:List Value} {ns:List Int},afd us ns->Vals (ns.map V.int) us:=by
 intro us ns h;have hl:=afF h;refine qJ (by rw[aan,hl]) fun j x u h1 h2=>?_
 rw[aau] at h1;obtain⟨n,e1,rfl⟩:=aaA.mp h1;obtain⟨m,t,e,e3⟩:=IntsAre.at h j u h2;rw[e1] at e3;cases e3;exact⟨t,e⟩
theorem gather{A:acM}{E:Value->aaw->Prop}{s:aaw}{T:String}{r d:Addr}{n:Nat}{P:Nat->Value->Prop}{OK:Heap->Prop}{Y:List Value->aaw->Prop}(src:PySem.W.KdlSrc X.prog X.w T r d n P OK)(calm:A.handled=none)(ok:OK s.heap)(fit:n<=aaH)
  (go:∀(h':Heap) (tk:Nat) (acc:Array Value),(∀b o,s.heap.get? b=some o->h'.get? b=some o)->s.heap.objs.size<h'.objs.size->aeh P acc n->Y acc.toList { s with heap:=h',toks:=tk }) :
  wpAny (model X.prog X.w) A (collect (.ref r)) Y E s:=by
 have low:=src.there _ ok;generalize hN:s.heap.objs.size=N at low go;have Dq:(s.heap.push { cls:=.type "list",data:=.seq ([]:List Value).toArray }).get? N=some { cls:=.type "list",data:=.seq #[] }:=by rw[<- hN];exact aaI _ rfl
 have Yo:OK (s.heap.push { cls:=.type "list",data:=.seq ([]:List Value).toArray }):=src.keep _ _ ok fun _ _ _ q=>aas _ q
 unfold collect;refine aaq (wpAny_runValue (aei entry_proto_collect' ?_));rw[adh F.plain_proto_collect _];refine aaq (m:=newList []) (abu (aaE ⟨plainId_quiet F.plain_list_iadd _,aei entry_list_iadd' ?_⟩));rw[adh F.plain_list_iadd _,hN];have main:=PySem.W.kdl_extend (A:=A) (s:={ s with heap:=s.heap.push { cls:=.type "list",data:=.seq ([]:List Value).toArray } }) src calm Yo N (abU low.1) (abU low.2) (.ref N) 0 Dq
  (R:=fun q s'=>q=.ok (.ret (.ref N))/\∃(h':Heap) (tk:Nat) (acc:Array Value) (c:Nat),s'={ s with heap:=h',toks:=tk }/\(∀b o,s.heap.get? b=some o->h'.get? b=some o)/\h'.get? N=some { cls:=.type "list",dict:=none,data:=.seq acc c,slots:= #[] }/\aeh P acc n)
  (fun h' tk acc c k1 k2 k3=>⟨rfl,h',tk,acc,c,rfl,fun b o q=>k1 b o (by rw[<- hN];exact aaW (aax q)) (aas _ q),k2,k3⟩) fit
 have last:∀s',(∃(h':Heap) (tk:Nat) (acc:Array Value) (c:Nat),s'={ s with heap:=h',toks:=tk }/\(∀b o,s.heap.get? b=some o->h'.get? b=some o)/\h'.get? N=some { cls:=.type "list",dict:=none,data:=.seq acc c,slots:= #[] }/\aeh P acc n) →
   wpAny (model X.prog X.w) A (do
    let o <- load N
    match o.data with
    | .seq xs _=>pure xs.toList
    | _=>unsupported "internal:collect") Y E s':=by
  rintro s' ⟨h',tk,acc,c,rfl,k1,k2,k3⟩;exact aaq (wpAny_load k2 (aaE (go h' tk acc k1 (aax k2) k3)))
 refine abE main (fun fin s' x=>?_) fun e s' x=>nomatch x.1
 cases fin with
 | done f=>
  obtain⟨q,x⟩:=x;cases q;exact last s' x
 | again aaa=>
  refine⟨x.1,adK x.2 fun q kR y=>?_⟩;obtain⟨rfl,y⟩:=y;exact last kR y
theorem Ob(hc:X.calm=true):c6 X (.builtin "sorted") (Hd X.K):=by
 intro pins s σ H xs us Q I r h;obtain⟨l,ns,rfl,hl,x8,h⟩:=h;obtain⟨u,rfl,rx⟩:=vals1 r;obtain rfl:u=abv l:=rx;have z64:(64:Nat)<=sizeLine:=by decide
 rcases hl with hl | ⟨kvs,hd,Yp⟩
 ·obtain⟨its,rv,pl,hz⟩:=I.list hl;have hi:afd its ns:=intsAre_of rv;have Jb:=afF hi;refine sorted_ints (vs:=its) pl.isList hi (by omega) fun out ie a1 a2 a3=>?_
  obtain⟨e,he⟩:=sortedAll_at s.heap its out;have fS:=a2.length_eq;exact⟨.ref (s.heap.objs.size+1),_,I.laid (t':=s.toks) (a:=s.heap.objs.size+1) (o:=.lst (ie.map V.int)) (fun b u q=>sortedAll_old q) (acB _) ⟨by rw[aan];omega,out.toList,e,Em a1,by simpa using he⟩,rfl,h _ ie (I.aH.fresh (acB _)) a2 a3⟩
 ·obtain⟨vs,rel,dd,y,z⟩:=F7 I hd;obtain⟨ep,m9⟩:=dd.dictAt;refine Calls.call_function_entry kind_sorted plain_sorted entry_sorted (args_sorted1 _) ?_;unfold Builtin.«sorted»;refine aaq (m:=checkCount "sorted" 1 1 _) (aaE ?_);refine aaq (gather (A:=X.A.in1) (age (knd:=eE X.prog X.w) (kvs:=vs) (ep:=ep) y) (I.ok.hd hc) m9 (by rw[<- rel.length];exact z) fun h' tk acc hk He fu=>?_);have rv:=E2 rel fu;rw[Yp] at rv;have hi:afd acc.toList ns:=intsAre_of rv;have Jb:=afF hi;refine aaq (wpAny_newList ?_ (by omega));have ho:(h'.push (seqObj "list" acc.toList.toArray 0)).get? h'.objs.size=some (seqObj "list" acc.toList.toArray 0):=aaI _ rfl;refine aaq (acX (adm slot_list_sort ⟨_,ho,rfl⟩ entry_list_sort (list_sort_tree ho hi (by omega) fun out ie a1 a2 a3=>⟨_,rfl,?_⟩) (args_list_sort _)));obtain⟨e,he⟩:=sortedHeap_at (out:=out) ho;have fS:=a2.length_eq;refine aaE ⟨_,rfl,.ref h'.objs.size,_,I.laid (t':=tk) (a:=h'.objs.size) (o:=.lst (ie.map V.int)) (fun b u q=>?_) (acS He) ⟨by rw[aan];omega,out.toList,e,Em a1,by simpa using he⟩,rfl,h _ ie (I.aH.fresh (acS He)) a2 a3⟩;have hb:=hk b u q;have dM:=aax hb;rw[sortedHeap_old (aaW dM) (aay dM (by rw[size_push'];exact acB _)),Heap.get?_push_ne _ _ _ (aaW dM)];exact hb
end
theorem FC{m:Mo α}{N:α->PH->Prop}(h:(eV m ph).Run N E):∃a ph',m ph=.ok a ph'/\N a ph':=by
 unfold eV at h;cases e:m ph with
 | ok a ph'=>rw[e] at h;exact⟨a,ph',rfl,h⟩
 | ex x ph'=>rw[e] at h;exact h.elim
 | no=>rw[e] at h;exact h.elim
noncomputable def B4(x:Str)(k:List W->Mo W):W->Mo W
 | .fn z cs=>if z=x then k cs else eJ
 | _=>eJ
noncomputable def W4(K:aao)(x:Str)(P:Addr)(cl:List (Str×Addr)):TE:=fun σ H Q=>i9 H x P/\∀a o H2,H a=none->H2 a=some (.aL o dz)->oE K H2 x o cl->(∀b u,H b=some u->(∀ps,u≠.ff ps)->H2 b=some u) →
 (∀b ps,b≠P->H b=some (.ff ps)->H2 b=some (.ff ps))->i9 H2 x P->Q (.ref a) H2
theorem M8:∀{l:List Value} {i j:Int} {t u:Tok} {v:Value},acT l->acT (l++[.int i t,.int j u,v]):=by
 intro l i j t u v h
 fun_induction acT l with
 | case1=>exact trivial
 | case2 a b c d e rest ih=>exact ih h
 | case3=>exact h.elim
theorem Oc{w:Value}:∀{l:List Value} {i j:Int} {t u:Tok} {v:Value},acT l->afh pos (l++[.int i t,.int j u,v])=some w->afh pos l=some w\/w=v:=by
 intro l i j t u v h e
 fun_induction acT l with
 | case1=>
  simp only[List.nil_append,afh] at e;split at e
  ·cases e;exact .inr rfl
  ·cases e
 | case2 a b c d e' rest ih=>
  simp only[List.cons_append,afh] at e ⊢;split at e
  ·rename_i hz;rw[if_pos hz];exact .inl e
  ·rename_i hz;rw[if_neg hz];exact ih h e
 | case3=>exact h.elim
section
variable{X:Cx}
theorem Uu{x:Str}{L:jN}{c P:Addr}{oc:Obj}{cl:List (Str×Addr)}(hl:jD X.K x=some L)(hq:X.env.qual=x++".<locals>.")(px:X.env.globals=aaL)(wA:X.env.code=.ref c)(sQ:X.K.lookup c=some oc)(hP:kX oc=some P)(sR:c≠P)
  (oR:adG L.sc X.env=pure cl) (gX:∀y,L.sc.names.lookup y=some .free->∃c,cl.lookup y=some c) (sd:defaultsOf L.ar X.env=([],[])) (Jc:cl.length=2->cl.map (·.1)=w4 L:=by intro z;cases z):PE X (.Lambda L.ar L.bd L.sc L.pos) (W4 X.K x P cl):=by
 intro pins s σ H Q I h;obtain⟨⟨ps,hT,sU,hG⟩,h⟩:=h;have C:adl s.heap c P:=E0 (I.gA _ _ sQ) hP sR;have sV:s.heap.get? P=some (ach ps):=I.aH P _ hT;have pz:s.heap.Ns aaL X.mg:=I.ok.mod.glob.keeps I.bk;obtain⟨bm,ob,b1,b2,b3,b4,b5,b6⟩:=I.ok.mod.bm;have sW:=I.bk _ _ b3;have Yq:aaL≠P:=fun z=>by
  obtain⟨o,es,ep,e,hd,_⟩:=pz;rw[z,sV] at e;cases e;cases hd
 have Yr:bm≠P:=fun z=>by rw[z,sV] at sW;cases sW;cases b4
 have Ys:bm≠mainGlobals:=fun z=>by
  obtain⟨o,es,ep,e,hd,_⟩:=pz;rw[z,e] at sW;cases sW;rw[hd] at b6;cases b6
 have hB:s.heap.BuiltinsAt X.mg P:=⟨bm,ob,b1,b2,Ys,Yr,sW,b4,b5,b6⟩
 refine PySem.W.kla_eval sd ?_;rw[hq];cases hf:afh L.pos ps.toList with
 | some cv=>
  refine PySem.W.kla_makeFunctionHit oR px pz wA C sV sU hf hB fun ig h' tk hk hsz=>?_
  have mM:H h'.objs.size=none:=I.aH.fresh hsz;have Yt:=hG _ _ hf;refine⟨.ref h'.objs.size,_,I.laid (a:=h'.objs.size) (o:=.aL { cls:=.type "function",data:=.func (aeA "<lambda>" (rY x) L.ar L.bd L.sc cl ((X.mg "__name__").getD .none) cv ig) } dz) (t':=tk) (fun b u e=>aas _ (hk b u e)) hsz ⟨aaI _ rfl,trivial,⟨_,aaI _ rfl⟩,fun _ _ _ _=>trivial⟩,rfl,h _ _ _ mM cj ?_ (fun b u e _=>?_) (fun b Yu _ e=>?_) ?_⟩
  ·exact⟨L,_,cv,ig,hl,rfl,Yt.mono fun a o z=>by rw[aT (dh z mM)];exact z,Jc,gX⟩
  ·rw[aT (dh e mM)];exact e
  ·rw[aT (dh e mM)];exact e
  ·exact i9.new ⟨ps,hT,sU,hG⟩ mM
 | none=>
  refine PySem.W.kla_makeFunction oR px pz wA C sV sU hf Yq hB fun c' ig h' tk hx pA dM W5 Dr=>?_
  obtain⟨c2,Ds,Yv,t2,e2,HL,hd2,Yw⟩:=W5;cases e2;have Yx:P<s.heap.objs.size:=aax sV;have nc:H c'=none:=I.aH.fresh pA;have na:H h'.objs.size=none:=I.aH.fresh (aaN pA (acS dM));have Pc:P<c':=aay Yx pA;have cP:c'≠P:=abU Pc;have aP:h'.objs.size≠P:=abU (Nat.lt_trans Pc dM);have ac:h'.objs.size≠c':=abU dM;have keep:∀{ob:Obj} (b:Addr) (u:Obj),b≠P->s.heap.get? b=some u->(h'.push ob).get? b=some u:=fun b u n e=>aas _ (hx b u n e)
  have lt:∀{b:Addr} {u:Obj},s.heap.get? b=some u->b≠c'/\b≠h'.objs.size:=fun{b u} e=>⟨aaW (aay (aax e) pA),aaW (aay (aax e) (aaN pA (acS dM)))⟩
  obtain⟨fo,Dt⟩:∃fo:Obj,fo={ cls:=.type "function",data:=.func (aeA "<lambda>" (rY x) L.ar L.bd L.sc cl ((X.mg "__name__").getD .none) (.ref c') ig) }:=⟨_,rfl⟩
  obtain⟨pB,Du⟩:∃pB:Array Value,pB=ps++ #[adU L.pos.line,adU L.pos.col,.ref c']:=⟨_,rfl⟩
  rw[<- Du] at Dr;obtain⟨H2,eH⟩:∃H2:Hp,H2=upd (upd (upd H P (.ff pB)) c' (.aL Ds dz)) h'.objs.size (.aL fo dz):=⟨_,rfl⟩
  have x9:H2 h'.objs.size=some (.aL fo dz):=by rw[eH];exact cj
  have Jd:H2 c'=some (.aL Ds dz):=by rw[eH,aT (abD ac)];exact cj
  have Dv:H2 P=some (.ff pB):=by rw[eH,aT (abD aP),aT (abD cP)];exact cj
  have Dw:∀b,b≠h'.objs.size->b≠c'->b≠P->H2 b=H b:=fun b n1 n2 n3=>by rw[eH,aT n1,aT n2,aT n3]
  have nP:∀b u,H b=some u->(∀ps,u≠.ff ps)->b≠P:=fun b u e n z=>by rw[z,hT] at e;cases e;exact n _ rfl
  have old:∀b u,H b=some u->b≠P->H2 b=some u:=fun b u e n=>(Dw b (dh e na) (dh e nc) n).trans e
  have W6:cQ X.prog X.w H2 (h'.push fo):=fun b u e=>by
   by_cases jn:b=h'.objs.size
   ·subst jn;rw[x9] at e;cases e;have hz:(h'.push fo).get? h'.objs.size=some fo:=aaI _ (by rw[Dt];rfl);exact⟨hz,trivial,⟨_,hz⟩,fun _ _ _ _=>trivial⟩
   by_cases lQ:b=c'
   ·subst lQ;rw[Jd] at e;cases e;exact⟨aas _ HL,trivial,⟨_,aas _ HL⟩,fun _ _ _ _=>trivial⟩
   by_cases sX:b=P
   ·subst sX;rw[Dv] at e;cases e;exact aas _ Dr
   rw[Dw b jn lQ sX] at e;refine(I.aH b u e).gQ (fun d v hd q=>keep d v ?_ q) (fun d q=>old d _ q (nP d _ q fun _ z=>nomatch z)) fun d xs q=>old d _ q (nP d _ q fun _ z=>nomatch z)
   rcases hd with rfl | hd
   ·exact sX
   ·exact nP d _ hd fun _ z=>nomatch z
  have un:Un X.fs [] H H2 s.heap (h'.push fo):=by
   refine⟨fun b o e n _ _=>keep b o (fun z=>by rw[z,hT] at n;cases n) e,fun b o e n _ _=>⟨o.slots,keep b o (fun z=>by rw[z,hT] at n;cases n) e⟩,fun b o e n _=>?_,fun b o e _=>?_,fun b xs e=>old b _ e (nP b _ e fun _ z=>nomatch z),fun b o u e=>old b _ e (nP b _ e fun _ z=>nomatch z),fun b ps0 e=>?_⟩
   ·rw[Dw b (lt e).2 (lt e).1 (fun z=>by rw[z,hT] at n;cases n)];exact n
   ·by_cases hb:b=P
    ·exact⟨_,by rw[hb];exact aas _ Dr⟩
    ·exact⟨o,keep b o hb e⟩
   ·by_cases hb:b=P
    ·subst hb;rw[hT] at e;cases e;exact⟨_,by rw[Dv,Du]⟩
    ·exact⟨#[],by rw[old b _ e hb];simp⟩
  have ya:pB.toList=ps.toList++[adU L.pos.line,adU L.pos.col,.ref c']:=by rw[Du];simp
  have cg:om H2 (.ref c') x:=⟨c',Ds,Yv,t2,rfl,Jd,hd2,Yw⟩
  show EP X pins σ Q (.ref h'.objs.size) { s with heap:=h'.push _,toks:=tk };rw[show(PySem.W.kla_obj "<lambda>" ((x++".<locals>.")++"<lambda>") L.ar L.bd L.sc cl ((X.mg "__name__").getD .none) c' ig)=fo from Dt.symm];refine⟨.ref h'.objs.size,H2,I.un (t':=tk) un W6,rfl,h _ fo H2 na x9 ⟨L,_,_,ig,hl,Dt,cg,Jc,gX⟩ (fun b u e n=>old b u e (nP b u e n)) (fun b Yu n e=>old b _ e n) ⟨pB,Dv,by rw[ya];exact M8 sU,fun pos v e=>?_⟩⟩;rw[ya] at e
  rcases Oc sU e with e | rfl
  ·exact(hG pos v e).mono fun a o z=>old a _ z (nP a _ z fun _ y=>nomatch y)
  ·exact cg
end
section
variable{Pg:abw}{w:World}{K:aao}{mg:Str->Option Value}{base:Heap}
theorem Pk{x qual:Str}{st:Stmt}{f:Addr}{fd:aaV}(F:jj K x qual st f fd)(hn:abn K aaL x=some (some (.ref f))):jD K x=B0 (fB st):=by
 obtain⟨oc,od,kV,doc,pm,an,bI,ct,gW,rfl,lk,hcd⟩:=F.ex;unfold jD;simp only[hn,lk]
end
theorem Od:typeLookup (.type "list_reverseiterator") "__len__"=pure none:=by rw[typeLookup_type,builtinLookup_eq_fast];kernel_rfl
theorem Pl:typeLookup (.type "list_reverseiterator") "__length_hint__"=pure (some (.builtin "list_reverseiterator.__length_hint__")):=by rw[typeLookup_type,builtinLookup_eq_fast];kernel_rfl
theorem boot_reversed:abB "reversed"=some (.type "reversed"):=by kernel_rfl
section
variable{prog:abw}{w:World}{A:acM}{E:Value->aaw->Prop}{s:aaw}
theorem Pm{r:Addr}{Q:Bool->aaw->Prop}(hT:s.TypeIs (.ref r) "list_reverseiterator")(h:Q false s):wpAny (model prog w) A (aej (.ref r)) Q E s:=by
 unfold aej;refine aaq (afl hT Od ?_);show wpAny _ A (specialOf (abv r) (aaC "__length_hint__") >>= _) _ _ _;refine aaq (afl hT Pl ?_);generalize pw:("list_reverseiterator.__length_hint__":String)=Yy
 wp_delta
 rw[show splitId Yy=some ("list_reverseiterator","__length_hint__") from by subst pw;decide +kernel];subst pw;refine aaq (wpAny_isInstance (T:="list_reverseiterator") (b:=true) hT (by rw[isSubtype_type];kernel_rfl) ?_);exact aaE h
theorem Pn{D l:Addr}{items:Array Value}{Q:Value->aaw->Prop}(hh:A.handled=none)(hit:s.heap.IsRevIter D l ((items.size:Int)-1))(hl:s.heap.IsList l items)(dm:l≠D)(hn:items.size<=aaH)
  (hQ:∀h' tk lB c',(∀b o,b≠D->s.heap.get? b=some o->h'.get? b=some o)->h'.get? s.heap.objs.size=some { cls:=.type "list",dict:=none,data:=.seq lB c',slots:= #[] }->aeh (fun i v=>items[items.size-1-i]? =some v) lB items.size->Q (.ref s.heap.objs.size) { s with heap:=h',toks:=tk }) :
  wpAny (model prog w) A (call (.type "list") [.ref D]) Q E s:=by
 refine callType_codes (Q₁:=fun obj bR=>obj=.ref s.heap.objs.size/\bR={ s with heap:=s.heap.push { cls:=.type "list",data:=.seq #[] } }) PySem.F.called_list (PySem.F.typeCall_list_1 _) PySem.F.entry_list_init
  (code_list_new _ ⟨rfl,rfl⟩) fun obj bR cN=>?_
 obtain⟨rfl,rfl⟩:=cN;generalize eS:s.heap.objs.size=S at hQ;have hS:(s.heap.push { cls:=.type "list",data:=.seq #[] }).get? S=some { cls:=.type "list",data:=.seq #[] }:=by rw[<- eS];exact aaI _ rfl
 have hD:D<S:=by obtain⟨o,ho,_⟩:=hit;rw[<- eS];exact aax ho
 have Yz:l<S:=by obtain⟨o,ho,_⟩:=hl;rw[<- eS];exact aax ho
 have Dx:S≠D:=abU hD;have Je:S≠l:=abU Yz;refine⟨⟨_,hS,rfl⟩,PySem.F.args_list_init_2 _ _,?_⟩;show wpAny _ _ (do let old <- aeY (.ref S);Builtin.List.listUpdate (.ref S) (fun _=> #[]);letGo old.toList.reverse;acW (.ref S) (.ref D) .none) _ _ _;refine aaq ?_;unfold aeY;refine aaq (wpAny_seqItems hS rfl (aaE ?_));show wpAny _ _ (updateSeq S (fun _=> #[]) >>= fun _=>letGo (#[]:Array Value).toList.reverse >>= fun _=>acW (.ref S) (.ref D) .none) _ _ _;refine aaq (wpAny_updateSeq hS rfl ?_);have Jf:=acw (adD (fun _=>(#[]:Array Value))) hS rfl;have yb:∀b o,b≠S->s.heap.get? b=some o->((s.heap.push { cls:=.type "list",data:=.seq #[] }).update S (adD (fun _=>(#[]:Array Value)))).get? b=some o:=
  fun b o hb e=>(abz _ _ (abD hb)).trans (aas _ e)
 refine aaq (wpAny_letGo ?_);generalize ((s.heap.push { cls:=.type "list",data:=.seq #[] }).update S (adD (fun _=>(#[]:Array Value))))=h2 at Jf yb;have xm:h2.IsRevIter D l ((items.size:Int)-1):=hit.at fun o e=>yb D o (abD Dx) e
 have fS:h2.IsList l items:=hl.at fun o e=>yb l o (abD Je) e
 unfold acW;refine aaq (wpAny_typeOf (T:="list_reverseiterator") (afm (s:={ s with heap:=h2 }) xm) ?_);have h1:aeG (.ref S) (.ref D)=false:=by simp[aeG,Dx]
 have h3:(aeD "list_reverseiterator"==aeD "list")=false:=by decide
 have h4:(aeD "list_reverseiterator"==aeD "tuple")=false:=by decide
 simp only[h1,h3,h4,adX,abS,if_false];refine aaq (wpAny_pyIter_revIter (s:={ s with heap:=h2 }) xm ?_);refine aaq (acX (Pm (afm (s:={ s with heap:=h2 }) xm) ?_));have W:=Walks.listRev (prog:=prog) (w:=w) (A:=A.in1.in1) hh D l dm items;refine wpAny_ite_split (fun hz=>absurd hz (by decide +kernel)) (fun _=>aaE ⟨plainId_quiet PySem.F.plain_extend_loop _,?_⟩);refine codeAny_extend_loopS W.toS hn S (by simp[Dx,Je]) .none items.size 0 _ #[] _ rfl (abA _) ⟨abA _,by simpa using xm,fS⟩ Jf (ItemsOf.nil _) fun s' lB c' hm Dy fu=>?_
 rw[Moved.eq_with hm];refine⟨rfl,hQ s'.heap s'.toks lB c' (fun b o hb e=>hm.heap b o (fun B5=>?_) (yb b o (aaW (by rw[<- eS];exact aax e)) e)) Dy fu⟩
 rcases aaO.mp B5 with e' | B5
 ·exact absurd (aax e) (by rw[e',<- eS];exact abP _)
 ·exact hb (aav.mp B5)
end
noncomputable def se(w:W):Po W:=fun ph=>match cC w ph with
 | some ws=>if bU w ph=true then some (.ref ph.length,ph++[.lst ws.reverse]) else none
 | none=>none
noncomputable def wB(m:EM):EM:=fun σ=>au (m σ) fun w=>lift (se w)
theorem Pp{ys:List V}{its:List Value}{acc:Array Value}(rv:Vals ys its)(h:aeh (fun i v=>its.toArray[its.toArray.size-1-i]? =some v) acc its.toArray.size):Vals ys.reverse acc.toList:=by
 have bP:=rv.length;have e1:acc.toList.length=its.length:=by rw[ack,h.1];simp
 refine qJ (by rw[ado,e1,bP]) fun j x u h1 h2=>?_
 have h3:=h.2 j u (by simpa using h2);have hj:j<its.length:=by rw[<- e1];exact(aam.mp h2).1
 rw[adM (by omega)] at h1;obtain⟨u',e,r⟩:=rv.get h1;have h3:its[its.length-1-j]? =some u:=by simpa using h3
 rw[bP,h3] at e;cases e;exact r
section
variable{X:Cx}{e:Expr}{m:EM}{p p2 pos d7:Pos}
theorem Ro(hc:X.calm=true)(hg:Gl X "list")(hm:X.mg "list"=none)(jp:Gl X "reversed")(il:X.mg "reversed"=none)(c9:isStar e=false)(he:IE X e m):IE X (.Call (.Name "list" p) [.Call (.Name "reversed" p2) [e] [] d7] [] pos) (wB m):=by
 intro pins s σ H Q I h;obtain⟨φ,ph,ws,hH,hS,h⟩:=h;refine abQ (jz I hg hm acp ?_ (by decide) (by decide));refine abm ?_ (dR rfl) (any_none rfl);rw[show aaP [.Call (.Name "reversed" p2) [e] [] d7] X.env=(false,eval (.Call (.Name "reversed" p2) [e] [] d7) X.env)::aaP [] X.env from dR rfl];show wpAny _ _ (spliced ((false,eval (.Call (.Name "reversed" p2) [e] [] d7) X.env)::adi pos (aaP [] X.env))) _ _ _;refine acP (abQ (jz I jp il boot_reversed ?_ (by decide) (by decide)));refine abm ?_ (dR c9) (any_none rfl);rw[show aaP [e] X.env=(false,eval e X.env)::aaP [] X.env from dR c9];show wpAny _ _ (spliced ((false,eval e X.env)::adi d7 (aaP [] X.env))) _ _ _;refine acP (bb (he pins s σ H (fun v H1=>∃l ys bQ ph1 aq,v=.ref l/\bA X.K H1 l ys/\aD X.K aq ph1 H1/\aM X.K aq ph1.length H1 bQ ys/\Step X.K φ ph.length H aq ph1.length H1 /\
  ∀ap H' v,aD X.K ap (ph1++[.lst bQ.reverse]) H'->Step X.K φ ph.length H ap (ph1++[PO.lst bQ.reverse]).length H'->aK X.K ap (ph1++[PO.lst bQ.reverse]).length H' (.ref ph1.length) v->Q v H') I ?_) fun u s1 ⟨v,H1,I1,r1,l,ys,bQ,ph1,aq,e1,hq,ay,YA,iW,hQ⟩=>?_)
 ·refine tM.bind hH hS h fun w ph1 aq H1 v ay s1 r1 h=>?_
  obtain⟨w2,aI,e,k⟩:=run_lift h;unfold se at e;cases hw:cC w ph1 with
  | none=>rw[hw] at e;cases e
  | some bQ=>
   rw[hw] at e;simp only at e;split at e
   ·rename_i hL;cases e;obtain⟨a,vs,rfl,hq,rr⟩:=Q9 ay r1 hL hw;exact⟨a,vs,bQ,ph1,aq,rfl,hq,ay,rr,s1,k⟩
   ·cases e
 ·subst e1;obtain rfl:u=abv l:=r1;obtain⟨its,rv,pl,hz⟩:=I1.list hq;have hL:=pl.isList;have dM:l<s1.heap.objs.size:=by obtain⟨o,ho,_⟩:=hL;exact aax ho
  refine acZ (call_reversed_list hL ?_);refine acZ ?_;have YB:(s1.heap.push (revObj l ((its.toArray.size:Int)-1))).IsList l its.toArray:=hL.at fun o e=>aas _ e
  refine Pn (s:={ s1 with heap:=s1.heap.push (revObj l ((its.toArray.size:Int)-1)) }) (I1.ok.hd hc) ⟨_,aaI _ rfl,rfl,rfl⟩ YB (aaW dM) (by have:=rv.length;simp;omega) fun h' tk acc c hk hp fu=>?_
  have keep:∀b u,s1.heap.get? b=some u->h'.get? b=some u:=fun b u q=>hk b u (aaW (aax q)) (aas _ q)
  have hsz:s1.heap.objs.size<=(s1.heap.push (revObj l ((its.toArray.size:Int)-1))).objs.size:=by rw[afD];exact acB _
  have YC:=Pp rv fu;have hn:=I1.aH.fresh hsz;obtain⟨q1,q2,q3⟩:=i0 ay YA.reverse hn;exact⟨.ref _,_,I1.laid (t':=tk) (o:=.lst ys.reverse) keep hsz ⟨by rw[ado];exact hz,acc.toList,c,YC,by simpa using hp⟩,rfl,hQ _ _ _ q1 (iW.trans q2) q3⟩
theorem Rp(hc:X.calm=true)(hg:Gl X "list")(hm:X.mg "list"=none)(jp:Gl X "reversed")(il:X.mg "reversed"=none)(c9:isStar e=false)(he:JE X e m):JE X (.Call (.Name "list" p) [.Call (.Name "reversed" p2) [e] [] d7] [] pos) (wB m):=⟨Ro hc hg hm jp il c9 he.h⟩
end
noncomputable def oq(kws:List (W×W)):Option (List W):=if kws.all (fun p=> !jo p.1)=true then some (kws.map (·.1)) else none
noncomputable def jH:List W->Po W:=fun xs ph=>match xs with
 | [w]=>match eQ w ph with
  | some p=>(oq p.2).map fun ks=>(.ref ph.length,ph++[.lst ks])
  | none=>mH [w] ph
 | _=>none
noncomputable def insI(a:Int):List Int->List Int
 | []=>[a]
 | b::l=>if a<=b then a::b::l else b::insI a l
noncomputable def je:List Int->List Int
 | []=>[]
 | a::l=>insI a (je l)
noncomputable def mJ:List W->Po W:=fun xs ph=>match xs with
 | [w]=>match(match eQ w ph with | some p=>(oq p.2).bind (bH oQ) | none=>A3 w ph) with
  | some ns=>if ns.length<64 then some (.ref ph.length,ph++[.lst ((je ns).map W.int)]) else none
  | none=>none
 | _=>none
theorem insI_perm{a:Int}:∀{l:List Int},(insI a l).Perm (a::l)
 | []=>.refl _
 | b::l=>by
  unfold insI;split
  ·exact .refl _
  ·exact(insI_perm.cons b).trans (.swap a b l)
theorem Ew{a:Int}:∀{l:List Int},l.Pairwise (· <= ·)->(insI a l).Pairwise (· <= ·)
 | [],_=>List.pairwise_singleton _ _
 | b::l,h=>by
  unfold insI;obtain⟨h1,h2⟩:=aew.mp h;split
  ·rename_i kK;exact aew.mpr ⟨fun c hc=>(aaO.mp hc).elim (fun z=>z▸kK) fun z=>Int.le_trans kK (h1 c z),h⟩
  ·rename_i kK;exact aew.mpr ⟨fun c hc=>(aaO.mp (insI_perm.mem_iff.mp hc)).elim (fun z=>by omega) fun z=>h1 c z,Ew h2⟩
theorem yT:∀{l:List Int},(je l).Perm l
 | []=>.refl _
 | a::l=>insI_perm.trans (yT.cons a)
theorem Ey:∀{l:List Int},(je l).Pairwise (· <= ·)
 | []=>.nil
 | a::l=>Ew Ey
variable{l:List Int}
theorem F8{l':List Int}(p:l'.Perm l)(s:l'.Pairwise (· <= ·)):l'=je l:=
 List.Perm.eq_of_pairwise (le:=(· <= ·)) (fun a b _ _ h1 h2=>Int.le_antisymm h1 h2) s Ey (p.trans yT.symm)
section
variable{K:aao}{φ:Nat->Addr}{n:Nat}{H:Hp}
theorem FD:∀{kws:List (W×W)} {kvs:List (Key×V)},bX K φ n H kws kvs->aM K φ n H (kws.map (·.1)) (kvs.map fun kv=>kV kv.1)
 | _,_,.nil=>.nil
 | _,_,.cons (k:=k) h r=>.cons (by cases k with | inl i=>exact .int i | inr x=>exact .str x) (FD r)
theorem E3{ph:PH}{y:W}{v:V}{p:Nat×List (W×W)}{ks:List W}(hH:aD K φ ph H)(r:aK K φ ph.length H y v)(e:eQ y ph=some p)(hk:oq p.2=some ks) :
  ∃d kvs,v=.ref d/\(H d=some (.dK kvs)\/(H d=some (.dT [])/\kvs=[]))/\aM K φ ph.length H ks (kvs.map fun kv=>kV kv.1):=by
 unfold oq at hk;split at hk
 ·rename_i ha;cases hk;obtain⟨rfl,hi,hd,rfl⟩:=nL (i:=p.1) (kws:=p.2) hH r e
  rcases hH.hp _ _ hd with⟨kvs,q,rd⟩ | ⟨kvs,q,rt⟩
  ·exact⟨_,kvs,rfl,.inl q,FD rd⟩
  ·obtain⟨e1,e2⟩:=rt.xl ha;subst e2;rw[e1];exact⟨_,[],rfl,.inr ⟨q,rfl⟩,.nil⟩
 ·cases hk
end
theorem zL:f6 K (fun xs H Q=>(∃p ys,xs=[.ref p]/\(bA K H p ys\/cE K H p ys)/\∀l,H l=none->Q (.ref l) (upd H l (.lst ys)))\/Af xs H Q) jH:=by
 intro φ ph H xs vs w ph' Q hH r e k;unfold jH at e;split at e
 ·rename_i x;cases hd:eQ x ph with
  | none=>rw[hd] at e;exact .inl (Q4 hH r e k)
  | some p=>
   rw[hd] at e;obtain⟨ks,hk,e⟩:=aaA.mp e;cases e;cases r with
   | cons r rn=>
    cases rn;obtain⟨d,kvs,rfl,Dz,rr⟩:=E3 hH r hd hk;refine .inr ⟨d,kvs,rfl,Dz,fun p hp=>?_⟩;obtain⟨q1,q2,q3⟩:=i0 hH rr hp;exact k _ _ _ q1 q2 q3
 ·cases e
theorem yP(hc:X.calm=true):c6 X (.type "list") (fun xs H Q=>(∃p ys,xs=[.ref p]/\(bA X.K H p ys\/cE X.K H p ys)/\∀l,H l=none->Q (.ref l) (upd H l (.lst ys)))\/Af xs H Q):=c6.or MG (NB hc)
theorem zj{K:aao}{φ:Nat->Addr}{n:Nat}{H:Hp}:∀(ns:List Int),aM K φ n H (ns.map W.int) (ns.map V.int)
 | []=>.nil
 | n::ns=>.cons (.int n) (zj ns)
theorem Rq:f6 K (Hd K) mJ:=by
 intro φ ph H xs vs w ph' Q hH r e k;unfold mJ at e;split at e
 ·rename_i x;cases r with
  | cons r rn=>
  cases rn;cases hd:eQ x ph with
  | none=>
   rw[hd] at e;simp only at e;split at e
   ·rename_i ns cD;split at e
    ·rename_i x8;cases e;obtain⟨p,rfl,hq⟩:=N9 hH r cD;refine⟨p,ns,rfl,.inl hq,x8,fun q ie hq hp hs=>?_⟩;rw[F8 hp hs];obtain⟨q1,q2,q3⟩:=i0 hH (zj (je ns)) hq;exact k _ _ _ q1 q2 q3
    ·cases e
   ·cases e
  | some p=>
   rw[hd] at e;simp only at e;split at e
   ·rename_i ns cD;split at e
    ·rename_i x8;cases e;obtain⟨ks,hk,cD⟩:=Option.bind_eq_some_iff.mp cD;obtain⟨d,kvs,rfl,Dz,rr⟩:=E3 hH r hd hk;refine⟨d,ns,rfl,.inr ⟨kvs,Dz,vw rr cD⟩,x8,fun q ie hq hp hs=>?_⟩;rw[F8 hp hs];obtain⟨q1,q2,q3⟩:=i0 hH (zj (je ns)) hq;exact k _ _ _ q1 q2 q3
    ·cases e
   ·cases e
 ·cases e
theorem boot_sorted:abB "sorted"=some (.builtin "sorted"):=by kernel_rfl
section
variable{X:Cx}{x y p q:Str}{L:jN}{i k:Nat}{e:Expr}{a:AM}{body:EM}{pp pos:Pos}
noncomputable def mU(st:Stmt):jN:=match B0 (fB st) with
 | some L=>L
 | none=>⟨i5 st,.Constant .none 0 ⟨0,0,0,0⟩,bf st,⟨0,0,0,0⟩⟩
end
section
variable{prog:abw}{w:World}{A:acM}{E:Value->aaw->Prop}{s:aaw}
theorem L9{Q:List Value->aaw->Prop}{r:Addr}{a b c:Int}{t u v:Tok}{n:Nat}(hh:A.handled=none)(hr:IsRange s.heap r a b c t u v)(rj:aek a b c=true)(hn:acJ a b c=n)(bP:n<=2 ^ 24)
  (go:∀(h':Heap) (tk:Nat) (acc:Array Value),(∀b o,s.heap.get? b=some o->h'.get? b=some o)->s.heap.objs.size<=h'.objs.size->aeh (fun i v=>∃t,v=.int (a+i*c) t) acc n->Q acc.toList { s with heap:=h',toks:=tk }) :
  wpAny (model prog w) A (collect (.ref r)) Q E s:=by
 generalize hN:s.heap.objs.size=N at go;have Dq:(s.heap.push { cls:=.type "list",data:=.seq ([]:List Value).toArray }).get? N=some { cls:=.type "list",data:=.seq #[] }:=by rw[<- hN];exact aaI _ rfl
 unfold collect;refine aaq (wpAny_runValue (aei entry_proto_collect' ?_));rw[adh PySem.F.plain_proto_collect _];refine aaq (m:=newList []) (abu (aaE ⟨plainId_quiet aeQ _,aei entry_list_iadd' ?_⟩));rw[adh aeQ _,hN];have main:=wpAny_extend_range (prog:=prog) (w:=w) (A:=A) (s:={ s with heap:=s.heap.push { cls:=.type "list",data:=.seq ([]:List Value).toArray } }) hh (aas _ hr) rj hn bP N (.ref N) 0 Dq
  (R:=fun q s'=>q=.ok (.ret (.ref N))/\∃(h':Heap) (tk:Nat) (acc:Array Value) (c':Nat),s'={ s with heap:=h',toks:=tk }/\(∀b o,s.heap.get? b=some o->h'.get? b=some o)/\h'.get? N=some { cls:=.type "list",dict:=none,data:=.seq acc c',slots:= #[] }/\aeh (fun i v=>∃t,v=.int (a+i*c) t) acc n)
  (fun h' tk acc c' k1 k2 k3=>⟨rfl,h',tk,acc,c',rfl,fun b o q=>k1 b o (by rw[<- hN];exact aaW (aax q)) (aas _ q),k2,k3⟩)
 have last:∀s',(∃(h':Heap) (tk:Nat) (acc:Array Value) (c':Nat),s'={ s with heap:=h',toks:=tk }/\(∀b o,s.heap.get? b=some o->h'.get? b=some o)/\h'.get? N=some { cls:=.type "list",dict:=none,data:=.seq acc c',slots:= #[] }/\aeh (fun i v=>∃t,v=.int (a+i*c) t) acc n) →
   wpAny (model prog w) A (do
    let o <- load N
    match o.data with
    | .seq xs _=>pure xs.toList
    | _=>unsupported "internal:collect") Q E s':=by
  rintro s' ⟨h',tk,acc,c',rfl,k1,k2,k3⟩;exact aaq (wpAny_load k2 (aaE (go h' tk acc k1 (acS (aax k2)) k3)))
 refine abE main (fun fin s' x=>?_) fun e s' x=>nomatch x.1
 cases fin with
 | done f=>
  obtain⟨q,x⟩:=x;cases q;exact last s' x
 | again aaa=>
  refine⟨x.1,adK x.2 fun q kR y=>?_⟩;obtain⟨rfl,y⟩:=y;exact last kR y
end
theorem KN(r:Addr)(a b c:Int)(t u v:Tok)(n:Nat)(rj:aek a b c=true)(hn:acJ a b c=n)(bP:n<=2 ^ 24) :
  Meets (Builtin.«tuple.__new__» ⟨[.type "tuple",.ref r],[]⟩)
   (fun A R s=>A.handled=none/\IsRange s.heap r a b c t u v/\∀(h':Heap) (tk:Nat) (acc:Array Value),(∀b o',s.heap.get? b=some o'->h'.get? b=some o')->s.heap.objs.size<=h'.objs.size->aeh (fun i v=>∃t,v=.int (a+i*c) t) acc n →
    R (.ok (.ret (.ref h'.objs.size))) { s with heap:=h'.push { cls:=.type "tuple",data:=.seq acc },toks:=tk }):=
 .of_wp fun prog w A R s h=>by
  obtain⟨hp,g,d,tk,os⟩:=s;obtain⟨hh,ht,h⟩:=h;have aai:=sub_tuple_self;have aad:=init_tuple_lookup;have hmh:=madeHere_tuple;have hT:Shared.TypeIs ⟨hp,g,d,tk,os⟩ (.ref r) "range":=⟨_,ht,rfl⟩
  wp_walk using wpAny_typeOf hT,L9 (A:=A.in1) hh ht rj hn bP
  intro h' YD acc hk hsz fu;show wpAny _ _ (abM acc.toList.toArray >>= fun v=>PySem.ret v) _ _ _;unfold abM;refine aaq (abu ?_ (by show acc.toList.toArray.size<=aaH;rw[afA,fu.1,afH];omega));refine aaE ⟨_,rfl,?_⟩;have e:acc.toList.toArray=acc:=by simp
  rw[e];exact h h' YD acc hk hsz fu
section
variable{prog:abw}{w:World}{A:acM}{E:Value->aaw->Prop}{s:aaw}
theorem K8{r:Addr}{a b c:Int}{t u v:Tok}{n:Nat}{Q:Value->aaw->Prop}(hh:A.handled=none)(hr:IsRange s.heap r a b c t u v)(rj:aek a b c=true)(hn:acJ a b c=n)(bP:n<=2 ^ 24)
  (h:∀(h':Heap) (tk:Nat) (acc:Array Value),(∀b o',s.heap.get? b=some o'->h'.get? b=some o')->s.heap.objs.size<=h'.objs.size->aeh (fun i v=>∃t,v=.int (a+i*c) t) acc n->Q (.ref h'.objs.size) { s with heap:=h'.push { cls:=.type "tuple",data:=.seq acc },toks:=tk }) :
  wpAny (model prog w) A (call (.type "tuple") [.ref r]) Q E s:=
 callType_new PySem.F.called_tuple (by decide) (PySem.F.typeCall_tuple_1 _) (PySem.F.newCall_tuple_1 _) (fun obj=>PySem.F.args_object_init_2 obj _) PySem.F.entry_tuple_new
  (KN r a b c t u v n rj hn bP) ⟨hh,hr,fun h' tk acc hk hsz fu=>⟨⟨_,aaI _ rfl,rfl⟩,h h' tk acc hk hsz fu⟩⟩
end
noncomputable def wC(w:W):Po W:=fun ph=>match w with
 | .int j=>if 0<=j/\j<=1000 then some (.tup (dc 0 j.toNat),ph) else none
 | _=>none
noncomputable def wD(m:EM):EM:=fun σ=>au (m σ) fun w=>lift (wC w)
theorem Pq{acc:Array Value}(h:aeh (fun i v=>∃t,v=.int (0+i*1) t) acc n):Vals ((aaK n).map fun i:Nat=>V.int (0+((i:Nat):Int))) acc.toList:=by
 have e1:acc.toList.length=n:=by rw[ack,h.1]
 refine qJ (by simp[e1]) fun j x u h1 h2=>?_
 obtain⟨t,rfl⟩:=h.2 j u (by simpa using h2);rw[aau] at h1;obtain⟨i,e,rfl⟩:=aaA.mp h1;have hi:i=j:=by
  obtain⟨q1,q2⟩:=aam.mp e
  simpa using q2.symm
 subst hi;exact⟨t,by rw[Int.mul_one]⟩
theorem F9{K:aao}{φ:Nat->Addr}{n:Nat}{H:Hp}:∀(l:List Nat),aM K φ n H (l.map fun i:Nat=>W.int (0+((i:Nat):Int))) (l.map fun i:Nat=>V.int (0+((i:Nat):Int)))
 | []=>.nil
 | _::l=>.cons (.int _) (F9 l)
section
variable{X:Cx}{e:Expr}{m:EM}{p p2 pos d7:Pos}
theorem Rr(hc:X.calm=true)(hg:Gl X "tuple")(hm:X.mg "tuple"=none)(jp:Gl X "range")(il:X.mg "range"=none)(c9:isStar e=false)(he:IE X e m):IE X (.Call (.Name "tuple" p) [.Call (.Name "range" p2) [e] [] d7] [] pos) (wD m):=by
 intro pins s σ H Q I h;obtain⟨φ,ph,ws,hH,hS,h⟩:=h;refine abQ (jz I hg hm acg ?_ (by decide) (by decide));refine abm ?_ (dR rfl) (any_none rfl);rw[show aaP [.Call (.Name "range" p2) [e] [] d7] X.env=(false,eval (.Call (.Name "range" p2) [e] [] d7) X.env)::aaP [] X.env from dR rfl];show wpAny _ _ (spliced ((false,eval (.Call (.Name "range" p2) [e] [] d7) X.env)::adi pos (aaP [] X.env))) _ _ _;refine acP (abQ (jz I jp il boot_range ?_ (by decide) (by decide)));refine abm ?_ (dR c9) (any_none rfl);rw[show aaP [e] X.env=(false,eval e X.env)::aaP [] X.env from dR c9];show wpAny _ _ (spliced ((false,eval e X.env)::adi d7 (aaP [] X.env))) _ _ _;refine acP (bb (he pins s σ H (fun v H1=>∃(j:Int) (ph1:PH) (aq:Nat->Addr),v=.int j/\(0<=j/\j<=1000)/\aD X.K aq ph1 H1/\Step X.K φ ph.length H aq ph1.length H1 /\
  ∀ap H' v,aD X.K ap ph1 H'->Step X.K φ ph.length H ap ph1.length H'->aK X.K ap ph1.length H' (.tup (dc 0 j.toNat)) v->Q v H') I ?_) fun u s1 ⟨v,H1,I1,r1,j,ph1,aq,e1,hj,ay,iW,hQ⟩=>?_)
 ·refine tM.bind hH hS h fun w ph1 aq H1 v ay s1 r1 h=>?_
  obtain⟨w2,aI,e,k⟩:=run_lift h;unfold wC at e;cases r1 with
  | int j=>
   simp only at e;split at e
   ·rename_i hj;cases e;exact⟨j,ph1,aq,rfl,hj,ay,s1,k⟩
   ·cases e
  | _=>cases e
 ·subst e1;obtain⟨t,rfl⟩:=(show ∃t,u=afO j t from r1)
  refine acZ (call_range_1 ?_);refine acZ ?_;have W7:s1.heap.objs.size<=(s1.heap.push { cls:=.type "range",data:=.fields #[.int 0 s1.toks,.int j t,.int 1 (s1.toks+1)] }).objs.size:=by rw[afD];exact acB _
  refine K8 (n:=j.toNat) (s:={ s1 with heap:=s1.heap.push { cls:=.type "range",data:=.fields #[.int 0 s1.toks,.int j t,.int 1 (s1.toks+1)] },toks:=s1.toks+1+1 }) (I1.ok.hd hc) (IsRange.new ..) (small_one (by omega) (by omega) (by omega) (by omega)) (by rw[rangeSize_one];split <;> omega) (by omega) fun h' tk acc hk hsz fu=>?_
  have keep:∀b u,s1.heap.get? b=some u->(h'.push { cls:=.type "tuple",data:=.seq acc }).get? b=some u:=fun b u q=>aas _ (hk b u (aas _ q))
  have HM:s1.heap.objs.size<=h'.objs.size:=aaN W7 hsz;have hn:=I1.aH.fresh HM;have rv:=Pq fu;exact⟨.ref _,_,I1.laid (t':=tk) (a:=h'.objs.size) (o:=.tup ((aaK j.toNat).map fun i:Nat=>V.int (0+((i:Nat):Int)))) keep HM ⟨by rw[aan,abN,afH];omega,acc.toList,rv,_,aaI _ rfl,rfl,0,by rw[afA]⟩,rfl,hQ _ _ _ (ay.tup hn) (iW.trans (gJ hn)) (.tup cj (F9 _))⟩
theorem Rt(hc:X.calm=true)(hg:Gl X "tuple")(hm:X.mg "tuple"=none)(jp:Gl X "range")(il:X.mg "range"=none)(c9:isStar e=false)(he:JE X e m):JE X (.Call (.Name "tuple" p) [.Call (.Name "range" p2) [e] [] d7] [] pos) (wD m):=⟨Rr hc hg hm jp il c9 he.h⟩
end
section
variable{prog:abw}{w:World}{A:acM}{E:Value->aaw->Prop}{s:aaw}{d it:Addr}{od:Obj}{es:Array afb}{ep:Nat}
theorem Oe{Q:Value->aaw->Prop}(hd:(d==acd)=false)(ho:s.heap.get? d=some od)(hc:od.cls=.type "dict")(HN:od.data=.dict es ep)
  (hQ:Q (.ref s.heap.objs.size) { s with heap:=s.heap.push { cls:=.type "dict_keyiterator",data:=.fields #[.ref d,.int 0 0,.int es.size 0,.int ep 0] } }) :
  wpAny (model prog w) A (pyIter (.ref d)) Q E s:=by
 have hT:s.TypeIs (.ref d) "dict":=⟨_,ho,hc⟩
 refine wpAny_pyIter_slot hT F.slot_dict_iter (adm F.slot_dict_iter hT F.entry_dict_iter ?_ (F.args_dict_iter_1 _));unfold Builtin.«dict.__iter__»;refine aaq ?_;unfold Builtin.Dict.dictSlotNone;refine aaq (wpAny_notOrdered_dict hT ?_);show wpAny _ _ (pure (abv d)) _ _ s;refine aaE ?_;show wpAny _ _ (afn d >>= _) _ _ s;unfold afn;rw[if_neg (by rw[hd];exact abe)];refine aaq (aaE ?_);refine aaq (aeH ho HN ?_);refine aaq (afo ho HN ?_);refine aaq (abu (aaE ⟨_,rfl,"dict_keyiterator",_,⟨_,aaI _ rfl,rfl⟩,abO.lookup,?_⟩))
 simpa[adU] using hQ
theorem Of{i:Nat}{e:afb}{Q:Option Value->aaw->Prop}(hit:s.heap.IsKeyIter it d i es.size ep)(sY:s.heap.get? d=some od)(ng:od.data=.dict es ep)(hx:es[i]? =some e)
  (hQ:∀h',h'.IsKeyIter it d (i+1) es.size ep->aeq it s.heap h'->Q (some e.key) { s with heap:=h' }):wpAny (model prog w) A (pyNext (.ref it)) Q E s:=by
 obtain⟨o,ho,hc,hd⟩:=id hit;unfold pyNext;refine aaq (wpAny_attempt (adw (name:=aaC "__next__") hit.typeIs abO
  (adm abO hit.typeIs adS ?_ (adN _))))
 refine aaq (aaE ?_);refine aaq ?_;refine aaq ?_;refine aaq (ace hit.typeIs (aaE ?_));refine aaq (wpAny_fieldsOf ho hd ?_);have B6:adY "dict_keyiterator"=false:=by decide
 simp only[B6,abS,if_false];show wpAny _ _ (if(abv d==abT)=true then _ else _) _ _ s;rw[if_neg (show ¬((abv d==abT)=true) from abe)];refine aaq (aaE ?_);refine aaq (aeH sY ng ?_);rw[if_neg (by simp)];refine aaq (aaE ?_);refine aaq (afo sY ng ?_);rw[if_neg (by simp)];refine aaE ?_;simp only[show ¬((i:Int)<0) from by omega,if_false,aba,hx];refine aaq ?_;refine aaq (ace hit.typeIs (aaE ?_));refine aaq (wpAny_isOneOf_keyiter hit.typeIs ?_);show wpAny _ _ (setField (.ref it) 1 (adU ((i:Int)+1)) >>= _) _ _ s;refine aaq (adH ho hd (by simp) ?_);have xk:(s.heap.update it (acL (·.setIfInBounds 1 (adU ((i:Int)+1))))).IsKeyIter it d (i+1) es.size ep:=
  ⟨_,acw _ ho (adL (acQ hd _)),(Obj.cls_mapFields ..).trans hc,by rw[acQ hd];simp[adU]⟩
 refine aaq (acX ?_);refine aaq (wpAny_isOneOf_keyiter (s:={ s with heap:=s.heap.update it (acL (·.setIfInBounds 1 (adU ((i:Int)+1)))) }) xk.typeIs ?_);show wpAny _ _ (pure e.key) _ _ _;exact aaE (aaE ⟨_,rfl,aaE (hQ _ xk (afJ ..))⟩)
theorem Pr{i:Nat}{Q:Option Value->aaw->Prop}(hh:A.handled=none)(hit:s.heap.IsKeyIter it d i es.size ep)(sY:s.heap.get? d=some od)(ng:od.data=.dict es ep)(hx:es.size<=i)
  (hQ:∀h',Heap.ExtBut it s.heap h'->Q none { s with heap:=h' }):wpAny (model prog w) A (pyNext (.ref it)) Q E s:=by
 obtain⟨o,ho,hc,hd⟩:=id hit;unfold pyNext;refine aaq (wpAny_attempt (adw (name:=aaC "__next__") hit.typeIs abO
  (adm abO hit.typeIs adS ?_ (adN _))))
 refine aaq (aaE ?_);refine aaq ?_;refine aaq ?_;refine aaq (ace hit.typeIs (aaE ?_));refine aaq (wpAny_fieldsOf ho hd ?_);have B6:adY "dict_keyiterator"=false:=by decide
 simp only[B6,abS,if_false];show wpAny _ _ (if(abv d==abT)=true then _ else _) _ _ s;rw[if_neg (show ¬((abv d==abT)=true) from abe)];refine aaq (aaE ?_);refine aaq (aeH sY ng ?_);rw[if_neg (by simp)];refine aaq (aaE ?_);refine aaq (afo sY ng ?_);rw[if_neg (by simp)];refine aaE ?_;simp only[show ¬((i:Int)<0) from by omega,if_false,aba,Array.getElem?_eq_none hx];refine aaq ?_;refine aaq (ace hit.typeIs (aaE ?_));show wpAny _ _ (setField (.ref it) 0 .none >>= _) _ _ s;refine aaq (adH ho hd (by simp) ?_);show wpAny _ _ (newExc (.type "StopIteration") [] >>= _) _ _ _;refine aaq ?_;simp only[newExc,newTuple];refine aaq (abu ?_ (by size_fits));refine aaq (m:=firstArgMember _ _) (wpAny_of_eq (a:=abT) (by first | rfl | (simp only[firstArgMember];rfl)) ?_);refine abu ?_ (by size_fits);simp only[raiseNew];refine aaq (wpAny_handled ?_);rw[show A.in1.handled=none from hh];refine aaq (aaE (wpAny_throw ?_));refine aaq (wpAny_isInstance (T:="StopIteration") (b:=true) ⟨_,aaI _ rfl,rfl⟩ isSubtype_stop ?_);exact aaE (hQ _ (((afJ ..).extBut.push _).push _))
end
noncomputable def yc(d:Addr)(o:Obj)(u:HO):It:=
 ⟨fun i H=>H d=some (.aL o u)/\i<wz u,fun i H x H'=>H'=H/\∃v,Hc H u i x v,fun i H=>H d=some (.aL o u)/\wz u<=i⟩
theorem Og{w:World}{d it:Addr}{es:Array afb}{ep:Nat}(hu:fE u)(hd:o.data=.dict es ep) :
  Turn P w K tg (yc d o u) [it] it (fun i h=>h.IsKeyIter it d i es.size ep) where
 mem:=by simp
 obj:=fun i h ⟨ob,st,hc,YE⟩ b hb=>by
  have:b=it:=by simpa using hb
  subst this;exact⟨ob,st,fun v z=>by rw[YE] at z;cases z⟩
 keep:=fun i h h' ⟨ob,st,r⟩ k=>⟨ob,k it (by simp) _ st,r⟩
 item:=by
  intro X hP hw hK hc i pins s σ H E I hf st hg;subst hP hw hK;obtain⟨hg,hi⟩:=hg;obtain⟨h1,h2⟩:=(show dr X.prog X.w H s.heap d (.aL o u) from I.aH d _ hg)
  obtain⟨hl,he⟩:=F6 hu h2 h1 hd;have gj:i<es.size:=by rw[<- hl];exact hi
  have hx:es[i]? =some es[i]:=by simp[gj]
  obtain⟨y,v,hE,ry,rv⟩:=he i _ hx;obtain⟨f0,f1,f2,f3,f4,f5⟩:=hf it (by simp);refine Of st h1 hd hx fun h' cJ sb=>?_
  have I1:Inv X pins σ H { s with heap:=h' }:=I.turned (t':=s.toks) (fun b o hb e=>(sb.2 b hb).trans e) f0 f1 f3 f4 f5;obtain⟨ob,e,c,d⟩:=id cJ;exact⟨_,rfl,we (s:={ s with heap:=h' }) e c d (by decide) ⟨y,H,I1,ry,⟨rfl,v,hE⟩,cJ,fun b hb=>(hf b hb).1⟩⟩
 done:=by
  intro X hP hw hK hc i pins s σ H E I hf st hg;subst hP hw hK;obtain⟨hg,hi⟩:=hg;obtain⟨h1,h2⟩:=(show dr X.prog X.w H s.heap d (.aL o u) from I.aH d _ hg)
  obtain⟨hl,_⟩:=F6 hu h2 h1 hd;obtain⟨f0,f1,f2,f3,f4,f5⟩:=hf it (by simp);exact Pr (I.ok.hd hc) st h1 hd (by rw[<- hl];exact hi) fun h' eb=>⟨rfl,I.turned (t':=s.toks) (fun b o hb e=>eb b o hb e) f0 f1 f3 f4 f5⟩
 self:=fun _ _ _ _ _ st h=>wpAny_pyIter_keyiter st h
noncomputable def A5(X:Cx)(ta:TE):TI:=fun σ H R=>ta σ H fun x H1=>∃d u,x=.ref d/\H1 d=some u/\fE u/\∀o,o.cls=.type "dict"->NF X d->R (yc d o u) (upd H1 d (.aL o u))
theorem Ga{e:Expr}{ta:TE}(he:PE X e ta):PI X tg e (A5 X ta):=by
 intro pins s σ H R I h;refine bb (he pins s σ H _ I h) fun v s1 ⟨x,H1,I1,r1,d,u,ex,hd,hu,q⟩=>?_
 subst ex;obtain rfl:v=abv d:=r1;obtain⟨ob,es,ep,h1,h2,h3,h4,nf,I2⟩:=NA I1 hd hu;refine Oe h4 h1 h2 h3 ?_;refine⟨_,[s1.heap.objs.size],_,_,_,rfl,I2.kept (t':=s1.toks) fun b o e=>aas _ e,Og hu h3,⟨_,aaI _ rfl,rfl,rfl⟩,fun b hb=>?_,q ob h2 nf⟩;have:b=s1.heap.objs.size:=by simpa using hb
 subst this;exact I2.rW (aat _) (I2.aH.fresh (aat _))
noncomputable def gx(kws:List (W×W)):List W:=kws.map (·.1)
noncomputable def rk(m:EM)(cap:List (Option Nat))(g:GM)(c:TM)(e:EM):EM:=fun σ=>au (m σ) fun w ph=>match eQ w ph with
 | some p=>au (eP (fun _=>true) g c e ph.length (gx p.2) (fF cap σ)) (fun _=>A4 p.1 p.2 ph.length) (ph.set p.1 (.cF p.2)++[.lst []])
 | none=>.no
theorem Ru{d:Addr}{kws:List (W×W)}(e:H d=some (.aL o u))(r:(∃kvs,u=.dK kvs/\bX K φ n H kws kvs)\/∃kvs,u=.dT kvs/\ce K φ n H kws kvs) :
  pf K (yc d o u) (gx kws) (fun _=>true) φ n H:=by
 intro a8 aI H2 bj s2 _ j;have e2:=s2.aL _ _ _ e;have hl:wz u=(gx kws).length:=by
  unfold gx;rw[aan]
  rcases r with⟨kvs,rfl,r⟩ | ⟨kvs,rfl,r⟩
  ·exact r.len.symm
  ·exact r.len.symm
 refine⟨fun w hw=>⟨⟨e2,by rw[hl];exact(aam.mp hw).1⟩,fun x gE hy=>?_⟩,fun hn=>⟨e2,by rw[hl];simpa using hn⟩⟩;obtain⟨rfl,v,hE⟩:=hy;refine⟨bj,Step.refl,?_⟩;unfold gx at hw;rw[aau] at hw
 rcases r with⟨kvs,rfl,r⟩ | ⟨kvs,rfl,r⟩
 ·obtain⟨k,ek,rfl⟩:=hE;obtain⟨w',ew,fR⟩:=(r.mono s2).get ek;rw[ew] at hw;cases hw;exact Pj k
 ·obtain⟨k,b,ek,rfl,hb⟩:=hE;obtain⟨w',ew,fR⟩:=(r.mono s2).get ek;rw[ew] at hw;cases hw;exact .tup hb (yS k)
section
variable{X:Cx}{tg elt o:Expr}{ifs:List Expr}{scope:Scope}{pos:Pos}{N:List Str}{cap:List (Option Nat)}{m:EM}{g:GM}{c:TM}{e:EM}
theorem HP{aq:Nat->Addr}{ph1:PH}{H1:Hp}{i:Nat}{kws:List (W×W)}{w:W}{v:V}(ay:aD X.K aq ph1 H1)(r1:aK X.K aq ph1.length H1 w v)(hp:eQ w ph1=some (i,kws)) :
  ∃u,v=.ref (aq i)/\i<ph1.length/\H1 (aq i)=some u/\fE u/\∀o:Obj,o.cls=.type "dict"->Step X.K aq ph1.length H1 aq ph1.length (upd H1 (aq i) (.aL o u))/\aD X.K aq (ph1.set i (.cF kws)) (upd H1 (aq i) (.aL o u)) /\
   pf X.K (yc (aq i) o u) (gx kws) (fun _=>true) aq (ph1.set i (.cF kws)).length (upd H1 (aq i) (.aL o u)):=by
 obtain⟨rfl,hi,hd,rfl⟩:=nL ay r1 hp;have key:∃u,H1 (aq i)=some u/\fE u/\((∃kvs,u=.dK kvs/\bX X.K aq ph1.length H1 kws kvs)\/∃kvs,u=.dT kvs/\ce X.K aq ph1.length H1 kws kvs):=by
  rcases ay.hp i _ hd with⟨kvs,q,r⟩ | ⟨kvs,q,r⟩
  ·exact⟨_,q,trivial,.inl ⟨kvs,rfl,r⟩⟩
  ·exact⟨_,q,trivial,.inr ⟨kvs,rfl,r⟩⟩
 obtain⟨u,jq,fV,hr⟩:=key;refine⟨u,rfl,hi,jq,fV,fun o ho=>?_⟩;have sf:=mf (K:=X.K) (φ:=aq) (n:=ph1.length) (y:=HO.aL o u) jq (F5 fV);have lP:(∃kvs,u=.dK kvs/\bX X.K aq ph1.length (upd H1 (aq i) (.aL o u)) kws kvs)\/∃kvs,u=.dT kvs/\ce X.K aq ph1.length (upd H1 (aq i) (.aL o u)) kws kvs:=by
  rcases hr with⟨kvs,q,r⟩ | ⟨kvs,q,r⟩
  ·exact .inl ⟨kvs,q,r.mono sf⟩
  ·exact .inr ⟨kvs,q,r.mono sf⟩
 have bj:aD X.K aq (ph1.set i (.cF kws)) (upd H1 (aq i) (.aL o u)):=ay.put hd rfl ⟨o,ho,by
  rcases lP with⟨kvs,rfl,r⟩ | ⟨kvs,rfl,r⟩
  ·exact .inl ⟨kvs,cj,r⟩
  ·exact .inr ⟨kvs,cj,r⟩⟩
 have hl:(ph1.set i (.cF kws)).length=ph1.length:=abg ..;exact⟨sf,bj,Ru (K:=X.K) (φ:=aq) (n:=(ph1.set i (.cF kws)).length) (H:=upd H1 (aq i) (.aL o u)) (o:=o) (d:=aq i) (kws:=kws) cj (by rw[hl];exact lP)⟩
theorem Oh{σ:L2.St}{H:Hp}{Q:VK}(h:tM X (rk m cap g c e) σ H Q):rK (A5 X (tM X m)) cap (xV X.K g) (kJ X.K c) (xU X.K e) σ H (QT X Q):=by
 obtain⟨φ,ph,ws,hH,hS,h⟩:=h;refine tM.bind hH hS h fun w ph1 aq H1 v ay s1 r1 h=>?_
 cases hp:eQ w ph1 with
 | none=>rw[hp] at h;exact h.elim
 | some p=>
  obtain⟨i,kws⟩:=p;rw[hp] at h;simp only[] at h;rw[cS] at h;obtain⟨u,rfl,hi,jq,fV,fz⟩:=HP ay r1 hp;refine⟨aq i,u,rfl,jq,fV,fun o ho nf D hD=>?_⟩;obtain⟨sf,bj,hJ⟩:=fz o ho;have hl:(ph1.set i (.cF kws)).length=ph1.length:=abg ..;refine EZ (ws:=ws) bj (by rw[hl];exact(hS.mono s1).mono sf) hJ hD ?_;rw[hl];refine Out.Run.mono h (fun _ aI h2 ap H' v r' cJ rv=>?_) fun _ _ _=>trivial
  have mQ:ap i=aq i:=cJ.eq i hi;have kL:H' (aq i)=some (.aL o u):=cJ.aL _ _ _ cj;have pC:ph1.length<=aI.length:=cJ.le;refine⟨aq i,o,u,kL,fV,nf,?_⟩;unfold A4 at h2;split at h2
  ·rename_i hw;have sZ:i<aI.length:=aay hi pC;have t1:=r'.cq sZ (by rw[mQ];exact kL) fV hw;rw[mQ] at t1;have fS:(aI.set i (PO.aG kws)).length=aI.length:=abg ..;exact h2 ap _ v t1 (by rw[fS];exact s1.trans (yR jq fV cJ)) (by rw[fS];exact rv.cq kL fV ho)
  ·exact h2.elim
end
noncomputable def wG(y:W)(ph:PH):Option (List (W×W)):=match y with
 | .ref i=>match ph[i]? with
  | some (.cF kws)=>some kws
  | _=>none
 | _=>none
noncomputable def jK:W->W->Po W:=fun x y ph=>match wG x ph with
 | some kws=>if d0 kws y=true then(dg kws y).map fun w=>(w,ph) else none
 | none=>none
theorem Oi{kws:List (W×W)}{w:W}(hH:aD K φ ph H)(hd:ph[i]? =some (.cF kws))(r:aK K φ ph.length H x v)(hk:d0 kws x=true)(hw:dg kws x=some w):∃u,gy H (φ i) v (some u)/\aK K φ ph.length H w u:=by
 have fin:∀{o:Option V},oP K φ ph.length H (dg kws x) o->gy H (φ i) v o->∃u,gy H (φ i) v (some u)/\aK K φ ph.length H w u:=fun{o} ro g=>by
  rw[hw] at ro;cases o with
  | none=>exact ro.elim
  | some u=>exact⟨u,g,ro⟩
 unfold d0 at hk;rw[acU,aaG,aaG] at hk;obtain⟨o,hc,hp⟩:=hH.hp _ _ hd
 rcases hk with⟨h1,h2⟩ | ⟨h1,h2⟩
 ·obtain⟨k,hk⟩:=abt.mp h1;have:=vJ hk;subst this;have:=wu r;subst this
  rcases hp with⟨kvs,q,rd⟩ | ⟨kvs,q,rd⟩
  ·exact fin (rd.val k) (.inl ⟨kvs,k,.inr ⟨o,q⟩,rfl,rfl⟩)
  ·obtain⟨rfl,rfl⟩:=rd.xl h2;cases hw
 ·obtain⟨ks,hk⟩:=abt.mp h1;have:=zK hk;subst this;obtain⟨b,rfl,hb⟩:=Ad r
  rcases hp with⟨kvs,q,rd⟩ | ⟨kvs,q,rd⟩
  ·obtain⟨rfl,rfl⟩:=rd.Dp h2;cases hw
  ·exact fin (rd.val ks) (.inr ⟨kvs,ks,b,.inr ⟨o,q⟩,rfl,hb,rfl⟩)
theorem Uv:de K (fun x y H Q=>xM K x y H Q\/∃a v,x=.ref a/\gy H a y (some v)/\Q v H) jK:=by
 intro φ ph H x y vx vy w ph' Q hH rx ry e k;unfold jK at e;cases hf:wG x ph with
 | none=>rw[hf] at e;cases e
 | some kws=>
  rw[hf] at e;simp only at e;split at e
  ·rename_i hk;obtain⟨u,hu,e⟩:=aaA.mp e;cases e;unfold wG at hf;cases rx with
   | ref hi=>
    rename_i i;simp only at hf;split at hf
    ·rename_i hd;cases hf;obtain⟨v,g,rv⟩:=Oi hH hd ry hk hu;exact .inr ⟨_,v,rfl,g,k φ H _ hH Step.refl rv⟩
    ·cases hf
   | _=>cases hf
  ·cases e
theorem fU.yd{b:Expr}{N:List Str}{sc:Scope}{k:Nat}(B:fU X N sc k)(ha:JE X a ma)(hb:JE X b mb)(hp:vG b:=by intro _ _;rfl):JE X (.Subscript a b pos) (ae jK ma mb):=
 ⟨PE.imp (G2 (iQ.or Gx (F4 (rC B.room))) ha.h hb.h hp) fun _ _ _ h=>qO Uv h⟩
noncomputable def A6(i:Nat)(kws:List (W×W))(f:Fl):Mo Fl:=fun ph=>match f with
 | .nx σ=>if ph[i]? =some (.cF kws) then .ok (.nx σ) (ph.set i (.aG kws)) else .no
 | .rt w=>if ph[i]? =some (.cF kws) then .ok (.rt w) (ph.set i (.aG kws)) else .no
 | _=>.no
noncomputable def rR(m:EM)(g:GM)(b:SM):SM:=fun σ=>au (m σ) fun w ph=>match eQ w ph with
 | some p=>au (eV (cH (fun _=>true) g b (gx p.2) σ)) (A6 p.1 p.2) (ph.set p.1 (.cF p.2))
 | none=>.no
theorem bt.cq{K:aao}{φ:Nat->Addr}{n:Nat}{H:Hp}{d:Addr}{o:Obj}{u:HO}(e:H d=some (.aL o u))(hu:fE u)(hc:o.cls=.type "dict"):∀{ws:aS} {vs:L2.St},bt K φ n H ws vs->bt K φ n (upd H d u) ws vs
 | _,_,.nil=>.nil
 | _,_,.sm h r=>.sm (h.cq e hu hc) (bt.cq e hu hc r)
 | _,_,.nn r=>.nn (bt.cq e hu hc r)
section
variable{X:Cx}{o tg:Expr}{m:EM}{g:GM}{b:SM}{body:List Stmt}{pos:Pos}
theorem Pu{D:Ends}{σ:L2.St}{H1:Hp}{aq:Nat->Addr}{ph1:PH}{ws:aS}{J:It}{items:List W}{chk:PH->Bool}(ay:aD X.K aq ph1 H1)(hS:bt X.K aq ph1.length H1 ws σ)(hJ:pf X.K J items chk aq ph1.length H1)
  (h:(cH chk g b items ws ph1).Run (fun f ph'=>∀ap H',aD X.K ap ph' H'->Step X.K aq ph1.length H1 ap ph'.length H'->ja X D ap ph' H' f) (XE X aq ph1.length H1)) :
  ∃W:Nat->Nat->L2.St->Hp->Prop,(∃m,W 0 m σ H1)/\∀i m σ H,W i m σ H →
   (J.stop i H/\D.nx σ H)\/(J.go i H/\∃N:L2.St->Hp->Prop,(∀ao H',N ao H'->∃m',m'<m/\W (i+1) m' ao H')/\∀x H',J.o1 i H x H'->tG X g x σ H' fun bw H2=>tS X b { D with nx:=N,ct:=N,bk:=D.nx } bw H2):=by
 refine⟨fun i m bw H2=>∃a8 aI eW,m=(items.drop i).length/\aD X.K a8 aI H2/\bt X.K a8 aI.length H2 eW bw/\Step X.K aq ph1.length H1 a8 aI.length H2 /\
   (cH chk g b (items.drop i) eW aI).Run (fun f ph'=>∀ap H',aD X.K ap ph' H'->Step X.K a8 aI.length H2 ap ph'.length H'->ja X D ap ph' H' f) (XE X a8 aI.length H2),
  ⟨_,aq,ph1,ws,rfl,ay,hS,Step.refl,h⟩,?_⟩
 rintro i m bw H2 ⟨a8,aI,eW,rfl,bj,ik,s2,h2⟩;cases hd:items.drop i with
 | nil=>
  rw[hd] at h2;unfold cH at h2;split at h2
  ·rename_i hc;have hn:items[i]? =none:=by
    have:items.length<=i:=by simpa using hd
    simpa using this
   exact .inl ⟨(hJ a8 _ H2 bj s2 hc i).2 hn,h2 a8 H2 bj Step.refl bw ik⟩
  ·exact h2.elim
 | cons x xs=>
  rw[hd] at h2;unfold cH at h2;split at h2
  ·rename_i hc;have hx:items[i]? =some x:=by
    have:=congrArg (fun l=>l[0]?) hd
    simpa using this
   have jQ:items.drop (i+1)=xs:=by
    have:=congrArg (fun l=>l.drop 1) hd
    simpa[afC,aff] using this
   obtain⟨kD,hy⟩:=(hJ a8 _ H2 bj s2 hc i).1 x hx;refine .inr ⟨kD,fun ao H'=>∃ap d5 bQ,aD X.K ap d5 H'/\bt X.K ap d5.length H' bQ ao/\Step X.K aq ph1.length H1 ap d5.length H' /\
     (cH chk g b xs bQ d5).Run (fun f p'=>∀eD H3,aD X.K eD p' H3->Step X.K ap d5.length H' eD p'.length H3->ja X D eD p' H3 f) (XE X ap d5.length H'),
    fun ao H' ⟨ap,d5,bQ,q1,q2,q3,q4⟩=>⟨xs.length,by simp,ap,d5,bQ,by rw[jQ],q1,q2,q3,by rw[jQ];exact q4⟩,fun v H3 y=>?_⟩
   obtain⟨cX,s3,rv⟩:=hy v H3 y;have C5:(au (g x eW) (fun σ1=>au (b σ1) fun f=>match f with
    | .nx ao=>cH chk g b xs ao
    | .ct ao=>cH chk g b xs ao
    | .bk ao=>aA (.nx ao)
    | .rt w=>aA (.rt w)) aI).Run (fun f ph'=>∀ap H',aD X.K ap ph' H'->Step X.K a8 aI.length H2 ap ph'.length H'->ja X D ap ph' H' f) (XE X a8 aI.length H3):=Out.Run.mono h2 (fun _ _ z=>z) fun _ _ z=>z.step s3
   refine tG.bind cX (ik.mono s3) rv C5 fun C6 kE l6 H4 jt lM s4 C7 h4=>?_
   rw[cS] at h4;refine⟨l6,kE,C6,lM,C7,h4.mono (fun f jR h5 fI H5 fH s5=>?_) fun _ _ z=>z⟩;have ls:=((s2.trans s3).trans s4).trans s5;have gZ:=(s3.trans s4).trans s5;cases f with
   | nx eX=>exact fun fJ eL=>⟨fI,jR,eX,fH,eL,ls,h5.mono (fun f p' k ap H' r' s'=>k ap H' r' (gZ.trans s')) fun _ _ z=>z.step s5⟩
   | ct eX=>exact fun fJ eL=>⟨fI,jR,eX,fH,eL,ls,h5.mono (fun f p' k ap H' r' s'=>k ap H' r' (gZ.trans s')) fun _ _ z=>z.step s5⟩
   | bk eX=>exact fun fJ eL=>h5 fI H5 fH gZ fJ eL
   | rt w=>exact fun v hv=>h5 fI H5 fH gZ v hv
  ·exact h2.elim
noncomputable def Hf(X:Cx)(D:Ends):Ends:={ D with nx:=fun σ H'=>∃d o u,H' d=some (.aL o u)/\fE u/\NF X d/\D.nx σ (upd H' d u),rt:=QT X D.rt }
theorem Pw{D:Ends}{σ:L2.St}{H:Hp}(h:tS X (rR m g b) D σ H):BO (A5 X (tM X m)) (tG X g) (tS X b) (Hf X D) σ H:=by
 obtain⟨φ,ph,ws,hH,hS,h⟩:=h;refine tM.bind hH hS h fun w ph1 aq H1 v ay s1 r1 h=>?_
 cases hp:eQ w ph1 with
 | none=>rw[hp] at h;exact h.elim
 | some p=>
  obtain⟨i,kws⟩:=p;rw[hp] at h;simp only[] at h;rw[cS] at h;obtain⟨u,rfl,hi,jq,fV,fz⟩:=HP ay r1 hp;refine⟨aq i,u,rfl,jq,fV,fun o ho nf=>?_⟩;obtain⟨sf,bj,hJ⟩:=fz o ho;have hl:(ph1.set i (.cF kws)).length=ph1.length:=abg ..;refine Pu (ws:=ws) bj (by rw[hl];exact(hS.mono s1).mono sf) hJ ?_;refine Out.Run.mono (vq h) (fun f aI h2 ap H' r' cJ=>?_) fun _ _ z=>z
  rw[hl] at cJ;have mQ:ap i=aq i:=cJ.eq i hi;have kL:H' (aq i)=some (.aL o u):=cJ.aL _ _ _ cj;have pC:ph1.length<=aI.length:=cJ.le;have sZ:i<aI.length:=aay hi pC;have fS:(aI.set i (PO.aG kws)).length=aI.length:=abg ..;have th:aI[i]? =some (.cF kws)->aD X.K ap (aI.set i (.aG kws)) (upd H' (aq i) u):=fun hw=>by
   have t1:=r'.cq sZ (by rw[mQ];exact kL) fV hw;rw[mQ] at t1;exact t1
  unfold A6 at h2;cases f with
  | nx bQ=>
   simp only at h2;split at h2
   ·rename_i hw;exact fun ao Dy=>⟨aq i,o,u,kL,fV,nf,h2 ap _ (th hw) (by rw[fS];exact s1.trans (yR jq fV cJ)) ao (by rw[fS];exact bt.cq kL fV ho Dy)⟩
   ·exact h2.elim
  | rt w=>
   simp only at h2;split at h2
   ·rename_i hw;exact fun v hv=>⟨aq i,o,u,kL,fV,nf,h2 ap _ (th hw) (by rw[fS];exact s1.trans (yR jq fV cJ)) v (by rw[fS];exact hv.cq kL fV ho)⟩
   ·exact h2.elim
  | bk bQ=>exact h2.elim
  | ct bQ=>exact h2.elim
theorem Bd.V5{N:List Str}{sc:Scope}{k:Nat}(B:Bd X N sc k)(ho:JE X o m)(hg:JG X tg g)(hb:JB X body b)(hs:∀x,abp o X.env x=pure x:=by intro _;rfl):JS X (.For tg o body [] pos) (rR m g b):=
 ⟨fun pins s σ H D I h=>bb (Gs B.xi B.calm (Ga ho.h) hg.h hb.h hs pins s σ H (Hf X D) I (Pw h)) fun f s' q=>by
  cases f with
  | next=>
   obtain⟨ao,H',I',d,o,u,e,hu,nf,q⟩:=q;exact⟨ao,_,zh I' e hu nf,q⟩
  | brk=>exact q
  | cont=>exact q
  | ret v=>
   obtain⟨v,ao,H',I',r,d,o,u,e,hu,nf,q⟩:=q;exact⟨v,ao,_,zh I' e hu nf,r,q⟩⟩
end
open PySem L2
section
variable{α β γ:Type}
theorem fD(a:α)(f:α->Mo β):au (aA a) f=f a:=rfl
theorem zM(f:α->Mo β):au (eJ:Mo α) f=eJ:=rfl
theorem zN(x:XC)(f:α->Mo β):au (Dn x:Mo α) f=Dn x:=rfl
theorem dS(m:Mo α)(f:α->Mo β)(g:β->Mo γ):au (au m f) g=au m fun a=>au (f a) g:=by
 funext ph;unfold au;cases m ph <;> rfl
theorem zO{c:Prop}[Decidable c](a b:Mo α)(f:α->Mo β):au (if c then a else b) f=if c then au a f else au b f:=by split <;> rfl
theorem bg{m:Mo α}{f:α->Mo β}{ph ph':PH}{a:α}(h:m ph=.ok a ph'):au m f ph=f a ph':=by unfold au;rw[h]
theorem Ag(a:α)(ph:PH):aA a ph=.ok a ph:=rfl
theorem Ai(x:XC)(ph:PH):(Dn x:Mo α) ph=.ex x ph:=rfl
theorem zk(a:α):lift (ret a)=aA a:=rfl
theorem Aj{c:Prop}[Decidable c](a b:Mo α)(ph:PH):(if c then a else b) ph=if c then a ph else b ph:=by split <;> rfl
end
theorem Ak(w:W)(σ:aS):aa 0 (some w::σ)=aA w:=rfl
theorem Al(i:Nat)(x:Option W)(σ:aS):aa (i+1) (x::σ)=aa i σ:=rfl
variable{σ:aS}
theorem Rv{w:W}(h:σ[i]? =some (some w)):aa i σ=aA w:=by
 funext ph;unfold aa lift;rw[h];rfl
theorem A7(w:W)(σ:aS):eC w σ=aA w:=rfl
theorem A8(i:Nat)(w:W)(σ:aS):gN i w σ=aA (σ.set i (some w)):=rfl
theorem hX(f:W->W->Po W)(a b:EM)(σ:aS):ae f a b σ=au (a σ) fun x=>au (b σ) fun y=>lift (f x y):=rfl
theorem Am(f:W->Po W)(a:EM)(σ:aS):jO f a σ=au (a σ) fun x=>lift (f x):=rfl
theorem mK(m:EM)(σ:aS):eT m σ=au (m σ) fun w=>lift (match w with
 | .bl b=>ret b
 | _=>fc):=rfl
theorem mn(m:EM)(σ:aS):eU m σ=au (m σ) fun w=>lift (oH w):=rfl
theorem kT(a b:TM)(σ:aS):fq a b σ=au (a σ) fun c=>if c=true then b σ else aA false:=rfl
theorem mq(a b:TM)(σ:aS):dX a b σ=au (a σ) fun c=>if c=true then aA true else b σ:=rfl
theorem nQ(a:TM)(σ:aS):gw a σ=au (a σ) fun c=>aA (!c):=rfl
theorem rm(t:TM)(a b:EM)(σ:aS):lL t a b σ=au (t σ) fun c=>if c=true then a σ else b σ:=rfl
theorem kY(a b:SM)(σ:aS):av a b σ=au (a σ) fun f=>match f with
 | .nx ao=>b ao
 | f=>aA f:=rfl
theorem rp(t:TM)(a b:SM)(σ:aS):aV t a b σ=au (t σ) fun c=>if c=true then a σ else b σ:=rfl
theorem qQ(e:EM)(σ:aS):aW e σ=au (e σ) fun w=>aA (.rt w):=rfl
theorem zl(σ:aS):aZ σ=aA (.nx σ):=rfl
theorem vA(e:EM)(σ:aS):cO e σ=au (e σ) fun _=>aA (.nx σ):=rfl
theorem jw(e:EM)(g:GM)(σ:aS):ax e g σ=au (e σ) fun w=>au (g w σ) fun ao=>aA (.nx ao):=rfl
theorem nR(f:List W->Mo W)(a:AM)(σ:aS):aC f a σ=au (a σ) f:=rfl
theorem vg(f:List W->Po W)(a:AM)(σ:aS):aX f a σ=au (a σ) fun xs=>lift (f xs):=rfl
theorem ka(σ:aS):af σ=aA []:=rfl
theorem iA(e:EM)(r:AM)(σ:aS):ab e r σ=au (e σ) fun w=>au (r σ) fun ws=>aA (w::ws):=rfl
theorem qR(a:AM)(σ:aS):aQ a σ=au (a σ) fun ws=>lift (ko ws):=rfl
theorem kb(a:AM)(σ:aS):aR a σ=au (a σ) fun ws=>lift (lx ws):=rfl
theorem An(c:String)(m:EM)(σ:aS):kI c m σ=au (m σ) fun w=>lift (iV c w):=rfl
theorem nX(a b:EM)(σ:aS):jb a b σ=au (a σ) fun w=>match w with
 | .bl c=>if c=true then b σ else aA (.bl false)
 | _=>eJ:=rfl
theorem Ao(a b:EM)(σ:aS):XZ a b σ=au (a σ) fun w=>match w with
 | .bl c=>if c=true then aA (.bl true) else b σ
 | _=>eJ:=rfl
theorem zP(a:EM)(σ:aS):w8 a σ=au (a σ) fun w=>match w with
 | .bl c=>aA (.bl (!c))
 | _=>eJ:=rfl
theorem yU(f f':W->W->Po W)(a b c:EM)(σ:aS):k5 f f' a b c σ=au (a σ) fun x=>au (b σ) fun y=>au (lift (f x y)) fun z=>match z with
 | .bl k=>if k=true then au (c σ) fun u=>lift (f' y u) else aA (.bl false)
 | _=>eJ:=rfl
theorem vB(ty:W->PH->Bool)(f:W->List W->Po W)(o:EM)(a:AM)(σ:aS):cz ty f o a σ=au (o σ) fun x=>au (lift (oJ (ty x))) fun _=>au (a σ) fun xs=>lift (f x xs):=rfl
theorem zQ(w:W):dY (.rt w)=aA w:=rfl
theorem zR(σ:aS):dY (.nx σ)=aA .aJ:=rfl
theorem gf(b:SM)(n:Nat)(x:W):fM b n 1 [x]=au (b (some x::aaF (n-1) none)) dY:=rfl
theorem gU(b:SM)(n:Nat)(x y:W):fM b n 2 [x,y]=au (b (some x::some y::aaF (n-2) none)) dY:=rfl
theorem ia(b:SM)(n:Nat)(x y z:W):fM b n 3 [x,y,z]=au (b (some x::some y::some z::aaF (n-3) none)) dY:=rfl
theorem xn(b:SM)(n:Nat)(x y z u:W):fM b n 4 [x,y,z,u]=au (b (some x::some y::some z::some u::aaF (n-4) none)) dY:=rfl
theorem A9(i j:Int):lift (addW (.int i) (.int j))=aA (.int (i+j)):=rfl
theorem Bb(i j:Int):lift (dj (.int i) (.int j))=aA (.int (i-j)):=rfl
theorem Bc(i:Int):lift (jc (.int i))=aA (.int (-i)):=rfl
theorem gO{i j:Int}(h:mulC i j=true):lift (mN (.int i) (.int j))=aA (.int (i*j)):=by
 unfold mN;simp only[h,if_true];rfl
theorem bZ{i j:Int}(h:j≠0):lift (aN (.int i) (.int j))=aA (.int (i.fmod j)):=by
 unfold aN oF;simp only[ne_eq,h,not_false_eq_true,decide_true,if_true];rfl
theorem dI{i j:Int}(h:j≠0)(h':j.natAbs<2 ^ 64):lift (bS (.int i) (.int j))=aA (.int (i.fdiv j)):=by
 unfold bS oF;simp only[ne_eq,h,h',not_false_eq_true,decide_true,afV,if_true];rfl
theorem B7(i j:Int):lift (dB (.int i) (.int j))=aA (.bl (decide (i<j))):=rfl
theorem B8(i j:Int):lift (kG (.int i) (.int j))=aA (.bl (decide (i<=j))):=rfl
theorem B9(i j:Int):lift (kH (.int i) (.int j))=aA (.bl (decide (j<i))):=rfl
theorem Ca(i j:Int):lift (X4 (.int i) (.int j))=aA (.bl (decide (j<=i))):=rfl
theorem Be(i:Int):lift (mO [.int i])=aA (.int i):=rfl
theorem Ap(b:Bool):lift (mO [.bl b])=aA (.int (if b then 1 else 0)):=rfl
theorem Bg(i:Int):lift (WS [.int i])=aA (.int (if i<0 then -i else i)):=rfl
theorem Bh(i j:Int):lift (rM [.int i,.int j])=aA (.int (if j>i then j else i)):=rfl
theorem Bj(i j:Int):lift (rN [.int i,.int j])=aA (.int (if j<i then j else i)):=rfl
theorem Cb(b:Bool):lift (match W.bl b with
 | .bl b=>ret b
 | _=>fc)=aA b:=rfl
theorem Aq(b:Bool):lift (oH (.bl b))=aA b:=rfl
theorem Ar(i:Int):lift (oH (.int i))=aA (i != 0):=rfl
theorem As(ws:List W):lift (oH (.tup ws))=aA (!ws.isEmpty):=rfl
theorem lb(i j:Int):lift (aY (.int i) (.int j))=aA (.bl (decide (i=j))):=by
 funext ph;unfold aY fw lift;simp only[dat];rfl
theorem Bk(i j:Int):lift (dJ (.int i) (.int j))=aA (.bl (!decide (i=j))):=by
 funext ph;unfold dJ fw lift;simp only[dat];rfl
theorem so(s:String):adq (aaC s)=true:=by
 unfold adq;rw[adB];simp only[List.all_toArray,abJ,aaD,decide_eq_true_eq];rintro n ⟨c,_,rfl⟩;have h:=c.valid;simp only[UInt32.isValidChar,Nat.isValidChar] at h;show c.val.toNat<_;omega
theorem rq{a b:String}:aaC a=aaC b↔a=b:=by
 constructor
 ·intro h;rw[adB,adB] at h;have h:=congrArg agd (Str.mk.inj h);simp only[List.toList_toArray] at h;have mi:∀l l':List Char,l.map Char.toNat=l'.map Char.toNat->l=l':=by
   intro l
   induction l with
   | nil=>intro l' h;cases l' with
    | nil=>rfl
    | cons _ _=>cases h
   | cons x l ih=>intro l' h;cases l' with
    | nil=>cases h
    | cons y l'=>
     have:=ady h;rw[ih l' this.2,Char.ext (UInt32.toNat_inj.mp this.1)]
  have q:a.toList=b.toList:=mi _ _ h;exact String.toList_inj.mp q
 ·intro h;rw[h]
theorem V6{a b:Str}(ha:adq a=true)(hb:adq b=true):lift (aY (.str a) (.str b))=aA (.bl (decide (a=b))):=by
 funext ph;unfold aY fw lift;simp only[dat,ha,hb,if_true];rfl
theorem V7{a b:Str}(ha:adq a=true)(hb:adq b=true):lift (dJ (.str a) (.str b))=aA (.bl (!decide (a=b))):=by
 funext ph;unfold dJ fw lift;simp only[dat,ha,hb,if_true];rfl
theorem Bl(a b:String):lift (aY (.str (aaC a)) (.str (aaC b)))=aA (.bl (decide (a=b))):=by
 rw[V6 (so a) (so b)];simp only[rq]
theorem Bm(a b:String):lift (dJ (.str (aaC a)) (.str (aaC b)))=aA (.bl (!decide (a=b))):=by
 rw[V7 (so a) (so b)];simp only[rq]
theorem Bn(a b:Bool):lift (dJ (.bl a) (.bl b))=aA (.bl (!(a==b))):=by
 funext ph;unfold dJ fw lift;simp only[dat];rfl
theorem sg(c:String)(w:W)(t:String)(h:∀ph,rJ w ph=some t):lift (iV c w)=aA (.bl (ft t c)):=by
 funext ph;unfold lift iV;rw[h];rfl
theorem Cc(c:String)(i:Int):lift (iV c (.int i))=aA (.bl (ft "int" c)):=sg _ _ _ fun _=>rfl
theorem Cd(c:String)(b:Bool):lift (iV c (.bl b))=aA (.bl (ft "bool" c)):=sg _ _ _ fun _=>rfl
theorem Ce(c:String):lift (iV c .aJ)=aA (.bl (ft "NoneType" c)):=sg _ _ _ fun _=>rfl
theorem Cf(c:String)(x:Str):lift (iV c (.str x))=aA (.bl (ft "str" c)):=sg _ _ _ fun _=>rfl
theorem Cg(c:String)(ws:List W):lift (iV c (.tup ws))=aA (.bl (ft "tuple" c)):=sg _ _ _ fun _=>rfl
theorem Ci:ft "int" "int"=true:=by decide +kernel
theorem Cj:ft "int" "bool"=false:=by decide +kernel
theorem Ck:ft "bool" "int"=true:=by decide +kernel
theorem Cm:ft "bool" "bool"=true:=by decide +kernel
theorem Cn:ft "NoneType" "int"=false:=by decide +kernel
theorem Co:ft "str" "int"=false:=by decide +kernel
theorem Cq:ft "list" "int"=false:=by decide +kernel
theorem Cr:ft "list" "list"=true:=by decide +kernel
theorem Cs:ft "tuple" "tuple"=true:=by decide +kernel
theorem Au:lift (ko [])=aA (.tup []):=rfl
theorem Av(a:W):lift (ko [a])=aA (.tup [a]):=rfl
theorem Aw(a b:W):lift (ko [a,b])=aA (.tup [a,b]):=rfl
theorem Ax(a b c:W):lift (ko [a,b,c])=aA (.tup [a,b,c]):=rfl
theorem Ay(a b c d:W):lift (ko [a,b,c,d])=aA (.tup [a,b,c,d]):=rfl
theorem Az(a b c d e:W):lift (ko [a,b,c,d,e])=aA (.tup [a,b,c,d,e]):=rfl
theorem Bo(a:W)(l:List W):lift (fg (.tup (a::l)) (.int 0))=aA a:=by
 funext ph;unfold lift fg cA gD;simp[cC,aA]
theorem Bp(a b:W)(l:List W):lift (fg (.tup (a::b::l)) (.int 1))=aA b:=by
 funext ph;unfold lift fg cA gD;simp[cC,aA];rw[if_pos (by omega)];simp
theorem Bq(a b c:W)(l:List W):lift (fg (.tup (a::b::c::l)) (.int 2))=aA c:=by
 funext ph;unfold lift fg cA gD;simp[cC,aA];rw[if_pos (by omega)];simp
theorem Br(a b c d:W)(l:List W):lift (fg (.tup (a::b::c::d::l)) (.int 3))=aA d:=by
 funext ph;unfold lift fg cA gD;simp[cC,aA];rw[if_pos (by omega)];simp
theorem Bs(a b c d e:W)(l:List W):lift (fg (.tup (a::b::c::d::e::l)) (.int 4))=aA e:=by
 funext ph;unfold lift fg cA gD;simp[cC,aA];rw[if_pos (by omega)];simp
noncomputable def ot:W->Bool
 | .aJ=>true
 | _=>false
theorem AA(w:W):lift (kh w .aJ)=aA (.bl (!ot w)):=by
 unfold kh;cases w <;> rfl
theorem Bt(w:W):lift (oM w .aJ)=aA (.bl (ot w)):=by
 unfold oM;cases w <;> rfl
theorem zS(i:Int):ot (.int i)=false:=rfl
theorem zT:ot .aJ=true:=rfl
theorem zU(ws:List W):ot (.tup ws)=false:=rfl
theorem zV(i:Nat):ot (.ref i)=false:=rfl
noncomputable def Ex(ph ph':PH):Prop:=∃m,ph'=ph++m
theorem Ex.refl(ph:PH):Ex ph ph:=⟨[],by simp⟩
theorem Ex.trans{a b c:PH}(h:Ex a b)(h':Ex b c):Ex a c:=by
 obtain⟨m,rfl⟩:=h;obtain⟨m',rfl⟩:=h';exact⟨m++m',by simp⟩
theorem Ex.one(ph:PH)(o:PO):Ex ph (ph++[o]):=⟨[o],rfl⟩
theorem Ex.get{a b:PH}(h:Ex a b){o:PO}(e:a[i]? =some o):b[i]? =some o:=by
 obtain⟨m,rfl⟩:=h;rw[aaM (aam.mp e).1];exact e
theorem Ex.len{a b:PH}(h:Ex a b):a.length<=b.length:=by obtain⟨m,rfl⟩:=h;simp
theorem bc(ph:PH)(o:PO):(ph++[o])[ph.length]? =some o:=by simp
theorem small(h:n<=1000000):n<=sizeLine:=aaN h (by decide)
section
variable{β:Type}{ph:PH}{i:Nat}{ws:List W}
theorem k8(ws:List W)(ph:PH)(h:ws.length<=aaH):lift (lx ws) ph=.ok (.ref ph.length) (ph++[.lst ws]):=by
 unfold lift lx;rw[if_pos h]
theorem gp(ws:List W)(f:W->Mo β)(ph:PH)(h:ws.length<=aaH):au (lift (lx ws)) f ph=f (.ref ph.length) (ph++[.lst ws]):=bg (k8 ws ph h)
theorem Uw(h:ph[i]? =some (.lst ws)){k:Int}{w:W}(hk:cA ws k=some w):lift (fg (.ref i) (.int k)) ph=.ok w ph:=by
 unfold lift fg;simp only[cC,h,aby,hk,abh]
theorem eF(h:ph[i]? =some (.lst ws)):lift (bv [.ref i]) ph=.ok (.int ws.length) ph:=by
 unfold lift bv;simp only[cC,h,abh]
theorem zW(h:ph[i]? =some (.lst ws)):bU (.ref i) ph=true:=by unfold bU;simp only[h]
theorem Gb(h:ph[i]? =some (.lst ws)):lift (oJ (bU (.ref i))) ph=.ok () ph:=by
 unfold lift oJ;rw[if_pos (zW h)]
theorem EH(h:ph[i]? =some (.lst ws))(hz:ws.length<aaH)(w:W):lift (cB (.ref i) [w]) ph=.ok .aJ (ph.set i (.lst (ws++[w]))):=by
 unfold lift cB;simp only[h,hz,if_true]
theorem Px(h:ph[i]? =some (.lst ws)):lift (mH [.ref i]) ph=.ok (.ref ph.length) (ph++[.lst ws]):=by
 unfold lift mH;simp only[cC,h]
theorem qS{j:Nat}{us:List W}(h:ph[i]? =some (.lst ws))(h':ph[j]? =some (.lst us))(hz:ws.length+us.length<=aaH):lift (addW (.ref i) (.ref j)) ph=.ok (.ref ph.length) (ph++[.lst (ws++us)]):=by
 unfold lift addW;simp only[h,h',hz,if_true]
end
theorem fA(a b:Int)(h:0<b):0<=a.fmod b/\a.fmod b<b:=by
 rw[Int.fmod_eq_emod_of_nonneg _ (by omega)];exact⟨Int.emod_nonneg _ (by omega),Int.emod_lt_of_pos _ h⟩
theorem gK(ws:List α)(k:Nat)(h:k<ws.length):cA ws (k:Int)=ws[k]? :=by
 unfold cA gD;rw[if_pos (by omega),if_pos (by omega)];rfl
theorem Ux(ws:List α)(d:Int)(h0:0<=d)(h:d<ws.length):∃w∈ws,cA ws d=some w:=by
 unfold cA gD;rw[if_pos h0,if_pos h];have hd:d.toNat<ws.length:=by omega
 exact⟨ws[d.toNat],acu hd,by simp[hd]⟩
theorem W8(ws:List W):lift (bv [.fl ws])=aA (.int ws.length):=by funext ph;rfl
theorem yd{i:Int}{w:W}(h:cA ws i=some w):lift (fg (.fl ws) (.int i))=aA w:=by
 funext ph;unfold lift fg;simp only[cC,aby,h,abh];rfl
theorem zm{chk:PH->Bool}{g:GM}{b:SM}(R:W->PH->Prop)(I:Nat->aS->PH->Prop):∀(items:List W) (k:Nat) (σ:aS) (ph:PH),
  (∀j σ ph,I j σ ph->chk ph=true) →
  (∀j x σ ph,items[j]? =some x->I (k+j) σ ph->∃σ1 ph1,g x σ ph=.ok σ1 ph1/\∃f aI,b σ1 ph1=.ok f aI/\((∃bw,(f=.nx bw\/f=.ct bw)/\I (k+j+1) bw aI)\/∃w,f=.rt w/\R w aI)) →
  I k σ ph->(∃ao ph',cH chk g b items σ ph=.ok (.nx ao) ph'/\I (k+items.length) ao ph')\/∃w ph',cH chk g b items σ ph=.ok (.rt w) ph'/\R w ph'
 | [],k,σ,ph,hc,hs,h0=>by
  refine .inl ⟨σ,ph,?_,h0⟩;unfold cH;rw[if_pos (hc _ _ _ h0)]
 | x::xs,k,σ,ph,hc,hs,h0=>by
  obtain⟨σ1,ph1,e1,f,aI,e2,h⟩:=hs 0 x σ ph rfl h0;have e:cH chk g b (x::xs) σ ph=(match f with
   | .nx ao=>cH chk g b xs ao
   | .ct ao=>cH chk g b xs ao
   | .bk ao=>aA (.nx ao)
   | .rt w=>aA (.rt w)) aI:=by
   conv=>lhs;unfold cH
   rw[if_pos (hc _ _ _ h0),bg e1,bg e2]
   all_goals (cases f <;> rfl)
  rcases h with⟨bw,hf,hI⟩ | ⟨w,rfl,hR⟩
  ·have e:cH chk g b (x::xs) σ ph=cH chk g b xs bw aI:=by
    rcases hf with rfl | rfl <;> exact e
   rw[e];have ih:=zm R I xs (k+1) bw aI hc (fun j y σ ph hj hI=>by
    have:=hs (j+1) y σ ph (by simpa using hj) (by rw[show k+(j+1)=k+1+j by omega];exact hI);rw[show k+(j+1)+1=k+1+j+1 by omega] at this;exact this) hI
   rw[show k+1+xs.length=k+(x::xs).length by simp;omega] at ih;exact ih
  ·exact .inr ⟨w,aI,e,hR⟩
variable{chk:PH->Bool}{g:GM}{b:SM}
theorem hU(I:Nat->aS->PH->Prop)(items:List W)(σ:aS)(ph:PH)
  (hc:∀j σ ph,I j σ ph->chk ph=true)
  (hs:∀j x σ ph,items[j]? =some x->I j σ ph->∃σ1 ph1,g x σ ph=.ok σ1 ph1/\∃f aI,b σ1 ph1=.ok f aI/\∃bw,(f=.nx bw\/f=.ct bw)/\I (j+1) bw aI)
  (h0:I 0 σ ph):∃ao ph',cH chk g b items σ ph=.ok (.nx ao) ph'/\I items.length ao ph':=by
 have:=zm (fun _ _=>False) I items 0 σ ph hc (fun j x σ ph hj hI=>by
  rw[abi] at hI ⊢;obtain⟨σ1,ph1,e1,f,aI,e2,h⟩:=hs j x σ ph hj hI;exact⟨σ1,ph1,e1,f,aI,e2,.inl h⟩) h0
 rw[abi] at this
 rcases this with h | ⟨_,_,_,h⟩
 ·exact h
 ·exact h.elim
theorem vh{chk:PH->Bool}{g:GM}{c:TM}{e:EM}(L:Nat)(I:Nat->List W->aS->PH->Prop):∀(items:List W) (k:Nat) (acc:List W) (σ:aS) (ph:PH),
  (∀j acc σ ph,I j acc σ ph->chk ph=true) →
  (∀j x acc σ ph,items[j]? =some x->I (k+j) acc σ ph->∃σ1 ph1,g x σ ph=.ok σ1 ph1/\∃t aI,c σ1 ph1=.ok t aI/\((t=false/\I (k+j+1) acc σ1 aI)\/(t=true/\∃w g6,e σ1 aI=.ok w g6/\g6[L]? =some (.lst acc)/\acc.length<aaH/\I (k+j+1) (acc++[w]) σ1 (g6.set L (.lst (acc++[w])))))) →
  I k acc σ ph->∃lB ao ph',eP chk g c e L items σ ph=.ok () ph'/\I (k+items.length) lB ao ph'
 | [],k,acc,σ,ph,hc,hs,h0=>by
  refine⟨acc,σ,ph,?_,h0⟩;unfold eP;rw[if_pos (hc _ _ _ _ h0)]
 | x::xs,k,acc,σ,ph,hc,hs,h0=>by
  obtain⟨σ1,ph1,e1,t,aI,e2,h⟩:=hs 0 x acc σ ph rfl h0;have next:∀Ct kE,I (k+1) Ct σ1 kE->∃lB ao ph',eP chk g c e L xs σ1 kE=.ok () ph'/\I (k+(x::xs).length) lB ao ph':=fun Ct kE hI=>by
   have ih:=vh L I xs (k+1) Ct σ1 kE hc (fun j y acc σ ph hj hI=>by
    have:=hs (j+1) y acc σ ph (by simpa using hj) (by rw[show k+(j+1)=k+1+j by omega];exact hI);rw[show k+(j+1)+1=k+1+j+1 by omega] at this;exact this) hI
   rw[show k+1+xs.length=k+(x::xs).length by simp;omega] at ih;exact ih
  have n1:eV (g x σ) ph=.ok σ1 ph1:=by unfold eV;rw[e1]
  have n2:eV (c σ1) ph1=.ok t aI:=by unfold eV;rw[e2]
  rcases h with⟨rfl,hI⟩ | ⟨rfl,w,g6,e3,hL,hz,hI⟩
  ·have e:eP chk g c e L (x::xs) σ ph=eP chk g c e L xs σ1 aI:=by
    conv=>lhs;unfold eP
    rw[if_pos (hc _ _ _ _ h0),bg n1,bg n2];rfl
   rw[e];exact next _ _ hI
  ·have n3:eV (e σ1) aI=.ok w g6:=by unfold eV;rw[e3]
   have e:eP chk g c e L (x::xs) σ ph=eP chk g c e L xs σ1 (g6.set L (.lst (acc++[w]))):=by
    conv=>lhs;unfold eP
    rw[if_pos (hc _ _ _ _ h0),bg n1,bg n2];show au (eV (e σ1)) _ aI=_;rw[bg n3];exact bg (EH hL hz w)
   rw[e];exact next _ _ hI
theorem FE(im:IM)(cap:List (Option Nat))(g:GM)(c:TM)(e:EM)(σ:aS):dW im cap g c e σ=au (im σ) fun r ph=>au (eP r.2 g c e ph.length r.1 (fF cap σ)) (fun _=>aA (.ref ph.length)) (ph++[.lst []]):=rfl
theorem Gd(ph m:PH)(o o':PO):(ph++[o]++m).set ph.length o'=ph++[o']++m:=by
 rw[adb,afp _ _ (aat _)];simp
theorem j8(as:List α)(h:α->W){im:IM}{cap:List (Option Nat)}{c:TM}{e:EM}{ph0:PH}(td:im σ ph0=.ok (as.map h,chk) ph)(DA:∀ph',Ex ph ph'->chk ph'=true)(hz:as.length<=aaH)
  (F:α->Option W) (S:aS->Prop) (h0:S (fF cap σ))
  (step:∀x∈as,∀σ H,S σ->Ex ph H->∃σ1,g (h x) σ H=.ok σ1 H/\S σ1/\∃t H1,c σ1 H=.ok t H1/\Ex H H1/\((t=false/\F x=none)\/(t=true/\∃w H2,e σ1 H1=.ok w H2/\Ex H1 H2/\F x=some w))) :
  ∃ph',dW im cap g c e σ ph0=.ok (.ref ph.length) ph'/\Ex (ph++[.lst (as.filterMap F)]) ph':=by
 rw[FE,bg td];have key:=vh (chk:=chk) (g:=g) (c:=c) (e:=e) ph.length (fun k acc σ H=>S σ/\acc=(as.take k).filterMap F/\Ex (ph++[.lst acc]) H) (as.map h) 0 [] (fF cap σ) (ph++[.lst []])
  (fun j acc σ H hI=>DA _ ((Ex.one _ _).trans hI.2.2))
  (fun j y acc σ H hj hI=>by
   rw[abi] at hI ⊢;obtain⟨hS,ha,hE⟩:=hI;rw[aau] at hj;cases hx:as[j]? with
   | none=>rw[hx] at hj;cases hj
   | some x=>
    rw[hx] at hj;cases hj;have tk:(as.take (j+1)).filterMap F=acc++(F x).toList:=by
     rw[List.take_add_one,hx,adO,ha];cases hF:F x <;> simp[hF]
    obtain⟨σ1,e1,ij,t,H1,e2,x2,h⟩:=step x (aap hx) σ H hS ((Ex.one _ _).trans hE);refine⟨σ1,H,e1,t,H1,e2,?_⟩
    rcases h with⟨rfl,hF⟩ | ⟨rfl,w,H2,e3,x3,hF⟩
    ·exact .inl ⟨rfl,ij,by rw[tk,hF];simp,hE.trans x2⟩
    ·have x4:=(hE.trans x2).trans x3;refine .inr ⟨rfl,w,H2,e3,x4.get (bc _ _),?_,ij,by rw[tk,hF];rfl,?_⟩
     ·have hl:acc.length<=j:=by
       rw[ha];exact aaN (aeI _ _) (by simp;omega)
      have:=(aam.mp hx).1;omega
     ·obtain⟨m,rfl⟩:=x4;rw[Gd];exact⟨m,rfl⟩)
  ⟨h0,by simp,Ex.refl _⟩
 obtain⟨acc,ao,ph',e1,_,ha,hE⟩:=key;refine⟨ph',?_,?_⟩
 ·show au (eP chk g c e ph.length (as.map h) (fF cap σ)) _ _=_;rw[bg e1];rfl
 ·rw[abi,aan,abV] at ha;rw[<- ha];exact hE
theorem jx{α β:Type}(f:α->β):∀l:List α,l.filterMap (fun a=>some (f a))=l.map f
 | []=>rfl
 | a::l=>by
  rw[List.filterMap_cons_some (f:=fun a=>some (f a)) (b:=f a) rfl,jx f l];rfl
theorem Rw{w:W}(h:(i6 ws)[i]? =some w):∃x,ws[i]? =some x/\w=.tup [.int i,x]:=by
 unfold i6 at h;rw[aau] at h;cases q:(aaK ws.length)[i]? with
 | none=>rw[q] at h;cases h
 | some k=>
  rw[q] at h;obtain⟨hi,e⟩:=aam.mp q;rw[aev] at e;subst e;rw[abN] at hi;cases h;exact⟨ws[i],by simp[hi],by simp[hi]⟩
theorem Rx(ws:List W):(i6 ws).length=ws.length:=by unfold i6;simp
theorem iz(h:m σ ph=.ok (.ref i) ph')(hi:ph'[i]? =some (.lst ws)):c8 m σ ph=.ok (ws,fun p=>decide (p[i]? =some (.lst ws))) ph':=by
 unfold c8;rw[bg h];unfold lift wq lu;simp only[hi]
theorem Oj(h:m σ ph=.ok (.tup ws) ph'):c8 m σ ph=.ok (ws,fun _=>true) ph':=by
 unfold c8;rw[bg h];rfl
theorem fZ{m:AM}{j:Int}(h:m σ ph=.ok [.int j] ph')(h1: -(2 ^ 62)<=j)(h2:j<2 ^ 62):cY m σ ph=.ok (dc 0 j.toNat,fun _=>true) ph':=by
 unfold cY;rw[bg h];unfold lift B1;simp only[h1,h2,and_self,if_true]
theorem Uy{m:AM}{i j:Int}(h:m σ ph=.ok [.int i,.int j] ph')(h1: -(2 ^ 62)<=i)(h2:i<2 ^ 62)(h3: -(2 ^ 62)<=j)(h4:j<2 ^ 62):pg m σ ph=.ok (dc i (j-i).toNat,fun _=>true) ph':=by
 unfold pg;rw[bg h];unfold lift B2;simp only[h1,h2,h3,h4,and_self,if_true]
theorem Ol{m:AM}(h:m σ ph=.ok [.ref i] ph')(hi:ph'[i]? =some (.lst ws)):rO m σ ph=.ok (i6 ws,fun p=>decide (p[i]? =some (.lst ws))) ph':=by
 unfold rO;rw[bg h];unfold lift A2 lu;simp only[hi,abh]
theorem iB{lo:Int}{k:Nat}{w:W}(h:(dc lo n)[k]? =some w):k<n/\w=.int (lo+(k:Int)):=by
 unfold dc at h;rw[aau] at h;cases q:(aaK n)[k]? with
 | none=>rw[q] at h;cases h
 | some j=>
  rw[q] at h;obtain⟨hi,e⟩:=aam.mp q;rw[aev] at e;subst e;rw[abN] at hi;cases h;exact⟨hi,rfl⟩
theorem j9(lo:Int)(n:Nat):(dc lo n).length=n:=by unfold dc;simp
variable{ds:List acR}
theorem Uz(h:ph[i]? =some (.lst ws))(h1:bH (dat ph 40) ws=some ds)(h2:dat ph 40 x=some d):lift (jk x (.ref i)) ph=.ok (.bl (ds.any fun e=>abd e d)) ph:=by
 unfold lift jk inD;simp only[cC,h,h1,h2,abh]
theorem UA(h1:bH (dat ph 40) ws=some ds)(h2:dat ph 40 x=some d):lift (jk x (.tup ws)) ph=.ok (.bl (ds.any fun e=>abd e d)) ph:=by
 unfold lift jk inD;simp only[cC,h1,h2,abh]
theorem Bu(a b:Str):abd (.str a) (.str b)=decide (a=b):=by
 unfold abd;rfl
theorem wH(a b:Int):abd (.int a) (.int b)=decide (a=b):=by
 unfold abd;rfl
theorem UB(a b c d:acR):abd (.tuple [a,b]) (.tuple [c,d])=(abd a c&&abd b d):=by
 simp only[abd,ade,Bool.and_true]
theorem iC{α β γ:Type}(f:β->Option γ)(g:α->β)(h:α->γ)(hf:∀a,f (g a)=some (h a)):∀l:List α,bH f (l.map g)=some (l.map h)
 | []=>rfl
 | a::l=>by
  show bH f (g a::l.map g)=_;unfold bH;rw[hf a,iC f g h hf l];rfl
theorem zX(x:String)(ss:List String):lift (jk (.str (aaC x)) (.tup (ss.map fun s=>.str (aaC s))))=aA (.bl (ss.any fun s=>decide (s=x))):=by
 funext ph
 rw[UA (iC _ _ (fun s=>agj (aaC s)) (fun s=>by simp only[dat,so,if_true]) ss) (d:=.str (aaC x)) (by simp only[dat,so,if_true])];rw[afq];simp only[aeJ,Bu,rq];rfl
theorem Bv(x a b:String):lift (jk (.str (aaC x)) (.tup [.str (aaC a),.str (aaC b)]))=aA (.bl (decide (a=x)||decide (b=x))):=by
 have:=zX x [a,b];simp only[aaX,aet,aca,List.any_nil,adX] at this;exact this
theorem Bw(x a b c:String):lift (jk (.str (aaC x)) (.tup [.str (aaC a),.str (aaC b),.str (aaC c)]))=aA (.bl (decide (a=x)||(decide (b=x)||decide (c=x)))):=by
 have:=zX x [a,b,c];simp only[aaX,aet,aca,List.any_nil,adX] at this;exact this
theorem Ry{bs:List Bool}(h:ph[i]? =some (.lst (bs.map W.bl))):lift (oO [.ref i]) ph=.ok (.bl (bs.any id)) ph:=by
 unfold lift oO r8;simp only[zW h,if_true,cC,h,aby,iC xY W.bl id (fun _=>rfl),abh,List.map_id_fun,id]
theorem Bx(ws:List W)(y:W):ah (.tup ws) y=fg (.tup ws) y:=rfl
theorem By(ws:List W)(y:W):ah (.fl ws) y=fg (.fl ws) y:=rfl
theorem Bz(x:Str)(y:W):ah (.str x) y=fg (.str x) y:=rfl
theorem BA(x:W)(ws:List W):dN x (.tup ws)=jk x (.tup ws):=rfl
theorem BB(x:W)(ws:List W):dN x (.fl ws)=jk x (.fl ws):=rfl
theorem AB(x:W)(ws:List W):bY x (.tup ws)=xf x (.tup ws):=rfl
theorem AD(i:Int)(y:W):cI (.int i) y=mN (.int i) y:=by
 funext ph;unfold cI;cases y <;> rfl
theorem zo(o i:EM)(v:W)(σ:aS):h9 o i v σ=au (o σ) fun ow=>au (i σ) fun iw=>au (lift (lz ow iw v)) fun _=>aA σ:=rfl
section
variable{ph:PH}{i:Nat}{ws:List W}{kws:List (W×W)}
theorem wJ(h:ph[i]? =some (.lst ws)):eQ (.ref i) ph=none:=by unfold eQ;simp only[h]
theorem ou(h:ph[i]? =some (.aG kws)):eQ (.ref i) ph=some (i,kws):=by unfold eQ;simp only[h]
theorem cK(h:ph[i]? =some (.lst ws)){k:Int}{w:W}(hk:cA ws k=some w):lift (ah (.ref i) (.int k)) ph=.ok w ph:=by
 have:=Uw h hk;unfold lift at this ⊢;unfold ah;rw[wJ h];exact this
variable{k:W}
theorem Ge(h:ph[i]? =some (.aG kws)){w:W}(hk:d0 kws k=true)(hw:dg kws k=some w):lift (ah (.ref i) k) ph=.ok w ph:=by
 unfold lift ah;simp only[ou h,hk,if_true,hw,abh]
theorem nS(h:ph[i]? =some (.aG kws))(hk:d0 kws k=true):lift (bY k (.ref i)) ph=.ok (.bl (!(dg kws k).isSome)) ph:=by
 unfold lift bY;simp only[ou h,hk,if_true]
theorem Gf{ds:List acR}{x:W}{d:acR}(h:ph[i]? =some (.lst ws))(h1:bH (dat ph 40) ws=some ds)(h2:dat ph 40 x=some d):lift (dN x (.ref i)) ph=.ok (.bl (ds.any fun e=>abd e d)) ph:=by
 have:=Uz h h1 h2;unfold lift at this ⊢;unfold dN;rw[wJ h];exact this
theorem zp{ds:List acR}{x:W}{d:acR}(h:ph[i]? =some (.lst ws))(h1:bH (dat ph 40) ws=some ds)(h2:dat ph 40 x=some d):lift (bY x (.ref i)) ph=.ok (.bl (!(ds.any fun e=>abd e d))) ph:=by
 unfold lift bY;rw[wJ h];unfold xf inD;simp only[cC,h,h1,h2,abh]
theorem qK(h:ph[i]? =some (.aG kws))(hk:d0 kws k=true)(hz:kws.length<aaH)(v:W):lift (lz (.ref i) k v) ph=.ok () (ph.set i (.aG (f7 kws k v))):=by
 unfold lift lz;simp only[ou h,hk,hz,and_self,if_true]
end
theorem Rz(ph:PH):lift newD ph=.ok (.ref ph.length) (ph++[.aG []]):=rfl
theorem vK(σ:aS):ly σ=lift newD:=rfl
theorem oS(b:SM)(n:Nat)(x y z u v:W):fM b n 5 [x,y,z,u,v]=au (b (some x::some y::some z::some u::some v::aaF (n-5) none)) dY:=rfl
theorem Cu(b:SM)(n:Nat)(x y z u v w:W):fM b n 6 [x,y,z,u,v,w]=au (b (some x::some y::some z::some u::some v::some w::aaF (n-6) none)) dY:=rfl
theorem zr{t:TM}{b:SM}:∀(n:Nat) (σ:aS) (ph:PH),(dA t b n σ ph).oI=false->dA t b (n+1) σ ph=dA t b n σ ph
 | 0,σ,ph,h=>by cases h
 | n+1,σ,ph,h=>by
  have h':(au (t σ) (fun c=>if c=true then au (b σ) fun f=>match f with
   | .nx ao=>dA t b n ao
   | .ct ao=>dA t b n ao
   | .bk ao=>aA (.nx ao)
   | .rt w=>aA (.rt w)
   else aA (.nx σ)) ph).oI=false:=h
  show au (t σ) (fun c=>if c=true then au (b σ) fun f=>match f with
   | .nx ao=>dA t b (n+1) ao
   | .ct ao=>dA t b (n+1) ao
   | .bk ao=>aA (.nx ao)
   | .rt w=>aA (.rt w)
   else aA (.nx σ)) ph=au (t σ) (fun c=>if c=true then au (b σ) fun f=>match f with
   | .nx ao=>dA t b n ao
   | .ct ao=>dA t b n ao
   | .bk ao=>aA (.nx ao)
   | .rt w=>aA (.rt w)
   else aA (.nx σ)) ph
  cases e1:t σ ph with
  | no=>unfold au;rw[e1]
  | ex x p=>unfold au;rw[e1]
  | ok c p=>
   rw[bg e1] at h' ⊢;rw[bg e1];cases c with
   | false=>rfl
   | true=>
    simp only[if_true] at h' ⊢;cases e2:b σ p with
    | no=>unfold au;rw[e2]
    | ex x q=>unfold au;rw[e2]
    | ok f q=>
     rw[bg e2] at h' ⊢;rw[bg e2];cases f with
     | nx ao=>exact zr n ao q h'
     | ct ao=>exact zr n ao q h'
     | bk ao=>rfl
     | rt w=>rfl
variable{t:TM}
theorem GH{m:Nat}(hm:n<=m)(h:(dA t b n σ ph).oI=false):dA t b m σ ph=dA t b n σ ph:=by
 induction m with
 | zero=>
  have:n=0:=by omega
  rw[this]
 | succ m ih=>
  by_cases e:n=m+1
  ·rw[e]
  ·have:=ih (by omega);rw[zr m σ ph (by rw[this];exact h),this]
theorem E4{f:Fl}(h:dA t b n σ ph=.ok f ph'):hW t b σ ph=.ok f ph':=by
 have hn:(dA t b n σ ph).oI=false:=by rw[h];rfl
 have he:∃n,(dA t b n σ ph).oI=false:=⟨n,hn⟩
 unfold hW;rw[dif_pos he];have hc:=he.choose_spec;by_cases pC:n<=he.choose
 ·rw[GH pC hn,h]
 ·rw[<- GH (Nat.le_of_not_le pC) hc,h]
theorem yV(I:Nat->aS->PH->Prop)(D:aS->PH->Prop)
  (step:∀k σ ph,I k σ ph->(∃ph1,t σ ph=.ok false ph1/\D σ ph1)\/∃ph1,t σ ph=.ok true ph1/\∃f aI,b σ ph1=.ok f aI/\∃bw,(f=.nx bw\/f=.ct bw)/\∃k',k'<k/\I k' bw aI) :
  ∀k σ ph,I k σ ph->∃ao ph',hW t b σ ph=.ok (.nx ao) ph'/\D ao ph':=by
 have key:∀k σ ph,I k σ ph->∃n ao ph',dA t b n σ ph=.ok (.nx ao) ph'/\D ao ph':=by
  intro k
  induction k using adz with
  | ind k ih=>
   intro σ ph h
   rcases step k σ ph h with⟨ph1,e1,hD⟩ | ⟨ph1,e1,f,aI,e2,bw,hf,k',hk,hI⟩
   ·refine⟨1,σ,ph1,?_,hD⟩;show au (t σ) _ ph=_;rw[bg e1];rfl
   ·obtain⟨n,ao,ph',e3,hD⟩:=ih k' hk bw aI hI;refine⟨n+1,ao,ph',?_,hD⟩;show au (t σ) _ ph=_;rw[bg e1];simp only[if_true];rw[bg e2]
    rcases hf with rfl | rfl <;> exact e3
 intro k σ ph h;obtain⟨n,ao,ph',e,hD⟩:=key k σ ph h;exact⟨ao,ph',E4 e,hD⟩
theorem Om(as:List α)(h:α->W){im:IM}{cap:List (Option Nat)}{c:TM}{e:EM}{ph0:PH}(td:im σ ph0=.ok (as.map h,chk) ph)(DA:∀ph',Ex ph ph'->chk ph'=true)(hz:as.length<=aaH)
  (R:Nat->W->PH->Prop) (YF:∀j w H H',R j w H->Ex H H'->R j w H') (YG:∀j w H o,R j w H->R j w (H.set ph.length o)) (S:aS->Prop) (h0:S (fF cap σ))
  (step:∀j x,as[j]? =some x->∀σ H,S σ->Ex ph H->ph.length<H.length->∃σ1,g (h x) σ H=.ok σ1 H/\S σ1/\∃H1,c σ1 H=.ok true H1/\Ex H H1/\∃w H2,e σ1 H1=.ok w H2/\Ex H1 H2/\R j w H2) :
  ∃ws ph',dW im cap g c e σ ph0=.ok (.ref ph.length) ph'/\Ex (ph++[.lst ws]) ph'/\ws.length=as.length/\∀j w,ws[j]? =some w->R j w ph':=by
 rw[FE,bg td];have key:=vh (chk:=chk) (g:=g) (c:=c) (e:=e) ph.length (fun k acc σ H=>S σ/\acc.length=k/\(∀j w,acc[j]? =some w->R j w H)/\Ex (ph++[.lst acc]) H) (as.map h) 0 [] (fF cap σ) (ph++[.lst []])
  (fun j acc σ H hI=>DA _ ((Ex.one _ _).trans hI.2.2.2))
  (fun j y acc σ H hj hI=>by
   rw[abi] at hI ⊢;obtain⟨hS,hl,ha,hE⟩:=hI;rw[aau] at hj;cases hx:as[j]? with
   | none=>rw[hx] at hj;cases hj
   | some x=>
    rw[hx] at hj;cases hj;have dM:ph.length<H.length:=by have:=hE.len;simp at this;omega
    obtain⟨σ1,e1,ij,H1,e2,x2,w,H2,e3,x3,hR⟩:=step j x hx σ H hS ((Ex.one _ _).trans hE) dM;have x4:=(hE.trans x2).trans x3;refine⟨σ1,H,e1,true,H1,e2,.inr ⟨rfl,w,H2,e3,x4.get (bc _ _),?_,ij,by simp[hl],fun i u hu=>YG i u _ _ ?_,?_⟩⟩
    ·have:=(aam.mp hx).1;omega
    ·by_cases hi:i<acc.length
     ·rw[aaM hi] at hu;exact YF i u _ _ (ha i u hu) (x2.trans x3)
     ·have sZ:i=j:=by
       have:=(aam.mp hu).1;simp at this;omega
      subst sZ;rw[<- hl,abC] at hu;cases hu;exact hR
    ·obtain⟨m,rfl⟩:=x4;rw[Gd];exact⟨m,rfl⟩)
  ⟨h0,rfl,fun j w hw=>by simp at hw,Ex.refl _⟩
 obtain⟨acc,ao,ph',e1,_,hl,ha,hE⟩:=key;refine⟨acc,ph',?_,hE,by rw[hl,abi,aan],ha⟩;show au (eP chk g c e ph.length (as.map h) (fF cap σ)) _ _=_;rw[bg e1];rfl
theorem fN(ph:PH)(n:Nat)(i:Int):dat ph n (.int i)=some (.int i):=by cases n <;> rfl
theorem Gg(l:List Int)(k:Int):((l.map ads).any fun e=>abd e (.int k))=decide (k∈l):=by
 rw[afq,aco,abK,decide_eq_true_eq];constructor
 ·rintro⟨u,hu,e⟩;simp only[aeJ,wH] at e;rw[<- of_decide_eq_true e];exact hu
 ·intro h;exact⟨k,h,by simp only[aeJ,wH,decide_true]⟩
theorem zt(h:ph[i]? =some (.lst (l.map W.int)))(k:Int):lift (dN (.int k) (.ref i)) ph=.ok (.bl (decide (k∈l))) ph:=by
 rw[Gf h (iC _ W.int ads (fun a=>fN _ _ a) l) (fN _ _ k),Gg]
theorem E5(h:ph[i]? =some (.lst (l.map W.int)))(k:Int):lift (bY (.int k) (.ref i)) ph=.ok (.bl (!decide (k∈l))) ph:=by
 rw[zp h (iC _ W.int ads (fun a=>fN _ _ a) l) (fN _ _ k),Gg]
theorem Eo:∀ds:List acR,(∀d∈ds,abd d d=true)->ade ds ds=true
 | [],_=>by unfold ade;rfl
 | d::ds,h=>by
  simp only[ade,h d (by simp),Eo ds (fun e he=>h e (by simp[he])),afV]
theorem FF{α β:Type}{f:α->Option β}:∀{l:List α} {m:List β},bH f l=some m->∀b∈m,∃a∈l,f a=some b
 | [],m,h,b,hb=>by cases h;cases hb
 | a::l,m,h,b,hb=>by
  unfold bH at h;split at h
  ·rename_i b' m' e1 e2;cases h
   rcases aaO.mp hb with rfl | hb
   ·exact⟨a,by simp,e1⟩
   ·obtain⟨c,hc,e⟩:=FF e2 b hb;exact⟨c,by simp[hc],e⟩
  ·cases h
theorem Py:∀(n:Nat) (w:W) (d:acR),dat ph n w=some d->abd d d=true:=by
 intro n
 induction n with
 | zero=>
  intro w d h;cases w <;> simp only[dat] at h <;> first | (cases h;simp[abd];done) | skip
  ·split at h
   ·cases h;simp[abd]
   ·cases h
  all_goals cases h
 | succ n ih=>
  have key:∀(ws:List W) (ds:List acR),bH (dat ph n) ws=some ds->ade ds ds=true:=fun ws ds h=>
   Eo ds fun d hd=>let ⟨w,_,e⟩:=FF h d hd;ih w d e
  intro w d h;cases w with
  | aJ=>cases h;simp[abd]
  | bl b=>cases h;simp[abd]
  | int i=>cases h;simp[abd]
  | str x=>
   simp only[dat] at h;split at h
   ·cases h;simp[abd]
   ·cases h
  | tup ws=>
   simp only[dat] at h;cases q:bH (dat ph n) ws with
   | none=>rw[q] at h;cases h
   | some ds=>rw[q] at h;cases h;simp only[abd,key ws ds q]
  | fl ws=>
   simp only[dat] at h;cases q:bH (dat ph n) ws with
   | none=>rw[q] at h;cases h
   | some ds=>rw[q] at h;cases h;simp only[abd,key ws ds q]
  | ref i=>
   simp only[dat] at h;split at h
   ·rename_i ws hw;cases q:bH (dat ph n) ws with
    | none=>rw[q] at h;cases h
    | some ds=>rw[q] at h;cases h;simp only[abd,key ws ds q]
   ·cases h
  | exc c ns ws=>simp only[dat] at h;cases h
  | fn x ws=>simp only[dat] at h;cases h
  | kt ws=>
   simp only[dat] at h;cases q:bH (dat ph n) ws with
   | none=>rw[q] at h;cases h
   | some ds=>rw[q] at h;cases h;simp only[abd,key ws ds q]
theorem Hg{b:Bool}(h:fw ph x y=some b):lift (aY x y) ph=.ok (.bl b) ph:=by
 unfold lift aY;simp only[h,abh]
theorem Hh{b:Bool}(h:fw ph x y=some b):lift (dJ x y) ph=.ok (.bl (!b)) ph:=by
 unfold lift dJ;simp only[h,abh]
theorem UC(h1:dat ph 40 x=some d)(h2:dat ph 40 y=some d):fw ph x y=some true:=by
 unfold fw;rw[h1,h2];simp only[Py 40 _ _ h1]
theorem eq_nil(hi:ph[i]? =some (.lst ws))(hj:ph[j]? =some (.lst []))(hd:bH (dat ph 39) ws=some ds):fw ph (.ref i) (.ref j)=some ws.isEmpty:=by
 unfold fw;have e1:dat ph 40 (.ref i)=some (.list ds):=by simp only[dat,hi,hd,abh]
 have e2:dat ph 40 (.ref j)=some (.list []):=by simp only[dat,hj,bH,abh]
 rw[e1,e2];cases ws with
 | nil=>cases hd;simp[abd,ade]
 | cons w ws=>
  unfold bH at hd;split at hd
  ·cases hd;simp[abd,ade]
  ·cases hd
noncomputable def HQ:=(aar (aar (aar (aar (aar (aar @fD (aar @zN @zM)) (aar (aar @dS @zO) (aar @Ak @Al))) (aar (aar (aar @A7 @A8) (aar @hX @Am)) (aar (aar @mK @mn) (aar @kT @mq)))) (aar (aar (aar @nQ (aar @rm @kY)) (aar (aar @rp @qQ) (aar @zl @vA))) (aar (aar (aar @jw @nR) (aar @vg @ka)) (aar (aar @iA @qR) (aar @kb @An))))) (aar (aar (aar (aar @nX (aar @Ao @zP)) (aar (aar @yU @vB) (aar @zQ @zR))) (aar (aar (aar @gf @gU) (aar @ia @xn)) (aar (aar @A9 @Bb) (aar @Bc @B7)))) (aar (aar (aar (aar @B8 @B9) (aar @Ca @Be)) (aar (aar @Ap @Bg) (aar @Bh @Bj))) (aar (aar (aar @Cb @Aq) (aar @Ar @As)) (aar (aar @lb @Bk) (aar @zk @Ag)))))) (aar (aar (aar (aar (aar @Ai (aar @Aj @decide_true)) (aar (aar @decide_false @abS) (aar @Bool.not_true @Bool.not_false))) (aar (aar (aar @Bl @Bm) (aar @Bn @Cc)) (aar (aar @Cd @Ce) (aar @Cf @Cg)))) (aar (aar (aar (aar @Ci @Cj) (aar @Ck @Cm)) (aar (aar @Cn @Co) (aar @Cq @Cr))) (aar (aar (aar @Cs @Au) (aar @Av @Aw)) (aar (aar @Ax @Ay) (aar @Az @Bo))))) (aar (aar (aar (aar @Bp (aar @Bq @Br)) (aar (aar @Bs @AA) (aar @Bt @zS))) (aar (aar (aar @zT @zU) (aar @zV @oS)) (aar (aar @Cu @Bx) (aar @By @Bz)))) (aar (aar (aar (aar @BA @BB) (aar @AB @AD)) (aar (aar @zo @vK) (aar @Bv @Bw))) (aar (aar (aar @adX @Bool.false_or) (aar @Bool.or_true @Bool.true_or)) (aar (aar @Bool.and_true @Bool.true_and) (aar @Bool.and_false @aey)))))))
theorem Jg:type_of% HQ:=HQ
theorem Pz(m:EM)(σ:aS):rL m σ=au (m σ) fun w=>lift (match w with
 | .int i=>ret (some i)
 | _=>fc):=rfl
theorem UD(m:EM)(lo hi:OM)(σ:aS):sN m lo hi σ=au (m σ) fun w=>au (lo σ) fun l=>au (hi σ) fun h=>lift (pv w l h):=rfl
section
variable{ph:PH}{i:Nat}{kws:List (W×W)}
theorem RA{ws:List W}(h:ph[i]? =some (.lst ws))(k:Nat):lift (pv (.ref i) (some (k:Int)) none) ph=.ok (.ref ph.length) (ph++[.lst (ws.drop k)]):=by
 have:mR ws (some (k:Int)) none=ws.drop k:=by
  unfold mR HT.bB;simp;rw[if_neg (by omega)];by_cases hk:k<=ws.length
  ·rw[Nat.min_eq_left hk,aeZ (by simp)]
  ·rw[Nat.min_eq_right (by omega),afa (aat _),afa (by omega),List.take_nil]
 unfold lift pv;simp only[h,this]
end
noncomputable def BC(m:SM):SM:=fun σ=>eV (m σ)
section
variable{X:Cx}{pins:List (Addr×Obj)}{σ:L2.St}{H:Hp}{s:aaw}
variable{n:Str}
theorem PB{c0:Addr}{oc:Obj}{v:Option Value}(I:Inv X pins σ H s)(gB:X.fn n=false)(lS:X.env.cells.lookup n=some c0)(kK:X.aE.heap.objs.size<=c0)(hn:H c0=none)(hg:s.heap.get? c0=some oc)(hcd:oc.data=.cell v):Inv X pins σ (upd H c0 (.aL oc dz)) s:=by
 have B:=I.base;refine⟨I.ok,I.os,I.bare,⟨B.keep,B.slot,fun b o e nn hx=>?_,B.there,fun b xs e=>?_,fun b o u e=>?_,fun b ps e=>?_⟩,I.loc,I.cell,?_,fun y d e=>?_,fun p hp=>?_,fun b u e=>?_,I.lk⟩
 ·rw[aT (aaW (aay (aax e) kK))];exact B.free b o e nn hx
 ·rw[aT (dh (B.gb b xs e) hn)];exact B.gb b xs e
 ·rw[aT (dh (B.fb b o u e) hn)];exact B.fb b o u e
 ·obtain⟨m,q⟩:=B.gc b ps e;exact⟨m,by rw[aT (dh q hn)];exact q⟩
 ·rw[aT (abD (I.lD n c0 lS))];exact I.free
 ·by_cases hd:d=c0
  ·subst hd;rw[I.ok.inj y n d e lS];exact⟨fun z=>absurd (show X.fn n=true from z) (by rw[gB];exact abe),.inr ⟨oc,cj⟩⟩
  ·rw[aT hd];exact I.gM y d e
 ·obtain⟨q1,q2,q3,q4,q5⟩:=I.pin p hp;have dm:p.1≠c0:=fun z=>by rw[z,hg] at q1;cases q1;exact q5 v hcd
  exact⟨q1,by rw[aT dm];exact q2,q3,q4,q5⟩
 ·by_cases hb:b=c0
  ·subst hb;rw[cj] at e;cases e;exact⟨hg,trivial,⟨_,hg⟩,fun _ _ _ _=>trivial⟩
  ·rw[aT hb] at e;exact(I.aH b u e).gQ (fun _ _ _ q=>q) (fun d q=>by rw[aT (dh q hn)];exact q) fun d xs q=>by rw[aT (dh q hn)];exact q
structure oU(X:Cx)(H:Hp)(s:aaw):Prop where
 os:s.os=X.aE.os
 bare:aeN s.gens
 base:Un X.fs X.ex X.aO H X.aE.heap s.heap
 aH:cQ X.prog X.w H s.heap
theorem wK(I:Inv X pins σ H s):oU X H s:=⟨I.os,I.bare,I.base,I.aH⟩
noncomputable def Jh(X:Cx)(D:Ends)(f:Flow)(s':aaw):Prop:=match f with
 | .next=>∃ao H',oU X H' s'/\D.nx ao H'
 | .brk=>∃ao H',oU X H' s'/\D.bk ao H'
 | .cont=>∃ao H',oU X H' s'/\D.ct ao H'
 | .ret u=>∃v H',oU X H' s'/\RelV v u/\D.rt v H'
theorem W9{D:Ends}{f:Flow}{s':aaw}(h:SP X pins D f s'):Jh X D f s':=by
 cases f with
 | next=>obtain⟨ao,H',I,q⟩:=h;exact⟨ao,H',wK I,q⟩
 | brk=>obtain⟨ao,H',I,q⟩:=h;exact⟨ao,H',wK I,q⟩
 | cont=>obtain⟨ao,H',I,q⟩:=h;exact⟨ao,H',wK I,q⟩
 | ret u=>obtain⟨v,ao,H',I,r,q⟩:=h;exact⟨v,H',wK I,r,q⟩
structure JR(X:Cx)(st:List Stmt)(m:SM):Prop where
 h:∀(pins:List (Addr×Obj)) (s:aaw) (σ:L2.St) (H:Hp) (D:Ends),Inv X pins σ H s->tS X m D σ H->wpAny (model X.prog X.w) X.A (execs st X.env) (Jh X D) X.xe s
noncomputable def iK(X:Cx)(n:Str):Cx:={ X with fn:=fun y=>X.fn y&& !(y==n),xe:=fun _ _=>False }
theorem FG(I:Inv X pins σ H s):Inv (iK X n) pins σ H s:=
 ⟨⟨I.ok.mod,I.ok.kind,I.ok.glob,I.ok.blt,I.ok.above,I.ok.inj,I.ok.has,fun x c e=>I.ok.oX x c (aaG _ _▸e:_/\_).1,I.ok.hd,I.ok.frames,I.ok.su,I.ok.CU,I.ok.bs,I.ok.ky,I.ok.oB,I.ok.oC,I.ok.gR,I.ok.mW⟩,I.os,I.bare,I.base,I.loc,I.cell,I.free,fun x c e=>⟨fun z=>(I.gM x c e).1 (aaG _ _▸z:_/\_).1,(I.gM x c e).2⟩,I.pin,I.aH,I.lk⟩
theorem RB:(iK X n).fn n=false:=by
 show(X.fn n&& !(n==n))=false;simp
noncomputable def pD(sc:Scope)(n:Str):Scope:={ sc with names:=sc.names.map fun p=>if p.1==n then(p.1,.free) else p }
theorem EI{n x:Str}:∀{l:List (Str×ada)},(l.map fun p=>if p.1==n then(p.1,aaR) else p).lookup x=if x==n then(l.lookup x).map fun _=>.free else l.lookup x
 | []=>by simp
 | p::l=>by
  rw[aaX];obtain⟨y,k⟩:=p;have ih:=EI (n:=n) (x:=x) (l:=l);by_cases hy:y=n
  ·subst hy;simp only[beq_self_eq_true,if_true];rw[aaJ,aaJ,ih];by_cases hx:x=y
   ·subst hx;simp
   ·have:(x==y)=false:=by simpa using hx
    simp[this]
  ·have Ji:(y==n)=false:=by simpa using hy
   simp only[Ji,abS,if_false];rw[aaJ,aaJ,ih];by_cases hx:x=y
   ·subst hx;simp[Ji]
   ·have:(x==y)=false:=by simpa using hx
    simp[this]
theorem Bd.iK{N:List Str}{sc:Scope}{k:Nat}{n:Str}(B:Bd X N sc k)(hn:sc.names.lookup n=some .cell):Bd (iK X n) N (pD sc n) k:=by
 have q:∀x kd,(pD sc n).names.lookup x=some kd->(x=n/\kd=.free)\/(x≠n/\sc.names.lookup x=some kd):=fun x kd h=>by
  unfold pD at h;simp only[EI] at h;by_cases hx:x=n
  ·subst hx;rw[hn] at h;simp at h;exact .inl ⟨rfl,h.symm⟩
  ·have:(x==n)=false:=by simpa using hx
   rw[this] at h;exact .inr ⟨hx,h⟩
 have ql:∀x,Loc (pD sc n) x->x≠n/\Loc sc x:=fun x h=>by
  rcases h with h | h
  ·rcases q x _ h with⟨_,z⟩ | ⟨z,h⟩
   ·cases z
   ·exact⟨z,.inl h⟩
  ·rcases q x _ h with⟨_,z⟩ | ⟨z,h⟩
   ·cases z
   ·exact⟨z,.inr h⟩
 exact⟨⟨⟨B.hN,fun x h=>by
   rcases h with h | h | h
   ·rcases q x _ h with⟨_,z⟩ | ⟨_,h⟩
    ·cases z
    ·exact B.kB x (.inl h)
   ·rcases q x _ h with⟨_,z⟩ | ⟨_,h⟩
    ·cases z
    ·exact B.kB x (.inr (.inl h))
   ·rcases q x _ h with⟨z,_⟩ | ⟨_,h⟩
    ·rw[z];exact B.kB n (.inr (.inl hn))
    ·exact B.kB x (.inr (.inr h)),fun x h=>B.loc x (ql x h).2,fun x h=>by
   rcases q x _ h with⟨_,z⟩ | ⟨_,h⟩
   ·cases z
   ·exact B.gl x h,fun x h=>by
   have:=(ql x h).1;refine⟨?_,(B.fn x (ql x h).2).2⟩
   rcases(B.fn x (ql x h).2).1 with z | z
   ·left
    show(X.fn x&& !(x==n))=true;rw[z]
    simpa using this
   ·exact .inr z,B.nd⟩,B.calm,B.room⟩,afj⟩
end
section
variable{P:abw}{w:World}{K:aao}{mg:Str->Option Value}{base:Heap}
theorem UE{CX:lG}{k:Nat}{f:Addr}{name qual:Str}{params:Arguments}{body:List Stmt}{scope:Scope}{dV kV doc pm bI ct oc:Value}{an od:Option Addr}
  {gW:Array (Option Value)} {N ps:List Str} {sp:Sp} (lk:K.lookup f=some ⟨oc,od,.func (abL name qual params body scope dV kV doc pm an bI ct),gW⟩) (hcd:acO K bI qual=true) (S:cx N ps scope)
  (len:∀vs H Q E,sp vs H Q E->vs.length=ps.length)
  (kg:∀(A:acM) (outer:List Env) (s:aaw) (H:Hp) (vs:List V) (Q:VK) (E:XK),du k (A.deeper (aes qual scope s.heap.objs.size f bI))->sp vs H Q E →
   ∃m,JR (gd CX P w K mg base N qual scope f bI A outer s H E) body m/\tS (gd CX P w K mg base N qual scope f bI A outer s H E) m { nx:=fun _ H'=>Q .aJ H',rt:=Q } (start N vs) H) :
  bM P w K mg base CX (k+1) f (abL name qual params body scope dV kV doc pm an bI ct) ps sp:=by
 refine⟨len,fun A outer s H args us vs Q E hr e0 hb r sD=>?_⟩;have hl:=len _ _ _ _ sD;have KX:K.In s.heap:=e0.mod.xu.keeps fun b o e=>(e0.bs b o e).1
 have lim:s.heap.NoLimit:=e0.mod.nolimit.keeps fun b o e=>(e0.bs b o e).1
 have AS:∀y∈ps.zip us,scope.names.lookup y.1=some .local\/(scope.names.lookup y.1=some .cell/\((cellsFrom (s.heap.objs.size+1) scope.names []).lookup y.1).isSome=true):=fun⟨n,v⟩ hy=>by
  rcases S.ji n (aef hy).1 with q | q
  ·exact .inl q
  ·exact .inr ⟨q,adA _ _ _ (.inl q)⟩
 refine codeAny_call_function hr.depth (KX _ _ lk) rfl S.co S.gen rfl (afT KX hcd) (hb _ _ _ _ ?_);refine aeo S.kind AS fun env he s1 x=>?_
 subst he;refine⟨lim.keeps x.toInCall.keep,codeAny_func ?_⟩;obtain⟨t,ht,hq⟩:=kg A outer s H vs Q E (hr.deeper _) sD;have I:Inv (gd CX P w K mg base N qual scope f bI A outer s H E) [] (start N vs) H s1:=ET S hr.hd e0 hl r x;refine abE (ht.h [] s1 (start N vs) H _ I hq) (fun fl s' hs=>?_) fun e s' hs=>hs
 have fin:∀{H':Hp} {v:V} {u:Value},oU (gd CX P w K mg base N qual scope f bI A outer s H E) H' s'->RelV v u->Q v H'->CE outer P w H s Q u s':=
  fun{H' v u} J rv q=>⟨v,H',J.os,J.bare,J.base,J.aH,rv,q⟩
 cases fl with
 | ret u=>
  obtain⟨v,H',J,rv,q⟩:=hs;exact fin J rv q
 | next=>
  obtain⟨ao,H',J,q⟩:=hs;exact fin (v:=V.aJ) (u:=abT) J rfl q
 | brk=>
  obtain⟨_,_,_,q⟩:=hs;exact adp q
 | cont=>
  obtain⟨_,_,_,q⟩:=hs;exact adp q
theorem RC{x qual:Str}{st:Stmt}{f:Addr}{fd:aaV}{N ps:List Str}{k n np:Nat}{body:SM}(R:Env->Nat->Prop)(hn:N.length=n)(hp:ps.length=np)(F:jj K x qual st f fd)(S:cx N ps (bf st))
  (oR:∀L0 fa cd,R (aes qual (bf st) L0 fa cd) L0)
  (kg:∀{X:Cx},X.prog=P->X.w=w->X.K=K->X.mg=mg->X.base=base->Bd X N (bf st) k->rZ X->X.env.scope=bf st->X.env.qual=qual++".<locals>."/\X.env.globals=aaL/\X.env.code=fd.code->R X.env X.aE.heap.objs.size->JR X (fB st) body) :
  bM P w K mg base (bG P w) (k+1) f fd ps (bT K mg np (fM body n np)):=by
 subst hn hp;obtain⟨oc,od,kV,doc,pm,an,bI,ct,gW,rfl,lk,hcd⟩:=F.ex;refine UE lk hcd S (fun vs H Q E h=>h.1) fun A outer s H vs Q E hr h=>?_
 obtain⟨hl,φ,ph,args,hH,ra,h⟩:=h;refine⟨body,kg (X:=gd (bG P w) P w K mg base N qual (bf st) f bI A outer s H E) rfl rfl rfl rfl rfl ⟨⟨⟨rfl,fun _ z=>z,fun _ z=>z,fun _ z=>z,fun _ _=>⟨.inl rfl,fun _ _ _ _ _=>trivial⟩,S.nd⟩,rfl,hr⟩,agc⟩ ⟨rfl,rfl,rfl⟩ rfl ⟨rfl,rfl,rfl⟩ (oR _ _ _),?_⟩;have g7:args.length=vs.length:=ra.length;unfold fM at h;rw[if_pos (g7.trans hl),cS,g7] at h;refine⟨φ,ph,_,hH,bt.start (N.length-vs.length) ra,h.mono (fun fl ph' h aq H1 ay s1=>?_) fun x ph' h ap H' e s' r' cJ th=>?_⟩
 ·cases fl with
  | rt w=>exact fun v rv=>h aq H1 v ay s1 rv
  | nx ao=>exact fun σ1 ij=>h aq H1 .aJ ay s1 .aJ
  | bk ao=>exact h.elim
  | ct ao=>exact h.elim
 ·obtain⟨C,dd,hm,C9,th⟩:=th;have hE:=h ap H' C dd r' cJ hm C9;have key:wpAny (model P w) (A.deeper (aes qual (bf st) s.heap.objs.size f bI)) (aez (aes qual (bf st) s.heap.objs.size f bI) e) (fun _ fQ=>Flew P w outer H s C dd H' e fQ) (fun e' fQ=>bG P w outer H s E e' fQ) s':=by
   rcases th with th | ⟨pins,σ,H0,s0,I0,th⟩
   ·exact EE (X:=gd (bG P w) P w K mg base N qual (bf st) f bI A outer s H E) rfl rfl rfl th
   ·exact EF (X:=gd (bG P w) P w K mg base N qual (bf st) f bI A outer s H E) rfl rfl rfl I0 th
  exact abE key (fun _ fQ q=>⟨C,dd,H',q,hE⟩) fun _ _ q=>q
end
end IL
namespace PySem
open Sem (wp)
namespace ZT
end ZT
end PySem
namespace IL
open PySem PySem.Spec PyProof.Rows L2
end IL
namespace PySem
open Sem (wp)
namespace ZL
end ZL
end PySem
namespace IL
open PySem PySem.Spec PyProof.Rows L2
end IL
namespace PyProof.Rows
open PySem PySem.Spec PySem.Calls PyProof.V
namespace KTD
end KTD
end PyProof.Rows
namespace PySem.Txt
end PySem.Txt
namespace IL
open PySem PySem.Spec PyProof.Rows L2
end IL
namespace PySem
open Sem (wp)
namespace W
end W
end PySem
namespace IL
open PySem PySem.Spec PyProof.Rows L2
open PySem PySem.Spec PyProof.Rows L2 PySem.W
open Builtin Builtin.ObjectAttr
open PySem PySem.Spec PyProof.Rows L2 PySem.W Builtin.ObjectAttr
end IL
namespace PySem
open Sem (wp)
open MeetsSeq SeqAt
namespace Xa
end Xa
end PySem
namespace IL
open PySem PySem.Spec PyProof.Rows L2
section
variable{X:Cx}{tg elt o:Expr}{ifs:List Expr}{scope:Scope}{pos pos' d7:Pos}{cap:List (Option Nat)}{m:EM}{g:GM}{c:TM}{e:EM}
theorem PC{N':List Str}{i:Nat}{x:Str}(hN:X.N.Nodup)(gj:X.N[i]? =some x)(m7:iF X x)(hx:X.env.scope.names.lookup x=some .local)
  (hc:X.calm=true) (cp:jS X N' cap scope) (ho:JE X o m) (hg:∀cl C aE aO ex,JG (bV X N' scope cl C aE aO ex) tg g) (ht:∀cl C aE aO ex,JF (bV X N' scope cl C aE aO ex) ifs c)
  (he:∀cl C aE aO ex,JE (bV X N' scope cl C aE aO ex) elt e) (m8:adj (.ListComp elt [⟨tg,o,ifs,0⟩] scope pos) (some (.Name x pos')) d7.line X.env=pure true)
  (hs:∀x,abp o X.env x=pure x:=by intro _;rfl) :
  JS X (.Assign [.Name x pos'] (.ListComp elt [⟨tg,o,ifs,0⟩] scope pos) d7) (ax (rk m cap g c e) (gN i)):=by
 refine⟨fun pins s σ H D I h=>?_⟩;obtain⟨φ,ph,ws,hH,hS,h⟩:=h;unfold ax at h;rw[cS] at h;have hd:=Oh (X:=X) (σ:=σ) (H:=H) (Q:=fun v H1=>D.nx (σ.set i (some v)) H1) ⟨φ,ph,ws,hH,hS,h.mono (fun w ph1 h aq H1 v ay s1 r1=>h aq H1 ay s1 _ ((hS.mono s1).set r1 i)) fun _ _ z=>z⟩;refine bb (F1 hN gj m7 hx m8 hc cp (Ga ho.h) (fun cl C aE aO ex=>g0 (hg cl C aE aO ex).h) (fun cl C aE aO ex=>(ht cl C aE aO ex).h) (fun cl C aE aO ex=>e0 (he cl C aE aO ex).h) hs pins s σ H { D with nx:=fun ao H'=>∃d o u,H' d=some (.aL o u)/\fE u/\NF X d/\D.nx ao (upd H' d u) } I hd) fun f s' q=>?_
 cases f with
 | next=>
  obtain⟨ao,H',I',d,o,u,e,hu,nf,q⟩:=q;exact⟨ao,_,zh I' e hu nf,q⟩
 | brk=>exact q
 | cont=>exact q
 | ret u=>exact q
end
noncomputable def xo(body:EM)(cs args:List W):Mo W:=match args,cs with
 | [a],[c,d]=>eV (body [some a,some c,some d])
 | _,_=>eJ
noncomputable def ox(x:Str)(body:EM)(i:Nat)(a:AM):EM:=fun σ=>match σ[i]? with
 | some (some w)=>B4 x (fun cs=>au (a σ) fun ws=>xo body cs ws) w
 | _=>eJ
noncomputable def ke(x:Str)(i j:Nat):EM:=fun σ=>match σ[i]?,σ[j]? with
 | some (some w),some (some v)=>aA (.fn x [w,v])
 | _,_=>eJ
structure oy(L:jN)(p q r:Str):Prop where
 kind:L.sc.kind=.function
 co:L.sc.isCoroutine=false
 gen:L.sc.isGenerator=false
 cell:∀y∈L.sc.names,y.2≠.cell
 ji:L.sc.names.lookup p=some .local
 cap:L.sc.names.lookup q=some .free
 Xb:L.sc.names.lookup r=some .free
 ne:q≠r
 only:∀y,L.sc.names.lookup y=some .free->y=q\/y=r
 HR:w4 L=[q,r]
 bind:∀qual cl pm v ig u,bindArgs (aeA "<lambda>" qual L.ar L.bd L.sc cl pm v ig) ⟨[u],[]⟩=pure [(p,u)]
noncomputable def kl(X:Cx)(p q r:Str)(L:jN)(x:Str)(a:Addr)(v:Value)(cl:List (Str×Addr))(s:aaw)(H:Hp):Cx:=
 let env:=PySem.W.envX (rY x) L.sc s.heap.objs.size a v cl
 { X with A:=X.A.deeper env,N:=[p,q,r],aE:=s,aO:=H,env:=env,outer:=X.stack,stack:=env::X.stack,ex:=[],calm:=true,fn:=fun _=>false,pn:=[],xe:=fun _ _=>False,kp:=fun _=>True }
section
variable{X:Cx}{pins:List (Addr×Obj)}{σ:L2.St}{H:Hp}{s:aaw}
variable{q r y:Str}{c d:Addr}
theorem vU{e:Addr}(h:acV y [(q,c),(r,d)]=some e):(y=q/\e=c)\/(y=r/\e=d):=by
 rw[aaJ] at h;split at h
 ·rename_i z;cases h;exact .inl ⟨eq_of_beq z,rfl⟩
 ·rw[aaJ] at h;split at h
  ·rename_i z;cases h;exact .inr ⟨eq_of_beq z,rfl⟩
  ·cases h
theorem Cv:acV q [(q,c),(r,d)]=some c:=by rw[aaJ];simp
theorem Cw(h:q≠r):acV r [(q,c),(r,d)]=some d:=by
 rw[aaJ,aaJ];have:(r==q)=false:=by simpa using abD h
 simp[this]
variable{p x:Str}{L:jN}{oc:Obj}
theorem PD {a : Addr} {v u : Value} {va vc vd : V} {od : Obj} {uc ud : Value} {cN : Heap} {tk : Nat} (I : Inv X pins σ H s) (S : oy L p q r) (hr : X.A.handled = none) (wL : c ≠ d) (hc : H c = some (.aL oc dz)) (hcd : oc.data = .cell (some uc))
    (rc : RelV vc uc) (hd : H d = some (.aL od dz)) (ng : od.data = .cell (some ud)) (rd : RelV vd ud) (ra : RelV va u) (cD : cN.Ns s.heap.objs.size (fun y => [(p, u)].reverse.lookup y)) (hk : ∀ b o, s.heap.get? b = some o -> cN.get? b = some o) :
    Inv (kl X p q r L x a v [(q, c), (r, d)] s H) [] [some va, some vc, some vd] H { s with heap := cN, toks := tk } := by
  have Jj : cN.IsCell c (some uc) := ⟨oc, hk _ _ (I.aH c _ hc).1, hcd⟩
  have Jk : cN.IsCell d (some ud) := ⟨od, hk _ _ (I.aH d _ hd).1, ng⟩
  have ok : (kl X p q r L x a v [(q, c), (r, d)] s H).Ok :=
    { mod := I.ok.mod
      kind := S.kind
      glob := rfl
      blt := rfl
      above := aat _
      inj := fun y z e h1 h2 => by
        rcases vU h1 with ⟨e1, e2⟩ | ⟨e1, e2⟩ <;> rcases vU h2 with ⟨e3, e4⟩ | ⟨e3, e4⟩
        · rw [e1, e3]
        · exact absurd (e2.symm.trans e4) wL
        · exact absurd (e4.symm.trans e2) wL
        · rw [e1, e3]
      has := fun y hy => by
        have hy : L.sc.names.lookup y = some .cell \/ L.sc.names.lookup y = some .free := hy
        rcases hy with hy | hy
        · exact absurd rfl (S.cell _ (abY hy))
        · rcases S.only y hy with rfl | rfl
          · exact ⟨c, Cv⟩
          · exact ⟨d, Cw S.ne⟩
      oX := fun y d hz => nomatch hz
      hd := fun _ => hr
      frames := afz I.ok.frames
      su := .inr ⟨rfl, rfl⟩
      CU := fun b hb => nomatch hb
      bs := I.bs
      ky := aaN I.ok.ky I.sz
      oB := fun b o e hb => nomatch hb
      oC := fun b hb => nomatch hb
      gR := I.stack
      mW := I.vF }
  refine ⟨ok, rfl, I.bare, Un.kept hk, ⟨_, cD, fun i y w e1 e2 _ => ?_⟩, fun y e z => ?_, I.aH.fresh (aat _), fun y e z => ⟨(fun z => nomatch z), .inr ?_⟩, (fun p hp => nomatch hp), I.aH.kept hk, ⟨rfl, trivial⟩⟩
  · match i, e1, e2 with
    | 0, e1, e2 =>
      cases e1;cases e2;exact ⟨u, ra, .inl ⟨S.ji, by simp⟩⟩
    | 1, e1, e2 =>
      cases e1;cases e2;exact ⟨uc, rc, .inr ⟨.inr S.cap, c, Cv, Jj⟩⟩
    | 2, e1, e2 =>
      cases e1;cases e2;exact ⟨ud, rd, .inr ⟨.inr S.Xb, d, Cw S.ne, Jk⟩⟩
    | i + 3, e1, e2 => cases e1
  · rcases vU z with ⟨_, rfl⟩ | ⟨_, rfl⟩
    · exact ⟨_, Jj⟩
    · exact ⟨_, Jk⟩
  · rcases vU z with ⟨_, rfl⟩ | ⟨_, rfl⟩
    · exact ⟨oc, hc⟩
    · exact ⟨od, hd⟩
theorem Oo{H:Hp}{cl:List (Str×Addr)}{v w:V}(h:kZ H cl [v,w]):∃q c oc u r d od t,cl=[(q,c),(r,d)]/\c≠d/\(H c=some (.aL oc dz)/\oc.data=.cell (some u)/\RelV v u)/\H d=some (.aL od dz)/\od.data=.cell (some t)/\RelV w t:=by
 cases cl with
 | nil=>exact h.elim
 | cons a cl=>
  cases cl with
  | nil=>exact h.2.2.elim
  | cons b cl=>
   cases cl with
   | nil=>obtain⟨⟨oc,u,h1⟩,dn,⟨od,t,h2⟩,_⟩:=h;exact⟨a.1,a.2,oc,u,b.1,b.2,od,t,rfl,abD (dn b abr),h1,h2⟩
   | cons _ _=>exact h.2.2.2.2.elim
variable{i k:Nat}
theorem RD{e:Expr}{a:AM}{body:EM}{pp pos:Pos}(hl:jD X.K x=some L)(S:oy L p q r)(hr:du (k+1) X.A)(hN:X.N[i]? =some y)(hv:jf X.env.scope y)
  (hb:∀a v cl s H,du k (kl X p q r L x a v cl s H).A->IE (kl X p q r L x a v cl s H) L.bd body) (ha:IA X [e] a)
  (hd:(y==("__debug__":Str))=false:=by decide) (hcd:(y==("__classdict__":Str))=false:=by decide) (he:aaP [e] X.env=(false,eval e X.env)::aaP [] X.env:=by rfl) (hpl:(adi pos (aaP [] X.env)).any (·.1)=false:=by rfl) :
  IE X (.Call (.Name y pp) [e] [] pos) (ox x body i a):=by
 intro pins s σ H Q I h;obtain⟨φ,ph,ws,hH,hS,h⟩:=h;unfold ox at h;cases ew:ws[i]? with
 | none=>simp only[ew] at h;exact h.elim
 | some ow=>
 cases ow with
 | none=>simp only[ew] at h;exact h.elim
 | some w0=>
 simp only[ew] at h;cases w0 with
 | fn z cs=>
  simp only[B4] at h;by_cases hz:z=x
  ·rw[if_pos hz] at h;subst hz;obtain⟨vf,ev,rf⟩:=hS.get ew;cases rf with
   | fn hf Cy xI YH=>
   rename_i fa vs o cl;refine abQ (bb (Gq hN hv hd hcd pins s σ H (fun v H'=>v=.ref fa/\H'=H) I ⟨_,ev,rfl,rfl⟩) fun uf s0 ⟨v0,H0,I0,r0,e0⟩=>?_);obtain⟨YI,YJ⟩:=e0;subst YI;subst YJ;obtain rfl:uf=abv fa:=r0;obtain⟨L',pm,cv,ig,el,eo,DB,Xc⟩:=Cy;rw[hl] at el;cases el;have HS:∀{ao:L2.St} {H':Hp} {s':aaw},Inv X pins ao H' s'->H' fa=some (.aL o dz)->PySem.W.FnAt fa s'.heap:=fun J hz=>by
    have:=(J.aH fa _ hz).1;rw[eo] at this;exact⟨_,_,_,_,this⟩
   refine PySem.W.callWith_F (HS I0 hf) (bb (ha pos pins s0 σ H0 (fun DC H1=>∃aq ph1 xs,aD X.K aq ph1 H1/\Step X.K φ ph.length H0 aq ph1.length H1/\aM X.K aq ph1.length H1 xs DC/\(xo body cs xs ph1).Run (fun w ph'=>
    ∀ap H' v,aD X.K ap ph' H'->Step X.K φ ph.length H0 ap ph'.length H'->aK X.K ap ph'.length H' w v->Q v H') (XE X aq ph1.length H1)) I0
    (tA.bind hH hS h fun xs ph1 aq H1 DC ay s1 r1 h=>⟨aq,ph1,xs,ay,s1,r1,h⟩)) fun us s1 ⟨DC,H1,I1,r1,aq,ph1,xs,ay,iW,rx,xp⟩=>⟨HS I1 (iW.aL _ _ _ hf),?_⟩) he hpl
   unfold xo at xp;split at xp
   ·rename_i wa wc wd;cases rx with
    | cons ra rn=>
    cases rn;cases YH with
    | cons rc YK=>
    cases YK with
    | cons rd YL=>
    cases YL;rename_i va vc vd;obtain⟨u,rfl,YM⟩:=Vals.one r1;obtain⟨q',c,oc,uc,r',d,od,ud,rfl,wL,⟨oZ,Xd,YN⟩,DD,Xe,YO⟩:=Oo xI;have oZ:=iW.aL _ _ _ oZ;have DD:=iW.aL _ _ _ DD;have DB:=DB.mono fun a o z=>iW.aL a o _ z
    obtain⟨c',YQ,YR,t',rfl,fO,oY,YS⟩:=DB;have Jl:[q',r']=[q,r]:=(Xc.1 rfl).trans S.HR;have eq1:q'=q:=(ady Jl).1;have eq2:r'=r:=(ady (ady Jl).2).1;subst eq1 eq2;obtain⟨w,ph',V8,hQ⟩:=FC xp;have ho:=(I1.aH fa _ (iW.aL _ _ _ hf)).1;rw[eo] at ho;show wpAny (model X.prog X.w) X.A (call (.ref fa) [u]) _ _ _;refine wpAny_call (adK (R:=fun r s'=>match r with | .ok (.ret v)=>CE X.stack X.prog X.w H1 s1 Q v s' | _=>False) ?_ fun r s' hq=>?_)
    ·refine PySem.W.kla_callFunE (hr.depth) ho rfl S.co S.gen rfl ⟨c',YQ,YR,t',rfl,(I1.aH c' _ fO).1,oY,YS⟩ ?_;rw[S.bind];refine aaE (wpAny_newFunctionEnv S.cell (fun y hy=>by rw[aav.mp hy];exact S.ji) (fun cN cD pq=>⟨I1.nolimit.fresh _ pq,?_⟩) S.kind);have YT:∀b o,s1.heap.get? b=some o->cN.get? b=some o:=fun b o e=>pq.extBut b o (aaW (aax e)) (aas _ e)
     refine PySem.W.kla_codeExpr ?_;have J:=PD (x:=z) (a:=fa) (v:=.ref c') (tk:=s1.toks+[(p,u)].length) I1 S hr.hd wL oZ Xd YN DD Xe YO YM cD YT;refine abE (hb fa (.ref c') [(q',c),(r',d)] s1 H1 (hr.deeper _) [] _ _ H1 Q J ⟨aq,ph1,_,ay,.sm ra (.sm (rc.mono iW) (.sm (rd.mono iW) .nil)),?_⟩) (fun v s' hv=>?_) fun e s' hz=>hz.elim
     ·rw[V8];exact fun ap H' v r1 s1 r2=>hQ ap H' v r1 (iW.trans s1) r2
     ·obtain⟨v0,H',J',rv,q0⟩:=hv;exact⟨v0,H',J'.os,J'.bare,J'.base,J'.aH,rv,q0⟩
    ·cases r with
     | error e=>exact hq.elim
     | ok fl=>
      cases fl with
      | ret u=>exact I1.after hq
      | _=>exact hq.elim
   ·exact xp.elim
  ·rw[if_neg hz] at h;exact h.elim
 | _=>exact h.elim
variable{n:Str}{c0:Addr}
theorem FH{va:V}(I:Inv X pins σ H s)(gB:X.fn n=false)(hN:X.N[i]? =some n)(hk:X.env.scope.names.lookup n=some .cell)(lS:X.env.cells.lookup n=some c0)(kK:X.aE.heap.objs.size<=c0)(ev:σ[i]? =some (some va)) :
  ∃H' oc u0,Inv X pins σ H' s/\H' c0=some (.aL oc dz)/\oc.data=.cell (some u0)/\RelV va u0/\(∀φ ph,aD X.K φ ph H->aD X.K φ ph H')/\∀φ n,Step X.K φ n H φ n H':=by
 have iD:∃kM u0,s.heap.get? c0=some kM/\kM.data=.cell (some u0)/\RelV va u0:=by
  obtain⟨m,hn,YU⟩:=I.loc;obtain⟨u0,ye,YV⟩:=YU i n va hN ev (.inr (.inl hk))
  rcases YV with⟨kz,_⟩ | ⟨_,c1,Jm,kM,g1,g2⟩
  ·have kz:X.env.scope.names.lookup n=some .local:=kz;rw[hk] at kz;cases kz
  ·rw[lS] at Jm;cases Jm;exact⟨kM,u0,g1,g2,ye⟩
 obtain⟨kM,u0,g1,g2,ye⟩:=iD
 rcases(I.gM n c0 lS).2 with fr | ⟨ob,fr⟩
 ·exact⟨_,kM,u0,PB I gB lS kK fr g1 g2,cj,g2,ye,fun φ ph h=>O9 h fr,fun φ n=>⟨aat _,fun _ _=>rfl,fun b xs z=>by rw[aT (dh z fr)];exact z,fun b o u z=>by rw[aT (dh z fr)];exact z⟩⟩
 ·have e:ob=kM:=by
   have:=(I.aH c0 _ fr).1;rw[g1] at this;exact(abq this).symm
  subst e;exact⟨H,ob,u0,I,fr,g2,ye,fun _ _ h=>h,fun _ _=>Step.refl⟩
variable{n2:Str}
theorem RE{P c1:Addr}{i2:Nat}(gB:X.fn n=false)(hN:X.N[i]? =some n)(hk:X.env.scope.names.lookup n=some .cell)(lS:X.env.cells.lookup n=some c0)(kK:X.aE.heap.objs.size<=c0)(Cz:X.fn n2=false)(DE:X.N[i2]? =some n2)(lT:X.env.scope.names.lookup n2=some .cell)(DF:X.env.cells.lookup n2=some c1)(Xf:X.aE.heap.objs.size<=c1)(dm:c1≠c0)(hl:jD X.K x=some L)(hq:X.env.qual=x++".<locals>.")(px:X.env.globals=aaL)(wA:X.env.code=.ref c)
  (sQ:X.K.lookup c=some oc) (hP:kX oc=some P) (sR:c≠P) (hm:(x,c,P)∈fL X.K) (CA:∀p∈fL X.K,p.2.2=P->p.1=x) (oR:adG L.sc X.env=pure [(n,c0),(n2,c1)]) (gX:∀y,L.sc.names.lookup y=some .free->y=n\/y=n2) (YW:n≠n2) (DG:w4 L=[n,n2]) (sd:defaultsOf L.ar X.env=([],[])):IE X (.Lambda L.ar L.bd L.sc L.pos) (ke x i i2):=by
 intro pins s σ H Q I h;obtain⟨φ,ph,ws,hH,hS,h⟩:=h;cases ew:ws[i]? with
 | none=>simp only[ke,ew] at h;exact h.elim
 | some ow=>
 cases ow with
 | none=>simp only[ke,ew] at h;exact h.elim
 | some wa=>
 cases yf:ws[i2]? with
 | none=>simp only[ke,ew,yf] at h;exact h.elim
 | some YX=>
 cases YX with
 | none=>simp only[ke,ew,yf] at h;exact h.elim
 | some wb=>
 ·simp only[ke,ew,yf] at h;obtain⟨va,ev,ra⟩:=hS.get ew;obtain⟨vb,YY,rb⟩:=hS.get yf;have Cy:=Uu (X:=X) (cl:=[(n,c0),(n2,c1)]) hl hq px wA sQ hP sR oR (fun y hy=>(gX y hy).elim (fun z=>⟨c0,by rw[z];exact Cv⟩) fun z=>⟨c1,by rw[z];exact Cw YW⟩) sd (fun _=>DG.symm);refine bb (Cy pins s σ H (fun v H2=>∃a o,v=.ref a/\aD X.K φ ph H2/\Step X.K φ ph.length H φ ph.length H2/\H2 a=some (.aL o dz)/\oE X.K H2 x o [(n,c0),(n2,c1)]) I ⟨hH.tb _ hm,fun a o H2 na x9 lI hold Xg YZ=>?_⟩) fun u s2 zz=>?_
  ·have HU:∀b o u,H b=some (.aL o u)->H2 b=some (.aL o u):=fun b o u z=>hold b _ z fun _ y=>nomatch y
   have fP:Step X.K φ ph.length H φ ph.length H2:=⟨aat _,fun _ _=>rfl,(fun b xs z=>hold b _ z fun _ y=>nomatch y),HU⟩
   refine⟨a,o,rfl,⟨fun i p e=>?_,hH.inj,fun p hp=>?_⟩,fP,x9,lI⟩
   ·obtain⟨z,hz,mz⟩:=hH.at (aam.mp e).1;have Y0:∀ps,z≠.ff ps:=fun ps q=>by
     subst q;have q:=hH.hp i p e;cases p with
     | lst _=>obtain⟨_,q,_⟩:=q;rw[hz] at q;cases q
     | aG _=>rcases q with⟨_,q,_⟩ | ⟨_,q,_⟩ <;> (rw[hz] at q;cases q)
     | obj _ _=>obtain⟨_,_,_,_,q,_⟩:=q;rw[hz] at q;cases q
     | pd _=>obtain⟨_,q,_⟩:=q;rw[hz] at q;cases q
     | cF _=>obtain⟨_,_,⟨_,q,_⟩ | ⟨_,q,_⟩⟩:=q <;> (rw[hz] at q;cases q)
    exact(hH.hp i p e).mono fP ((hold _ _ hz Y0).trans hz.symm)
   ·by_cases iR:p.2.2=P
    ·rw[iR,CA p hp iR];exact YZ
    ·obtain⟨ps,e1,e2,e3⟩:=hH.tb p hp;exact⟨ps,Xg _ _ iR e1,e2,fun pos v e=>(e3 pos v e).mono fun b o z=>HU b o _ z⟩
  ·obtain⟨v,H2,I2,r2,a,o,e2,bj,fP,Y1,lI⟩:=zz;subst e2;obtain⟨H3,kM,u0,I3,f3,d3,r3,R3,S3⟩:=FH I2 gB hN hk lS kK ev;obtain⟨H4,Y2,u1,I4,f4,d4,r4,R4,S4⟩:=FH I3 Cz DE lT DF Xf YY;have DH:=(fP.trans (S3 φ _)).trans (S4 φ _);have HV:=(S3 φ ph.length).trans (S4 φ _);exact⟨.ref a,H4,I4,r2,h φ _ (.ref a) (R4 _ _ (R3 _ _ bj)) DH (.fn (HV.aL _ _ _ Y1) (lI.mono fun b o z=>HV.aL b o _ z) (show kZ _ [(n,c0),(n2,c1)] [va,vb] from⟨⟨kM,u0,(S4 φ ph.length).aL _ _ _ f3,d3,r3⟩,(fun z hz=>by rw[aav.mp hz];exact dm),⟨Y2,u1,f4,d4,r4⟩,(fun _ z=>nomatch z),trivial⟩) (.cons (ra.mono DH) (.cons (rb.mono DH) .nil)))⟩
theorem RF{P c1:Addr}{i2:Nat}(gB:X.fn n=false)(hN:X.N[i]? =some n)(hk:X.env.scope.names.lookup n=some .cell)(Cz:X.fn n2=false)(DE:X.N[i2]? =some n2)(lT:X.env.scope.names.lookup n2=some .cell)
  (hc:(X.env.cells.lookup n=some c0/\X.aE.heap.objs.size<=c0)/\(X.env.cells.lookup n2=some c1/\X.aE.heap.objs.size<=c1)/\c1≠c0/\adG L.sc X.env=pure [(n,c0),(n2,c1)]) (hl:jD X.K x=some L) (he:X.env.qual=x++".<locals>."/\X.env.globals=aaL/\X.env.code=.ref c)
  (sQ:X.K.lookup c=some oc) (hP:kX oc=some P) (sR:c≠P) (hm:(x,c,P)∈fL X.K) (CA:∀p∈fL X.K,p.2.2=P->p.1=x) {p:Str} (S:oy L p n n2) (sd:defaultsOf L.ar X.env=([],[])):JE X (.Lambda L.ar L.bd L.sc L.pos) (ke x i i2):=
 ⟨RE gB hN hk hc.1.1 hc.1.2 Cz DE lT hc.2.1.1 hc.2.1.2 hc.2.2.1 hl he.1 he.2.1 he.2.2 sQ hP sR hm CA hc.2.2.2 S.only S.ne S.HR sd⟩
theorem RG{e:Expr}{a:AM}{body:EM}{pp pos:Pos}(hl:jD X.K x=some L)(S:oy L p q r)(hr:du (k+1) X.A)(hN:X.N[i]? =some y)(hv:jf X.env.scope y)
  (hb:∀a v cl s H,du k (kl X p q r L x a v cl s H).A->JE (kl X p q r L x a v cl s H) L.bd body) (c9:eN [e]=true) (ha:JA X [e] a)
  (hd:(y==("__debug__":Str))=false) (hcd:(y==("__classdict__":Str))=false):JE X (.Call (.Name y pp) [e] [] pos) (ox x body i a):=
 ⟨RD hl S hr hN hv (fun a v cl s H hr=>(hb a v cl s H hr).h) ha.h hd hcd (dR (by unfold eN at c9;rw[acx,aaG] at c9;simpa using c9.1)) (any_none rfl)⟩
theorem PJ{rs:List Stmt}{m:SM}(h1:JB (iK (iK X n) n2) rs m):JR X rs (BC m):=⟨fun pins s σ H D I h=>by
 obtain⟨φ,ph,ws,hH,hS,h⟩:=h;obtain⟨f,ph',e,h⟩:=FC h;refine abE (h1.h pins s σ H D (FG (FG I)) ⟨φ,ph,ws,hH,hS,?_⟩) (fun fl s' q=>?_) fun _ _ z=>z.elim
 ·rw[e];exact h
 ·have q:=W9 q;cases fl with
  | next=>obtain⟨ao,H',I,q⟩:=q;exact⟨ao,H',⟨I.os,I.bare,I.base,I.aH⟩,q⟩
  | brk=>obtain⟨ao,H',I,q⟩:=q;exact⟨ao,H',⟨I.os,I.bare,I.base,I.aH⟩,q⟩
  | cont=>obtain⟨ao,H',I,q⟩:=q;exact⟨ao,H',⟨I.os,I.bare,I.base,I.aH⟩,q⟩
  | ret u=>obtain⟨v,H',I,r,q⟩:=q;exact⟨v,H',⟨I.os,I.bare,I.base,I.aH⟩,r,q⟩⟩
theorem PK:(iK (iK X n) n2).fn n=false:=by
 show((X.fn n&& !(n==n))&& !(n==n2))=false;simp
theorem UG{l:List (Str×ada)}{c d:Str}:∀{y:Str},(l.all fun p=> !(p.2==.free)||(p.1==c||p.1==d))=true->l.lookup y=some .free->y=c\/y=d:=by
 intro y h e;have m:=abY e;have:=abJ.mp h _ m
 simpa using this
theorem Bd.Xh{N:List Str}{sc:Scope}(B:Bd X N sc (k+1))(S:oy L p q r)(nd:[p,q,r].Nodup)(a:Addr)(v:Value)(cl:List (Str×Addr))(s:aaw)(H:Hp)(hr:du k (kl X p q r L x a v cl s H).A):Bd (kl X p q r L x a v cl s H) [p,q,r] L.sc k:=
 ⟨⟨⟨rfl,fun _ z=>z,fun _ z=>z,fun _ z=>z,fun y z=>⟨.inr (z.elim (fun z=>z) fun z=>absurd rfl (S.cell _ (mem_lookup z))),fun _ _ _ _ _=>trivial⟩,nd⟩,rfl,hr⟩,afj⟩
end
end IL
local macro_rules | `(tactic| ac_nf) => `(tactic| try simp only [IL.fD, IL.zN, IL.zM, IL.dS, IL.zO, IL.Ak, IL.Al, IL.A7, IL.A8, IL.hX, IL.Am, IL.mK, IL.mn, IL.kT, IL.mq, IL.nQ, IL.rm, IL.kY, IL.rp, IL.qQ, IL.zl, IL.vA, IL.jw, IL.nR, IL.vg, IL.ka, IL.iA, IL.qR, IL.kb, IL.An, IL.nX, IL.Ao, IL.zP, IL.yU, IL.vB, IL.zQ, IL.zR, IL.gf, IL.gU, IL.ia, IL.xn, IL.A9, IL.Bb, IL.Bc, IL.B7, IL.B8, IL.B9, IL.Ca, IL.Be, IL.Ap, IL.Bg, IL.Bh, IL.Bj, IL.Cb, IL.Aq, IL.Ar, IL.As, IL.lb, IL.Bk, IL.zk, IL.Ag, IL.Ai, IL.Aj, decide_true, decide_false, Bool.false_eq_true, Bool.not_true, Bool.not_false, IL.Bl, IL.Bm, IL.Bn, IL.Cc, IL.Cd, IL.Ce, IL.Cf, IL.Cg, IL.Ci, IL.Cj, IL.Ck, IL.Cm, IL.Cn, IL.Co, IL.Cq, IL.Cr, IL.Cs, IL.Au, IL.Av, IL.Aw, IL.Ax, IL.Ay, IL.Az, IL.Bo, IL.Bp, IL.Bq, IL.Br, IL.Bs, IL.AA, IL.Bt, IL.zS, IL.zT, IL.zU, IL.zV, IL.oS, IL.Cu, IL.Bx, IL.By, IL.Bz, IL.BA, IL.BB, IL.AB, IL.AD, IL.zo, IL.vK, IL.Bv, IL.Bw, Bool.or_false, Bool.false_or, Bool.or_true, Bool.true_or, Bool.and_true, Bool.true_and, Bool.and_false, Bool.false_and, Nat.reduceSub, List.reduceReplicate, List.set_cons_zero, List.set_cons_succ, if_true, if_false, ↓reduceIte, String.reduceEq, reduceCtorEq])
local macro_rules | `(tactic| push_cast [$as:simpLemma,*]) => `(tactic| try simp only [IL.fD, IL.zN, IL.zM, IL.dS, IL.zO, IL.Ak, IL.Al, IL.A7, IL.A8, IL.hX, IL.Am, IL.mK, IL.mn, IL.kT, IL.mq, IL.nQ, IL.rm, IL.kY, IL.rp, IL.qQ, IL.zl, IL.vA, IL.jw, IL.nR, IL.vg, IL.ka, IL.iA, IL.qR, IL.kb, IL.An, IL.nX, IL.Ao, IL.zP, IL.yU, IL.vB, IL.zQ, IL.zR, IL.gf, IL.gU, IL.ia, IL.xn, IL.A9, IL.Bb, IL.Bc, IL.B7, IL.B8, IL.B9, IL.Ca, IL.Be, IL.Ap, IL.Bg, IL.Bh, IL.Bj, IL.Cb, IL.Aq, IL.Ar, IL.As, IL.lb, IL.Bk, IL.zk, IL.Ag, IL.Ai, IL.Aj, decide_true, decide_false, Bool.false_eq_true, Bool.not_true, Bool.not_false, IL.Bl, IL.Bm, IL.Bn, IL.Cc, IL.Cd, IL.Ce, IL.Cf, IL.Cg, IL.Ci, IL.Cj, IL.Ck, IL.Cm, IL.Cn, IL.Co, IL.Cq, IL.Cr, IL.Cs, IL.Au, IL.Av, IL.Aw, IL.Ax, IL.Ay, IL.Az, IL.Bo, IL.Bp, IL.Bq, IL.Br, IL.Bs, IL.AA, IL.Bt, IL.zS, IL.zT, IL.zU, IL.zV, IL.oS, IL.Cu, IL.Bx, IL.By, IL.Bz, IL.BA, IL.BB, IL.AB, IL.AD, IL.zo, IL.vK, IL.Bv, IL.Bw, Bool.or_false, Bool.false_or, Bool.or_true, Bool.true_or, Bool.and_true, Bool.true_and, Bool.and_false, Bool.false_and, Nat.reduceSub, List.reduceReplicate, List.set_cons_zero, List.set_cons_succ, if_true, if_false, ↓reduceIte, String.reduceEq, reduceCtorEq, $as,*])
local macro_rules | `(term| nofun) => `(by decide +kernel)
namespace IL.K14
open PySem PySem.Spec PyProof.Rows L2
theorem iL(us:List Value)(hl:us.length=1):∃a,us=[a]:=List.length_eq_one_iff.mp hl
theorem ib(us:List Value)(hl:us.length=2):∃a1 a2,us=[a1,a2]:=by
 cases us with
 | nil=>cases hl
 | cons a1 us=>
  obtain⟨a2,rfl⟩:=iL us (adt hl);exact⟨a1,a2,rfl⟩
theorem mV(us:List Value)(hl:us.length=3):∃a1 a2 a3,us=[a1,a2,a3]:=by
 cases us with
 | nil=>cases hl
 | cons a1 us=>
  obtain⟨a2,a3,rfl⟩:=ib us (adt hl);exact⟨a1,a2,a3,rfl⟩
theorem CB(us:List Value)(hl:us.length=4):∃a1 a2 a3 a4,us=[a1,a2,a3,a4]:=by
 cases us with
 | nil=>cases hl
 | cons a1 us=>
  obtain⟨a2,a3,a4,rfl⟩:=mV us (adt hl);exact⟨a1,a2,a3,a4,rfl⟩
theorem CC(us:List Value)(hl:us.length=5):∃a1 a2 a3 a4 a5,us=[a1,a2,a3,a4,a5]:=by
 cases us with
 | nil=>cases hl
 | cons a1 us=>
  obtain⟨a2,a3,a4,a5,rfl⟩:=CB us (adt hl);exact⟨a1,a2,a3,a4,a5,rfl⟩
theorem Xi(us:List Value)(hl:us.length=6):∃a1 a2 a3 a4 a5 a6,us=[a1,a2,a3,a4,a5,a6]:=by
 cases us with
 | nil=>cases hl
 | cons a1 us=>
  obtain⟨a2,a3,a4,a5,a6,rfl⟩:=CC us (adt hl);exact⟨a1,a2,a3,a4,a5,a6,rfl⟩
theorem Xj(us:List Value)(hl:us.length=7):∃a1 a2 a3 a4 a5 a6 a7,us=[a1,a2,a3,a4,a5,a6,a7]:=by
 cases us with
 | nil=>cases hl
 | cons a1 us=>
  obtain⟨a2,a3,a4,a5,a6,a7,rfl⟩:=Xi us (adt hl);exact⟨a1,a2,a3,a4,a5,a6,a7,rfl⟩
noncomputable def top(i:Nat):Stmt:=PySem.Challenge.pw_boxwright_k14_ways_to_uses.main.body.getD i (.Pass ⟨0,0,0,0⟩)
abbrev uo:Stmt:=top 13
abbrev tV:Stmt:=top 21
abbrev uR:Stmt:=top 14
abbrev uz:Stmt:=top 15
abbrev t6:Stmt:=top 22
abbrev uq:Stmt:=top 16
abbrev uh:Stmt:=top 18
abbrev tN:Stmt:=top 17
abbrev uB:Stmt:=top 19
abbrev ur:Stmt:=top 20
abbrev uC:Stmt:=top 24
abbrev tK:Stmt:=top 23
abbrev uD:Stmt:=top 26
abbrev uE:Stmt:=top 25
abbrev ui:Stmt:=top 27
abbrev uF:Stmt:=top 32
abbrev u5:Stmt:=top 29
abbrev uS:Stmt:=top 31
abbrev uT:Stmt:=top 30
abbrev uj:Stmt:=top 33
abbrev ut:Stmt:=top 34
abbrev u6:Stmt:=top 10
abbrev vC:Stmt:=top 8
abbrev vL:Stmt:=top 4
abbrev tW:Stmt:=top 6
abbrev t7:Stmt:=top 9
abbrev uG:Stmt:=top 1
abbrev vV:Stmt:=top 5
abbrev uU:Stmt:=top 2
abbrev fj:Stmt:=top 11
abbrev uV:Stmt:=top 28
abbrev tQ:Stmt:=top 35
abbrev uH:Stmt:=top 36
abbrev jI:Stmt:=top 37
noncomputable def uu:SM:=(av (aV (eT (ae dB (aa 1) (aX bv (ab (aa 0) af)))) (aW (ae ah (aa 0) (aa 1))) aZ) (aW (eC (.int (0)))))
noncomputable def cG:List W->Mo W:=fM uu 2 2
noncomputable def tL:SM:=(av (ax (ae ah (aR (ab (aR af) (ab (aR (ab (aQ (ab (eC (.str "take")) (ab (aa 3) af))) af)) (ab (aR (ab (aQ (ab (eC (.str "turn")) af)) af)) af)))) (ae aN (ae addW (aa 1) (ae cI (aa 3) (aa 3))) (eC (.int (3))))) (gN 4)) (av (ax (aQ (ab (eC (.str "go")) (ab (ae dj (aa 3) (eC (.int (1)))) (ab (aQ af) af)))) (gN 5)) (av (aV (eT (ae aY (aa 3) (ae dj (aa 0) (eC (.int (1)))))) (ax (aR (ab (aQ (ab (eC (.str "take")) (ab (eC (.int (900))) af))) af)) (gN 4)) aZ) (av (aV (eT (ae aY (aa 3) (eC (.int (1))))) (av (ax (aR (ab (aQ (ab (eC (.str "tell")) (ab (eC (.int (900))) af))) (ab (aQ (ab (eC (.str "do")) (ab (eC (.int (901))) (ab (eC (.str "sum")) (ab (eC (.int (0))) (ab (eC (.int (900))) af)))))) (ab (aQ (ab (eC (.str "tell")) (ab (eC (.int (901))) af))) af)))) (gN 4)) (ax (aQ (ab (eC (.str "end")) af)) (gN 5))) aZ) (cO (cz bU cB (aa 2) (ab (aQ (ab (aR af) (ab (aa 4) (ab (aa 5) af)))) af)))))))
noncomputable def tX:SM:=(av (ax (aR (ab (aQ (ab (aR af) (ab (aR (ab (aQ (ab (eC (.str "set")) (ab (eC (.int (0))) (ab (ae aN (aa 1) (eC (.int (9)))) af)))) af)) (ab (aQ (ab (eC (.str "go")) (ab (ae dj (aa 0) (eC (.int (1)))) (ab (aQ af) af)))) af)))) af)) (gN 2)) (av (cT (pg (ab (eC (.int (1))) (ab (aa 0) af))) (gN 3) tL) (aW (aa 2))))
noncomputable def yA:List W->Mo W:=fM tX 6 2
noncomputable def uW:SM:=(aW (ae aN (ae cI (ae addW (ae addW (aa 0) (ae cI (eC (.int (7))) (aa 1))) (eC (.int (3)))) (eC (.int (48271)))) (eC (.int (2147483647)))))
noncomputable def fK:List W->Mo W:=fM uW 2 2
noncomputable def uI:SM:=(aW (ae ah (aR (ab (ae dj (ae aN (aa 0) (eC (.int (100003)))) (eC (.int (1000)))) (ab (ae dj (ae aN (ae cI (aa 0) (eC (.int (48271)))) (eC (.int (4294967296)))) (eC (.int (2147483648)))) af))) (ae aN (ae bS (aa 0) (eC (.int (100003)))) (eC (.int (2))))))
noncomputable def kS:List W->Mo W:=fM uI 1 1
noncomputable def yx:SM:=(av (ax (aC fK (ab (aC cG (ab (aa 1) (ab (ae addW (eC (.int (2))) (aa 3)) af))) (ab (aa 3) af))) (gN 4)) (av (ax (aQ (ab (eC (.str "set")) (ab (aa 3) (ab (aC kS (ab (aa 4) af)) af)))) (gN 5)) (av (aV (eT (ae aY (ae aN (aa 4) (eC (.int (5)))) (eC (.int (0))))) (ax (aQ (ab (eC (.str "take")) (ab (aa 3) af))) (gN 5)) aZ) (cO (cz bU cB (aa 2) (ab (aa 5) af))))))
noncomputable def yy:SM:=(av (ax (aC fK (ab (aC cG (ab (aa 1) (ab (ae addW (eC (.int (15))) (aa 3)) af))) (ab (aa 3) af))) (gN 4)) (av (ax (ae ah (aa 6) (ae aN (ae addW (ae addW (aa 3) (eC (.int (1)))) (ae aN (ae bS (aC cG (ab (aa 1) (ab (eC (.int (14))) af))) (eC (.int (2)))) (ae dj (aa 0) (eC (.int (1)))))) (aa 0))) (gN 8)) (av (aV (eT (ae aY (ae aN (aC cG (ab (aa 1) (ab (eC (.int (14))) af))) (eC (.int (2)))) (eC (.int (1))))) (ax (ae ah (aa 6) (ae aN (ae bS (aa 4) (eC (.int (3)))) (aa 0))) (gN 8)) aZ) (cO (cz bU cB (aa 7) (ab (aa 8) af))))))
noncomputable def t8:SM:=(av (ax (aR af) (gN 2)) (av (cT (cY (ab (aa 0) af)) (gN 3) yx) (av (ax (dW (cY (ab (aa 0) af)) [none] (gN 0) dH (ae addW (eC (.int (100))) (ae cI (eC (.int (3))) (aa 0)))) (gN 6)) (av (ax (aR af) (gN 7)) (av (cT (cY (ab (aa 0) af)) (gN 3) yy) (av (ax (ae addW (aR (ab (aQ (ab (eC (.str "turn")) af)) af)) (dW (c8 (aa 6)) [none] (gN 0) dH (aQ (ab (eC (.str "tell")) (ab (aa 0) af))))) (gN 9)) (aW (aR (ab (aQ (ab (aR af) (ab (aa 2) (ab (aQ (ab (eC (.str "go")) (ab (eC (.int (1))) (ab (wD (aa 0)) af)))) af)))) (ab (aQ (ab (aa 6) (ab (aa 9) (ab (aQ (ab (eC (.str "go")) (ab (eC (.int (1))) (ab (aX k0 (ab (aa 7) af)) af)))) af)))) af))))))))))
noncomputable def yE:List W->Mo W:=fM t8 10 2
noncomputable def tY:SM:=(ax (eC (.bl true)) (h9 (aa 3) (aa 9)))
noncomputable def tZ:SM:=(av (ax (aC fK (ab (aC cG (ab (aa 0) (ab (ae addW (eC (.int (2))) (aa 4)) af))) (ab (aa 4) af))) (gN 5)) (av (ax (ae aN (aa 5) (eC (.int (5)))) (gN 6)) (av (ax (ae addW (eC (.int (1))) (ae aN (ae bS (aa 5) (eC (.int (5)))) (aX rM (ab (eC (.int (1))) (ab (ae dj (aa 1) (eC (.int (1)))) af))))) (gN 7)) (av (ax (ae addW (eC (.int (1))) (ae aN (ae bS (aa 5) (eC (.int (35)))) (aX rM (ab (eC (.int (1))) (ab (ae dj (aa 1) (eC (.int (1)))) af))))) (gN 8)) (av (aV (fq (eT (ae dB (ae addW (aa 4) (eC (.int (1)))) (aa 1))) (eT (ae bY (ae addW (aa 4) (eC (.int (1)))) (aa 3)))) (av (ax (ae addW (aa 4) (eC (.int (1)))) (gN 8)) (ax (ae aN (aa 6) (eC (.int (3)))) (gN 6))) aZ) (av (aV (dX (eT (ae aY (aa 1) (eC (.int (1))))) (eT (ae aY (aa 6) (eC (.int (4)))))) (cO (cz bU cB (aa 2) (ab (aR af) af))) (aV (dX (eT (ae aY (aa 6) (eC (.int (0))))) (eT (ae aY (aa 6) (eC (.int (3)))))) (cO (cz bU cB (aa 2) (ab (aR (ab (aa 8) af)) af))) (cO (cz bU cB (aa 2) (ab (aR (ab (aa 7) (ab (aa 8) af))) af))))) (cT (c8 (ae ah (aa 2) (jO jc (eC (.int (1)))))) (gN 9) tY)))))))
noncomputable def uv:SM:=(av (ax (aR af) (gN 2)) (av (ax ly (gN 3)) (av (cT (cY (ab (aa 1) af)) (gN 4) tZ) (aW (aa 2)))))
noncomputable def uw:List W->Mo W:=fM uv 10 2
noncomputable def pR:SM:=(aV (dX (fq (eT (ae aY (aX bv (ab (aa 5) af)) (eC (.int (2))))) (eT (ae dN (aa 3) (aa 5)))) (eT (ae aY (aa 3) (eC (.int (0)))))) (ax (eC (.int (0))) (gN 4)) aZ)
noncomputable def yz:SM:=(av (ax (ae aN (ae bS (aC fK (ab (aC cG (ab (aa 0) (ab (ae addW (eC (.int (8))) (aa 3)) af))) (ab (eC (.int (5))) af))) (eC (.int (11)))) (eC (.int (4)))) (gN 4)) (av (cT (c8 (aa 1)) (gN 5) pR) (cO (cz bU cB (aa 2) (ab (aa 4) af)))))
noncomputable def uk:SM:=(av (ax (aR af) (gN 2)) (av (cT (cY (ab (aX bv (ab (aa 1) af)) af)) (gN 3) yz) (aW (aa 2))))
noncomputable def ul:List W->Mo W:=fM uk 6 2
noncomputable def tJ:SM:=(av (ax (cz bU oK (aa 3) af) (gN 4)) (aV (fq (eT (ae dJ (aa 4) (aa 1))) (eT (ae bY (aa 4) (aa 2)))) (av (ax (eC (.bl true)) (h9 (aa 2) (aa 4))) (ax (ae addW (aa 3) (ae ah (aa 0) (aa 4))) (gN 3))) aZ))
noncomputable def tP:SM:=(av (ax ly (gN 2)) (av (ax (aR (ab (eC (.int (0))) af)) (gN 3)) (av (hW (eT (ae kH (aX bv (ab (aa 3) af)) (eC (.int (0))))) tJ) (aW (aa 2)))))
noncomputable def nz:List W->Mo W:=fM tP 5 2
noncomputable def jX:SM:=(av (ax (ae ah (aa 2) (ae dj (ae dj (aX bv (ab (aa 2) af)) (eC (.int (1)))) (ae aN (ae bS (aa 0) (eC (.int (16)))) (aX rN (ab (aX bv (ab (aa 2) af)) (ab (eC (.int (7))) af)))))) (gN 3)) (av (ax (ae ah (aa 2) (ae aN (ae bS (aa 0) (eC (.int (112)))) (aX bv (ab (aa 2) af)))) (gN 4)) (av (ax (ae aN (aa 0) (eC (.int (16)))) (gN 5)) (av (aV (eT (ae dB (aa 5) (eC (.int (2))))) (aW (aQ (ab (eC (.str "set")) (ab (aa 1) (ab (ae dj (ae aN (ae bS (aa 0) (eC (.int (16)))) (eC (.int (9)))) (eC (.int (2)))) af))))) aZ) (av (aV (eT (ae aY (aa 5) (eC (.int (2))))) (aW (aQ (ab (eC (.str "set")) (ab (aa 1) (ab (aC kS (ab (aa 0) af)) af))))) aZ) (av (aV (eT (ae dB (aa 5) (eC (.int (11))))) (av (ax (ae ah (aR (ab (eC (.str "sum")) (ab (eC (.str "less")) (ab (eC (.str "times")) (ab (eC (.str "part")) (ab (eC (.str "below")) (ab (eC (.str "alike")) af))))))) (ae aN (ae bS (aa 0) (eC (.int (2240)))) (eC (.int (6))))) (gN 6)) (aW (aQ (ab (eC (.str "do")) (ab (aa 1) (ab (aa 6) (ab (aa 3) (ab (aa 4) af)))))))) aZ) (av (aV (eT (ae dB (aa 5) (eC (.int (13))))) (aW (aQ (ab (eC (.str "take")) (ab (aa 1) af)))) aZ) (av (aV (eT (ae dB (aa 5) (eC (.int (15))))) (aW (aQ (ab (eC (.str "tell")) (ab (aa 3) af)))) aZ) (aW (aQ (ab (eC (.str "turn")) af)))))))))))
noncomputable def jY:List W->Mo W:=fM jX 7 3
noncomputable def pV:SM:=(av (ax (aC fK (ab (aC cG (ab (aa 0) (ab (ae addW (ae addW (eC (.int (20))) (ae cI (eC (.int (4))) (aa 1))) (ae aN (aa 10) (eC (.int (4))))) af))) (ab (aa 10) af))) (gN 11)) (av (aV (eT (ae kH (aa 10) (eC (.int (3))))) (ax (ae aN (ae cI (aa 11) (ae addW (ae bS (aa 11) (eC (.int (7)))) (aa 10))) (eC (.int (2147483647)))) (gN 11)) aZ) (av (ax (aC jY (ab (aa 11) (ab (ae addW (aa 2) (ae cI (aa 3) (aX bv (ab (aa 7) af)))) (ab (aa 8) af)))) (gN 12)) (av (cO (cz bU cB (aa 7) (ab (aa 12) af))) (aV (eT (ae bY (ae ah (aa 12) (eC (.int (0)))) (aR (ab (eC (.str "tell")) (ab (eC (.str "turn")) af))))) (cO (cz bU cB (aa 8) (ab (ae ah (aa 12) (eC (.int (1)))) af))) aZ)))))
noncomputable def ux:SM:=(av (ax (aR af) (gN 7)) (av (ax (aX jH (ab (aa 4) af)) (gN 8)) (av (aV (eU (aa 5)) (cO (cz bU cB (aa 7) (ab (aQ (ab (eC (.str "turn")) af)) af))) aZ) (av (aV (eT (ae aY (aa 1) (eC (.int (0))))) (av (cO (cz bU cB (aa 7) (ab (aQ (ab (eC (.str "set")) (ab (eC (.int (0))) (ab (aC kS (ab (aC fK (ab (aC cG (ab (aa 0) (ab (eC (.int (14))) af))) (ab (eC (.int (1))) af))) af)) af)))) af))) (cO (cz bU cB (aa 8) (ab (eC (.int (0))) af)))) aZ) (av (ax (ae bS (aC fK (ab (aC cG (ab (aa 0) (ab (ae addW (eC (.int (14))) (aa 1)) af))) (ab (eC (.int (9))) af))) (eC (.int (7)))) (gN 9)) (av (cT (cY (ab (ae ah (aR (ab (ae aN (aa 9) (eC (.int (5)))) (ab (ae addW (eC (.int (6))) (ae aN (aa 9) (eC (.int (7))))) af))) (aX mO (ab (aa 6) af))) af)) (gN 10) pV) (aW (aQ (ab (aa 7) (ab (aa 8) af))))))))))
noncomputable def yH:List W->Mo W:=fM ux 13 7
noncomputable def nB:SM:=(av (ax (aC fK (ab (aC cG (ab (aa 0) (ab (ae addW (eC (.int (44))) (aa 1)) af))) (ab (aa 1) af))) (gN 5)) (av (aV (eT (ae aY (aa 2) (aR af))) (aW (aQ (ab (eC (.str "end")) af))) aZ) (av (aV (eT (ae aY (aX bv (ab (aa 2) af)) (eC (.int (2))))) (aW (aQ (ab (eC (.str "if")) (ab (ae ah (aa 4) (ae aN (aa 5) (aX bv (ab (aa 4) af)))) (ab (ae ah (aa 2) (eC (.int (0)))) (ab (ae ah (aa 2) (eC (.int (1)))) af)))))) aZ) (av (ax (dW (cY (ab (ae ah (aa 3) (ae ah (aa 2) (eC (.int (0))))) af)) [none,some 4,some 5] (gN 0) dH (ae ah (aa 1) (ae aN (ae bS (aa 2) (ae addW (eC (.int (1))) (ae cI (eC (.int (13))) (aa 0)))) (aX bv (ab (aa 1) af))))) (gN 6)) (aW (aQ (ab (eC (.str "go")) (ab (ae ah (aa 2) (eC (.int (0)))) (ab (aX k0 (ab (aa 6) af)) af)))))))))
noncomputable def nC:List W->Mo W:=fM nB 7 5
noncomputable def yv:SM:=(aV (eT (ae bY (aa 10) (ae ah (aa 6) (aa 13)))) (ax (ae addW (aa 12) (ae ah (aa 8) (aa 13))) (gN 12)) aZ)
noncomputable def pP:SM:=(av (ax (dW (cY (ab (ae ah (aa 5) (aa 10)) af)) [none,some 9,some 2] (gN 0) dH (ae addW (aa 1) (ae cI (aa 2) (aa 0)))) (gN 11)) (av (ax (ae addW (aa 9) (ae cI (aa 2) (ae ah (aa 5) (aa 10)))) (gN 9)) (av (ax (aR af) (gN 12)) (av (cT (cY (ab (aa 10) af)) (gN 13) yv) (av (ax (aX oO (ab (dW (cY (ab (aa 1) af)) [none,some 10,some 4] (gN 0) dH (jb (ae dN (aa 1) (ae ah (aa 2) (aa 0))) (ae kG (aa 1) (aa 0)))) af)) (gN 14)) (av (ax (jb (ae aY (ae aN (aa 3) (eC (.int (5)))) (eC (.int (1)))) (ae aY (aa 10) (ae aN (ae bS (aa 3) (eC (.int (5)))) (aa 1)))) (gN 15)) (av (ax (aC yH (ab (aa 0) (ab (aa 10) (ab (aa 9) (ab (aa 2) (ab (ae addW (aa 12) (aa 11)) (ab (aa 14) (ab (aa 15) af)))))))) (jd 2 [(gN 16),(gN 17)])) (av (cO (cz bU cB (aa 8) (ab (sN (aa 17) (rL (aX bv (ab (aa 12) af))) wj) af))) (av (ax (ae addW (aa 9) (ae cI (aa 2) (aX bv (ab (aa 16) af)))) (gN 9)) (cO (cz bU cB (aa 7) (ab (aQ (ab (aa 11) (ab (aa 16) (ab (aC nC (ab (aa 0) (ab (aa 10) (ab (ae ah (aa 4) (aa 10)) (ab (aa 5) (ab (aa 17) af)))))) af)))) af))))))))))))
noncomputable def ny:SM:=(av (aV (eT (ae aY (ae aN (ae bS (aC cG (ab (aa 0) (ab (eC (.int (0))) af))) (eC (.int (6)))) (eC (.int (9)))) (eC (.int (4))))) (aW (aC yA (ab (ae addW (eC (.int (15))) (ae aN (ae bS (aC cG (ab (aa 0) (ab (eC (.int (0))) af))) (eC (.int (54)))) (eC (.int (6))))) (ab (aC cG (ab (aa 0) (ab (eC (.int (2))) af))) af)))) aZ) (av (aV (eT (ae aY (ae aN (ae bS (aC cG (ab (aa 0) (ab (eC (.int (0))) af))) (eC (.int (6)))) (eC (.int (9)))) (eC (.int (5))))) (aW (aC yE (ab (ae addW (eC (.int (7))) (ae aN (ae bS (aC cG (ab (aa 0) (ab (eC (.int (0))) af))) (eC (.int (54)))) (eC (.int (6))))) (ab (aa 0) af)))) aZ) (av (ax (ae addW (eC (.int (1))) (ae aN (aC cG (ab (aa 0) (ab (eC (.int (0))) af))) (eC (.int (6))))) (gN 1)) (av (ax (ae addW (eC (.int (1))) (ae aN (aC cG (ab (aa 0) (ab (eC (.int (1))) af))) (eC (.int (3))))) (gN 2)) (av (ax (ae bS (aC cG (ab (aa 0) (ab (eC (.int (0))) af))) (eC (.int (54)))) (gN 3)) (av (ax (aC uw (ab (aa 0) (ab (aa 1) af))) (gN 4)) (av (ax (aC ul (ab (aa 0) (ab (aa 4) af))) (gN 5)) (av (ax (dW (cY (ab (aa 1) af)) [none,some 4] (gN 0) dH (aC nz (ab (aa 1) (ab (aa 0) af)))) (gN 6)) (av (ax (aR af) (gN 7)) (av (ax (aR af) (gN 8)) (av (ax (aa 2) (gN 9)) (av (cT (cY (ab (aa 1) af)) (gN 10) pP) (aW (aa 7))))))))))))))
noncomputable def l7:List W->Mo W:=fM ny 18 1
noncomputable def uJ:SM:=(av (aV (eT (ae aY (ae ah (aa 0) (eC (.int (0)))) (eC (.str "go")))) (aW (aQ (ab (ae ah (aa 0) (eC (.int (0)))) (ab (ae ah (aa 0) (eC (.int (1)))) (ab (aX k0 (ab (dW (c8 (ae ah (aa 0) (eC (.int (2))))) [none,some 2,some 1] (gN 0) dH (ae aN (ae addW (ae cI (aa 0) (aa 2)) (aa 1)) (eC (.int (1009))))) af)) af))))) aZ) (av (aV (eT (ae aY (ae ah (aa 0) (eC (.int (0)))) (eC (.str "if")))) (aW (aQ (ab (ae ah (aa 0) (eC (.int (0)))) (ab (ae aN (ae addW (ae cI (ae ah (aa 0) (eC (.int (1)))) (aa 1)) (aa 2)) (eC (.int (1009)))) (ab (ae ah (aa 0) (eC (.int (2)))) (ab (ae ah (aa 0) (eC (.int (3)))) af)))))) aZ) (aW (aa 0))))
noncomputable def uK:List W->Mo W:=fM uJ 3 3
noncomputable def uL:SM:=(av (aV (eT (ae aY (aX bv (ab (aa 0) af)) (eC (.int (1))))) (aW (aa 0)) aZ) (av (ax (ae aN (ae addW (ae cI (ae ah (aa 0) (eC (.int (1)))) (aa 1)) (aa 2)) (eC (.int (1009)))) (gN 3)) (av (aV (eT (ae aY (ae ah (aa 0) (eC (.int (0)))) (eC (.str "set")))) (aW (aQ (ab (ae ah (aa 0) (eC (.int (0)))) (ab (aa 3) (ab (ae ah (aa 0) (eC (.int (2)))) af))))) aZ) (av (aV (eT (ae aY (ae ah (aa 0) (eC (.int (0)))) (eC (.str "do")))) (aW (aQ (ab (ae ah (aa 0) (eC (.int (0)))) (ab (aa 3) (ab (ae ah (aa 0) (eC (.int (2)))) (ab (ae aN (ae addW (ae cI (ae ah (aa 0) (eC (.int (3)))) (aa 1)) (aa 2)) (eC (.int (1009)))) (ab (ae aN (ae addW (ae cI (ae ah (aa 0) (eC (.int (4)))) (aa 1)) (aa 2)) (eC (.int (1009)))) af))))))) aZ) (aW (aQ (ab (ae ah (aa 0) (eC (.int (0)))) (ab (aa 3) af))))))))
noncomputable def qk:List W->Mo W:=fM uL 4 3
noncomputable def pS:SM:=(av (ax (dW (c8 (aa 5)) [none,some 3,some 2] (gN 0) dH (ae aN (ae addW (ae cI (aa 0) (aa 2)) (aa 1)) (eC (.int (1009))))) (gN 8)) (cO (cz bU cB (aa 4) (ab (aQ (ab (aa 8) (ab (dW (c8 (aa 6)) [none,some 2,some 3] (gN 0) dH (aC qk (ab (aa 0) (ab (aa 1) (ab (aa 2) af))))) (ab (aC uK (ab (aa 7) (ab (aa 2) (ab (aa 3) af)))) af)))) af))))
noncomputable def qa:SM:=(av (ax (aC cG (ab (aa 0) (ab (eC (.int (1))) af))) (gN 1)) (av (ax (eC (.int (1))) (gN 2)) (av (ax (eC (.int (0))) (gN 3)) (av (aV (eT (ae aY (ae aN (ae bS (aa 1) (eC (.int (3)))) (eC (.int (2)))) (eC (.int (1))))) (av (ax (ae addW (eC (.int (1))) (ae aN (ae bS (aa 1) (eC (.int (6)))) (eC (.int (1008))))) (gN 2)) (ax (ae aN (ae bS (aa 1) (eC (.int (6048)))) (eC (.int (1009)))) (gN 3))) aZ) (av (ax (aR af) (gN 4)) (av (cT (c8 (aC l7 (ab (aa 0) af))) (jd 3 [(gN 5),(gN 6),(gN 7)]) pS) (aW (aa 4))))))))
noncomputable def qb:List W->Mo W:=fM qa 9 1
noncomputable def uM:SM:=(aW (ae addW (ae ah (ae ah (aa 0) (aa 1)) (eC (.int (1)))) (aR (ab (ae ah (ae ah (aa 0) (aa 1)) (eC (.int (2)))) af))))
noncomputable def qo:List W->Mo W:=fM uM 2 2
noncomputable def qz:SM:=(av (aV (eT (ae aY (ae ah (aa 0) (eC (.int (0)))) (eC (.str "do")))) (aW (aR (ab (ae ah (aa 0) (eC (.int (3)))) (ab (ae ah (aa 0) (eC (.int (4)))) af)))) aZ) (av (aV (dX (eT (ae aY (ae ah (aa 0) (eC (.int (0)))) (eC (.str "tell")))) (eT (ae aY (ae ah (aa 0) (eC (.int (0)))) (eC (.str "if"))))) (aW (aR (ab (ae ah (aa 0) (eC (.int (1)))) af))) aZ) (av (aV (eT (ae aY (ae ah (aa 0) (eC (.int (0)))) (eC (.str "go")))) (aW (aX jH (ab (ae ah (aa 0) (eC (.int (2)))) af))) aZ) (aW (aR af)))))
noncomputable def j7:List W->Mo W:=fM qz 1 1
noncomputable def qx:SM:=(aW (jb (ae dN (ae ah (aa 0) (eC (.int (0)))) (aR (ab (eC (.str "set")) (ab (eC (.str "do")) (ab (eC (.str "take")) af))))) (ae aY (ae ah (aa 0) (eC (.int (1)))) (aa 1))))
noncomputable def j0:List W->Mo W:=fM qx 2 2
noncomputable def uX:SM:=(av (aV (eT (ae aY (ae ah (aa 0) (eC (.int (0)))) (eC (.str "go")))) (aW (aR (ab (ae ah (aa 0) (eC (.int (1)))) af))) aZ) (av (aV (eT (ae aY (ae ah (aa 0) (eC (.int (0)))) (eC (.str "if")))) (aW (aR (ab (ae ah (aa 0) (eC (.int (2)))) (ab (ae ah (aa 0) (eC (.int (3)))) af)))) aZ) (aW (aR af))))
noncomputable def nE:List W->Mo W:=fM uX 1 1
noncomputable def pT:SM:=(aV (fq (eT (ae bY (aa 3) (ae ah (ae ah (aa 0) (aa 1)) (eC (.int (0)))))) (eT (ae dN (aa 1) (aC nE (ab (ae ah (ae ah (aa 0) (aa 5)) (eC (.int (2)))) af))))) (cO (cz bU cB (aa 4) (ab (aQ (ab (aa 5) (ab (aX bv (ab (ae ah (ae ah (aa 0) (aa 5)) (eC (.int (1)))) af)) af))) af))) aZ)
noncomputable def um:SM:=(av (aV (eT (ae kH (aa 2) (eC (.int (0))))) (av (aV (eU (aC j0 (ab (ae ah (ae ah (ae ah (aa 0) (aa 1)) (eC (.int (1)))) (ae dj (aa 2) (eC (.int (1))))) (ab (aa 3) af)))) (aW (aR af)) aZ) (aW (aR (ab (aQ (ab (aa 1) (ab (ae dj (aa 2) (eC (.int (1)))) af))) af)))) aZ) (av (ax (aR af) (gN 4)) (av (cT (cY (ab (aX bv (ab (aa 0) af)) af)) (gN 5) pT) (aW (aa 4)))))
noncomputable def qc:List W->Mo W:=fM um 6 4
noncomputable def Eh:SM:=(cO (cz bU cB (aa 2) (ab (aQ (ab (aa 3) (ab (aa 4) (ab (aa 6) (ab (eC (.int (1))) af))))) af)))
noncomputable def t4:SM:=(av (ax ly (h9 (aa 1) (aQ (ab (aa 3) (ab (aa 4) af))))) (cT (c8 (aC j7 (ab (aa 5) af))) (gN 6) Eh))
noncomputable def t5:SM:=(cT (rO (ab (aC qo (ab (aa 0) (ab (aa 3) af))) af)) (jd 2 [(gN 4),(gN 5)]) t4)
noncomputable def yB:SM:=(cO (cz bU cB (aa 2) (ab (aQ (ab (ae ah (aa 9) (eC (.int (0)))) (ab (ae ah (aa 9) (eC (.int (1)))) (ab (aa 6) (ab (ae addW (aa 8) (eC (.int (1)))) af))))) af)))
noncomputable def pW:SM:=(av (ax (ae ah (aa 2) (aa 7)) (jd 4 [(gN 3),(gN 4),(gN 6),(gN 8)])) (av (aV (eT (ae bY (aa 6) (ae ah (aa 1) (aQ (ab (aa 3) (ab (aa 4) af)))))) (av (ax (aa 8) (h9 (ae ah (aa 1) (aQ (ab (aa 3) (ab (aa 4) af)))) (aa 6))) (cT (c8 (aC qc (ab (aa 0) (ab (aa 3) (ab (aa 4) (ab (aa 6) af)))))) (gN 9) yB)) aZ) (ax (ae addW (aa 7) (eC (.int (1)))) (gN 7))))
noncomputable def uy:SM:=(av (ax ly (gN 1)) (av (ax (aR af) (gN 2)) (av (cT (cY (ab (aX bv (ab (aa 0) af)) af)) (gN 3) t5) (av (ax (eC (.int (0))) (gN 7)) (av (hW (eT (ae dB (aa 7) (aX bv (ab (aa 2) af)))) pW) (aW (aa 1)))))))
noncomputable def yI:List W->Mo W:=fM uy 10 1
noncomputable def u7:SM:=(aW (jb (k5 kG dB (eC (.int (0))) (aa 1) (aX bv (ab (aa 0) af))) (k5 kG kG (eC (.int (0))) (aa 2) (aX bv (ab (ae ah (ae ah (aa 0) (aa 1)) (eC (.int (1)))) af)))))
noncomputable def u9:List W->Mo W:=fM u7 3 3
noncomputable def vD:SM:=(av (ax (ae ah (aa 0) (ae ah (aa 1) (eC (.int (0))))) (gN 2)) (aW (lL (eT (ae dB (ae ah (aa 1) (eC (.int (1)))) (aX bv (ab (ae ah (aa 2) (eC (.int (1)))) af)))) (ae ah (ae ah (aa 2) (eC (.int (1)))) (ae ah (aa 1) (eC (.int (1))))) (ae ah (aa 2) (eC (.int (2)))))))
noncomputable def nT:List W->Mo W:=fM vD 3 2
noncomputable def vM:SM:=(aW (lL (eT (ae dN (ae ah (aa 0) (eC (.int (0)))) (aQ (ab (eC (.str "set")) (ab (eC (.str "do")) (ab (eC (.str "take")) af)))))) (ae ah (aa 0) (eC (.int (1)))) (eC .aJ)))
noncomputable def vN:List W->Mo W:=fM vM 1 1
noncomputable def yC:SM:=(av (aV (eT (ae aY (ae ah (aa 0) (eC (.int (0)))) (eC (.str "go")))) (aW (aR (ab (ae ah (aa 0) (eC (.int (1)))) af))) aZ) (av (aV (eT (ae aY (ae ah (aa 0) (eC (.int (0)))) (eC (.str "if")))) (aW (aR (ab (ae ah (aa 0) (eC (.int (2)))) (ab (ae ah (aa 0) (eC (.int (3)))) af)))) aZ) (aW (aR af))))
noncomputable def yD:List W->Mo W:=fM yC 1 1
noncomputable def t9:SM:=(av (ax (aC nT (ab (aa 0) (ab (aa 1) af))) (gN 3)) (av (aV (eT (ae dB (ae ah (aa 1) (eC (.int (1)))) (aX bv (ab (ae ah (ae ah (aa 0) (ae ah (aa 1) (eC (.int (0))))) (eC (.int (1)))) af)))) (aW (lL (eT (ae aY (aC vN (ab (aa 3) af)) (aa 2))) (aR af) (aR (ab (aQ (ab (ae ah (aa 1) (eC (.int (0)))) (ab (ae addW (ae ah (aa 1) (eC (.int (1)))) (eC (.int (1)))) af))) af)))) aZ) (aW (dW (c8 (aC yD (ab (aa 3) af))) [none,some 2,some 0] (gN 0) (eT (ae bY (aa 1) (ae ah (ae ah (aa 2) (aa 0)) (eC (.int (0)))))) (aQ (ab (aa 0) (ab (eC (.int (0))) af)))))))
noncomputable def yF:List W->Mo W:=fM t9 4 3
noncomputable def l_way_to:EM:=(aC yF (ab (aa 2) (ab (aa 0) (ab (aa 1) af))))
noncomputable def ua:SM:=(aV (eT (ae bY (aa 4) (aa 2))) (av (ax (eC .aJ) (h9 (aa 2) (aa 4))) (cO (cz bU cB (aa 3) (ab (aa 4) af)))) aZ)
noncomputable def ub:SM:=(aV (eT (ae bY (aa 7) (aa 2))) (av (ax (aa 6) (h9 (aa 2) (aa 7))) (cO (cz bU cB (aa 3) (ab (aa 7) af)))) aZ)
noncomputable def ue:SM:=(av (ax (ae ah (aa 3) (aa 5)) (gN 6)) (av (ax (ae HJ (aa 5) (eC (.int (1)))) (gN 5)) (cT (c8 (ox "way_to" l_way_to 1 (ab (aa 6) af))) (gN 7) ub)))
noncomputable def uN:SM:=(av (ax ly (gN 2)) (av (ax (aR af) (gN 3)) (av (cT (c8 (aa 0)) (gN 4) ua) (av (ax (eC (.int (0))) (gN 5)) (av (hW (eT (ae dB (aa 5) (aX bv (ab (aa 3) af)))) ue) (aW (aa 2)))))))
noncomputable def uO:List W->Mo W:=fM uN 8 2
noncomputable def rA:SM:=(av (aV (eT (ae aY (ae ah (aa 0) (eC (.int (0)))) (eC (.str "do")))) (aW (aR (ab (ae ah (aa 0) (eC (.int (3)))) (ab (ae ah (aa 0) (eC (.int (4)))) af)))) aZ) (av (aV (eT (ae dN (ae ah (aa 0) (eC (.int (0)))) (aQ (ab (eC (.str "tell")) (ab (eC (.str "if")) af))))) (aW (aR (ab (ae ah (aa 0) (eC (.int (1)))) af))) aZ) (av (aV (eT (ae aY (ae ah (aa 0) (eC (.int (0)))) (eC (.str "go")))) (aW (aX jH (ab (ae ah (aa 0) (eC (.int (2)))) af))) aZ) (aW (aR af)))))
noncomputable def mF:List W->Mo W:=fM rA 1 1
noncomputable def Ek:SM:=(cO (cz bU cB (aa 2) (ab (ae jK (aa 0) (ae ah (aa 2) (jO jc (eC (.int (1)))))) af)))
noncomputable def uY:SM:=(av (ax (aR (ab (aa 1) af)) (gN 2)) (av (hW (eT (ae kh (ae jK (aa 0) (ae ah (aa 2) (jO jc (eC (.int (1)))))) (eC .aJ))) Ek) (aW (aa 2))))
noncomputable def yL:List W->Mo W:=fM uY 3 2
noncomputable def yM:SM:=(aV (eT (ae dN (aa 3) (aC mF (ab (aC nT (ab (aa 0) (ab (aa 5) af))) af)))) (aW (wB (aC yL (ab (aa 4) (ab (aa 5) af))))) aZ)
noncomputable def vj:SM:=(av (aV (gw (eU (aC u9 (ab (aa 0) (ab (aa 1) (ab (aa 2) af)))))) (aW (eC .aJ)) aZ) (av (ax (aC uO (ab (aR (ab (aQ (ab (aa 1) (ab (aa 2) af))) af)) (ab (ke "way_to" 3 0) af))) (gN 4)) (av (rR (aa 4) (gN 5) yM) (aW (eC .aJ)))))
noncomputable def kU:SM:=(BC vj)
noncomputable def qL:List W->Mo W:=fM kU 6 4
noncomputable def yN:SM:=(aW (jb (kI "int" (aa 0)) (w8 (kI "bool" (aa 0)))))
noncomputable def uZ:List W->Mo W:=fM yN 1 1
noncomputable def tR:SM:=(av (ax (ae ah (aa 1) (eC (.int (0)))) (gN 3)) (av (ax (ae ah (ae ah (aa 0) (aa 3)) (eC (.int (1)))) (gN 4)) (av (aV (eT (ae dB (ae ah (aa 1) (eC (.int (1)))) (aX bv (ab (aa 4) af)))) (aW (aR (ab (aQ (ab (aa 3) (ab (ae addW (ae ah (aa 1) (eC (.int (1)))) (eC (.int (1)))) af))) af))) aZ) (aW (dW (c8 (aC nE (ab (ae ah (ae ah (aa 0) (aa 3)) (eC (.int (2)))) af))) [none,some 2,some 0] (gN 0) (eT (ae bY (aa 1) (ae ah (ae ah (aa 2) (aa 0)) (eC (.int (0)))))) (aQ (ab (aa 0) (ab (eC (.int (0))) af))))))))
noncomputable def tU:List W->Mo W:=fM tR 5 3
noncomputable def ug:SM:=(av (ax (ae ah (aa 0) (aa 5)) (gN 6)) (av (aV (dX (gw (eU (kI "tuple" (aa 6)))) (dX (eT (ae dJ (aX bv (ab (aa 6) af)) (eC (.int (2))))) (dX (gw (eU (aC uZ (ab (ae ah (aa 6) (eC (.int (0)))) af)))) (gw (eU (aC uZ (ab (ae ah (aa 6) (eC (.int (1)))) af))))))) (aW (eC (.bl false))) aZ) (av (aV (fq (eT (ae kH (aa 5) (eC (.int (0))))) (eT (ae bY (aa 6) (aC tU (ab (aa 1) (ab (ae ah (aa 0) (ae dj (aa 5) (eC (.int (1))))) (ab (aa 3) af))))))) (aW (eC (.bl false))) aZ) (av (ax (ae ah (aC qo (ab (aa 1) (ab (ae ah (aa 6) (eC (.int (0)))) af))) (ae ah (aa 6) (eC (.int (1))))) (gN 7)) (aV (dX (eT (ae dJ (ae dN (aa 3) (aC j7 (ab (aa 7) af))) (ae aY (aa 5) (ae dj (aa 4) (eC (.int (1))))))) (fq (eT (ae dB (aa 5) (ae dj (aa 4) (eC (.int (1)))))) (eU (aC j0 (ab (aa 7) (ab (aa 3) af)))))) (aW (eC (.bl false))) aZ)))))
noncomputable def uP:SM:=(av (aV (dX (gw (eU (kI "list" (aa 0)))) (dX (eT (ae dJ (aX bv (ab (aa 0) af)) (aa 4))) (eT (ae dJ (ae ah (aa 0) (eC (.int (0)))) (aa 2))))) (aW (eC (.bl false))) aZ) (av (cT (cY (ab (aa 4) af)) (gN 5) ug) (aW (eC (.bl true)))))
noncomputable def uQ:List W->Mo W:=fM uP 8 5
noncomputable def qM:SM:=(av (ax (aC fK (ab (aC cG (ab (aa 0) (ab (ae addW (eC (.int (50))) (ae aN (aa 4) (eC (.int (3))))) af))) (ab (aa 4) af))) (gN 5)) (av (ax (ae ah (aa 3) (ae aN (ae bS (aa 5) (eC (.int (2)))) (aX bv (ab (aa 3) af)))) (gN 6)) (av (ax (ae aN (ae bS (aa 5) (eC (.int (200)))) (eC (.int (40)))) (gN 7)) (av (ax (aX mJ (ab (ae ah (aa 2) (aa 6)) af)) (gN 8)) (av (aV (fq (eT (ae aY (ae aN (aa 5) (eC (.int (2)))) (eC (.int (1))))) (eT (ae dJ (aa 8) (aR af)))) (ax (ae ah (aa 8) (ae aN (ae bS (aa 5) (eC (.int (200)))) (aX bv (ab (aa 8) af)))) (gN 7)) aZ) (av (ax (aC qL (ab (aa 1) (ab (ae ah (aa 6) (eC (.int (0)))) (ab (ae ah (aa 6) (eC (.int (1)))) (ab (aa 7) af))))) (gN 9)) (aV (eT (ae bY (aa 7) (ae ah (aa 2) (aa 6)))) (aV (eT (ae kh (aa 9) (eC .aJ))) (aW (eC (.bl false))) aZ) (aV (gw (eU (aC uQ (ab (aa 9) (ab (aa 1) (ab (aa 6) (ab (aa 7) (ab (ae ah (ae ah (aa 2) (aa 6)) (aa 7)) af)))))))) (aW (eC (.bl false))) aZ))))))))
noncomputable def oz:SM:=(av (ax (aC qb (ab (aa 0) af)) (gN 1)) (av (ax (aC yI (ab (aa 1) af)) (gN 2)) (av (ax (rk (aa 2) [none] (gN 0) dH (aa 0)) (gN 3)) (av (cT (cY (ab (eC (.int (12))) af)) (gN 4) qM) (aW (jb (ae oM (aC qL (ab (aa 1) (ab (eC (.int (0))) (ab (eC (.int (0))) (ab (ae xj (eC (.int (10))) (eC (.int (9)))) af))))) (eC .aJ)) (ae aY (aa 1) (aC qb (ab (aa 0) af)))))))))
noncomputable def rS:List W->Mo W:=fM oz 10 1
set_option genInjectivity false in
structure cM(K:aao)(mg:Str->Option Value)(n:Str)(st:Stmt)(ps:List Str) where
 a:Addr
 d:aaV
 F:jj K n n st a d
 m:mg n=some (.ref a)
 b:Binds K d ps []
set_option genInjectivity false in
structure Tx(K:aao)(mg:Str->Option Value) where
 dQ:cM K mg "_law_cell_at" uo ["_law_script","_law_k"]
 pX:cM K mg "_law_back_chain" tV ["_law_many","_law_cell"]
 hO:cM K mg "_law_mixed" uR ["_law_cell","_law_k"]
 md:cM K mg "_law_set_by" uz ["_law_number"]
 pZ:cM K mg "_law_wide_ring" t6 ["_law_many","_law_script"]
 qg:cM K mg "_law_ends_by" uq ["_law_script","_law_many"]
 qd:cM K mg "_law_sizes_by" uh ["_law_script","_law_ends"]
 l8:cM K mg "_law_come_without" tN ["_law_ends","_law_shut"]
 qp:cM K mg "_law_row_of" uB ["_law_number","_law_value","_law_now"]
 qh:cM K mg "_law_rows_of" ur ["_law_script","_law_k","_law_first","_law_step","_law_known","_law_is_turned","_law_is_wide"]
 qq:cM K mg "_law_end_of" uC ["_law_script","_law_k","_law_goals_here","_law_sizes","_law_now"]
 pQ:cM K mg "_law_plain_graph_by" tK ["_law_script"]
 qr:cM K mg "_law_end_as" uD ["_law_end","_law_times","_law_more"]
 me:cM K mg "_law_row_as" uE ["_law_row","_law_times","_law_more"]
 nA:cM K mg "_law_graph_by" ui ["_law_script"]
 nD:cM K mg "_law_things" uF ["_law_graph","_law_block"]
 nI:cM K mg "_law_used" u5 ["_law_thing"]
 nF:cM K mg "_law_gives" uS ["_law_row","_law_value"]
 nG:cM K mg "_law_goals" uT ["_law_end"]
 qe:cM K mg "_law_ahead_of" uj ["_law_graph","_law_block","_law_place","_law_value"]
 qj:cM K mg "_law_live_by" ut ["_law_graph"]
 qA:cM K mg "is_point" u6 ["graph","block","place"]
 nU:cM K mg "row_at" vC ["graph","point"]
 qT:cM K mg "given" vL ["row"]
 pY:cM K mg "further_blocks" tW ["end"]
 l9:cM K mg "points_behind" t7 ["graph","point","value"]
 qt:cM K mg "found_from" uG ["starts","further"]
 rB:cM K mg "used" vV ["row"]
 qy:cM K mg "back_from" uU ["found","thing"]
 a_way_to:Addr
 mj:aaV
 kW:jj K "way_to" "way_to" fj a_way_to mj
 zu:mg "way_to"=some (.ref a_way_to)
 kU:Binds K mj ["graph","block","place","value"] []
 nH:cM K mg "_law_whole" uV ["_law_found"]
 pU:cM K mg "_law_next_points" tQ ["_law_graph","_law_point","_law_value"]
 qu:cM K mg "_law_is_way" uH ["_law_found","_law_graph","_law_start","_law_value","_law_size"]
 a_law:Addr
 wM:aaV
 rT:jj K "law" "law" jI a_law wM
 V9:mg "law"=some (.ref a_law)
 oz:Binds K wM ["_law_script"] []
 qC:Addr
 qD:Addr
 yW:Obj
 E6:mj.code=.ref qC
 E7:K.lookup qC=some yW
 E8:kX yW=some qD
 E9:qC≠qD
 Fb:(("way_to":Str),qC,qD)∈fL K
 Fc:∀p∈fL K,p.2.2=qD->p.1="way_to"
 yX:jD K "way_to"=some (mU fj)
 Hi:mg "any"=none
 GI:mg "bool"=none
 Ez:mg "enumerate"=none
 BD:mg "int"=none
 qv:mg "isinstance"=none
 BE:mg "len"=none
 oj:mg "list"=none
 BF:mg "max"=none
 Hj:mg "min"=none
 fk:mg "range"=none
 EJ:mg "reversed"=none
 FI:mg "sorted"=none
 nY:mg "tuple"=none
noncomputable def cR(K:aao)(n:Str)(st:Stmt)(f:Addr)(fd:aaV):Prop:=abn K aaL n=some (some (.ref f))/\jj K n n st f fd
variable{K:aao}{st:Stmt}
theorem AE{x:Str}{f:Addr}{oc:Value}{od an:Option Addr}{gW:Array (Option Value)}{kV doc pm bI ct:Value}(a:abn K aaL x=some (some (.ref f)))(l:K.lookup f=some ⟨oc,od,.func (abL x x (i5 st) (fB st) (bf st) .none kV doc pm an bI ct),gW⟩)(c:acO K bI x=true)(k:acz K (.ref f)=true):cR K x st f (abL x x (i5 st) (fB st) (bf st) .none kV doc pm an bI ct):=⟨a,z8 l c k⟩
variable{mg:Str->Option Value}
noncomputable def cU{h:Heap}{x:Str}{f:Addr}{fd:aaV}{ps:List Str}(KX:K.In h)(G:h.Ns aaL mg)(H:cR K x st f fd)(hb:∀(kV doc pm:Value) (an:Option Addr) (bI ct:Value) (us:List Value),us.length=ps.length->bindArgs (abL x x (i5 st) (fB st) (bf st) .none kV doc pm an bI ct) ⟨us,[]⟩=pure (ps.zip us)):cM K mg x st ps:=⟨f,fd,H.2,aeR KX G H.1,H.2.binds hb⟩
abbrev JX(N:List Str)(st:Stmt)(k:Nat)(b:SM):Prop:=∀{X:Cx},Tx X.K X.mg->Bd X N (bf st) k->rZ X->X.env.scope=bf st->JB X (fB st) b
variable{N:List Str}{k n:Nat}
theorem cV{P:abw}{w:World}{base:Heap}{x:Str}{ps:List Str}{np:Nat}{b:SM}(T:Tx K mg)(D:cM K mg x st ps)(hn:N.length=n)(hp:ps.length=np)(S:cx N ps (bf st))(hb:JX N st k b):bM P w K mg base (bG P w) (k+1) D.a D.d ps (bT K mg np (fM b n np)):=F3 hn hp D.F S fun{X} h1 h2 h3 h4 h5 B hF ba=>by subst h3 h4;exact hb T B hF ba
section
variable{X:Cx}{N:List Str}{sc:Scope}{k:Nat}{e o:Expr}{es:List Expr}{mo m:EM}{am:AM}{p pos:Pos}
theorem bu{j:Nat}{fm:List W->Mo W}{x:Str}{st:Stmt}{ps:List Str}(B:Bd X N sc k)(D:cM X.K X.mg x st ps)(F:bM X.prog X.w X.K X.mg X.base (bG X.prog X.w) j D.a D.d ps (bT X.K X.mg ps.length fm))(hl:∀{xs:List W} {ph:PH},xs.length≠ps.length->fm xs ph=.no)(hg:sc.names.lookup x=some .globalImplicit)(ha:JA X (e::es) am)(hk:j<=k:=by decide)(hn:eN (e::es)=true:=by rfl)(eh:(x==("__debug__":Str))=false:=by decide +kernel):JE X (.Call (.Name x p) (e::es) [] pos) (aC fm am):=oh hn eh F hl (B.room.mono hk) (B.gl _ hg) D.m D.F.kp D.b ha
theorem dq(B:Bd X N sc k)(T:Tx X.K X.mg)(hg:sc.names.lookup ("len":Str)=some .globalImplicit)(ha:JA X (e::es) am)(hn:eN (e::es)=true:=by rfl):JE X (.Call (.Name "len" p) (e::es) [] pos) (aX bv am):=mD hn nofun nofun EX GB (B.gl _ hg) T.BE PySem.boot_len ha
theorem eR(ho:JE X o mo)(ha:JA X (e::es) am)(gr:acK o "append" X.env (eval o X.env)=eval o X.env:=by rfl)(gu:(p.endLine==pos.line)=true:=by rfl)(hn:eN (e::es)=true:=by rfl)(hl:decide ((e::es).length<30)=true:=by rfl):JE X (.Call (.Attribute o "append" p) (e::es) [] pos) (cz bU cB mo am):=Uh hn hl aeS PySem.F.slot_list_append PySem.F.type_list_append EU G5 N1 ho ha gr gu
theorem ag(he:JE X e m)(ha:JA X es am)(h:isStar e=false:=by rfl):JA X (e::es) (ab m am):=WZ h he ha
end
variable{X:Cx}{N':List Str}{sc:Scope}
theorem iM{scope:Scope}{tg:Expr}{g:GM}(B:Bd X N sc k)(T:Tx X.K X.mg)(hc:∀y∈scope.names,y.2≠.cell)(nd:N'.Nodup)(h:∀{Y:Cx},Bd Y N' scope k->Tx Y.K Y.mg->JG Y tg g)(cl:List (Str×Addr))(C:Addr)(aE:aaw)(aO:Hp)(ex:List Addr):JG (bV X N' scope cl C aE aO ex) tg g:=h (B.bV hc nd) T
variable{t:TM}
theorem iN{scope:Scope}{ifs:List Expr}(B:Bd X N sc k)(T:Tx X.K X.mg)(hc:∀y∈scope.names,y.2≠.cell)(nd:N'.Nodup)(h:∀{Y:Cx},Bd Y N' scope k->Tx Y.K Y.mg->JF Y ifs t)(cl:List (Str×Addr))(C:Addr)(aE:aaw)(aO:Hp)(ex:List Addr):JF (bV X N' scope cl C aE aO ex) ifs t:=h (B.bV hc nd) T
theorem iO{scope:Scope}{e:Expr}{m:EM}(B:Bd X N sc k)(T:Tx X.K X.mg)(hc:∀y∈scope.names,y.2≠.cell)(nd:N'.Nodup)(h:∀{Y:Cx},Bd Y N' scope k->Tx Y.K Y.mg->JE Y e m)(cl:List (Str×Addr))(C:Addr)(aE:aaw)(aO:Hp)(ex:List Addr):JE (bV X N' scope cl C aE aO ex) e m:=h (B.bV hc nd) T
theorem yY:oy (mU fj) "point" "value" "graph":=⟨rfl,rfl,rfl,nofun,nofun,nofun,nofun,nofun,(fun y h=>UG (l:=(mU fj).sc.names) nofun h),nofun,fun _ _ _ _ _ _=>rfl⟩
section
variable{P:abw}{w:World}{K:aao}{mg:Str->Option Value}{base:Heap}
theorem LK:cx ["_law_script","_law_k"] ["_law_script","_law_k"] (bf uo):=⟨rfl,rfl,rfl,nofun,rfl,nofun,nofun⟩
theorem K9:JX ["_law_script","_law_k"] uo 0 uu:=fun{X} T B hF ba=>
 have v0 {p:Pos}:=B.jv (pos:=p) (x:="_law_script") 0 rfl (.inl nofun) nofun;have v1 {p:Pos}:=B.jv (pos:=p) (x:="_law_k") 1 rfl (.inl nofun) nofun
 (az (bz (a9 hZ v1 (dq B T nofun (ag v0 ak))) (aF (bh (B.ah v0 v1))) bF) (aF (bh aj)))
theorem eY(T:Tx K mg):bM P w K mg base (bG P w) 1 T.dQ.a T.dQ.d ["_law_script","_law_k"] (bT K mg 2 (fM uu 2 2)):=cV T T.dQ rfl rfl LK K9
theorem KO:cx ["_law_many","_law_cell","_law_graph","_law_k","_law_rows","_law_end"] ["_law_many","_law_cell"] (bf tV):=⟨rfl,rfl,rfl,nofun,rfl,nofun,nofun⟩
theorem Kv:JX ["_law_many","_law_cell","_law_graph","_law_k","_law_rows","_law_end"] tV 0 tX:=fun{X} T B hF ba=>
 have v0 {p:Pos}:=B.jv (pos:=p) (x:="_law_many") 0 rfl (.inl nofun) nofun;have v1 {p:Pos}:=B.jv (pos:=p) (x:="_law_cell") 1 rfl (.inl nofun) nofun;have v2 {p:Pos}:=B.jv (pos:=p) (x:="_law_graph") 2 rfl (.inl nofun) nofun;have v3 {p:Pos}:=B.jv (pos:=p) (x:="_law_k") 3 rfl (.inl nofun) nofun;have v4 {p:Pos}:=B.jv (pos:=p) (x:="_law_rows") 4 rfl (.inl nofun) nofun;have v5 {p:Pos}:=B.jv (pos:=p) (x:="_law_end") 5 rfl (.inl nofun) nofun
 (az (B.aU 2 rfl (.inl nofun) rfl (bD (ag (bE (ag (bD ak) (ag (bD (ag (bE (ag bx (ag aj (ag (bL v1 aj) ak)))) ak)) (ag (bE (ag bx (ag (fY v0 aj) (ag (bE ak) ak)))) ak)))) ak))) (az (B.fe (N6 (B.gl _ nofun) T.fk rfl rfl (ag aj (ag v0 ak))) (B.cm 3 rfl (.inl nofun)) (az (B.aU 4 rfl (.inl nofun) rfl (B.ah (bD (ag (bD ak) (ag (bD (ag (bE (ag bx (ag v3 ak))) ak)) (ag (bD (ag (bE (ag bx ak)) ak)) ak)))) (bL (bO v1 (fC v3 v3)) aj))) (az (B.aU 5 rfl (.inl nofun) rfl (bE (ag bx (ag (fY v3 aj) (ag (bE ak) ak))))) (az (bz (a9 B.eq v3 (fY v0 aj)) (aF (B.aU 4 rfl (.inl nofun) rfl (bD (ag (bE (ag bx (ag aj ak))) ak)))) bF) (az (bz (a9 B.eq v3 aj) (az (B.aU 4 rfl (.inl nofun) rfl (bD (ag (bE (ag bx (ag aj ak))) (ag (bE (ag bx (ag aj (ag bx (ag aj (ag aj ak)))))) (ag (bE (ag bx (ag aj ak))) ak))))) (aF (B.aU 5 rfl (.inl nofun) rfl (bE (ag bx ak))))) bF) (aF (eO rfl (eR v2 (ag (bE (ag (bD ak) (ag v4 (ag v5 ak)))) ak))))))))) (aF (bh v2))))
theorem KP(T:Tx K mg):bM P w K mg base (bG P w) 1 T.pX.a T.pX.d ["_law_many","_law_cell"] (bT K mg 2 (fM tX 6 2)):=cV T T.pX rfl rfl KO Kv
theorem MI:cx ["_law_cell","_law_k"] ["_law_cell","_law_k"] (bf uR):=⟨rfl,rfl,rfl,nofun,rfl,nofun,nofun⟩
theorem LL:JX ["_law_cell","_law_k"] uR 0 uW:=fun{X} T B hF ba=>
 have v0 {p:Pos}:=B.jv (pos:=p) (x:="_law_cell") 0 rfl (.inl nofun) nofun;have v1 {p:Pos}:=B.jv (pos:=p) (x:="_law_k") 1 rfl (.inl nofun) nofun
 (aF (bh (bL (fC (bO (bO v0 (fC aj v1)) aj) aj) aj)))
theorem jZ(T:Tx K mg):bM P w K mg base (bG P w) 1 T.hO.a T.hO.d ["_law_cell","_law_k"] (bT K mg 2 (fM uW 2 2)):=cV T T.hO rfl rfl MI LL
theorem Ma:cx ["_law_number"] ["_law_number"] (bf uz):=⟨rfl,rfl,rfl,nofun,rfl,nofun,nofun⟩
theorem Lm:JX ["_law_number"] uz 0 uI:=fun{X} T B hF ba=>
 have v0 {p:Pos}:=B.jv (pos:=p) (x:="_law_number") 0 rfl (.inl nofun) nofun
 (aF (bh (B.ah (bD (ag (fY (bL v0 aj) aj) (ag (fY (bL (fC v0 aj) aj) aj) ak))) (bL (dE v0 aj) aj))))
theorem yJ(T:Tx K mg):bM P w K mg base (bG P w) 1 T.md.a T.md.d ["_law_number"] (bT K mg 1 (fM uI 1 1)):=cV T T.md rfl rfl Ma Lm
theorem La:cx ["_law_many","_law_script","_law_rows","_law_k","_law_number","_law_row","_law_params","_law_args","_law_arg","_law_told"] ["_law_many","_law_script"] (bf t6):=⟨rfl,rfl,rfl,nofun,rfl,nofun,nofun⟩
theorem KA:JX ["_law_many","_law_script","_law_rows","_law_k","_law_number","_law_row","_law_params","_law_args","_law_arg","_law_told"] t6 1 t8:=fun{X} T B hF ba=>
 have v0 {p:Pos}:=B.jv (pos:=p) (x:="_law_many") 0 rfl (.inl nofun) nofun;have v1 {p:Pos}:=B.jv (pos:=p) (x:="_law_script") 1 rfl (.inl nofun) nofun;have v2 {p:Pos}:=B.jv (pos:=p) (x:="_law_rows") 2 rfl (.inl nofun) nofun;have v3 {p:Pos}:=B.jv (pos:=p) (x:="_law_k") 3 rfl (.inl nofun) nofun;have v4 {p:Pos}:=B.jv (pos:=p) (x:="_law_number") 4 rfl (.inl nofun) nofun;have v5 {p:Pos}:=B.jv (pos:=p) (x:="_law_row") 5 rfl (.inl nofun) nofun;have v6 {p:Pos}:=B.jv (pos:=p) (x:="_law_params") 6 rfl (.inl nofun) nofun;have v7 {p:Pos}:=B.jv (pos:=p) (x:="_law_args") 7 rfl (.inl nofun) nofun;have v8 {p:Pos}:=B.jv (pos:=p) (x:="_law_arg") 8 rfl (.inl nofun) nofun;have v9 {p:Pos}:=B.jv (pos:=p) (x:="_law_told") 9 rfl (.inl nofun) nofun
 (az (B.aU 2 rfl (.inl nofun) rfl (bD ak)) (az (B.fe (fX (B.gl _ nofun) T.fk rfl (ag v0 ak)) (B.cm 3 rfl (.inl nofun)) (az (B.aU 4 rfl (.inl nofun) rfl (bu B T.hO (jZ T) bi nofun (ag (bu B T.dQ (eY T) bi nofun (ag v1 (ag (bO aj v3) ak))) (ag v3 ak)))) (az (B.aU 5 rfl (.inl nofun) rfl (bE (ag bx (ag v3 (ag (bu B T.md (yJ T) bi nofun (ag v4 ak)) ak))))) (az (bz (a9 B.eq (bL v4 aj) aj) (aF (B.aU 5 rfl (.inl nofun) rfl (bE (ag bx (ag v3 ak))))) bF) (aF (eO rfl (eR v2 (ag v5 ak)))))))) (az (qP (i:=6) (by rw[B.hN];exact B.nd) (by rw[B.hN];rfl) (B.fn _ (.inl nofun)).2 (by rw[ba];decide +kernel) B.calm (N':=["_law_k"]) (Bd.cap B.hN ba nofun) (fX (B.gl _ nofun) T.fk rfl (ag v0 ak)) (iM B T nofun nofun fun{X} B T=>(B.cm 0 rfl (.inl rfl))) (iN B T nofun nofun fun{X} B T=>jB) (iO B T nofun nofun fun{X} B T=>(bO aj (fC aj (B.jv 0 rfl (.inl rfl) nofun)))) (nK (by rw[ba];rfl) (by rw[ba];decide +kernel) rfl nofun)) (az (B.aU 7 rfl (.inl nofun) rfl (bD ak)) (az (B.fe (fX (B.gl _ nofun) T.fk rfl (ag v0 ak)) (B.cm 3 rfl (.inl nofun)) (az (B.aU 4 rfl (.inl nofun) rfl (bu B T.hO (jZ T) bi nofun (ag (bu B T.dQ (eY T) bi nofun (ag v1 (ag (bO aj v3) ak))) (ag v3 ak)))) (az (B.aU 8 rfl (.inl nofun) rfl (B.ah v6 (bL (bO (bO v3 aj) (bL (dE (bu B T.dQ (eY T) bi nofun (ag v1 (ag aj ak))) aj) (fY v0 aj))) v0))) (az (bz (a9 B.eq (bL (bu B T.dQ (eY T) bi nofun (ag v1 (ag aj ak))) aj) aj) (aF (B.aU 8 rfl (.inl nofun) rfl (B.ah v6 (bL (dE v4 aj) v0)))) bF) (aF (eO rfl (eR v7 (ag v8 ak)))))))) (az (B.aU 9 rfl (.inl nofun) rfl (bO (bD (ag (bE (ag bx ak)) ak)) (nV B.calm (N':=["_law_value"]) (Bd.cap B.hN ba nofun) (hV v6) (iM B T nofun nofun fun{X} B T=>(B.cm 0 rfl (.inl rfl))) (iN B T nofun nofun fun{X} B T=>jB) (iO B T nofun nofun fun{X} B T=>(bE (ag bx (ag (B.jv 0 rfl (.inl rfl) nofun) ak))))))) (aF (bh (bD (ag (bE (ag (bD ak) (ag v2 (ag (bE (ag bx (ag aj (ag (Rt B.calm (B.gl _ nofun) T.nY (B.gl _ nofun) T.fk rfl v0) ak)))) ak)))) (ag (bE (ag v6 (ag v9 (ag (bE (ag bx (ag aj (ag (mE rfl nofun nofun yG zf (B.gl _ nofun) T.nY acg (ag v7 ak)) ak)))) ak)))) ak)))))))))))
theorem Lb(T:Tx K mg):bM P w K mg base (bG P w) 2 T.pZ.a T.pZ.d ["_law_many","_law_script"] (bT K mg 2 (fM t8 10 2)):=cV T T.pZ rfl rfl La KA
theorem LM:cx ["_law_script","_law_many","_law_ends","_law_met","_law_k","_law_number","_law_way","_law_yes","_law_no","_law_goal"] ["_law_script","_law_many"] (bf uq):=⟨rfl,rfl,rfl,nofun,rfl,nofun,nofun⟩
theorem Lc:JX ["_law_script","_law_many","_law_ends","_law_met","_law_k","_law_number","_law_way","_law_yes","_law_no","_law_goal"] uq 1 uv:=fun{X} T B hF ba=>
 have v0 {p:Pos}:=B.jv (pos:=p) (x:="_law_script") 0 rfl (.inl nofun) nofun;have v1 {p:Pos}:=B.jv (pos:=p) (x:="_law_many") 1 rfl (.inl nofun) nofun;have v2 {p:Pos}:=B.jv (pos:=p) (x:="_law_ends") 2 rfl (.inl nofun) nofun;have v3 {p:Pos}:=B.jv (pos:=p) (x:="_law_met") 3 rfl (.inl nofun) nofun;have v4 {p:Pos}:=B.jv (pos:=p) (x:="_law_k") 4 rfl (.inl nofun) nofun;have v5 {p:Pos}:=B.jv (pos:=p) (x:="_law_number") 5 rfl (.inl nofun) nofun;have v6 {p:Pos}:=B.jv (pos:=p) (x:="_law_way") 6 rfl (.inl nofun) nofun;have v7 {p:Pos}:=B.jv (pos:=p) (x:="_law_yes") 7 rfl (.inl nofun) nofun;have v8 {p:Pos}:=B.jv (pos:=p) (x:="_law_no") 8 rfl (.inl nofun) nofun;have v9 {p:Pos}:=B.jv (pos:=p) (x:="_law_goal") 9 rfl (.inl nofun) nofun
 (az (B.aU 2 rfl (.inl nofun) rfl (bD ak)) (az (B.aU 3 rfl (.inl nofun) rfl qZ) (az (B.fe (fX (B.gl _ nofun) T.fk rfl (ag v1 ak)) (B.cm 4 rfl (.inl nofun)) (az (B.aU 5 rfl (.inl nofun) rfl (bu B T.hO (jZ T) bi nofun (ag (bu B T.dQ (eY T) bi nofun (ag v0 (ag (bO aj v4) ak))) (ag v4 ak)))) (az (B.aU 6 rfl (.inl nofun) rfl (bL v5 aj)) (az (B.aU 7 rfl (.inl nofun) rfl (bO aj (bL (dE v5 aj) (mD rfl nofun nofun (EN B.calm) F2 (B.gl _ nofun) T.BF afr (ag aj (ag (fY v1 aj) ak)))))) (az (B.aU 8 rfl (.inl nofun) rfl (bO aj (bL (dE v5 aj) (mD rfl nofun nofun (EN B.calm) F2 (B.gl _ nofun) T.BF afr (ag aj (ag (fY v1 aj) ak)))))) (az (bz (gS (mC (a9 hZ (bO v4 aj) v1) (gL (a9 (B.iE (by with_unfolding_all rfl)) (bO v4 aj) v3)))) (az (B.aU 8 rfl (.inl nofun) rfl (bO v4 aj)) (aF (B.aU 6 rfl (.inl nofun) rfl (bL v6 aj)))) bF) (az (bz (gS (jG (a9 B.eq v1 aj) (gL (a9 B.eq v6 aj)))) (aF (eO rfl (eR v2 (ag (bD ak) ak)))) (aF (bz (gS (jG (a9 B.eq v6 aj) (gL (a9 B.eq v6 aj)))) (aF (eO rfl (eR v2 (ag (bD (ag v8 ak)) ak)))) (aF (eO rfl (eR v2 (ag (bD (ag v7 (ag v8 ak))) ak))))))) (aF (B.fe (hV (B.ah v2 (Ab aj))) (B.cm 9 rfl (.inl nofun)) (aF (k7 kj (B.nW v3 v9)))))))))))) (aF (bh v2)))))
theorem LN(T:Tx K mg):bM P w K mg base (bG P w) 2 T.qg.a T.qg.d ["_law_script","_law_many"] (bT K mg 2 (fM uv 10 2)):=cV T T.qg rfl rfl LM Lc
theorem Lo:cx ["_law_script","_law_ends","_law_sizes","_law_k","_law_size","_law_some"] ["_law_script","_law_ends"] (bf uh):=⟨rfl,rfl,rfl,nofun,rfl,nofun,nofun⟩
theorem KQ:JX ["_law_script","_law_ends","_law_sizes","_law_k","_law_size","_law_some"] uh 1 uk:=fun{X} T B hF ba=>
 have v0 {p:Pos}:=B.jv (pos:=p) (x:="_law_script") 0 rfl (.inl nofun) nofun;have v1 {p:Pos}:=B.jv (pos:=p) (x:="_law_ends") 1 rfl (.inl nofun) nofun;have v2 {p:Pos}:=B.jv (pos:=p) (x:="_law_sizes") 2 rfl (.inl nofun) nofun;have v3 {p:Pos}:=B.jv (pos:=p) (x:="_law_k") 3 rfl (.inl nofun) nofun;have v4 {p:Pos}:=B.jv (pos:=p) (x:="_law_size") 4 rfl (.inl nofun) nofun;have v5 {p:Pos}:=B.jv (pos:=p) (x:="_law_some") 5 rfl (.inl nofun) nofun
 (az (B.aU 2 rfl (.inl nofun) rfl (bD ak)) (az (B.fe (fX (B.gl _ nofun) T.fk rfl (ag (dq B T nofun (ag v1 ak)) ak)) (B.cm 3 rfl (.inl nofun)) (az (B.aU 4 rfl (.inl nofun) rfl (bL (dE (bu B T.hO (jZ T) bi nofun (ag (bu B T.dQ (eY T) bi nofun (ag v0 (ag (bO aj v3) ak))) (ag aj ak))) aj) aj)) (az (B.fe (hV v1) (B.cm 5 rfl (.inl nofun)) (aF (bz (gS (jG (gS (mC (a9 B.eq (dq B T nofun (ag v5 ak)) aj) (gL (a9 (B.lA (by with_unfolding_all rfl)) v3 v5)))) (gL (a9 B.eq v3 aj)))) (aF (B.aU 4 rfl (.inl nofun) rfl aj)) bF))) (aF (eO rfl (eR v2 (ag v4 ak))))))) (aF (bh v2))))
theorem Lp(T:Tx K mg):bM P w K mg base (bG P w) 2 T.qd.a T.qd.d ["_law_script","_law_ends"] (bT K mg 2 (fM uk 6 2)):=cV T T.qd rfl rfl Lo KQ
theorem Kw:cx ["_law_ends","_law_shut","_law_found","_law_waiting","_law_block"] ["_law_ends","_law_shut"] (bf tN):=⟨rfl,rfl,rfl,nofun,rfl,nofun,nofun⟩
theorem Km:JX ["_law_ends","_law_shut","_law_found","_law_waiting","_law_block"] tN 0 tP:=fun{X} T B hF ba=>
 have v0 {p:Pos}:=B.jv (pos:=p) (x:="_law_ends") 0 rfl (.inl nofun) nofun;have v1 {p:Pos}:=B.jv (pos:=p) (x:="_law_shut") 1 rfl (.inl nofun) nofun;have v2 {p:Pos}:=B.jv (pos:=p) (x:="_law_found") 2 rfl (.inl nofun) nofun;have v3 {p:Pos}:=B.jv (pos:=p) (x:="_law_waiting") 3 rfl (.inl nofun) nofun;have v4 {p:Pos}:=B.jv (pos:=p) (x:="_law_block") 4 rfl (.inl nofun) nofun
 (az (B.aU 2 rfl (.inl nofun) rfl qZ) (az (B.aU 3 rfl (.inl nofun) rfl (bD (ag aj ak))) (az (B.vT (a9 wm (dq B T nofun (ag v3 ak)) aj) (az (B.aU 4 rfl (.inl nofun) rfl (Q8 aeS PySem.F.slot_list_pop PySem.F.type_list_pop S6 G5 TK v3)) (aF (bz (gS (mC (a9 B.ne v4 v1) (gL (a9 (B.iE (by with_unfolding_all rfl)) v4 v2)))) (az (k7 kj (B.nW v2 v4)) (aF (B.aU 3 rfl (.inl nofun) rfl (bO v3 (B.ah v0 v4))))) bF)))) (aF (bh v2)))))
theorem Kx(T:Tx K mg):bM P w K mg base (bG P w) 1 T.l8.a T.l8.d ["_law_ends","_law_shut"] (bT K mg 2 (fM tP 5 2)):=cV T T.l8 rfl rfl Kw Km
theorem Mb:cx ["_law_number","_law_value","_law_now","_law_one","_law_other","_law_way","_law_word"] ["_law_number","_law_value","_law_now"] (bf uB):=⟨rfl,rfl,rfl,nofun,rfl,nofun,nofun⟩
theorem Lq:JX ["_law_number","_law_value","_law_now","_law_one","_law_other","_law_way","_law_word"] uB 1 jX:=fun{X} T B hF ba=>
 have v0 {p:Pos}:=B.jv (pos:=p) (x:="_law_number") 0 rfl (.inl nofun) nofun;have v1 {p:Pos}:=B.jv (pos:=p) (x:="_law_value") 1 rfl (.inl nofun) nofun;have v2 {p:Pos}:=B.jv (pos:=p) (x:="_law_now") 2 rfl (.inl nofun) nofun;have v3 {p:Pos}:=B.jv (pos:=p) (x:="_law_one") 3 rfl (.inl nofun) nofun;have v4 {p:Pos}:=B.jv (pos:=p) (x:="_law_other") 4 rfl (.inl nofun) nofun;have v5 {p:Pos}:=B.jv (pos:=p) (x:="_law_way") 5 rfl (.inl nofun) nofun;have v6 {p:Pos}:=B.jv (pos:=p) (x:="_law_word") 6 rfl (.inl nofun) nofun
 (az (B.aU 3 rfl (.inl nofun) rfl (B.ah v2 (fY (fY (dq B T nofun (ag v2 ak)) aj) (bL (dE v0 aj) (mD rfl nofun nofun (NQ B.calm) Q5 (B.gl _ nofun) T.Hj PyProof.Rows.boot_min (ag (dq B T nofun (ag v2 ak)) (ag aj ak))))))) (az (B.aU 4 rfl (.inl nofun) rfl (B.ah v2 (bL (dE v0 aj) (dq B T nofun (ag v2 ak))))) (az (B.aU 5 rfl (.inl nofun) rfl (bL v0 aj)) (az (bz (a9 hZ v5 aj) (aF (bh (bE (ag bx (ag v1 (ag (fY (bL (dE v0 aj) aj) aj) ak)))))) bF) (az (bz (a9 B.eq v5 aj) (aF (bh (bE (ag bx (ag v1 (ag (bu B T.md (yJ T) bi nofun (ag v0 ak)) ak)))))) bF) (az (bz (a9 hZ v5 aj) (az (B.aU 6 rfl (.inl nofun) rfl (B.ah (bD (ag bx (ag bx (ag bx (ag bx (ag bx (ag bx ak))))))) (bL (dE v0 aj) aj))) (aF (bh (bE (ag bx (ag v1 (ag v6 (ag v3 (ag v4 ak))))))))) bF) (az (bz (a9 hZ v5 aj) (aF (bh (bE (ag bx (ag v1 ak))))) bF) (az (bz (a9 hZ v5 aj) (aF (bh (bE (ag bx (ag v3 ak))))) bF) (aF (bh (bE (ag bx ak))))))))))))
theorem Mc(T:Tx K mg):bM P w K mg base (bG P w) 2 T.qp.a T.qp.d ["_law_number","_law_value","_law_now"] (bT K mg 3 (fM jX 7 3)):=cV T T.qp rfl rfl Mb Lq
theorem LO:cx ["_law_script","_law_k","_law_first","_law_step","_law_known","_law_is_turned","_law_is_wide","_law_rows","_law_now","_law_size","_law_j","_law_number","_law_row"] ["_law_script","_law_k","_law_first","_law_step","_law_known","_law_is_turned","_law_is_wide"] (bf ur):=⟨rfl,rfl,rfl,nofun,rfl,nofun,nofun⟩
theorem Ld:JX ["_law_script","_law_k","_law_first","_law_step","_law_known","_law_is_turned","_law_is_wide","_law_rows","_law_now","_law_size","_law_j","_law_number","_law_row"] ur 2 ux:=fun{X} T B hF ba=>
 have v0 {p:Pos}:=B.jv (pos:=p) (x:="_law_script") 0 rfl (.inl nofun) nofun;have v1 {p:Pos}:=B.jv (pos:=p) (x:="_law_k") 1 rfl (.inl nofun) nofun;have v2 {p:Pos}:=B.jv (pos:=p) (x:="_law_first") 2 rfl (.inl nofun) nofun;have v3 {p:Pos}:=B.jv (pos:=p) (x:="_law_step") 3 rfl (.inl nofun) nofun;have v4 {p:Pos}:=B.jv (pos:=p) (x:="_law_known") 4 rfl (.inl nofun) nofun;have v5 {p:Pos}:=B.jv (pos:=p) (x:="_law_is_turned") 5 rfl (.inl nofun) nofun;have v6 {p:Pos}:=B.jv (pos:=p) (x:="_law_is_wide") 6 rfl (.inl nofun) nofun;have v7 {p:Pos}:=B.jv (pos:=p) (x:="_law_rows") 7 rfl (.inl nofun) nofun;have v8 {p:Pos}:=B.jv (pos:=p) (x:="_law_now") 8 rfl (.inl nofun) nofun;have v9 {p:Pos}:=B.jv (pos:=p) (x:="_law_size") 9 rfl (.inl nofun) nofun;have gG {p:Pos}:=B.jv (pos:=p) (x:="_law_j") 10 rfl (.inl nofun) nofun;have pE {p:Pos}:=B.jv (pos:=p) (x:="_law_number") 11 rfl (.inl nofun) nofun;have nh {p:Pos}:=B.jv (pos:=p) (x:="_law_row") 12 rfl (.inl nofun) nofun
 (az (B.aU 7 rfl (.inl nofun) rfl (bD ak)) (az (B.aU 8 rfl (.inl nofun) rfl (mE rfl nofun nofun (yP B.calm) zL (B.gl _ nofun) T.oj acp (ag v4 ak))) (az (bz (kc rfl v5) (aF (eO rfl (eR v7 (ag (bE (ag bx ak)) ak)))) bF) (az (bz (a9 B.eq v1 aj) (az (eO rfl (eR v7 (ag (bE (ag bx (ag aj (ag (bu B T.md (yJ T) bi nofun (ag (bu B T.hO (jZ T) bi nofun (ag (bu B T.dQ (eY T) bi nofun (ag v0 (ag aj ak))) (ag aj ak))) ak)) ak)))) ak))) (aF (eO rfl (eR v8 (ag aj ak))))) bF) (az (B.aU 9 rfl (.inl nofun) rfl (dE (bu B T.hO (jZ T) bi nofun (ag (bu B T.dQ (eY T) bi nofun (ag v0 (ag (bO aj v1) ak))) (ag aj ak))) aj)) (az (B.fe (fX (B.gl _ nofun) T.fk rfl (ag (B.ah (bD (ag (bL v9 aj) (ag (bO aj (bL v9 aj)) ak))) (mE rfl nofun nofun NR TZ (B.gl _ nofun) T.BD afs (ag v6 ak))) ak)) (B.cm 10 rfl (.inl nofun)) (az (B.aU 11 rfl (.inl nofun) rfl (bu B T.hO (jZ T) bi nofun (ag (bu B T.dQ (eY T) bi nofun (ag v0 (ag (bO (bO aj (fC aj v1)) (bL gG aj)) ak))) (ag gG ak)))) (az (bz (a9 wm gG aj) (aF (B.aU 11 rfl (.inl nofun) rfl (bL (fC pE (bO (dE pE aj) gG)) aj))) bF) (az (B.aU 12 rfl (.inl nofun) rfl (bu B T.qp (Mc T) bi nofun (ag pE (ag (bO v2 (fC v3 (dq B T nofun (ag v7 ak)))) (ag v8 ak))))) (az (eO rfl (eR v7 (ag nh ak))) (aF (bz (a9 (B.iE (by with_unfolding_all rfl)) (B.ah nh aj) (bD (ag bx (ag bx ak)))) (aF (eO rfl (eR v8 (ag (B.ah nh aj) ak)))) bF))))))) (aF (bh (bE (ag v7 (ag v8 ak)))))))))))
theorem LP(T:Tx K mg):bM P w K mg base (bG P w) 3 T.qh.a T.qh.d ["_law_script","_law_k","_law_first","_law_step","_law_known","_law_is_turned","_law_is_wide"] (bT K mg 7 (fM ux 13 7)):=cV T T.qh rfl rfl LO Ld
theorem Md:cx ["_law_script","_law_k","_law_goals_here","_law_sizes","_law_now","_law_number","_law_args"] ["_law_script","_law_k","_law_goals_here","_law_sizes","_law_now"] (bf uC):=⟨rfl,rfl,rfl,nofun,rfl,nofun,nofun⟩
theorem Lr:JX ["_law_script","_law_k","_law_goals_here","_law_sizes","_law_now","_law_number","_law_args"] uC 1 nB:=fun{X} T B hF ba=>
 have v0 {p:Pos}:=B.jv (pos:=p) (x:="_law_script") 0 rfl (.inl nofun) nofun;have v1 {p:Pos}:=B.jv (pos:=p) (x:="_law_k") 1 rfl (.inl nofun) nofun;have v2 {p:Pos}:=B.jv (pos:=p) (x:="_law_goals_here") 2 rfl (.inl nofun) nofun;have v3 {p:Pos}:=B.jv (pos:=p) (x:="_law_sizes") 3 rfl (.inl nofun) nofun;have v4 {p:Pos}:=B.jv (pos:=p) (x:="_law_now") 4 rfl (.inr (.inl nofun)) nofun;have v5 {p:Pos}:=B.jv (pos:=p) (x:="_law_number") 5 rfl (.inr (.inl nofun)) nofun;have v6 {p:Pos}:=B.jv (pos:=p) (x:="_law_args") 6 rfl (.inl nofun) nofun
 (az (B.aU 5 rfl (.inr nofun) rfl (bu B T.hO (jZ T) bi nofun (ag (bu B T.dQ (eY T) bi nofun (ag v0 (ag (bO aj v1) ak))) (ag v1 ak)))) (az (bz (a9 B.eq v2 (bD ak)) (aF (bh (bE (ag bx ak)))) bF) (az (bz (a9 B.eq (dq B T nofun (ag v2 ak)) aj) (aF (bh (bE (ag bx (ag (B.ah v4 (bL v5 (dq B T nofun (ag v4 ak)))) (ag (B.ah v2 aj) (ag (B.ah v2 aj) ak))))))) bF) (az (qP (i:=6) (by rw[B.hN];exact B.nd) (by rw[B.hN];rfl) (B.fn _ (.inl nofun)).2 (by rw[ba];decide +kernel) B.calm (N':=["_law_j","_law_now","_law_number"]) (Bd.cap B.hN ba nofun) (fX (B.gl _ nofun) T.fk rfl (ag (B.ah v3 (B.ah v2 aj)) ak)) (iM B T nofun nofun fun{X} B T=>(B.cm 0 rfl (.inl rfl))) (iN B T nofun nofun fun{X} B T=>jB) (iO B T nofun nofun fun{X} B T=>(B.ah (B.jv 1 rfl (.inr (.inr rfl)) nofun) (bL (dE (B.jv 2 rfl (.inr (.inr rfl)) nofun) (bO aj (fC aj (B.jv 0 rfl (.inl rfl) nofun)))) (mD rfl nofun nofun EX GB (B.gl _ rfl) T.BE PySem.boot_len (ag (B.jv 1 rfl (.inr (.inr rfl)) nofun) ak))))) (nK (by rw[ba];rfl) (by rw[ba];decide +kernel) rfl nofun)) (aF (bh (bE (ag bx (ag (B.ah v2 aj) (ag (mE rfl nofun nofun yG zf (B.gl _ nofun) T.nY acg (ag v6 ak)) ak))))))))))
theorem Me(T:Tx K mg):bM P w K mg base (bG P w) 2 T.qq.a T.qq.d ["_law_script","_law_k","_law_goals_here","_law_sizes","_law_now"] (bT K mg 5 (fM nB 7 5)):=cV T T.qq rfl rfl Md Lr
theorem Kn:cx ["_law_script","_law_many","_law_step","_law_wide","_law_ends","_law_sizes","_law_without","_law_graph","_law_given","_law_first","_law_k","_law_params","_law_known","_law_j","_law_turned","_law_is_wide","_law_rows","_law_now"] ["_law_script"] (bf tK):=⟨rfl,rfl,rfl,nofun,rfl,nofun,nofun⟩
theorem Kl:JX ["_law_script","_law_many","_law_step","_law_wide","_law_ends","_law_sizes","_law_without","_law_graph","_law_given","_law_first","_law_k","_law_params","_law_known","_law_j","_law_turned","_law_is_wide","_law_rows","_law_now"] tK 3 ny:=fun{X} T B hF ba=>
 have v0 {p:Pos}:=B.jv (pos:=p) (x:="_law_script") 0 rfl (.inl nofun) nofun;have v1 {p:Pos}:=B.jv (pos:=p) (x:="_law_many") 1 rfl (.inl nofun) nofun;have v2 {p:Pos}:=B.jv (pos:=p) (x:="_law_step") 2 rfl (.inr (.inl nofun)) nofun;have v3 {p:Pos}:=B.jv (pos:=p) (x:="_law_wide") 3 rfl (.inl nofun) nofun;have v4 {p:Pos}:=B.jv (pos:=p) (x:="_law_ends") 4 rfl (.inr (.inl nofun)) nofun;have v5 {p:Pos}:=B.jv (pos:=p) (x:="_law_sizes") 5 rfl (.inl nofun) nofun;have v6 {p:Pos}:=B.jv (pos:=p) (x:="_law_without") 6 rfl (.inl nofun) nofun;have v7 {p:Pos}:=B.jv (pos:=p) (x:="_law_graph") 7 rfl (.inl nofun) nofun;have v8 {p:Pos}:=B.jv (pos:=p) (x:="_law_given") 8 rfl (.inl nofun) nofun;have v9 {p:Pos}:=B.jv (pos:=p) (x:="_law_first") 9 rfl (.inr (.inl nofun)) nofun;have gG {p:Pos}:=B.jv (pos:=p) (x:="_law_k") 10 rfl (.inr (.inl nofun)) nofun;have pE {p:Pos}:=B.jv (pos:=p) (x:="_law_params") 11 rfl (.inl nofun) nofun;have nh {p:Pos}:=B.jv (pos:=p) (x:="_law_known") 12 rfl (.inl nofun) nofun;have Jn {p:Pos}:=B.jv (pos:=p) (x:="_law_j") 13 rfl (.inl nofun) nofun;have Y3 {p:Pos}:=B.jv (pos:=p) (x:="_law_turned") 14 rfl (.inl nofun) nofun;have Y4 {p:Pos}:=B.jv (pos:=p) (x:="_law_is_wide") 15 rfl (.inl nofun) nofun;have Jo {p:Pos}:=B.jv (pos:=p) (x:="_law_rows") 16 rfl (.inl nofun) nofun;have Jp {p:Pos}:=B.jv (pos:=p) (x:="_law_now") 17 rfl (.inl nofun) nofun
 (az (bz (a9 B.eq (bL (dE (bu B T.dQ (eY T) bi nofun (ag v0 (ag aj ak))) aj) aj) aj) (aF (bh (bu B T.pX (KP T) bi nofun (ag (bO aj (bL (dE (bu B T.dQ (eY T) bi nofun (ag v0 (ag aj ak))) aj) aj)) (ag (bu B T.dQ (eY T) bi nofun (ag v0 (ag aj ak))) ak))))) bF) (az (bz (a9 B.eq (bL (dE (bu B T.dQ (eY T) bi nofun (ag v0 (ag aj ak))) aj) aj) aj) (aF (bh (bu B T.pZ (Lb T) bi nofun (ag (bO aj (bL (dE (bu B T.dQ (eY T) bi nofun (ag v0 (ag aj ak))) aj) aj)) (ag v0 ak))))) bF) (az (B.aU 1 rfl (.inl nofun) rfl (bO aj (bL (bu B T.dQ (eY T) bi nofun (ag v0 (ag aj ak))) aj))) (az (B.aU 2 rfl (.inr nofun) rfl (bO aj (bL (bu B T.dQ (eY T) bi nofun (ag v0 (ag aj ak))) aj))) (az (B.aU 3 rfl (.inl nofun) rfl (dE (bu B T.dQ (eY T) bi nofun (ag v0 (ag aj ak))) aj)) (az (B.aU 4 rfl (.inr nofun) rfl (bu B T.qg (LN T) bi nofun (ag v0 (ag v1 ak)))) (az (B.aU 5 rfl (.inl nofun) rfl (bu B T.qd (Lp T) bi nofun (ag v0 (ag v4 ak)))) (az (qP (i:=6) (by rw[B.hN];exact B.nd) (by rw[B.hN];rfl) (B.fn _ (.inl nofun)).2 (by rw[ba];decide +kernel) B.calm (N':=["_law_k","_law_ends"]) (Bd.cap B.hN ba nofun) (fX (B.gl _ nofun) T.fk rfl (ag v1 ak)) (iM B T nofun nofun fun{X} B T=>(B.cm 0 rfl (.inl rfl))) (iN B T nofun nofun fun{X} B T=>jB) (iO B T nofun nofun fun{X} B T=>(oh rfl nofun (Kx T) bi (B.room.mono (by decide)) (B.gl _ rfl) T.l8.m T.l8.F.kp T.l8.b (ag (B.jv 1 rfl (.inr (.inr rfl)) nofun) (ag (B.jv 0 rfl (.inl rfl) nofun) ak)))) (nK (by rw[ba];rfl) (by rw[ba];decide +kernel) rfl nofun)) (az (B.aU 7 rfl (.inl nofun) rfl (bD ak)) (az (B.aU 8 rfl (.inl nofun) rfl (bD ak)) (az (B.aU 9 rfl (.inr nofun) rfl v2) (az (B.fe (fX (B.gl _ nofun) T.fk rfl (ag v1 ak)) (B.cm 10 rfl (.inr nofun)) (az (qP (i:=11) (by rw[B.hN];exact B.nd) (by rw[B.hN];rfl) (B.fn _ (.inl nofun)).2 (by rw[ba];decide +kernel) B.calm (N':=["_law_j","_law_first","_law_step"]) (Bd.cap B.hN ba nofun) (fX (B.gl _ nofun) T.fk rfl (ag (B.ah v5 gG) ak)) (iM B T nofun nofun fun{X} B T=>(B.cm 0 rfl (.inl rfl))) (iN B T nofun nofun fun{X} B T=>jB) (iO B T nofun nofun fun{X} B T=>(bO (B.jv 1 rfl (.inr (.inr rfl)) nofun) (fC (B.jv 2 rfl (.inr (.inr rfl)) nofun) (B.jv 0 rfl (.inl rfl) nofun)))) (nK (by rw[ba];rfl) (by rw[ba];decide +kernel) rfl nofun)) (az (B.aU 9 rfl (.inr nofun) rfl (bO v9 (fC v2 (B.ah v5 gG)))) (az (B.aU 12 rfl (.inl nofun) rfl (bD ak)) (az (B.fe (fX (B.gl _ nofun) T.fk rfl (ag gG ak)) (B.cm 13 rfl (.inl nofun)) (aF (bz (a9 (B.iE (by with_unfolding_all rfl)) gG (B.ah v6 Jn)) (aF (B.aU 12 rfl (.inl nofun) rfl (bO nh (B.ah v8 Jn)))) bF))) (az (B.aU 14 rfl (.inl nofun) rfl (mD rfl nofun nofun (Nz B.calm) Ul (B.gl _ nofun) T.Hi PyProof.Rows.boot_any (ag (nV B.calm (N':=["_law_j","_law_k","_law_ends"]) (Bd.cap B.hN ba nofun) (fX (B.gl _ nofun) T.fk rfl (ag v1 ak)) (iM B T nofun nofun fun{X} B T=>(B.cm 0 rfl (.inl rfl))) (iN B T nofun nofun fun{X} B T=>jB) (iO B T nofun nofun fun{X} B T=>(oa (jA (B.lA (by with_unfolding_all rfl)) (B.jv 1 rfl (.inr (.inr rfl)) nofun) (B.ah (B.jv 2 rfl (.inr (.inr rfl)) nofun) (B.jv 0 rfl (.inl rfl) nofun))) (n9 (jA wk (B.jv 1 rfl (.inr (.inr rfl)) nofun) (B.jv 0 rfl (.inl rfl) nofun)))))) ak))) (az (B.aU 15 rfl (.inl nofun) rfl (oa (jA B.eq (bL v3 aj) aj) (n9 (jA B.eq gG (bL (dE v3 aj) v1))))) (az (k7 (bu B T.qh (LP T) bi nofun (ag v0 (ag gG (ag v9 (ag v2 (ag (bO nh pE) (ag Y3 (ag Y4 ak)))))))) (vS B.calm (i4 (B.cm 16 rfl (.inl nofun)) (i4 (B.cm 17 rfl (.inl nofun)) vI)))) (az (eO rfl (eR v8 (ag (VY Jp (Q7 (dq B T nofun (ag nh ak))) Q6) ak))) (az (B.aU 9 rfl (.inr nofun) rfl (bO v9 (fC v2 (dq B T nofun (ag Jo ak))))) (aF (eO rfl (eR v7 (ag (bE (ag pE (ag Jo (ag (bu B T.qq (Me T) bi nofun (ag v0 (ag gG (ag (B.ah v4 gG) (ag v5 (ag Jp ak)))))) ak)))) ak)))))))))))))) (aF (bh v7))))))))))))))
theorem Ko(T:Tx K mg):bM P w K mg base (bG P w) 4 T.pQ.a T.pQ.d ["_law_script"] (bT K mg 1 (fM ny 18 1)):=cV T T.pQ rfl rfl Kn Kl
theorem Mf:cx ["_law_end","_law_times","_law_more"] ["_law_end","_law_times","_law_more"] (bf uD):=⟨rfl,rfl,rfl,nofun,rfl,nofun,nofun⟩
theorem Lu:JX ["_law_end","_law_times","_law_more"] uD 0 uJ:=fun{X} T B hF ba=>
 have v0 {p:Pos}:=B.jv (pos:=p) (x:="_law_end") 0 rfl (.inl nofun) nofun;have v1 {p:Pos}:=B.jv (pos:=p) (x:="_law_times") 1 rfl (.inr (.inl nofun)) nofun;have v2 {p:Pos}:=B.jv (pos:=p) (x:="_law_more") 2 rfl (.inr (.inl nofun)) nofun
 (az (bz (a9 B.eq (B.ah v0 aj) bx) (aF (bh (bE (ag (B.ah v0 aj) (ag (B.ah v0 aj) (ag (mE rfl nofun nofun yG zf (B.gl _ nofun) T.nY acg (ag (nV B.calm (N':=["_law_arg","_law_more","_law_times"]) (Bd.cap B.hN ba nofun) (hV (B.ah v0 aj)) (iM B T nofun nofun fun{X} B T=>(B.cm 0 rfl (.inl rfl))) (iN B T nofun nofun fun{X} B T=>jB) (iO B T nofun nofun fun{X} B T=>(bL (bO (fC (B.jv 0 rfl (.inl rfl) nofun) (B.jv 2 rfl (.inr (.inr rfl)) nofun)) (B.jv 1 rfl (.inr (.inr rfl)) nofun)) aj))) ak)) ak)))))) bF) (az (bz (a9 B.eq (B.ah v0 aj) bx) (aF (bh (bE (ag (B.ah v0 aj) (ag (bL (bO (fC (B.ah v0 aj) v1) v2) aj) (ag (B.ah v0 aj) (ag (B.ah v0 aj) ak))))))) bF) (aF (bh v0))))
theorem Mg(T:Tx K mg):bM P w K mg base (bG P w) 1 T.qr.a T.qr.d ["_law_end","_law_times","_law_more"] (bT K mg 3 (fM uJ 3 3)):=cV T T.qr rfl rfl Mf Lu
theorem Mh:cx ["_law_row","_law_times","_law_more","_law_value"] ["_law_row","_law_times","_law_more"] (bf uE):=⟨rfl,rfl,rfl,nofun,rfl,nofun,nofun⟩
theorem Lv:JX ["_law_row","_law_times","_law_more","_law_value"] uE 0 uL:=fun{X} T B hF ba=>
 have v0 {p:Pos}:=B.jv (pos:=p) (x:="_law_row") 0 rfl (.inl nofun) nofun;have v1 {p:Pos}:=B.jv (pos:=p) (x:="_law_times") 1 rfl (.inl nofun) nofun;have v2 {p:Pos}:=B.jv (pos:=p) (x:="_law_more") 2 rfl (.inl nofun) nofun;have v3 {p:Pos}:=B.jv (pos:=p) (x:="_law_value") 3 rfl (.inl nofun) nofun
 (az (bz (a9 B.eq (dq B T nofun (ag v0 ak)) aj) (aF (bh v0)) bF) (az (B.aU 3 rfl (.inl nofun) rfl (bL (bO (fC (B.ah v0 aj) v1) v2) aj)) (az (bz (a9 B.eq (B.ah v0 aj) bx) (aF (bh (bE (ag (B.ah v0 aj) (ag v3 (ag (B.ah v0 aj) ak)))))) bF) (az (bz (a9 B.eq (B.ah v0 aj) bx) (aF (bh (bE (ag (B.ah v0 aj) (ag v3 (ag (B.ah v0 aj) (ag (bL (bO (fC (B.ah v0 aj) v1) v2) aj) (ag (bL (bO (fC (B.ah v0 aj) v1) v2) aj) ak)))))))) bF) (aF (bh (bE (ag (B.ah v0 aj) (ag v3 ak)))))))))
theorem Mi(T:Tx K mg):bM P w K mg base (bG P w) 1 T.me.a T.me.d ["_law_row","_law_times","_law_more"] (bT K mg 3 (fM uL 4 3)):=cV T T.me rfl rfl Mh Lv
theorem Lx:cx ["_law_script","_law_cell","_law_times","_law_more","_law_graph","_law_params","_law_rows","_law_end","_law_values"] ["_law_script"] (bf ui):=⟨rfl,rfl,rfl,nofun,rfl,nofun,nofun⟩
theorem KR:JX ["_law_script","_law_cell","_law_times","_law_more","_law_graph","_law_params","_law_rows","_law_end","_law_values"] ui 4 qa:=fun{X} T B hF ba=>
 have v0 {p:Pos}:=B.jv (pos:=p) (x:="_law_script") 0 rfl (.inl nofun) nofun;have v1 {p:Pos}:=B.jv (pos:=p) (x:="_law_cell") 1 rfl (.inl nofun) nofun;have v2 {p:Pos}:=B.jv (pos:=p) (x:="_law_times") 2 rfl (.inr (.inl nofun)) nofun;have v3 {p:Pos}:=B.jv (pos:=p) (x:="_law_more") 3 rfl (.inr (.inl nofun)) nofun;have v4 {p:Pos}:=B.jv (pos:=p) (x:="_law_graph") 4 rfl (.inl nofun) nofun;have v5 {p:Pos}:=B.jv (pos:=p) (x:="_law_params") 5 rfl (.inl nofun) nofun;have v6 {p:Pos}:=B.jv (pos:=p) (x:="_law_rows") 6 rfl (.inl nofun) nofun;have v7 {p:Pos}:=B.jv (pos:=p) (x:="_law_end") 7 rfl (.inl nofun) nofun;have v8 {p:Pos}:=B.jv (pos:=p) (x:="_law_values") 8 rfl (.inl nofun) nofun
 (az (B.aU 1 rfl (.inl nofun) rfl (bu B T.dQ (eY T) bi nofun (ag v0 (ag aj ak)))) (az (B.aU 2 rfl (.inr nofun) rfl aj) (az (B.aU 3 rfl (.inr nofun) rfl aj) (az (bz (a9 B.eq (bL (dE v1 aj) aj) aj) (az (B.aU 2 rfl (.inr nofun) rfl (bO aj (bL (dE v1 aj) aj))) (aF (B.aU 3 rfl (.inr nofun) rfl (bL (dE v1 aj) aj)))) bF) (az (B.aU 4 rfl (.inl nofun) rfl (bD ak)) (az (B.fe (hV (bu B T.pQ (Ko T) bi nofun (ag v0 ak))) (vS B.calm (i4 (B.cm 5 rfl (.inl nofun)) (i4 (B.cm 6 rfl (.inl nofun)) (i4 (B.cm 7 rfl (.inl nofun)) vI)))) (az (qP (i:=8) (by rw[B.hN];exact B.nd) (by rw[B.hN];rfl) (B.fn _ (.inl nofun)).2 (by rw[ba];decide +kernel) B.calm (N':=["_law_value","_law_more","_law_times"]) (Bd.cap B.hN ba nofun) (hV v5) (iM B T nofun nofun fun{X} B T=>(B.cm 0 rfl (.inl rfl))) (iN B T nofun nofun fun{X} B T=>jB) (iO B T nofun nofun fun{X} B T=>(bL (bO (fC (B.jv 0 rfl (.inl rfl) nofun) (B.jv 2 rfl (.inr (.inr rfl)) nofun)) (B.jv 1 rfl (.inr (.inr rfl)) nofun)) aj)) (nK (by rw[ba];rfl) (by rw[ba];decide +kernel) rfl nofun)) (aF (eO rfl (eR v4 (ag (bE (ag v8 (ag (nV B.calm (N':=["_law_row","_law_times","_law_more"]) (Bd.cap B.hN ba nofun) (hV v6) (iM B T nofun nofun fun{X} B T=>(B.cm 0 rfl (.inl rfl))) (iN B T nofun nofun fun{X} B T=>jB) (iO B T nofun nofun fun{X} B T=>(oh rfl nofun (Mi T) bi (B.room.mono (by decide)) (B.gl _ rfl) T.me.m T.me.F.kp T.me.b (ag (B.jv 0 rfl (.inl rfl) nofun) (ag (B.jv 1 rfl (.inr (.inr rfl)) nofun) (ag (B.jv 2 rfl (.inr (.inr rfl)) nofun) ak)))))) (ag (bu B T.qr (Mg T) bi nofun (ag v7 (ag v2 (ag v3 ak)))) ak)))) ak)))))) (aF (bh v4))))))))
theorem Ej(T:Tx K mg):bM P w K mg base (bG P w) 5 T.nA.a T.nA.d ["_law_script"] (bT K mg 1 (fM qa 9 1)):=cV T T.nA rfl rfl Lx KR
theorem Mj:cx ["_law_graph","_law_block"] ["_law_graph","_law_block"] (bf uF):=⟨rfl,rfl,rfl,nofun,rfl,nofun,nofun⟩
theorem Ly:JX ["_law_graph","_law_block"] uF 0 uM:=fun{X} T B hF ba=>
 have v0 {p:Pos}:=B.jv (pos:=p) (x:="_law_graph") 0 rfl (.inl nofun) nofun;have v1 {p:Pos}:=B.jv (pos:=p) (x:="_law_block") 1 rfl (.inl nofun) nofun
 (aF (bh (bO (B.ah (B.ah v0 v1) aj) (bD (ag (B.ah (B.ah v0 v1) aj) ak)))))
theorem El(T:Tx K mg):bM P w K mg base (bG P w) 1 T.nD.a T.nD.d ["_law_graph","_law_block"] (bT K mg 2 (fM uM 2 2)):=cV T T.nD rfl rfl Mj Ly
theorem M9:cx ["_law_thing"] ["_law_thing"] (bf u5):=⟨rfl,rfl,rfl,nofun,rfl,nofun,nofun⟩
theorem Mk:JX ["_law_thing"] u5 0 qz:=fun{X} T B hF ba=>
 have v0 {p:Pos}:=B.jv (pos:=p) (x:="_law_thing") 0 rfl (.inl nofun) nofun
 (az (bz (a9 B.eq (B.ah v0 aj) bx) (aF (bh (bD (ag (B.ah v0 aj) (ag (B.ah v0 aj) ak))))) bF) (az (bz (gS (jG (a9 B.eq (B.ah v0 aj) bx) (gL (a9 B.eq (B.ah v0 aj) bx)))) (aF (bh (bD (ag (B.ah v0 aj) ak)))) bF) (az (bz (a9 B.eq (B.ah v0 aj) bx) (aF (bh (mE rfl nofun nofun (yP B.calm) zL (B.gl _ nofun) T.oj acp (ag (B.ah v0 aj) ak)))) bF) (aF (bh (bD ak))))))
theorem EA(T:Tx K mg):bM P w K mg base (bG P w) 1 T.nI.a T.nI.d ["_law_thing"] (bT K mg 1 (fM qz 1 1)):=cV T T.nI rfl rfl M9 Mk
theorem MJ:cx ["_law_row","_law_value"] ["_law_row","_law_value"] (bf uS):=⟨rfl,rfl,rfl,nofun,rfl,nofun,nofun⟩
theorem LQ:JX ["_law_row","_law_value"] uS 0 qx:=fun{X} T B hF ba=>
 have v0 {p:Pos}:=B.jv (pos:=p) (x:="_law_row") 0 rfl (.inl nofun) nofun;have v1 {p:Pos}:=B.jv (pos:=p) (x:="_law_value") 1 rfl (.inl nofun) nofun
 (aF (bh (oa (jA (B.lA (by with_unfolding_all rfl)) (B.ah v0 aj) (bD (ag bx (ag bx (ag bx ak))))) (n9 (jA B.eq (B.ah v0 aj) v1)))))
theorem Ep(T:Tx K mg):bM P w K mg base (bG P w) 1 T.nF.a T.nF.d ["_law_row","_law_value"] (bT K mg 2 (fM qx 2 2)):=cV T T.nF rfl rfl MJ LQ
theorem MK:cx ["_law_end"] ["_law_end"] (bf uT):=⟨rfl,rfl,rfl,nofun,rfl,nofun,nofun⟩
theorem LR:JX ["_law_end"] uT 0 uX:=fun{X} T B hF ba=>
 have v0 {p:Pos}:=B.jv (pos:=p) (x:="_law_end") 0 rfl (.inl nofun) nofun
 (az (bz (a9 B.eq (B.ah v0 aj) bx) (aF (bh (bD (ag (B.ah v0 aj) ak)))) bF) (az (bz (a9 B.eq (B.ah v0 aj) bx) (aF (bh (bD (ag (B.ah v0 aj) (ag (B.ah v0 aj) ak))))) bF) (aF (bh (bD ak)))))
theorem Er(T:Tx K mg):bM P w K mg base (bG P w) 1 T.nG.a T.nG.d ["_law_end"] (bT K mg 1 (fM uX 1 1)):=cV T T.nG rfl rfl MK LR
theorem Lz:cx ["_law_graph","_law_block","_law_place","_law_value","_law_found","_law_other"] ["_law_graph","_law_block","_law_place","_law_value"] (bf uj):=⟨rfl,rfl,rfl,nofun,rfl,nofun,nofun⟩
theorem KS:JX ["_law_graph","_law_block","_law_place","_law_value","_law_found","_law_other"] uj 1 um:=fun{X} T B hF ba=>
 have v0 {p:Pos}:=B.jv (pos:=p) (x:="_law_graph") 0 rfl (.inl nofun) nofun;have v1 {p:Pos}:=B.jv (pos:=p) (x:="_law_block") 1 rfl (.inl nofun) nofun;have v2 {p:Pos}:=B.jv (pos:=p) (x:="_law_place") 2 rfl (.inl nofun) nofun;have v3 {p:Pos}:=B.jv (pos:=p) (x:="_law_value") 3 rfl (.inl nofun) nofun;have v4 {p:Pos}:=B.jv (pos:=p) (x:="_law_found") 4 rfl (.inl nofun) nofun;have v5 {p:Pos}:=B.jv (pos:=p) (x:="_law_other") 5 rfl (.inl nofun) nofun
 (az (bz (a9 wm v2 aj) (az (bz (kc rfl (bu B T.nF (Ep T) bi nofun (ag (B.ah (B.ah (B.ah v0 v1) aj) (fY v2 aj)) (ag v3 ak)))) (aF (bh (bD ak))) bF) (aF (bh (bD (ag (bE (ag v1 (ag (fY v2 aj) ak))) ak))))) bF) (az (B.aU 4 rfl (.inl nofun) rfl (bD ak)) (az (B.fe (fX (B.gl _ nofun) T.fk rfl (ag (dq B T nofun (ag v0 ak)) ak)) (B.cm 5 rfl (.inl nofun)) (aF (bz (gS (mC (a9 (B.iE (by with_unfolding_all rfl)) v3 (B.ah (B.ah v0 v1) aj)) (gL (a9 (B.lA (by with_unfolding_all rfl)) v1 (bu B T.nG (Er T) bi nofun (ag (B.ah (B.ah v0 v5) aj) ak)))))) (aF (eO rfl (eR v4 (ag (bE (ag v5 (ag (dq B T nofun (ag (B.ah (B.ah v0 v5) aj) ak)) ak))) ak)))) bF))) (aF (bh v4)))))
theorem LA(T:Tx K mg):bM P w K mg base (bG P w) 2 T.qe.a T.qe.d ["_law_graph","_law_block","_law_place","_law_value"] (bT K mg 4 (fM um 6 4)):=cV T T.qe rfl rfl Lz KS
theorem LU:cx ["_law_graph","_law_live","_law_waiting","_law_block","_law_place","_law_thing","_law_value","_law_at","_law_size","_law_point"] ["_law_graph"] (bf ut):=⟨rfl,rfl,rfl,nofun,rfl,nofun,nofun⟩
theorem Le:JX ["_law_graph","_law_live","_law_waiting","_law_block","_law_place","_law_thing","_law_value","_law_at","_law_size","_law_point"] ut 2 uy:=fun{X} T B hF ba=>
 have v0 {p:Pos}:=B.jv (pos:=p) (x:="_law_graph") 0 rfl (.inl nofun) nofun;have v1 {p:Pos}:=B.jv (pos:=p) (x:="_law_live") 1 rfl (.inl nofun) nofun;have v2 {p:Pos}:=B.jv (pos:=p) (x:="_law_waiting") 2 rfl (.inl nofun) nofun;have v3 {p:Pos}:=B.jv (pos:=p) (x:="_law_block") 3 rfl (.inl nofun) nofun;have v4 {p:Pos}:=B.jv (pos:=p) (x:="_law_place") 4 rfl (.inl nofun) nofun;have v5 {p:Pos}:=B.jv (pos:=p) (x:="_law_thing") 5 rfl (.inl nofun) nofun;have v6 {p:Pos}:=B.jv (pos:=p) (x:="_law_value") 6 rfl (.inl nofun) nofun;have v7 {p:Pos}:=B.jv (pos:=p) (x:="_law_at") 7 rfl (.inl nofun) nofun;have v8 {p:Pos}:=B.jv (pos:=p) (x:="_law_size") 8 rfl (.inl nofun) nofun;have v9 {p:Pos}:=B.jv (pos:=p) (x:="_law_point") 9 rfl (.inl nofun) nofun
 (az (B.aU 1 rfl (.inl nofun) rfl qZ) (az (B.aU 2 rfl (.inl nofun) rfl (bD ak)) (az (B.fe (fX (B.gl _ nofun) T.fk rfl (ag (dq B T nofun (ag v0 ak)) ak)) (B.cm 3 rfl (.inl nofun)) (aF (B.fe (Rj (B.gl _ nofun) T.Ez rfl (ag (bu B T.nD (El T) bi nofun (ag v0 (ag v3 ak))) ak)) (vS B.calm (i4 (B.cm 4 rfl (.inl nofun)) (i4 (B.cm 5 rfl (.inl nofun)) vI))) (az (k7 qZ (B.nW v1 (bE (ag v3 (ag v4 ak))))) (aF (B.fe (hV (bu B T.nI (EA T) bi nofun (ag v5 ak))) (B.cm 6 rfl (.inl nofun)) (aF (eO rfl (eR v2 (ag (bE (ag v3 (ag v4 (ag v6 (ag aj ak))))) ak)))))))))) (az (B.aU 7 rfl (.inl nofun) rfl aj) (az (B.vT (a9 hZ v7 (dq B T nofun (ag v2 ak))) (az (k7 (B.ah v2 v7) (vS B.calm (i4 (B.cm 3 rfl (.inl nofun)) (i4 (B.cm 4 rfl (.inl nofun)) (i4 (B.cm 6 rfl (.inl nofun)) (i4 (B.cm 8 rfl (.inl nofun)) vI)))))) (az (bz (a9 (B.iE (by with_unfolding_all rfl)) v6 (B.ah v1 (bE (ag v3 (ag v4 ak))))) (az (k7 v8 (B.nW (B.ah v1 (bE (ag v3 (ag v4 ak)))) v6)) (aF (B.fe (hV (bu B T.qe (LA T) bi nofun (ag v0 (ag v3 (ag v4 (ag v6 ak)))))) (B.cm 9 rfl (.inl nofun)) (aF (eO rfl (eR v2 (ag (bE (ag (B.ah v9 aj) (ag (B.ah v9 aj) (ag v6 (ag (bO v8 aj) ak))))) ak))))))) bF) (aF (B.aU 7 rfl (.inl nofun) rfl (bO v7 aj)))))) (aF (bh v1)))))))
theorem LW(T:Tx K mg):bM P w K mg base (bG P w) 3 T.qj.a T.qj.d ["_law_graph"] (bT K mg 1 (fM uy 10 1)):=cV T T.qj rfl rfl LU Le
theorem Na:cx ["graph","block","place"] ["graph","block","place"] (bf u6):=⟨rfl,rfl,rfl,nofun,rfl,nofun,nofun⟩
theorem Ml:JX ["graph","block","place"] u6 0 u7:=fun{X} T B hF ba=>
 have v0 {p:Pos}:=B.jv (pos:=p) (x:="graph") 0 rfl (.inl nofun) nofun;have v1 {p:Pos}:=B.jv (pos:=p) (x:="block") 1 rfl (.inl nofun) nofun;have v2 {p:Pos}:=B.jv (pos:=p) (x:="place") 2 rfl (.inl nofun) nofun
 (aF (bh (oa (Fx wk hZ (by with_unfolding_all rfl) aj v1 (dq B T nofun (ag v0 ak))) (n9 (Fx wk wk (by with_unfolding_all rfl) aj v2 (dq B T nofun (ag (B.ah (B.ah v0 v1) aj) ak)))))))
theorem Nc(T:Tx K mg):bM P w K mg base (bG P w) 1 T.qA.a T.qA.d ["graph","block","place"] (bT K mg 3 (fM u7 3 3)):=cV T T.qA rfl rfl Na Ml
theorem Oq:cx ["graph","point","block"] ["graph","point"] (bf vC):=⟨rfl,rfl,rfl,nofun,rfl,nofun,nofun⟩
theorem Nf:JX ["graph","point","block"] vC 0 vD:=fun{X} T B hF ba=>
 have v0 {p:Pos}:=B.jv (pos:=p) (x:="graph") 0 rfl (.inl nofun) nofun;have v1 {p:Pos}:=B.jv (pos:=p) (x:="point") 1 rfl (.inl nofun) nofun;have v2 {p:Pos}:=B.jv (pos:=p) (x:="block") 2 rfl (.inl nofun) nofun
 (az (B.aU 2 rfl (.inl nofun) rfl (B.ah v0 (B.ah v1 aj))) (aF (bh (AZ (a9 hZ (B.ah v1 aj) (dq B T nofun (ag (B.ah v2 aj) ak))) (B.ah (B.ah v2 aj) (B.ah v1 aj)) (B.ah v2 aj)))))
theorem Fe(T:Tx K mg):bM P w K mg base (bG P w) 1 T.nU.a T.nU.d ["graph","point"] (bT K mg 2 (fM vD 3 2)):=cV T T.nU rfl rfl Oq Nf
theorem PL:cx ["row"] ["row"] (bf vL):=⟨rfl,rfl,rfl,nofun,rfl,nofun,nofun⟩
theorem NC:JX ["row"] vL 0 vM:=fun{X} T B hF ba=>
 have v0 {p:Pos}:=B.jv (pos:=p) (x:="row") 0 rfl (.inl nofun) nofun
 (aF (bh (AZ (a9 (B.lA (by with_unfolding_all rfl)) (B.ah v0 aj) (bE (ag bx (ag bx (ag bx ak))))) (B.ah v0 aj) mB)))
theorem PM(T:Tx K mg):bM P w K mg base (bG P w) 1 T.qT.a T.qT.d ["row"] (bT K mg 1 (fM vM 1 1)):=cV T T.qT rfl rfl PL NC
theorem KU:cx ["end"] ["end"] (bf tW):=⟨rfl,rfl,rfl,nofun,rfl,nofun,nofun⟩
theorem Ky:JX ["end"] tW 0 yC:=fun{X} T B hF ba=>
 have v0 {p:Pos}:=B.jv (pos:=p) (x:="end") 0 rfl (.inl nofun) nofun
 (az (bz (a9 B.eq (B.ah v0 aj) bx) (aF (bh (bD (ag (B.ah v0 aj) ak)))) bF) (az (bz (a9 B.eq (B.ah v0 aj) bx) (aF (bh (bD (ag (B.ah v0 aj) (ag (B.ah v0 aj) ak))))) bF) (aF (bh (bD ak)))))
theorem KW(T:Tx K mg):bM P w K mg base (bG P w) 1 T.pY.a T.pY.d ["end"] (bT K mg 1 (fM yC 1 1)):=cV T T.pY rfl rfl KU Ky
theorem Lf:cx ["graph","point","value","row"] ["graph","point","value"] (bf t7):=⟨rfl,rfl,rfl,nofun,rfl,nofun,nofun⟩
theorem KC:JX ["graph","point","value","row"] t7 1 t9:=fun{X} T B hF ba=>
 have v0 {p:Pos}:=B.jv (pos:=p) (x:="graph") 0 rfl (.inr (.inl nofun)) nofun;have v1 {p:Pos}:=B.jv (pos:=p) (x:="point") 1 rfl (.inl nofun) nofun;have v2 {p:Pos}:=B.jv (pos:=p) (x:="value") 2 rfl (.inr (.inl nofun)) nofun;have v3 {p:Pos}:=B.jv (pos:=p) (x:="row") 3 rfl (.inl nofun) nofun
 (az (B.aU 3 rfl (.inl nofun) rfl (bu B T.nU (Fe T) bi nofun (ag v0 (ag v1 ak)))) (az (bz (a9 hZ (B.ah v1 aj) (dq B T nofun (ag (B.ah (B.ah v0 (B.ah v1 aj)) aj) ak))) (aF (bh (AZ (a9 B.eq (bu B T.qT (PM T) bi nofun (ag v3 ak)) v2) (bD ak) (bD (ag (bE (ag (B.ah v1 aj) (ag (bO (B.ah v1 aj) aj) ak))) ak))))) bF) (aF (bh (nV B.calm (N':=["block","value","graph"]) (Bd.cap B.hN ba nofun) (hV (bu B T.pY (KW T) bi nofun (ag v3 ak))) (iM B T nofun nofun fun{X} B T=>(B.cm 0 rfl (.inl rfl))) (iN B T nofun nofun fun{X} B T=>(GD (a9 (B.iE (by with_unfolding_all rfl)) (B.jv 1 rfl (.inr (.inr rfl)) nofun) (B.ah (B.ah (B.jv 2 rfl (.inr (.inr rfl)) nofun) (B.jv 0 rfl (.inl rfl) nofun)) aj)))) (iO B T nofun nofun fun{X} B T=>(bE (ag (B.jv 0 rfl (.inl rfl) nofun) (ag aj ak)))))))))
theorem Lg(T:Tx K mg):bM P w K mg base (bG P w) 2 T.l9.a T.l9.d ["graph","point","value"] (bT K mg 3 (fM t9 4 3)):=cV T T.l9 rfl rfl Lf KC
theorem Mm:cx ["starts","further","found","queue","start","done","thing","other"] ["starts","further"] (bf uG):=⟨rfl,rfl,rfl,nofun,rfl,nofun,nofun⟩
theorem LB:JX ["starts","further","found","queue","start","done","thing","other"] uG 3 uN:=fun{X} T B hF ba=>
 have v0 {p:Pos}:=B.jv (pos:=p) (x:="starts") 0 rfl (.inl nofun) nofun;have v2 {p:Pos}:=B.jv (pos:=p) (x:="found") 2 rfl (.inl nofun) nofun;have v3 {p:Pos}:=B.jv (pos:=p) (x:="queue") 3 rfl (.inl nofun) nofun;have v4 {p:Pos}:=B.jv (pos:=p) (x:="start") 4 rfl (.inl nofun) nofun;have v5 {p:Pos}:=B.jv (pos:=p) (x:="done") 5 rfl (.inl nofun) nofun;have v6 {p:Pos}:=B.jv (pos:=p) (x:="thing") 6 rfl (.inl nofun) nofun;have v7 {p:Pos}:=B.jv (pos:=p) (x:="other") 7 rfl (.inl nofun) nofun
 (az (B.aU 2 rfl (.inl nofun) rfl qZ) (az (B.aU 3 rfl (.inl nofun) rfl (bD ak)) (az (B.fe (hV v0) (B.cm 4 rfl (.inl nofun)) (aF (bz (a9 (B.iE (by with_unfolding_all rfl)) v4 v2) (az (k7 mB (B.nW v2 v4)) (aF (eO rfl (eR v3 (ag v4 ak))))) bF))) (az (B.aU 5 rfl (.inl nofun) rfl aj) (az (B.vT (a9 hZ v5 (dq B T nofun (ag v3 ak))) (az (B.aU 6 rfl (.inl nofun) rfl (B.ah v3 v5)) (az (B.V4 5 rfl (.inl nofun) aj) (aF (B.fe (hV (RG T.yX yY B.room (by rw[B.hN];rfl) (B.kB _ (.inl nofun)) (fun a v cl s H hr=>(fun{X} (T:Tx X.K X.mg) (B:Bd X _ _ _)=>((oh rfl nofun (Lg T) bi (B.room.mono (by decide)) (B.gl _ rfl) T.l9.m T.l9.F.kp T.l9.b (ag (B.jv 2 rfl (.inr (.inr rfl)) nofun) (ag (B.jv 0 rfl (.inl rfl) nofun) (ag (B.jv 1 rfl (.inr (.inr rfl)) nofun) ak)))):JE X (mU fj).bd l_way_to)) (X:=kl X _ _ _ _ _ a v cl s H) T (Bd.Xh B yY nofun a v cl s H hr)) rfl (ag v6 ak) nofun nofun)) (B.cm 7 rfl (.inl nofun)) (aF (bz (a9 (B.iE (by with_unfolding_all rfl)) v7 v2) (az (k7 v6 (B.nW v2 v7)) (aF (eO rfl (eR v3 (ag v7 ak))))) bF))))))) (aF (bh v2)))))))
theorem Mn(T:Tx K mg):bM P w K mg base (bG P w) 4 T.qt.a T.qt.d ["starts","further"] (bT K mg 2 (fM uN 8 2)):=cV T T.qt rfl rfl Mm LB
theorem RH:cx ["row"] ["row"] (bf vV):=⟨rfl,rfl,rfl,nofun,rfl,nofun,nofun⟩
theorem Ot:JX ["row"] vV 0 rA:=fun{X} T B hF ba=>
 have v0 {p:Pos}:=B.jv (pos:=p) (x:="row") 0 rfl (.inl nofun) nofun
 (az (bz (a9 B.eq (B.ah v0 aj) bx) (aF (bh (bD (ag (B.ah v0 aj) (ag (B.ah v0 aj) ak))))) bF) (az (bz (a9 (B.lA (by with_unfolding_all rfl)) (B.ah v0 aj) (bE (ag bx (ag bx ak)))) (aF (bh (bD (ag (B.ah v0 aj) ak)))) bF) (az (bz (a9 B.eq (B.ah v0 aj) bx) (aF (bh (mE rfl nofun nofun (yP B.calm) zL (B.gl _ nofun) T.oj acp (ag (B.ah v0 aj) ak)))) bF) (aF (bh (bD ak))))))
theorem RI(T:Tx K mg):bM P w K mg base (bG P w) 1 T.rB.a T.rB.d ["row"] (bT K mg 1 (fM rA 1 1)):=cV T T.rB rfl rfl RH Ot
theorem ML:cx ["found","thing","chain"] ["found","thing"] (bf uU):=⟨rfl,rfl,rfl,nofun,rfl,nofun,nofun⟩
theorem LX:JX ["found","thing","chain"] uU 0 uY:=fun{X} T B hF ba=>
 have v0 {p:Pos}:=B.jv (pos:=p) (x:="found") 0 rfl (.inl nofun) nofun;have v1 {p:Pos}:=B.jv (pos:=p) (x:="thing") 1 rfl (.inl nofun) nofun;have v2 {p:Pos}:=B.jv (pos:=p) (x:="chain") 2 rfl (.inl nofun) nofun
 (az (B.aU 2 rfl (.inl nofun) rfl (bD (ag v1 ak))) (az (B.vT (a9 GC (B.yd v0 (B.ah v2 (Ab aj))) mB) (aF (eO rfl (eR v2 (ag (B.yd v0 (B.ah v2 (Ab aj))) ak))))) (aF (bh v2))))
theorem MM(T:Tx K mg):bM P w K mg base (bG P w) 1 T.qy.a T.qy.d ["found","thing"] (bT K mg 2 (fM uY 3 2)):=cV T T.qy rfl rfl ML LX
theorem Ou:cx ["graph","block","place","value","found","point"] ["graph","block","place","value"] (bf fj):=⟨rfl,rfl,rfl,nofun,rfl,nofun,nofun⟩
theorem MN{X:Cx}(T:Tx X.K X.mg)(B:Bd X ["graph","block","place","value","found","point"] (pD (pD (bf fj) "value") "graph") 4)(hF:rZ X)(ba:X.env.scope=bf fj)(gB:X.fn "value"=false/\X.fn "graph"=false)(he:X.env.qual=("way_to":Str)++".<locals>."/\X.env.globals=aaL/\X.env.code=T.mj.code)(hc:∃c0 c1,(X.env.cells.lookup ("value":Str)=some c0/\X.aE.heap.objs.size<=c0)/\(X.env.cells.lookup ("graph":Str)=some c1/\X.aE.heap.objs.size<=c1)/\c1≠c0/\adG (mU fj).sc X.env=pure [(("value":Str),c0),(("graph":Str),c1)]):JB X (fB fj) vj:=
 have v0 {p:Pos}:=B.jv (pos:=p) (x:="graph") 0 rfl (.inr (.inr nofun)) nofun;have v1 {p:Pos}:=B.jv (pos:=p) (x:="block") 1 rfl (.inl nofun) nofun;have v2 {p:Pos}:=B.jv (pos:=p) (x:="place") 2 rfl (.inl nofun) nofun;have v3 {p:Pos}:=B.jv (pos:=p) (x:="value") 3 rfl (.inr (.inr nofun)) nofun;have v4 {p:Pos}:=B.jv (pos:=p) (x:="found") 4 rfl (.inl nofun) nofun;have v5 {p:Pos}:=B.jv (pos:=p) (x:="point") 5 rfl (.inl nofun) nofun
 (az (bz (og (kc rfl (bu B T.qA (Nc T) bi nofun (ag v0 (ag v1 (ag v2 ak)))))) (aF (bh mB)) bF) (az (B.aU 4 rfl (.inl nofun) rfl (bu B T.qt (Mn T) bi nofun (ag (bD (ag (bE (ag v1 (ag v2 ak))) ak)) (ag (RF gB.1 (by rw[B.hN];rfl) (by rw[ba];decide +kernel) gB.2 (by rw[B.hN];rfl) (by rw[ba];decide +kernel) hc.choose_spec.choose_spec T.yX ⟨he.1,he.2.1,he.2.2.trans T.E6⟩ T.E7 T.E8 T.E9 T.Fb T.Fc yY rfl) ak)))) (az (B.V5 v4 (B.cm 5 rfl (.inl nofun)) (aF (bz (a9 (B.lA (by with_unfolding_all rfl)) v3 (bu B T.rB (RI T) bi nofun (ag (bu B T.nU (Fe T) bi nofun (ag v0 (ag v5 ak))) ak))) (aF (bh (Rp B.calm (B.gl _ nofun) T.oj (B.gl _ nofun) T.EJ rfl (bu B T.qy (MM T) bi nofun (ag v4 (ag v5 ak)))))) bF))) (aF (bh mB)))))
theorem Ng{X:Cx}(T:Tx X.K X.mg)(B:Bd X ["graph","block","place","value","found","point"] (bf fj) 4)(hF:rZ X)(ba:X.env.scope=bf fj)(he:X.env.qual=("way_to":Str)++".<locals>."/\X.env.globals=aaL/\X.env.code=T.mj.code)(hc:∃c0 c1,(X.env.cells.lookup ("value":Str)=some c0/\X.aE.heap.objs.size<=c0)/\(X.env.cells.lookup ("graph":Str)=some c1/\X.aE.heap.objs.size<=c1)/\c1≠c0/\adG (mU fj).sc X.env=pure [(("value":Str),c0),(("graph":Str),c1)]):JR X (fB fj) kU:=
 (PJ (n:="value") (n2:="graph") (MN (X:=iK (iK X "value") "graph") T ((B.iK nofun).iK nofun) ⟨hF.st,hF.fr,hF.ex⟩ ba ⟨PK,RB⟩ he hc))
theorem Ff(T:Tx K mg):bM P w K mg base (bG P w) 5 T.a_way_to T.mj ["graph","block","place","value"] (bT K mg 4 (fM kU 6 4)):=RC (fun env n=>∃c0 c1,(env.cells.lookup ("value":Str)=some c0/\n<=c0)/\(env.cells.lookup ("graph":Str)=some c1/\n<=c1)/\c1≠c0/\adG (mU fj).sc env=pure [(("value":Str),c0),(("graph":Str),c1)]) rfl rfl T.kW Ou (fun L0 _ _=>by refine⟨_,_,⟨rfl,?_⟩,⟨rfl,?_⟩,aaW (acs _),rfl⟩ <;> repeat (first | exact aat _ | apply Nat.le_succ_of_le)) fun{X} h1 h2 h3 h4 h5 B hF ba he hc=>by subst h3 h4;exact Ng T B hF ba he hc
theorem MO:cx ["_law_found"] ["_law_found"] (bf uV):=⟨rfl,rfl,rfl,nofun,rfl,nofun,nofun⟩
theorem LY:JX ["_law_found"] uV 0 yN:=fun{X} T B hF ba=>
 have v0 {p:Pos}:=B.jv (pos:=p) (x:="_law_found") 0 rfl (.inl nofun) nofun
 (aF (bh (oa (wo O5 afs nofun nofun rfl (B.gl _ nofun) T.qv (B.gl _ nofun) T.BD v0) (n9 (Ug (wo N2 PyProof.Rows.boot_bool nofun nofun rfl (B.gl _ nofun) T.qv (B.gl _ nofun) T.GI v0))))))
theorem Es(T:Tx K mg):bM P w K mg base (bG P w) 1 T.nH.a T.nH.d ["_law_found"] (bT K mg 1 (fM yN 1 1)):=cV T T.nH rfl rfl MO LY
theorem KD:cx ["_law_graph","_law_point","_law_value","_law_block","_law_rows"] ["_law_graph","_law_point","_law_value"] (bf tQ):=⟨rfl,rfl,rfl,nofun,rfl,nofun,nofun⟩
theorem Ks:JX ["_law_graph","_law_point","_law_value","_law_block","_law_rows"] tQ 1 tR:=fun{X} T B hF ba=>
 have v0 {p:Pos}:=B.jv (pos:=p) (x:="_law_graph") 0 rfl (.inr (.inl nofun)) nofun;have v1 {p:Pos}:=B.jv (pos:=p) (x:="_law_point") 1 rfl (.inl nofun) nofun;have v3 {p:Pos}:=B.jv (pos:=p) (x:="_law_block") 3 rfl (.inl nofun) nofun;have v4 {p:Pos}:=B.jv (pos:=p) (x:="_law_rows") 4 rfl (.inl nofun) nofun
 (az (B.aU 3 rfl (.inl nofun) rfl (B.ah v1 aj)) (az (B.aU 4 rfl (.inl nofun) rfl (B.ah (B.ah v0 v3) aj)) (az (bz (a9 hZ (B.ah v1 aj) (dq B T nofun (ag v4 ak))) (aF (bh (bD (ag (bE (ag v3 (ag (bO (B.ah v1 aj) aj) ak))) ak)))) bF) (aF (bh (nV B.calm (N':=["_law_goal","_law_value","_law_graph"]) (Bd.cap B.hN ba nofun) (hV (bu B T.nG (Er T) bi nofun (ag (B.ah (B.ah v0 v3) aj) ak))) (iM B T nofun nofun fun{X} B T=>(B.cm 0 rfl (.inl rfl))) (iN B T nofun nofun fun{X} B T=>(GD (a9 (B.iE (by with_unfolding_all rfl)) (B.jv 1 rfl (.inr (.inr rfl)) nofun) (B.ah (B.ah (B.jv 2 rfl (.inr (.inr rfl)) nofun) (B.jv 0 rfl (.inl rfl) nofun)) aj)))) (iO B T nofun nofun fun{X} B T=>(bE (ag (B.jv 0 rfl (.inl rfl) nofun) (ag aj ak))))))))))
theorem KG(T:Tx K mg):bM P w K mg base (bG P w) 2 T.pU.a T.pU.d ["_law_graph","_law_point","_law_value"] (bT K mg 3 (fM tR 5 3)):=cV T T.pU rfl rfl KD Ks
theorem Mp:cx ["_law_found","_law_graph","_law_start","_law_value","_law_size","_law_k","_law_point","_law_thing"] ["_law_found","_law_graph","_law_start","_law_value","_law_size"] (bf uH):=⟨rfl,rfl,rfl,nofun,rfl,nofun,nofun⟩
theorem LC:JX ["_law_found","_law_graph","_law_start","_law_value","_law_size","_law_k","_law_point","_law_thing"] uH 2 uP:=fun{X} T B hF ba=>
 have v0 {p:Pos}:=B.jv (pos:=p) (x:="_law_found") 0 rfl (.inl nofun) nofun;have v1 {p:Pos}:=B.jv (pos:=p) (x:="_law_graph") 1 rfl (.inl nofun) nofun;have v2 {p:Pos}:=B.jv (pos:=p) (x:="_law_start") 2 rfl (.inl nofun) nofun;have v3 {p:Pos}:=B.jv (pos:=p) (x:="_law_value") 3 rfl (.inl nofun) nofun;have v4 {p:Pos}:=B.jv (pos:=p) (x:="_law_size") 4 rfl (.inl nofun) nofun;have v5 {p:Pos}:=B.jv (pos:=p) (x:="_law_k") 5 rfl (.inl nofun) nofun;have v6 {p:Pos}:=B.jv (pos:=p) (x:="_law_point") 6 rfl (.inl nofun) nofun;have v7 {p:Pos}:=B.jv (pos:=p) (x:="_law_thing") 7 rfl (.inl nofun) nofun
 (az (bz (gS (jG (og (kc rfl (wo N3 acp nofun nofun rfl (B.gl _ nofun) T.qv (B.gl _ nofun) T.oj v0))) (jG (a9 B.ne (dq B T nofun (ag v0 ak)) v4) (gL (a9 B.ne (B.ah v0 aj) v2))))) (aF (bh kj)) bF) (az (B.fe (fX (B.gl _ nofun) T.fk rfl (ag v4 ak)) (B.cm 5 rfl (.inl nofun)) (az (B.aU 6 rfl (.inl nofun) rfl (B.ah v0 v5)) (az (bz (gS (jG (og (kc rfl (wo Ny acg nofun nofun rfl (B.gl _ nofun) T.qv (B.gl _ nofun) T.nY v6))) (jG (a9 B.ne (dq B T nofun (ag v6 ak)) aj) (jG (og (kc rfl (bu B T.nH (Es T) bi nofun (ag (B.ah v6 aj) ak)))) (gL (og (kc rfl (bu B T.nH (Es T) bi nofun (ag (B.ah v6 aj) ak))))))))) (aF (bh kj)) bF) (az (bz (gS (mC (a9 wm v5 aj) (gL (a9 (B.iE (by with_unfolding_all rfl)) v6 (bu B T.pU (KG T) bi nofun (ag v1 (ag (B.ah v0 (fY v5 aj)) (ag v3 ak)))))))) (aF (bh kj)) bF) (az (B.aU 7 rfl (.inl nofun) rfl (B.ah (bu B T.nD (El T) bi nofun (ag v1 (ag (B.ah v6 aj) ak))) (B.ah v6 aj))) (aF (bz (gS (jG (a9 B.ne (jA (B.lA (by with_unfolding_all rfl)) v3 (bu B T.nI (EA T) bi nofun (ag v7 ak))) (jA B.eq v5 (fY v4 aj))) (gL (gS (mC (a9 hZ v5 (fY v4 aj)) (gL (kc rfl (bu B T.nF (Ep T) bi nofun (ag v7 (ag v3 ak)))))))))) (aF (bh kj)) bF))))))) (aF (bh kj))))
theorem Mq(T:Tx K mg):bM P w K mg base (bG P w) 3 T.qu.a T.qu.d ["_law_found","_law_graph","_law_start","_law_value","_law_size"] (bT K mg 5 (fM uP 8 5)):=cV T T.qu rfl rfl Mp LC
theorem UH:cx ["_law_script","_law_graph","_law_live","_law_spots","_law_k","_law_number","_law_point","_law_value","_law_some","_law_found"] ["_law_script"] (bf jI):=⟨rfl,rfl,rfl,nofun,rfl,nofun,nofun⟩
theorem PN:JX ["_law_script","_law_graph","_law_live","_law_spots","_law_k","_law_number","_law_point","_law_value","_law_some","_law_found"] jI 5 oz:=fun{X} T B hF ba=>
 have v0 {p:Pos}:=B.jv (pos:=p) (x:="_law_script") 0 rfl (.inl nofun) nofun;have v1 {p:Pos}:=B.jv (pos:=p) (x:="_law_graph") 1 rfl (.inl nofun) nofun;have v2 {p:Pos}:=B.jv (pos:=p) (x:="_law_live") 2 rfl (.inl nofun) nofun;have v3 {p:Pos}:=B.jv (pos:=p) (x:="_law_spots") 3 rfl (.inl nofun) nofun;have v4 {p:Pos}:=B.jv (pos:=p) (x:="_law_k") 4 rfl (.inl nofun) nofun;have v5 {p:Pos}:=B.jv (pos:=p) (x:="_law_number") 5 rfl (.inl nofun) nofun;have v6 {p:Pos}:=B.jv (pos:=p) (x:="_law_point") 6 rfl (.inl nofun) nofun;have v7 {p:Pos}:=B.jv (pos:=p) (x:="_law_value") 7 rfl (.inl nofun) nofun;have v8 {p:Pos}:=B.jv (pos:=p) (x:="_law_some") 8 rfl (.inl nofun) nofun;have v9 {p:Pos}:=B.jv (pos:=p) (x:="_law_found") 9 rfl (.inl nofun) nofun
 (az (B.aU 1 rfl (.inl nofun) rfl (bu B T.nA (Ej T) bi nofun (ag v0 ak))) (az (B.aU 2 rfl (.inl nofun) rfl (bu B T.qj (LW T) bi nofun (ag v1 ak))) (az (PC (i:=3) (by rw[B.hN];exact B.nd) (by rw[B.hN];rfl) (B.fn _ (.inl nofun)).2 (by rw[ba];decide +kernel) B.calm (N':=["_law_point"]) (Bd.cap B.hN ba nofun) v2 (iM B T nofun nofun fun{X} B T=>(B.cm 0 rfl (.inl rfl))) (iN B T nofun nofun fun{X} B T=>jB) (iO B T nofun nofun fun{X} B T=>(B.jv 0 rfl (.inl rfl) nofun)) (nK (by rw[ba];rfl) (by rw[ba];decide +kernel) rfl nofun)) (az (B.fe (fX (B.gl _ nofun) T.fk rfl (ag aj ak)) (B.cm 4 rfl (.inl nofun)) (az (B.aU 5 rfl (.inl nofun) rfl (bu B T.hO (jZ T) bi nofun (ag (bu B T.dQ (eY T) bi nofun (ag v0 (ag (bO aj (bL v4 aj)) ak))) (ag v4 ak)))) (az (B.aU 6 rfl (.inl nofun) rfl (B.ah v3 (bL (dE v5 aj) (dq B T nofun (ag v3 ak))))) (az (B.aU 7 rfl (.inl nofun) rfl (bL (dE v5 aj) aj)) (az (B.aU 8 rfl (.inl nofun) rfl (mD rfl nofun nofun (Ob B.calm) Rq (B.gl _ nofun) T.FI boot_sorted (ag (B.ah v2 v6) ak))) (az (bz (gS (mC (a9 B.eq (bL v5 aj) aj) (gL (a9 B.ne v8 (bD ak))))) (aF (B.aU 7 rfl (.inl nofun) rfl (B.ah v8 (bL (dE v5 aj) (dq B T nofun (ag v8 ak)))))) bF) (az (B.aU 9 rfl (.inl nofun) rfl (oh rfl nofun (Ff T) bi (B.room.mono (by decide)) (B.gl _ nofun) T.zu T.kW.kp T.kU (ag v1 (ag (B.ah v6 aj) (ag (B.ah v6 aj) (ag v7 ak)))))) (aF (bz (a9 (B.iE (by with_unfolding_all rfl)) v7 (B.ah v2 v6)) (aF (bz (a9 GC v9 mB) (aF (bh kj)) bF)) (aF (bz (og (kc rfl (bu B T.qu (Mq T) bi nofun (ag v9 (ag v1 (ag v6 (ag v7 (ag (B.ah (B.ah v2 v6) v7) ak)))))))) (aF (bh kj)) bF))))))))))) (aF (bh (oa (jA VX (oh rfl nofun (Ff T) bi (B.room.mono (by decide)) (B.gl _ nofun) T.zu T.kW.kp T.kU (ag v1 (ag aj (ag aj (ag (Uj aj aj) ak))))) mB) (n9 (jA B.eq v1 (bu B T.nA (Ej T) bi nofun (ag v0 ak)))))))))))
theorem UI(T:Tx K mg):bM P w K mg base (bG P w) 6 T.a_law T.wM ["_law_script"] (bT K mg 1 (fM oz 10 1)):=F3 rfl rfl T.rT UH fun{X} h1 h2 h3 h4 h5 B hF ba=>by subst h3 h4;exact PN T B hF ba
end
theorem all_mk{l:afk}{w:World}{h:Heap}{fa:Addr}(KX:K.In h)(G:h.Ns aaL mg)(Y5:mg "law"=some (.ref fa))
  {LZ:Addr} {Mr:aaV}
  {KY:Addr} {Lh:aaV}
  {MP:Addr} {Nh:aaV}
  {Ms:Addr} {MQ:aaV}
  {Li:Addr} {LD:aaV}
  {L1:Addr} {Mt:aaV}
  {LF:Addr} {L3:aaV}
  {Kz:Addr} {KH:aaV}
  {Mu:Addr} {MR:aaV}
  {L4:Addr} {Mv:aaV}
  {Mw:Addr} {MS:aaV}
  {Kq:Addr} {Kt:aaV}
  {Mx:Addr} {MT:aaV}
  {My:Addr} {MU:aaV}
  {LG:Addr} {L5:aaV}
  {Mz:Addr} {MV:aaV}
  {Ni:Addr} {ND:aaV}
  {MW:Addr} {Nj:aaV}
  {MX:Addr} {Nk:aaV}
  {LH:Addr} {L6:aaV}
  {L7:Addr} {MA:aaV}
  {Nl:Addr} {NE:aaV}
  {Ov:Addr} {PP:aaV}
  {PQ:Addr} {RJ:aaV}
  {KZ:Addr} {Lj:aaV}
  {Lk:Addr} {LI:aaV}
  {MB:Addr} {MY:aaV}
  {RK:Addr} {UJ:aaV}
  {MZ:Addr} {Nm:aaV}
  {vk:Addr} {Ow Ox:Option Addr} {Oy:Array (Option Value)} {Oz OA OB OC yZ OD:Value}
  {M0:Addr} {Nn:aaV}
  {KI:Addr} {K5:aaV}
  {MC:Addr} {M1:aaV}
  {AF:Addr} {UK GJ:Option Addr} {UL:Array (Option Value)} {UM GK GL GN AG GO:Value}
  {qE nM:Addr} {y0:Obj}
  (h_law_cell_at:cR K "_law_cell_at" uo LZ Mr)
  (h_law_back_chain:cR K "_law_back_chain" tV KY Lh)
  (h_law_mixed:cR K "_law_mixed" uR MP Nh)
  (h_law_set_by:cR K "_law_set_by" uz Ms MQ)
  (h_law_wide_ring:cR K "_law_wide_ring" t6 Li LD)
  (h_law_ends_by:cR K "_law_ends_by" uq L1 Mt)
  (h_law_sizes_by:cR K "_law_sizes_by" uh LF L3)
  (h_law_come_without:cR K "_law_come_without" tN Kz KH)
  (h_law_row_of:cR K "_law_row_of" uB Mu MR)
  (h_law_rows_of:cR K "_law_rows_of" ur L4 Mv)
  (h_law_end_of:cR K "_law_end_of" uC Mw MS)
  (h_law_plain_graph_by:cR K "_law_plain_graph_by" tK Kq Kt)
  (h_law_end_as:cR K "_law_end_as" uD Mx MT)
  (h_law_row_as:cR K "_law_row_as" uE My MU)
  (h_law_graph_by:cR K "_law_graph_by" ui LG L5)
  (h_law_things:cR K "_law_things" uF Mz MV)
  (h_law_used:cR K "_law_used" u5 Ni ND)
  (h_law_gives:cR K "_law_gives" uS MW Nj)
  (h_law_goals:cR K "_law_goals" uT MX Nk)
  (h_law_ahead_of:cR K "_law_ahead_of" uj LH L6)
  (h_law_live_by:cR K "_law_live_by" ut L7 MA)
  (h_is_point:cR K "is_point" u6 Nl NE)
  (h_row_at:cR K "row_at" vC Ov PP)
  (h_given:cR K "given" vL PQ RJ)
  (h_further_blocks:cR K "further_blocks" tW KZ Lj)
  (h_points_behind:cR K "points_behind" t7 Lk LI)
  (h_found_from:cR K "found_from" uG MB MY)
  (h_used:cR K "used" vV RK UJ)
  (h_back_from:cR K "back_from" uU MZ Nm)
  (a_way_to:abn K aaL "way_to"=some (some (.ref vk)))
  (l_way_to:K.lookup vk=some ⟨Oz,Ow,.func (abL "way_to" "way_to" (i5 fj) (fB fj) (bf fj) .none OA OB OC Ox yZ OD),Oy⟩)
  (c_way_to:acO K yZ "way_to"=true)
  (k_way_to:acz K (.ref vk)=true)
  (h_law_whole:cR K "_law_whole" uV M0 Nn)
  (h_law_next_points:cR K "_law_next_points" tQ KI K5)
  (h_law_is_way:cR K "_law_is_way" uH MC M1)
  (a_law:abn K aaL "law"=some (some (.ref AF)))
  (l_law:K.lookup AF=some ⟨UM,UK,.func (abL "law" "law" (i5 jI) (fB jI) (bf jI) .none GK GL GN GJ AG GO),UL⟩)
  (c_law:acO K AG "law"=true)
  (k_law:acz K (.ref AF)=true)
  (w1_way_to:yZ=.ref qE) (w2_way_to:K.lookup qE=some y0) (w3_way_to:kX y0=some nM) (w4_way_to:(qE==nM)=false)
  (w5_way_to:fL K=[(("way_to":Str),qE,nM)])
  (z_any:abn K aaL "any"=some none)
  (z_bool:abn K aaL "bool"=some none)
  (z_enumerate:abn K aaL "enumerate"=some none)
  (z_int:abn K aaL "int"=some none)
  (z_isinstance:abn K aaL "isinstance"=some none)
  (z_len:abn K aaL "len"=some none)
  (z_list:abn K aaL "list"=some none)
  (z_max:abn K aaL "max"=some none)
  (z_min:abn K aaL "min"=some none)
  (z_range:abn K aaL "range"=some none)
  (z_reversed:abn K aaL "reversed"=some none)
  (z_sorted:abn K aaL "sorted"=some none)
  (z_tuple:abn K aaL "tuple"=some none)
  : ∃fd:aaV,(∀(s:aaw) (v:Value),BindsTo s fd ⟨[v],[]⟩ [("_law_script",v)])/\∀base:Heap,K.In base->base.Ns aaL mg->bM l.prog w K mg base (bG l.prog w) 6 fa fd ["_law_script"] (bT K mg 1 rS):=by
 have e:=Y5.symm.trans (aeR KX G a_law);cases e;have kW:=z8 (st:=fj) l_way_to c_way_to k_way_to;have rT:=z8 (st:=jI) l_law c_law k_law
 let T:Tx K mg:={
  dQ:=cU KX G h_law_cell_at (fun _ _ _ _ _ _ us hl=>by obtain⟨_,_,rfl⟩:=ib us hl;rfl),
  pX:=cU KX G h_law_back_chain (fun _ _ _ _ _ _ us hl=>by obtain⟨_,_,rfl⟩:=ib us hl;rfl),
  hO:=cU KX G h_law_mixed (fun _ _ _ _ _ _ us hl=>by obtain⟨_,_,rfl⟩:=ib us hl;rfl),
  md:=cU KX G h_law_set_by (fun _ _ _ _ _ _ us hl=>by obtain⟨_,rfl⟩:=iL us hl;rfl),
  pZ:=cU KX G h_law_wide_ring (fun _ _ _ _ _ _ us hl=>by obtain⟨_,_,rfl⟩:=ib us hl;rfl),
  qg:=cU KX G h_law_ends_by (fun _ _ _ _ _ _ us hl=>by obtain⟨_,_,rfl⟩:=ib us hl;rfl),
  qd:=cU KX G h_law_sizes_by (fun _ _ _ _ _ _ us hl=>by obtain⟨_,_,rfl⟩:=ib us hl;rfl),
  l8:=cU KX G h_law_come_without (fun _ _ _ _ _ _ us hl=>by obtain⟨_,_,rfl⟩:=ib us hl;rfl),
  qp:=cU KX G h_law_row_of (fun _ _ _ _ _ _ us hl=>by obtain⟨_,_,_,rfl⟩:=mV us hl;rfl),
  qh:=cU KX G h_law_rows_of (fun _ _ _ _ _ _ us hl=>by obtain⟨_,_,_,_,_,_,_,rfl⟩:=Xj us hl;rfl),
  qq:=cU KX G h_law_end_of (fun _ _ _ _ _ _ us hl=>by obtain⟨_,_,_,_,_,rfl⟩:=CC us hl;rfl),
  pQ:=cU KX G h_law_plain_graph_by (fun _ _ _ _ _ _ us hl=>by obtain⟨_,rfl⟩:=iL us hl;rfl),
  qr:=cU KX G h_law_end_as (fun _ _ _ _ _ _ us hl=>by obtain⟨_,_,_,rfl⟩:=mV us hl;rfl),
  me:=cU KX G h_law_row_as (fun _ _ _ _ _ _ us hl=>by obtain⟨_,_,_,rfl⟩:=mV us hl;rfl),
  nA:=cU KX G h_law_graph_by (fun _ _ _ _ _ _ us hl=>by obtain⟨_,rfl⟩:=iL us hl;rfl),
  nD:=cU KX G h_law_things (fun _ _ _ _ _ _ us hl=>by obtain⟨_,_,rfl⟩:=ib us hl;rfl),
  nI:=cU KX G h_law_used (fun _ _ _ _ _ _ us hl=>by obtain⟨_,rfl⟩:=iL us hl;rfl),
  nF:=cU KX G h_law_gives (fun _ _ _ _ _ _ us hl=>by obtain⟨_,_,rfl⟩:=ib us hl;rfl),
  nG:=cU KX G h_law_goals (fun _ _ _ _ _ _ us hl=>by obtain⟨_,rfl⟩:=iL us hl;rfl),
  qe:=cU KX G h_law_ahead_of (fun _ _ _ _ _ _ us hl=>by obtain⟨_,_,_,_,rfl⟩:=CB us hl;rfl),
  qj:=cU KX G h_law_live_by (fun _ _ _ _ _ _ us hl=>by obtain⟨_,rfl⟩:=iL us hl;rfl),
  qA:=cU KX G h_is_point (fun _ _ _ _ _ _ us hl=>by obtain⟨_,_,_,rfl⟩:=mV us hl;rfl),
  nU:=cU KX G h_row_at (fun _ _ _ _ _ _ us hl=>by obtain⟨_,_,rfl⟩:=ib us hl;rfl),
  qT:=cU KX G h_given (fun _ _ _ _ _ _ us hl=>by obtain⟨_,rfl⟩:=iL us hl;rfl),
  pY:=cU KX G h_further_blocks (fun _ _ _ _ _ _ us hl=>by obtain⟨_,rfl⟩:=iL us hl;rfl),
  l9:=cU KX G h_points_behind (fun _ _ _ _ _ _ us hl=>by obtain⟨_,_,_,rfl⟩:=mV us hl;rfl),
  qt:=cU KX G h_found_from (fun _ _ _ _ _ _ us hl=>by obtain⟨_,_,rfl⟩:=ib us hl;rfl),
  rB:=cU KX G h_used (fun _ _ _ _ _ _ us hl=>by obtain⟨_,rfl⟩:=iL us hl;rfl),
  qy:=cU KX G h_back_from (fun _ _ _ _ _ _ us hl=>by obtain⟨_,_,rfl⟩:=ib us hl;rfl),
  a_way_to:=vk,mj:=_,kW:=kW,zu:=aeR KX G a_way_to,kU:=kW.binds (ps:=["graph","block","place","value"]) (fun _ _ _ _ _ _ us hl=>by obtain⟨_,_,_,_,rfl⟩:=CB us hl;rfl),
  nH:=cU KX G h_law_whole (fun _ _ _ _ _ _ us hl=>by obtain⟨_,rfl⟩:=iL us hl;rfl),
  pU:=cU KX G h_law_next_points (fun _ _ _ _ _ _ us hl=>by obtain⟨_,_,_,rfl⟩:=mV us hl;rfl),
  qu:=cU KX G h_law_is_way (fun _ _ _ _ _ _ us hl=>by obtain⟨_,_,_,_,_,rfl⟩:=CC us hl;rfl),
  a_law:=fa,wM:=_,rT:=rT,V9:=aeR KX G a_law,oz:=rT.binds (ps:=["_law_script"]) (fun _ _ _ _ _ _ us hl=>by obtain⟨_,rfl⟩:=iL us hl;rfl),
  qC:=qE,qD:=nM,yW:=y0,E6:=w1_way_to,E7:=w2_way_to,E8:=w3_way_to,E9:=(fun z=>absurd (z▸w4_way_to:(nM==nM)=false) (by simp)),
  Fb:=(by rw[w5_way_to];exact List.mem_singleton_self _),Fc:=(fun p hp _=>by rw[w5_way_to] at hp;rw[aav.mp hp]),
  yX:=((Pk kW a_way_to).trans rfl),
  Hi:=abl KX G z_any,
  GI:=abl KX G z_bool,
  Ez:=abl KX G z_enumerate,
  BD:=abl KX G z_int,
  qv:=abl KX G z_isinstance,
  BE:=abl KX G z_len,
  oj:=abl KX G z_list,
  BF:=abl KX G z_max,
  Hj:=abl KX G z_min,
  fk:=abl KX G z_range,
  EJ:=abl KX G z_reversed,
  FI:=abl KX G z_sorted,
  nY:=abl KX G z_tuple }
 exact⟨abL "law" "law" (i5 jI) (fB jI) (bf jI) .none GK GL GN GJ AG GO,fun s v=>.of_eq rfl,fun base _ _=>UI T⟩
theorem PR{l:afk}{q:abw}{loose:List Str}{XP:(Str->Option Value)->Heap->Prop}{YP:World->Heap->Prop}{d:DefRec}{K:Params->aao}(good:∀ns:List Int,ns.length<=63->∃ph',rS [.fl (ns.map W.int)] []=.ok (.bl true) ph')(hn:l.most=some 63)(sI:d.params.defaults=[])
  (hY:∀(w:World) (h:Heap),YP w h->(K w.params).In h) (hK:∀w:World,afE (K w.params)=true) (hT:∀(w:World) (h:Heap),YP w h->∀p∈fL (K w.params),adl h p.2.1 p.2.2/\h.get? p.2.2=some (ach #[]))
  (F:∀(w:World) (mg:Str->Option Value) (fa:Addr) (h:Heap),(K w.params).In h->h.Ns aaL mg->mg d.name=some (.ref fa)->∃fd:aaV,(∀(s:aaw) (u:Value),BindsTo s fd ⟨[u],[]⟩ [("_law_script",u)])/\∀base:Heap,(K w.params).In base->base.Ns aaL mg->bM l.prog w (K w.params) mg base (bG l.prog w) 6 fa fd ["_law_script"] (bT (K w.params) mg 1 rS)) :
  PySem.W.WalkO q loose XP YP l.row.toRowW d [] (fun f vs=>PySem.call f vs):=Rb 6 good hn sI ⟨rfl,by decide,by decide⟩ hY hK hT F
open PySem L2
variable{α:Type}{ph ph':PH}
theorem aB{β:Type}{m:Mo α}{f:α->Mo β}{a:α}{r:Out β}(h:m ph=.ok a ph')(k:f a ph'=r):au m f ph=r:=by
 unfold au;rw[h];exact k
variable{j:Nat}
theorem cW{l:List α}(h:j<l.length):∃x,l[j]? =some x:=⟨l[j],aaZ h⟩
theorem vW{a b:Int}(h1: -(2 ^ 64)<b)(h2:b<2 ^ 64):mulC a b=true:=by
 unfold mulC;rw[decide_eq_true h1,decide_eq_true h2];simp
theorem jC{a b:Int}(h1: -(2 ^ 64)<a)(h2:a<2 ^ 64):mulC a b=true:=by
 unfold mulC;rw[decide_eq_true h1,decide_eq_true h2];simp
theorem Ex.set{a b:PH}(h:Ex a b){i:Nat}(hi:a.length<=i)(o:PO):Ex a (b.set i o):=by
 obtain⟨m,rfl⟩:=h;exact⟨m.set (i-a.length) o,by rw[afp _ _ hi]⟩
variable{i:Nat}{o:PO}
theorem cy(h:i≠j):(ph.set i o)[j]? =ph[j]? :=abk h
theorem da{o':PO}(h:ph[i]? =some o):(ph.set i o')[i]? =some o':=aaQ (aam.mp h).1
theorem f9(h:ph[i]? =some o):i<ph.length:=(aam.mp h).1
variable{σ:aS}{ph1:PH}
theorem eZ{im:IM}{g:GM}{b:SM}{items:List W}{chk:PH->Bool}{r:Out Fl}(h:im σ ph=.ok (items,chk) ph1)(h2:cH chk g b items σ ph1=r):cT im g b σ ph=r:=by
 unfold cT;refine aB h ?_;exact h2
variable{a:SM}{σ1:aS}
theorem Xk{b:SM}{k:Fl->Mo W}{P:Out W->Prop}(h:a σ ph=.ok (.nx σ1) ph1)(h2:P (au (b σ1) k ph1)):P (au (av a b σ) k ph):=by
 have e:au (av a b σ) k ph=au (b σ1) k ph1:=by
  rw[kY,dS,bg h]
 rw[e];exact h2
noncomputable def iw(l:List Nat):List W:=l.map fun x:Nat=>W.int x
theorem k9(l:List Nat):(iw l).length=l.length:=by simp[iw]
theorem AH(l m:List Nat):iw (l++m)=iw l++iw m:=by simp[iw]
theorem UN{l:List Nat}{w:W}(h:(iw l)[j]? =some w):∃x,l[j]? =some x/\w=.int x:=by
 unfold iw at h;rw[aau] at h;obtain⟨x,e,rfl⟩:=aaA.mp h;exact⟨x,e,rfl⟩
theorem BG{l:List Nat}{x:Nat}(h:l[j]? =some x):cA (iw l) (j:Int)=some (.int x):=by
 have:=(aam.mp h).1;rw[gK _ _ (by rw[k9];exact this)];unfold iw;rw[aau,h];rfl
noncomputable def Wy(ph:PH)(i:Nat)(G:List (List Nat)):Prop:=∃rs:List Nat,ph[i]? =some (.lst (rs.map W.ref))/\rs.length=G.length/\∀(k r:Nat) g,rs[k]? =some r->G[k]? =some g->ph[r]? =some (.lst (iw g))
theorem Wy.mono{G:List (List Nat)}(h:Wy ph i G)(x:Ex ph ph'):Wy ph' i G:=by
 obtain⟨rs,h1,h2,h3⟩:=h;exact⟨rs,x.get h1,h2,fun k r g a b=>x.get (h3 k r g a b)⟩
theorem RL(ns:List Int)(k:Nat)(ph:PH):cG [.fl (ns.map W.int),.int k] ph=.ok (.int (ns.getD k 0)) ph:=by
 unfold cG uu
 push_cast [W8]
 by_cases h:k<ns.length
 ·have e:cA (ns.map W.int) (k:Int)=some (.int (ns.getD k 0)):=by
   rw[gK _ _ (by simpa using h)];simp[h]
  rw[yd e];simp[h,aA,dY,au]
 ·have e:ns.getD k 0=0:=by simp[acN h]
  simp[h,aA,dY,au,e]
theorem BH(ns:List Int)(k:Nat):cG [.fl (ns.map W.int),.int k]=aA (.int (ns.getD k 0)):=funext fun ph=>RL ns k ph
theorem RM(ns:List Int):cG [.fl (ns.map W.int),.int 0]=aA (.int (ns.getD 0 0)):=BH ns 0
theorem Gh(ns:List Int):cG [.fl (ns.map W.int),.int 1]=aA (.int (ns.getD 1 0)):=BH ns 1
theorem vm:∀{n:Nat} {S:List Nat},S.Nodup->(∀x∈S,x<n)->S.length<=n
 | 0,S,_,h=>by
  cases S with
  | nil=>simp
  | cons x S=>exact absurd (h x (by simp)) (by omega)
 | n+1,S,hd,h=>by
  by_cases hm:n∈S
  ·have:=vm (n:=n) (hd.erase n) fun x hx=>by
    have:=h x (hd.mem_erase_iff.mp hx).2;have:x≠n:=(hd.mem_erase_iff.mp hx).1;omega
   rw[aeK hm] at this;omega
  ·have:=vm (n:=n) hd fun x hx=>by
    have:=h x hx;have:x≠n:=fun z=>hm (z▸hx)
    omega
   omega
variable{wi:Nat}{g:List Nat}
theorem BI{b:Nat}{G:List (List Nat)}(h:Wy ph wi G)(e:G[b]? =some g):∃r,(∀ph',Ex ph ph'->lift (ah (.ref wi) (.int b)) ph'=.ok (.ref r) ph')/\ph[r]? =some (.lst (iw g)):=by
 obtain⟨rs,h1,h2,h3⟩:=h;have hb:b<rs.length:=by rw[h2];exact(aam.mp e).1
 obtain⟨r,hr⟩:∃r,rs[b]? =some r:=cW hb;refine⟨r,fun ph' x=>cK (x.get h1) ?_,h3 b r g hr e⟩;rw[gK _ _ (by rw[aan];exact hb),aau,hr];rfl
theorem dZ{l:List α}{x y:α}(h:(l++[x])[i]? =some y):(i<l.length/\l[i]? =some y)\/(i=l.length/\y=x):=by
 by_cases hi:i<l.length
 ·rw[aaM hi] at h;exact .inl ⟨hi,h⟩
 ·have:=(aam.mp h).1;simp at this;have:i=l.length:=by omega
  subst this;rw[abC] at h;cases h;exact .inr ⟨rfl,rfl⟩
theorem nZ(n:Nat):dc 0 n=(aaK n).map fun i:Nat=>W.int i:=by
 unfold dc;apply afK;intro i _;simp
theorem UO{G:List (List Nat)}(h:Wy ph wi G):lift (bv [.ref wi]) ph=.ok (.int G.length) ph:=by
 obtain⟨rs,h1,h2,_⟩:=h;rw[eF h1,aan,h2]
theorem ju{l:List α}{m:Nat}{o:α}(e:l[m]? =some o):l.take (m+1)=l.take m++[o]:=by
 rw[List.take_succ,e];rfl
noncomputable def dO(G:List (List Nat))(b:Nat):List Nat:=G[b]?.getD []
inductive Row where
 | set (v n:Int)
 | gz (v:Int) (w:String) (a b:Int)
 | take (v:Int)
 | tell (v:Int)
 | turn
inductive En where
 | go (k:Nat) (as:List Int)
 | iff (v:Int) (a b:Nat)
 | fin
structure bp where
 ps:List Int
 rs:List Row
 en:En
noncomputable def Row.w:Row->W
 | .set v n=>.tup [.str "set",.int v,.int n]
 | .gz v w a b=>.tup [.str "do",.int v,.str (aaC w),.int a,.int b]
 | .take v=>.tup [.str "take",.int v]
 | .tell v=>.tup [.str "tell",.int v]
 | .turn=>.tup [.str "turn"]
noncomputable def En.w:En->W
 | .go k as=>.tup [.str "go",.int k,.tup (as.map W.int)]
 | .iff v a b=>.tup [.str "if",.int v,.int a,.int b]
 | .fin=>.tup [.str "end"]
noncomputable def Row.use:Row->List Int
 | .gz _ _ a b=>[a,b]
 | .tell v=>[v]
 | _=>[]
noncomputable def Row.dP:Row->Option Int
 | .set v _=>some v
 | .gz v _ _ _=>some v
 | .take v=>some v
 | _=>none
noncomputable def En.use:En->List Int
 | .go _ as=>as
 | .iff v _ _=>[v]
 | .fin=>[]
noncomputable def En.to:En->List Nat
 | .go k _=>[k]
 | .iff _ a b=>[a,b]
 | .fin=>[]
noncomputable def gH(lo:Nat)(ph:PH)(w:W)(b:bp):Prop:=∃p r,w=.tup [.ref p,.ref r,b.en.w]/\lo<=p/\lo<=r/\ph[p]? =some (.lst (b.ps.map W.int))/\ph[r]? =some (.lst (b.rs.map Row.w))
noncomputable def cu(lo:Nat)(ph:PH)(gi:Nat)(G:List bp):Prop:=∃ws,ph[gi]? =some (.lst ws)/\ws.length=G.length/\∀(k:Nat) w b,ws[k]? =some w->G[k]? =some b->gH lo ph w b
noncomputable def Kp(M:List Nat)(H H':PH):Prop:=H.length<=H'.length/\∀j o,j∉M->H[j]? =some o->H'[j]? =some o
theorem Kp.refl(M:List Nat)(H:PH):Kp M H H:=⟨aat _,fun _ _ _ h=>h⟩
variable{M:List Nat}
theorem Kp.trans{a b c:PH}(h:Kp M a b)(h':Kp M b c):Kp M a c:=⟨aaN h.1 h'.1,fun j o hj e=>h'.2 j o hj (h.2 j o hj e)⟩
theorem Kp.ex{a b:PH}(h:Ex a b):Kp M a b:=⟨h.len,fun _ _ _ e=>h.get e⟩
theorem Kp.set{M:List Nat}{i:Nat}(hi:i∈M)(H:PH)(o:PO):Kp M H (H.set i o):=⟨by rw[abg];exact aat _,fun j o' hj e=>by
 have dm:i≠j:=fun z=>hj (by rw[<- z];exact hi)
 rw[cy dm];exact e⟩
variable{H H':PH}
theorem Kp.toEx(x:Ex ph H)(h:Kp M H H')(hM:∀m∈M,ph.length<=m):Ex ph H':=by
 have hl:ph.length<=H'.length:=aaN x.len h.1;refine⟨H'.drop ph.length,?_⟩;have e:ph=H'.take ph.length:=by
  apply acj
  intro j;rw[List.getElem?_take];by_cases hj:j<ph.length
  ·rw[if_pos hj,aaZ hj];exact(h.2 j _ (fun z=>by have:=hM j z;omega) (x.get (aaZ hj))).symm
  ·rw[if_neg hj,acb (by omega)]
 conv=>lhs;rw[<- List.take_append_drop ph.length H',<- e]
variable{b:bp}
theorem gH.kp{lo:Nat}{w:W}(h:gH lo H w b)(k:Kp M H H')(hM:∀m∈M,m<lo):gH lo H' w b:=by
 obtain⟨p,r,e,h1,h2,h3,h4⟩:=h;exact⟨p,r,e,h1,h2,k.2 _ _ (fun z=>by have:=hM _ z;omega) h3,k.2 _ _ (fun z=>by have:=hM _ z;omega) h4⟩
theorem gH.lo{lo tj:Nat}{w:W}(h:gH lo H w b)(l:tj<=lo):gH tj H w b:=by
 obtain⟨p,r,e,h1,h2,h3,h4⟩:=h;exact⟨p,r,e,by omega,by omega,h3,h4⟩
theorem gH.ex{lo:Nat}{w:W}(h:gH lo H w b)(k:Ex H H'):gH lo H' w b:=by
 obtain⟨p,r,e,h1,h2,h3,h4⟩:=h;exact⟨p,r,e,h1,h2,k.get h3,k.get h4⟩
theorem cu.ex{lo gi:Nat}{H H':PH}{G:List bp}(h:cu lo H gi G)(k:Ex H H'):cu lo H' gi G:=by
 obtain⟨ws,h1,h2,h3⟩:=h;exact⟨ws,k.get h1,h2,fun j w b a c=>(h3 j w b a c).ex k⟩
theorem cu.lo{lo tj gi:Nat}{H:PH}{G:List bp}(h:cu lo H gi G)(l:tj<=lo):cu tj H gi G:=by
 obtain⟨ws,h1,h2,h3⟩:=h;exact⟨ws,h1,h2,fun j w b a c=>(h3 j w b a c).lo l⟩
variable{gi:Nat}{G:List bp}{ws:List W}
theorem cu.snoc{lo:Nat}{w:W}(h1:H[gi]? =some (.lst ws))(h2:ws.length=G.length)(h3:∀(k:Nat) w b,ws[k]? =some w->G[k]? =some b->gH lo H w b)(k:Kp M H H')(hM:∀m∈M,m<lo)(e:H'[gi]? =some (.lst (ws++[w])))(hb:gH lo H' w b):cu lo H' gi (G++[b]):=by
 refine⟨ws++[w],e,by simp[h2],fun j w' b' hw df=>?_⟩
 rcases dZ hw with⟨hj,a⟩ | ⟨hj,rfl⟩
 ·rcases dZ df with⟨_,c⟩ | ⟨nj,_⟩
  ·exact(h3 j w' b' a c).kp k hM
  ·omega
 ·rcases dZ df with⟨nj,c⟩ | ⟨_,rfl⟩
  ·omega
  ·exact hb
theorem mm{M A:Type}{chk:A->PH->Bool}{g:GM}{b:SM}(J:Nat->M->Prop)(rep:A->Nat->M->aS->PH->Prop):∀(items:List W) (k:Nat) (m0:M),
  (∀a j m σ ph,rep a j m σ ph->chk a ph=true) →
  (∀j x m,items[j]? =some x->J (k+j) m->∃m',J (k+j+1) m'/\∀a σ ph,rep a (k+j) m σ ph->∃σ1 ph1,g x σ ph=.ok σ1 ph1/\∃bw aI,b σ1 ph1=.ok (.nx bw) aI/\rep a (k+j+1) m' bw aI) →
  J k m0->∃m,J (k+items.length) m/\∀a σ ph,rep a k m0 σ ph->∃ao ph',cH (chk a) g b items σ ph=.ok (.nx ao) ph'/\rep a (k+items.length) m ao ph'
 | [],k,m0,hc,hs,h0=>⟨m0,h0,fun a σ ph r=>⟨σ,ph,by unfold cH;rw[if_pos (hc a _ _ _ _ r)],r⟩⟩
 | x::xs,k,m0,hc,hs,h0=>by
  obtain⟨m1,h1,s1⟩:=hs 0 x m0 rfl h0;obtain⟨m,hm,sm⟩:=mm J rep xs (k+1) m1 hc (fun j y m' hj hJ=>by
   have:=hs (j+1) y m' (by simpa using hj) (by rw[show k+(j+1)=k+1+j by omega];exact hJ);rw[show k+(j+1)=k+1+j by omega] at this;exact this) h1
  refine⟨m,by rw[abb,show k+(xs.length+1)=k+1+xs.length by omega];exact hm,fun a σ ph r=>?_⟩;obtain⟨σ1,ph1,e1,bw,aI,e2,r2⟩:=s1 a σ ph r;obtain⟨ao,ph',e3,r3⟩:=sm a bw aI r2;refine⟨ao,ph',?_,by rw[abb,show k+(xs.length+1)=k+1+xs.length by omega];exact r3⟩;have e:cH (chk a) g b (x::xs) σ ph=cH (chk a) g b xs bw aI:=by
   conv=>lhs;unfold cH
   rw[if_pos (hc a _ _ _ _ r),bg e1,bg e2]
  rw[e];exact e3
theorem OE{M A:Type}{b:SM}(J:M->Prop)(mu:M->Nat)(go:M->Bool)(yg:M->M)(rep:A->M->aS->PH->Prop)
  (ht:∀a m σ ph,J m->rep a m σ ph->t σ ph=.ok (go m) ph)
  (hs:∀m,J m->go m=true->J (yg m)/\mu (yg m)<mu m/\∀a σ ph,rep a m σ ph->∃bw aI,b σ ph=.ok (.nx bw) aI/\rep a (yg m) bw aI) :
  ∀(n:Nat) (m0:M),mu m0=n->J m0->∃m,J m/\go m=false/\∀a σ ph,rep a m0 σ ph->∃ao ph',hW t b σ ph=.ok (.nx ao) ph'/\rep a m ao ph':=by
 have key:∀(n:Nat) (m0:M),mu m0=n->J m0->∃m,J m/\go m=false/\∀a σ ph,rep a m0 σ ph->∃k ao ph',dA t b k σ ph=.ok (.nx ao) ph'/\rep a m ao ph':=by
  intro n
  induction n using adz with
  | ind n ih=>
   intro m0 hn h0;cases hg:go m0 with
   | false=>
    refine⟨m0,h0,hg,fun a σ ph r=>⟨1,σ,ph,?_,r⟩⟩;show au (t σ) _ ph=_;refine aB (ht a m0 σ ph h0 r) ?_;rw[hg];rfl
   | true=>
    obtain⟨h1,h2,s⟩:=hs m0 h0 hg;obtain⟨m,hm,Y6,sm⟩:=ih _ (by omega) (yg m0) rfl h1;refine⟨m,hm,Y6,fun a σ ph r=>?_⟩;obtain⟨bw,aI,e2,r2⟩:=s a σ ph r;obtain⟨k,ao,ph',e3,r3⟩:=sm a bw aI r2;refine⟨k+1,ao,ph',?_,r3⟩;show au (t σ) _ ph=_;refine aB (ht a m0 σ ph h0 r) ?_;rw[hg];simp only[if_true];refine aB e2 ?_;exact e3
 intro n m0 hn h0;obtain⟨m,hm,hg,s⟩:=key n m0 hn h0;exact⟨m,hm,hg,fun a σ ph r=>by
  obtain⟨k,ao,ph',e,r'⟩:=s a σ ph r;exact⟨ao,ph',E4 e,r'⟩⟩
theorem sq{b:SM}{r:Out Fl}(h:a σ ph=.ok (.nx σ1) ph1)(h2:b σ1 ph1=r):av a b σ ph=r:=by
 rw[kY,bg h];exact h2
theorem bq{b:SM}{k:Fl->Mo W}{r:Out W}(h:a σ ph=.ok (.nx σ1) ph1)(h2:au (b σ1) k ph1=r):au (av a b σ) k ph=r:=Xk (P:=fun q=>q=r) h h2
theorem br{e:EM}{w:W}(h:e σ ph=.ok w ph1):au (aW e σ) dY ph=.ok w ph1:=by
 rw[qQ,dS,bg h];rfl
theorem asg{e:EM}{w:W}(h:e σ ph=.ok w ph1):ax e (gN i) σ ph=.ok (.nx (σ.set i (some w))) ph1:=by
 rw[jw,bg h];rfl
theorem cw{b:SM}{r:Out Fl}(h:t σ ph=.ok true ph1)(h2:a σ ph1=r):aV t a b σ ph=r:=by
 rw[rp,bg h];exact h2
theorem bN{b:SM}{r:Out Fl}(h:t σ ph=.ok false ph1)(h2:b σ ph1=r):aV t a b σ ph=r:=by
 rw[rp,bg h];exact h2
theorem Y7{b:SM}{c:Bool}{r:Out Fl}(h:t σ ph=.ok c ph1)(h1:c=true->a σ ph1=r)(h2:c=false->b σ ph1=r):aV t a b σ ph=r:=by
 cases c with
 | true=>exact cw h (h1 rfl)
 | false=>exact bN h (h2 rfl)
theorem retS{e:EM}{w:W}(h:e σ ph=.ok w ph1):aW e σ ph=.ok (.rt w) ph1:=by
 rw[qQ,bg h];rfl
theorem fh{o:EM}{e:EM}{w:W}(ho:o σ=aA (.ref i))(Y8:∃xT,ph[i]? =some (.lst xT))(he:e σ ph=.ok w ph1)(hi:ph1[i]? =some (.lst ws))(hz:ws.length<1000000):cO (cz bU cB o (ab e af)) σ ph=.ok (.nx σ) (ph1.set i (.lst (ws++[w]))):=by
 obtain⟨xT,h0⟩:=Y8;rw[vA,vB,ho];rw[dS,fD,dS,bg (Gb h0),dS,iA,dS,bg he];rw[ka,fD,fD,bg (EH hi (aay hz (by decide)) w)];rfl
noncomputable def mx(c k:Int):Int:=((c+7*k+3)*48271).fmod 2147483647
theorem ku(c k:Int):fK [.int c,.int k]=aA (.int (mx c k)):=by
 unfold fK uW
 push_cast [gO (jC (a:=7) (b:=k) (by decide) (by decide)),gO (vW (a:=c+7*k+3) (b:=48271) (by decide) (by decide)),bZ (show(2147483647:Int)≠0 by decide)]
 rfl
theorem PU(c k:Int):0<=mx c k/\mx c k<2147483647:=fA _ _ (by decide)
theorem i7(ns:List Int)(i:Int)(h:0<=i):cG [.fl (ns.map W.int),.int i]=aA (.int (ns.getD i.toNat 0)):=by
 have:=BH ns i.toNat;rw[ael h] at this;exact this
theorem UP{d:Int}(q:0<=d/\d<2):d=0\/d=1:=by omega
theorem AI(n:Int):∃x,∀ph,∃o,kS [.int n] ph=.ok (.int x) (ph++[o]):=by
 refine⟨if(n.fdiv 100003).fmod 2=0 then n.fmod 100003-1000 else(n*48271).fmod 4294967296-2147483648,fun ph=>⟨.lst [.int (n.fmod 100003-1000),.int ((n*48271).fmod 4294967296-2147483648)],?_⟩⟩;unfold kS uI
 push_cast [gO (vW (a:=n) (b:=48271) (by decide) (by decide)),bZ (show(100003:Int)≠0 by decide),bZ (show(4294967296:Int)≠0 by decide),bZ (show(2:Int)≠0 by decide),dI (show(100003:Int)≠0 by decide) (by decide)]
 rw[gp _ _ _ (small (by simp))];have q:=fA (n.fdiv 100003) 2 (by decide);generalize (n.fdiv 100003).fmod 2=d at q
 rcases UP q with rfl | rfl
 ·refine aB (cK (bc _ _) (by rfl)) ?_;rfl
 ·refine aB (cK (bc _ _) (by rfl)) ?_;rfl
noncomputable def mk(l:List Nat):List (W×W):=l.map fun k:Nat=>(W.int k,W.bl true)
theorem oA(l:List Nat)(k:Int):d0 (mk l) (.int k)=true:=by
 unfold d0;have:(mk l).all (fun p=> !jo p.1)=true:=by
  rw[abJ];intro p hp;obtain⟨x,_,rfl⟩:=aaD.mp hp;rfl
 rw[this];rfl
theorem wN(l:List Nat)(k:Nat):(dg (mk l) (.int k)).isSome=decide (k∈l):=by
 unfold dg mk;rw[acH,aco,aeL];simp only[decide_eq_true_eq];constructor
 ·rintro⟨p,hp,e⟩;obtain⟨x,hx,rfl⟩:=aaD.mp hp;injection e with e
  have:x=k:=by omega
  rw[<- this];exact hx
 ·intro h;exact⟨_,abx h,rfl⟩
noncomputable def ins(l:List Nat)(k:Nat):List Nat:=if k∈l then l else l++[k]
theorem RN{l:List Nat}{x:Nat}:x∈ins l k↔x∈l\/x=k:=by
 unfold ins;split
 ·rename_i h;exact⟨.inl,fun h'=>h'.elim id fun e=>e▸h⟩
 ·simp
theorem GP(l:List Nat)(k:Nat):f7 (mk l) (.int k) (.bl true)=mk (ins l k):=by
 unfold f7 ins;have e:((mk l).any fun p=>decide (p.1=.int k))=decide (k∈l):=by
  rw[aco,abK];simp only[decide_eq_true_eq];constructor
  ·rintro⟨p,hp,e⟩;obtain⟨x,hx,rfl⟩:=aaD.mp hp;injection e with e
   have:x=k:=by omega
   rw[<- this];exact hx
  ·intro h;exact⟨_,abx h,rfl⟩
 rw[e];by_cases h:k∈l
 ·rw[if_pos (decide_eq_true h),if_pos h];unfold mk;rw[abF];apply afK;intro x _;simp only[afW];split
  ·rfl
  ·rfl
 ·rw[if_neg (by rw[decide_eq_false h];exact abe),if_neg h];unfold mk;rw[abj];rfl
theorem la{a n:Int}(h:0<n):∃v:Nat,(v:Int)<n/\a.fmod n=(v:Int):=by
 obtain⟨h1,h2⟩:=fA a n h;exact⟨(a.fmod n).toNat,by omega,by omega⟩
theorem GQ(l:List α)(x:α):cA (l++[x]) (-1)=some x:=by
 unfold cA gD;rw[if_neg (by decide),if_pos (by rw[aaU];simp;omega)];have:((-1:Int)+((l++[x]).length:Int)).toNat=l.length:=by rw[aaU];simp;omega
 rw[aby,this,abC]
theorem RO(mt:List Nat)(k:Nat):(ins mt k).length<=mt.length+1:=by
 unfold ins;split <;> simp
theorem zw:∀(g mt:List Nat),(g.foldl ins mt).length<=mt.length+g.length
 | [],_=>aat _
 | x::g,mt=>by
  have h1:=zw g (ins mt x);have h2:=RO mt x;simp only[afe,abb];omega
theorem FJ{x:Nat}:∀{g mt:List Nat},x∈g.foldl ins mt↔x∈mt\/x∈g
 | [],_=>by simp
 | y::g,mt=>by
  rw[afe,FJ (g:=g),RN,aaO];constructor
  ·rintro((h | h) | h)
   ·exact .inl h
   ·exact .inr (.inl h)
   ·exact .inr (.inr h)
  ·rintro(h | h | h)
   ·exact .inl (.inl h)
   ·exact .inl (.inr h)
   ·exact .inr h
variable{r:Nat}{s0 s1 o9:Option W}
theorem mark{ei di:Nat}{mt:List Nat}{s4 s5 s6 s7 s8:Option W}(hd:H[di]? =some (.aG (mk mt)))(hr:H[r]? =some (.lst (iw g)))(hm:mt.length<=100)(hg:g.length<=100)(e:∀Kk:Option W,(ae ah (aa 2) (jO jc (eC (.int (1))))) [s0,s1,some (.ref ei),some (.ref di),s4,s5,s6,s7,s8,Kk] H=.ok (.ref r) H) :
  ∃p9,cT (c8 (ae ah (aa 2) (jO jc (eC (.int (1)))))) (gN 9) tY [s0,s1,some (.ref ei),some (.ref di),s4,s5,s6,s7,s8,o9] H=.ok (.nx [s0,s1,some (.ref ei),some (.ref di),s4,s5,s6,s7,s8,p9]) (H.set di (.aG (mk (g.foldl ins mt)))):=by
 have dm:di≠r:=fun z=>by rw[z,hr] at hd;cases hd
 obtain⟨ao,H',e1,p9,rfl,rfl⟩:=hU (chk:=fun p=>decide (p[r]? =some (.lst (iw g)))) (g:=gN 9) (b:=tY)
  (fun m σ K=>∃p9,σ=[s0,s1,some (.ref ei),some (.ref di),s4,s5,s6,s7,s8,p9]/\K=H.set di (.aG (mk ((g.take m).foldl ins mt))))
  (iw g) [s0,s1,some (.ref ei),some (.ref di),s4,s5,s6,s7,s8,o9] H
  (fun m σ K ck=>by obtain⟨_,_,hK⟩:=ck;exact decide_eq_true (by rw[hK,cy dm];exact hr))
  (fun m x σ K il fW=>by
   obtain⟨p9,bK,hK⟩:=fW;subst bK hK;obtain⟨o,ho,rfl⟩:=UN il;have hd2:=da (o':=.aG (mk ((g.take m).foldl ins mt))) hd;have hl:=zw (g.take m) mt;have fS:(g.take m).length<=g.length:=by rw[abI];omega
   refine⟨_,_,rfl,_,_,?_,_,.inl rfl,some (.int o),rfl,rfl⟩;unfold tY;ac_nf;refine aB (qK hd2 (oA _ _) (by unfold mk;rw[aan];exact aay (by omega:_<1000) (by decide)) _) ?_;rw[GP,aft,ju ho,aeM]
   all_goals rfl)
  ⟨o9,rfl,(acj fun i=>by
    by_cases hi:di=i
    ·subst hi;rw[da hd,hd];rfl
    ·rw[cy hi])⟩
 rw[k9,abV] at e1;exact⟨p9,eZ (iz (e o9) hr) e1⟩
theorem Wa(many:Nat)(h1:1<=many):∃D:Nat,0<D/\(D:Int)=(if((many:Int)-1)>1 then(many:Int)-1 else 1)/\(many≠1->D<=many-1):=by
 by_cases h:((many:Int)-1)>1
 ·exact⟨many-1,by omega,by rw[if_pos h];omega,fun _=>aat _⟩
 ·exact⟨1,by omega,by rw[if_neg h];rfl,fun _=>by omega⟩
theorem OF(ns:List Int)(many j:Nat)(h1:1<=many)(hj:j<many)(mt:List Nat):∃g:List Nat,g.length<=2/\(∀x∈g,x<many)/\(j+1<many->j+1∉mt->j+1∈g) /\
  ∀(ei di:Nat) (rs:List Nat) (H:PH) (o5 o6 o7 o8 o9:Option W),H[ei]? =some (.lst (rs.map W.ref))->H[di]? =some (.aG (mk mt))->rs.length<=100->mt.length<=100 →
   ∃p5 p6 p7 p8 p9 H',tZ [some (.fl (ns.map W.int)),some (.int many),some (.ref ei),some (.ref di),some (.int j),o5,o6,o7,o8,o9] H=.ok (.nx [some (.fl (ns.map W.int)),some (.int many),some (.ref ei),some (.ref di),some (.int j),p5,p6,p7,p8,p9]) H' /\
    H'[ei]? =some (.lst ((rs++[H.length]).map W.ref))/\H'[H.length]? =some (.lst (iw g))/\H'[di]? =some (.aG (mk (g.foldl ins mt)))/\Kp [ei,di] H H':=by
 obtain⟨D,hD0,hD,Jq⟩:=Wa many h1;have Jr:(0:Int)<(D:Int):=by omega
 obtain⟨nu,jT⟩:∃nu,nu=mx (ns.getD ((2:Int)+(j:Int)).toNat 0) (j:Int):=⟨_,rfl⟩
 obtain⟨y,hy,ey⟩:=la (a:=nu.fdiv 5) Jr;obtain⟨z,hz,ez⟩:=la (a:=nu.fdiv 35) Jr;have Js:(D:Int)≠0:=by omega
 obtain⟨wy,no,pb,CD,Y9⟩:∃(wy:Int) (no:Nat),(many≠1->no<many)/\((j+1<many/\j+1∉mt)->no=j+1/\wy≠4) /\
   ∀(ei di:Nat) (H:PH) (o9:Option W),H[di]? =some (.aG (mk mt))->aV (fq (eT (ae dB (ae addW (aa 4) (eC (.int (1)))) (aa 1))) (eT (ae bY (ae addW (aa 4) (eC (.int (1)))) (aa 3)))) (av (ax (ae addW (aa 4) (eC (.int (1)))) (gN 8)) (ax (ae aN (aa 6) (eC (.int (3)))) (gN 6))) aZ
    [some (.fl (ns.map W.int)),some (.int many),some (.ref ei),some (.ref di),some (.int j),some (.int nu),some (.int (nu.fmod 5)),some (.int (1+(y:Int))),some (.int (1+(z:Int))),o9] H =
    .ok (.nx [some (.fl (ns.map W.int)),some (.int many),some (.ref ei),some (.ref di),some (.int j),some (.int nu),some (.int wy),some (.int (1+(y:Int))),some (.int no),o9]) H:=by
  by_cases c:j+1<many/\j+1∉mt
  ·refine⟨(nu.fmod 5).fmod 3,j+1,fun _=>c.1,fun _=>⟨rfl,?_⟩,fun ei di H o9 hd=>?_⟩
   ·have:=fA (nu.fmod 5) 3 (by decide);omega
   ·refine cw (ph1:=H) ?_ ?_
    ·have n0:lift (bY (.int ((j:Int)+1)) (.ref di)) H=.ok (.bl (!decide (j+1∈mt))) H:=by
      rw[show((j:Int)+1)=((j+1:Nat):Int) by omega,nS hd (oA _ _),wN]
     ac_nf
     rw[if_pos (decide_eq_true (by omega)),bg n0,decide_eq_false c.2]
     all_goals rfl
    ·push_cast [bZ (show(3:Int)≠0 by decide)]
     all_goals rfl
  ·refine⟨nu.fmod 5,z+1,fun hm=>by have:=Jq hm;omega,fun h=>(c h).elim,fun ei di H o9 hd=>?_⟩;refine bN (ph1:=H) ?_ ?_
   ·have n0:lift (bY (.int ((j:Int)+1)) (.ref di)) H=.ok (.bl (!decide (j+1∈mt))) H:=by
     rw[show((j:Int)+1)=((j+1:Nat):Int) by omega,nS hd (oA _ _),wN]
    ac_nf
    by_cases c1:j+1<many
    ·rw[if_pos (decide_eq_true (by omega)),bg n0,decide_eq_true (Classical.byContradiction fun h=>c ⟨c1,h⟩)]
     all_goals rfl
    ·rw[if_neg (by simp;omega)]
     all_goals rfl
   ·rw[show(1+(z:Int))=((z+1:Nat):Int) by omega]
    all_goals rfl
 obtain⟨g,Za,jp,Zb,Zc⟩:∃g:List Nat,g.length<=2/\(∀x∈g,x<many)/\(j+1<many->j+1∉mt->j+1∈g) /\
   ∀(ei di:Nat) (rs:List Nat) (H:PH) (o9:Option W),H[ei]? =some (.lst (rs.map W.ref))->rs.length<=100->(aV (dX (eT (ae aY (aa 1) (eC (.int (1))))) (eT (ae aY (aa 6) (eC (.int (4)))))) (cO (cz bU cB (aa 2) (ab (aR af) af))) (aV (dX (eT (ae aY (aa 6) (eC (.int (0))))) (eT (ae aY (aa 6) (eC (.int (3)))))) (cO (cz bU cB (aa 2) (ab (aR (ab (aa 8) af)) af))) (cO (cz bU cB (aa 2) (ab (aR (ab (aa 7) (ab (aa 8) af))) af)))))
    [some (.fl (ns.map W.int)),some (.int many),some (.ref ei),some (.ref di),some (.int j),some (.int nu),some (.int wy),some (.int (1+(y:Int))),some (.int no),o9] H =
    .ok (.nx [some (.fl (ns.map W.int)),some (.int many),some (.ref ei),some (.ref di),some (.int j),some (.int nu),some (.int wy),some (.int (1+(y:Int))),some (.int no),o9]) ((H++[PO.lst (iw g)]).set ei (.lst (rs.map W.ref++[W.ref H.length]))):=by
  have rl:∀{rs:List Nat},rs.length<=100->(rs.map W.ref).length<1000000:=fun h=>by rw[aan];omega
  by_cases ca:many=1\/wy=4
  ·refine⟨[],by simp,fun _ h=>(nomatch h),fun a b=>?_,fun ei di rs H o9 h hl=>cw (ph1:=H) ?_ (fh rfl ⟨_,h⟩ rfl ((Ex.one _ _).get h) (rl hl))⟩
   ·rcases ca with ca | ca
    ·omega
    ·exact((CD ⟨a,b⟩).2 ca).elim
   ·ac_nf
    by_cases c1:many=1
    ·rw[if_pos (decide_eq_true (by omega))]
    ·rw[if_neg (by simp;omega),decide_eq_true (ca.resolve_left c1)]
  ·have f1:∀(ei di:Nat) (H:PH) (o9:Option W),(dX (eT (ae aY (aa 1) (eC (.int (1))))) (eT (ae aY (aa 6) (eC (.int (4)))))) [some (.fl (ns.map W.int)),some (.int many),some (.ref ei),some (.ref di),some (.int j),some (.int nu),some (.int wy),some (.int (1+(y:Int))),some (.int no),o9] H=.ok false H:=fun ei di H o9=>by
    ac_nf
    rw[if_neg (by simp;exact fun h=>ca (.inl (by omega))),decide_eq_false (fun h=>ca (.inr h))]
   have yh:many≠1:=fun h=>ca (.inl h)
   by_cases cb:wy=0\/wy=3
   ·refine⟨[no],by simp,fun x h=>?_,fun a b=>?_,fun ei di rs H o9 h hl=>bN (f1 ei di H o9) (cw (ph1:=H) ?_ (fh rfl ⟨_,h⟩ rfl ((Ex.one _ _).get h) (rl hl)))⟩
    ·rw[aav.mp h];exact pb yh
    ·rw[(CD ⟨a,b⟩).1];simp
    ·ac_nf
     by_cases c1:wy=0
     ·rw[if_pos (decide_eq_true c1)]
     ·rw[if_neg (by simp[c1]),decide_eq_true (cb.resolve_left c1)]
   ·refine⟨[y+1,no],by simp,fun x h=>?_,fun a b=>?_,fun ei di rs H o9 h hl=>bN (f1 ei di H o9) (bN (ph1:=H) ?_ ?_)⟩
    ·rcases aaO.mp h with rfl | h
     ·have:=Jq yh;omega
     ·rw[aav.mp h];exact pb yh
    ·rw[(CD ⟨a,b⟩).1];simp
    ·ac_nf
     rw[if_neg (by simp;exact fun h=>cb (.inl h)),decide_eq_false (fun h=>cb (.inr h))]
    ·rw[show(1+(y:Int))=((y+1:Nat):Int) by omega];exact fh rfl ⟨_,h⟩ rfl ((Ex.one _ _).get h) (rl hl)
 refine⟨g,Za,jp,Zb,fun ei di rs H o5 o6 o7 o8 o9 he hd Zd Ze=>?_⟩;have Do:=f9 he;have DJ:=f9 hd;have dm:ei≠di:=fun z=>by rw[z,hd] at he;cases he
 have hs:=Zc ei di rs H o9 he Zd;generalize ay:(H++[PO.lst (iw g)]).set ei (.lst (rs.map W.ref++[.ref H.length]))=H1 at hs;have Jt:H1[ei]? =some (.lst (rs.map W.ref++[.ref H.length])):=by rw[<- ay];exact da ((Ex.one _ _).get he)
 have Ju:H1[H.length]? =some (.lst (iw g)):=by rw[<- ay,cy (by omega)];exact bc _ _
 have kN:H1[di]? =some (.aG (mk mt)):=by rw[<- ay,cy dm];exact(Ex.one _ _).get hd
 have k1:Kp [ei,di] H H1:=by rw[<- ay];exact(Kp.ex (Ex.one _ _)).trans (Kp.set (by simp) _ _)
 obtain⟨p9,em⟩:=mark (s0:=some (.fl (ns.map W.int))) (s1:=some (.int many)) (s4:=some (.int j)) (s5:=some (.int nu)) (s6:=some (.int wy)) (s7:=some (.int (1+(y:Int)))) (s8:=some (.int no)) (o9:=o9) kN Ju Ze (by omega) (fun Kk=>by
  ac_nf
  exact cK Jt (GQ _ _))
 refine⟨some (.int nu),some (.int wy),some (.int (1+(y:Int))),some (.int no),p9,H1.set di (.aG (mk (g.foldl ins mt))),?_,?_,?_,?_,k1.trans (Kp.set (i:=di) (by simp) _ _)⟩
 rotate_left
 ·rw[cy (abD dm),Jt];simp
 ·rw[cy (by omega)];exact Ju
 ·exact da kN
 ·unfold tZ;refine sq (asg (w:=.int nu) (ph1:=H) (by
   push_cast [ku,i7 ns (2+(j:Int)) (by omega)]
   rw[jT]
   all_goals rfl)) ?_
  refine sq (asg (w:=.int (nu.fmod 5)) (ph1:=H) (by
   push_cast [bZ (show(5:Int)≠0 by decide)]
   all_goals rfl)) ?_
  refine sq (asg (w:=.int (1+(y:Int))) (ph1:=H) (by
   push_cast [dI (show(5:Int)≠0 by decide) (by decide)]
   rw[<- hD,bZ Js,ey]
   all_goals rfl)) ?_
  refine sq (asg (w:=.int (1+(z:Int))) (ph1:=H) (by
   push_cast [dI (show(35:Int)≠0 by decide) (by decide)]
   rw[<- hD,bZ Js,ez]
   all_goals rfl)) ?_
  exact sq (Y9 ei di H o9 hd) (sq hs em)
structure DK(many:Nat)(E:List (List Nat)):Prop where
 len:E.length=many
 Jv:∀g∈E,g.length<=2
 lt:∀g∈E,∀x∈g,x<many
 Xl:∀k,k+1<many->∃(j:Nat) (g:List Nat),j<=k/\E[j]? =some g/\k+1∈g
theorem gn{l:List α}{x y:α}(h:y∈l++[x]):y∈l\/y=x:=by
 rcases aaS.mp h with z | z
 ·exact .inl z
 ·exact .inr (aav.mp z)
theorem zx{l:List α}{x y:α}(h:l[i]? =some y):(l++[x])[i]? =some y:=by
 rw[aaM (aam.mp h).1];exact h
structure Ls(ph H:PH)(i lo:Nat)(rs:List Nat)(E:List (List Nat)):Prop where
 at_:H[i]? =some (.lst (rs.map W.ref))
 len:rs.length=E.length
 con:∀(k r:Nat) g,rs[k]? =some r->E[k]? =some g->H[r]? =some (.lst (iw g))
 lo:∀r∈rs,lo<=r
variable{rs:List Nat}{E:List (List Nat)}
theorem Ls.add{lo:Nat}(s:Ls ph H i lo rs E)(k:Kp M H H')(hM:∀m∈M,m<lo)(h1:H'[i]? =some (.lst ((rs++[r]).map W.ref)))(h2:H'[r]? =some (.lst (iw g)))(h3:lo<=r):Ls ph H' i lo (rs++[r]) (E++[g]):=by
 refine⟨h1,by simp[s.len],fun j q g' hq hg=>?_,fun q hq=>?_⟩
 ·rcases dZ hq with⟨_,a⟩ | ⟨hj,rfl⟩
  ·rcases dZ hg with⟨_,c⟩ | ⟨nj,_⟩
   ·exact k.2 _ _ (fun z=>by have:=hM _ z;have:=s.lo q (aap a);omega) (s.con j q g' a c)
   ·have:=(aam.mp a).1;have:=s.len;omega
  ·rcases dZ hg with⟨nj,c⟩ | ⟨_,rfl⟩
   ·have:=s.len;omega
   ·exact h2
 ·rcases gn hq with z | z
  ·exact s.lo q z
  ·rw[z];exact h3
theorem RP(ns:List Int)(many:Nat)(h1:1<=many)(h6:many<=6):∃E,DK many E/\∀ph,∃i ph',uw [.fl (ns.map W.int),.int many] ph=.ok (.ref i) ph'/\Ex ph ph'/\Wy ph' i E:=by
 obtain⟨⟨E,mt⟩,hJ,sim⟩:=mm (M:=List (List Nat)×List Nat) (A:=PH) (chk:=fun _ _=>true) (g:=gN 4) (b:=tZ)
  (fun j m=>m.1.length=j/\(∀g∈m.1,g.length<=2)/\(∀g∈m.1,∀x∈g,x<many)/\(∀x∈m.2,∃(i:Nat) (g:List Nat),m.1[i]? =some g/\x∈g)/\(∀k,k<j->k+1<many->∃(i:Nat) (g:List Nat),i<=k/\m.1[i]? =some g/\k+1∈g)/\m.2.length<=2*j)
  (fun ph j m σ H=>∃rs o4 o5 o6 o7 o8 o9,σ=[some (.fl (ns.map W.int)),some (.int many),some (.ref ph.length),some (.ref (ph.length+1)),o4,o5,o6,o7,o8,o9]/\Ls ph H ph.length (ph.length+2) rs m.1/\H[ph.length+1]? =some (.aG (mk m.2))/\Ex ph H)
  (dc 0 many) 0 ([],[]) (fun _ _ _ _ _ _=>rfl)
  (fun j x m hj hJ=>by
   obtain⟨E,mt⟩:=m;rw[abi] at hJ ⊢;obtain⟨q1,q2,q3,q4,q5,q6⟩:=hJ;simp only at q1 q2 q3 q4 q5 q6;obtain⟨gk,rfl⟩:=iB hj;obtain⟨g,g1,g2,g3,gs⟩:=OF ns many j h1 gk mt;have m3:=zw g mt;refine⟨(E++[g],g.foldl ins mt),⟨by simp[q1],fun g' h=>?_,fun g' h=>?_,fun x h=>?_,fun k hk lT=>?_,by simp only;omega⟩,fun ph σ H hr=>?_⟩
   ·rcases gn h with z | z
    ·exact q2 g' z
    ·rw[z];exact g1
   ·rcases gn h with z | z
    ·exact q3 g' z
    ·rw[z];exact g2
   ·rcases FJ.mp h with z | z
    ·obtain⟨i,g',a,b⟩:=q4 x z;exact⟨i,g',zx a,b⟩
    ·exact⟨j,g,by simp only;rw[<- q1,abC],z⟩
   ·by_cases Zf:k<j
    ·obtain⟨i,g',a,b,c⟩:=q5 k Zf lT;exact⟨i,g',a,zx b,c⟩
    ·have:k=j:=by omega
     subst this;by_cases pk:k+1∈mt
     ·obtain⟨i,g',a,b⟩:=q4 _ pk;have:=(aam.mp a).1;exact⟨i,g',by omega,zx a,b⟩
     ·exact⟨k,g,aat _,by simp only;rw[<- q1,abC],g3 lT pk⟩
   ·obtain⟨rs,o4,o5,o6,o7,o8,o9,rfl,s,hd,x⟩:=hr;rw[aci];obtain⟨p5,p6,p7,p8,p9,H',e,a1,a2,a3,a4⟩:=gs ph.length (ph.length+1) rs H o5 o6 o7 o8 o9 s.at_ hd (by have:=s.len;simp only at this;omega) (by omega);have hl:=f9 hd;exact⟨_,_,rfl,_,H',e,rs++[H.length],_,_,_,_,_,_,rfl,s.add a4 (fun m hm=>by simp at hm;omega) a1 a2 (by omega),a3,a4.toEx x (fun m hm=>by simp at hm;omega)⟩)
  ⟨rfl,fun _ h=>(nomatch h),fun _ h=>(nomatch h),fun _ h=>(nomatch h),fun k h=>by omega,by simp⟩
 rw[abi,j9] at hJ;obtain⟨q1,q2,q3,q4,q5,q6⟩:=hJ;refine⟨E,⟨q1,q2,q3,fun k hk=>q5 k (by omega) hk⟩,fun ph=>?_⟩;have x0:Ex ph (ph++[PO.lst []]++[PO.aG []]):=(Ex.one _ _).trans (Ex.one _ _);have kO:(ph++[PO.lst []]).length=ph.length+1:=by simp
 obtain⟨ao,H',e,rs,o4,o5,o6,o7,o8,o9,rfl,s,hd,x⟩:=sim ph [some (.fl (ns.map W.int)),some (.int many),some (.ref ph.length),some (.ref (ph.length+1)),none,none,none,none,none,none] (ph++[PO.lst []]++[PO.aG []])
  ⟨[],_,_,_,_,_,_,rfl,⟨(Ex.one _ _).get (bc _ _),rfl,fun k r g h=>by simp at h,fun _ h=>(nomatch h)⟩,by rw[<- kO];exact bc _ _,x0⟩
 refine⟨ph.length,H',?_,x,rs,s.at_,s.len,s.con⟩;unfold uw uv;rw[gU];refine bq (σ1:=[some (.fl (ns.map W.int)),some (.int many),some (.ref ph.length),none,none,none,none,none,none,none]) (ph1:=ph++[PO.lst []]) rfl ?_;refine bq (σ1:=[some (.fl (ns.map W.int)),some (.int many),some (.ref ph.length),some (.ref (ph.length+1)),none,none,none,none,none,none]) (ph1:=ph++[PO.lst []]++[PO.aG []]) ?_ ?_
 ·rw[<- kO];rfl
 refine bq (eZ (fZ rfl (by omega) (by omega)) (by rw[aba];exact e)) ?_;rfl
theorem RQ(g:List Nat):iw g=(g.map fun x:Nat=>(x:Int)).map W.int:=by unfold iw;rw[abF];rfl
theorem mem_cast:(k:Int)∈(g.map fun x:Nat=>(x:Int))↔k∈g:=by
 rw[aaD];constructor
 ·rintro⟨x,hx,e⟩;have:x=k:=by omega
  rw[<- this];exact hx
 ·exact fun h=>⟨k,h,rfl⟩
theorem zY(h:ph[i]? =some (.lst (iw g)))(k:Nat):lift (dN (.int k) (.ref i)) ph=.ok (.bl (decide (k∈g))) ph:=by
 rw[RQ] at h;rw[zt h,decide_eq_decide.mpr mem_cast]
theorem RR{y:W}(h:ph[i]? =some (.lst (ws++[y]))):lift (oK (.ref i) []) ph=.ok y (ph.set i (.lst ws)):=by
 unfold lift oK;simp only[h,aaU,adJ,Nat.add_sub_cancel,abC,adW]
noncomputable def gI(k:Nat)(s:Int)(g:List Nat):Int:=if(g.length=2/\k∈g)\/k=0 then 0 else s
variable{s:Int}
theorem OG(k:Nat)(g:List Nat)(h:0<=s/\s<=3):0<=gI k s g/\gI k s g<=3:=by
 unfold gI;split <;> omega
theorem EK(k:Nat):∀(E:List (List Nat)) (s:Int),0<=s/\s<=3->0<=E.foldl (gI k) s/\E.foldl (gI k) s<=3
 | [],s,h=>h
 | g::E,s,h=>EK k E _ (OG k g h)
theorem Wb{s2:Option W}(h:H[r]? =some (.lst (iw g))) :
  pR [s0,s1,s2,some (.int k),some (.int s),some (.ref r)] H=.ok (.nx [s0,s1,s2,some (.int k),some (.int (gI k s g)),some (.ref r)]) H:=by
 have et:(dX (fq (eT (ae aY (aX bv (ab (aa 5) af)) (eC (.int (2))))) (eT (ae dN (aa 3) (aa 5)))) (eT (ae aY (aa 3) (eC (.int (0)))))) [s0,s1,s2,some (.int k),some (.int s),some (.ref r)] H=.ok ((decide (g.length=2)&&decide (k∈g))||decide (k=0)) H:=by
  have d1:decide ((g.length:Int)=2)=decide (g.length=2):=decide_eq_decide.mpr (by omega);have d2:decide ((k:Int)=0)=decide (k=0):=decide_eq_decide.mpr (by omega);ac_nf;refine aB (eF h) ?_;rw[k9];ac_nf;rw[d1,d2];cases decide (g.length=2) with
  | false=>cases decide (k=0) <;> rfl
  | true=>
   rw[if_pos rfl,bg (zY h k)];cases decide (k∈g) <;> cases decide (k=0) <;> rfl
 unfold pR;refine Y7 et (fun h=>?_) (fun h=>?_)
 ·have:gI k s g=0:=if_pos (by simpa using h);rw[this];rfl
 ·have:gI k s g=s:=if_neg (by simpa using h);rw[this];rfl
variable{o5:Option W}
theorem PV{ei:Nat}{s2:Option W}(h:Wy H ei E) :
  ∃p5,cT (c8 (aa 1)) (gN 5) pR [s0,some (.ref ei),s2,some (.int k),some (.int s),o5] H=.ok (.nx [s0,some (.ref ei),s2,some (.int k),some (.int (E.foldl (gI k) s)),p5]) H:=by
 obtain⟨rs,h1,h2,h3⟩:=h;obtain⟨ao,H',e1,p5,rfl,rfl⟩:=hU (chk:=fun p=>decide (p[ei]? =some (.lst (rs.map W.ref)))) (g:=gN 5) (b:=pR)
  (fun m σ K=>∃p5,σ=[s0,some (.ref ei),s2,some (.int k),some (.int ((E.take m).foldl (gI k) s)),p5]/\K=H)
  (rs.map W.ref) [s0,some (.ref ei),s2,some (.int k),some (.int s),o5] H
  (fun m σ K ⟨_,_,hK⟩=>decide_eq_true (by rw[hK];exact h1))
  (fun m x σ K hm ck=>by
   obtain⟨p5,bK,hK⟩:=ck;subst bK hK;rw[aau] at hm;obtain⟨r,hr,rfl⟩:=aaA.mp hm;have hml:=(aam.mp hr).1;obtain⟨g,hg⟩:∃g,E[m]? =some g:=cW (by omega);refine⟨_,_,rfl,_,_,Wb (h3 m r g hr hg),_,.inl rfl,some (.ref r),?_,rfl⟩;rw[ju hg,aeM];rfl)
  ⟨o5,rfl,rfl⟩
 rw[aan,h2,abV] at e1;exact⟨p5,eZ (iz rfl h1) e1⟩
theorem PX(ns:List Int)(E:List (List Nat))(hE:E.length<=6):∃sz:List Nat,sz.length=E.length/\(∀x∈sz,x<=3)/\∀ph ei,Wy ph ei E->∃i ph',ul [.fl (ns.map W.int),.ref ei] ph=.ok (.ref i) ph'/\Ex ph ph'/\ph'[i]? =some (.lst (iw sz)):=by
 obtain⟨sz,⟨q1,q2⟩,sim⟩:=mm (M:=List Nat) (A:=PH×Nat) (chk:=fun _ _=>true) (g:=gN 3) (b:=yz)
  (fun j m=>m.length=j/\∀x∈m,x<=3)
  (fun a j m σ H=>Wy a.1 a.2 E/\∃o3 o4 o5,σ=[some (.fl (ns.map W.int)),some (.ref a.2),some (.ref a.1.length),o3,o4,o5]/\H[a.1.length]? =some (.lst (iw m))/\Ex a.1 H)
  (dc 0 E.length) 0 [] (fun _ _ _ _ _ _=>rfl)
  (fun j x m hj hJ=>by
   rw[abi] at hJ ⊢;obtain⟨q1,q2⟩:=hJ;obtain⟨gk,rfl⟩:=iB hj;rw[aci];obtain⟨s,hs⟩:∃s,s=(Int.fdiv (mx (ns.getD ((8:Int)+(j:Int)).toNat 0) 5) 11).fmod 4:=⟨_,rfl⟩
   have q:=fA (Int.fdiv (mx (ns.getD ((8:Int)+(j:Int)).toNat 0) 5) 11) 4 (by decide);rw[<- hs] at q;have qf:=EK j E s (by omega);refine⟨m++[(E.foldl (gI j) s).toNat],⟨by simp[q1],fun x hx=>?_⟩,fun a σ H zq=>?_⟩
   ·rcases gn hx with z | z
    ·exact q2 x z
    ·rw[z];omega
   ·obtain⟨hw,o3,o4,o5,rfl,h1,x1⟩:=zq;obtain⟨p5,e5⟩:=PV (s0:=some (.fl (ns.map W.int))) (s2:=some (.ref a.1.length)) (k:=j) (s:=s) (o5:=o5) (hw.mono x1);refine⟨_,_,rfl,[some (.fl (ns.map W.int)),some (.ref a.2),some (.ref a.1.length),some (.int j),some (.int (E.foldl (gI j) s)),p5],H.set a.1.length (.lst (iw m++[.int (E.foldl (gI j) s)])),?_,hw,_,_,_,rfl,?_,Ex.set x1 (aat _) _⟩
    ·unfold yz;refine sq (asg (w:=.int s) (ph1:=H) ?_) (sq e5 (fh rfl ⟨_,h1⟩ rfl h1 (by rw[k9];omega)))
     push_cast [ku,i7 ns (8+(j:Int)) (by omega),bZ (show(4:Int)≠0 by decide),dI (show(11:Int)≠0 by decide) (by decide)]
     rw[hs]
     all_goals rfl
    ·rw[da h1,AH];have:iw [(E.foldl (gI j) s).toNat]=[.int (E.foldl (gI j) s)]:=by
      unfold iw;rw[List.map_singleton,ael qf.1]
     rw[this])
  ⟨rfl,fun _ h=>(nomatch h)⟩
 rw[abi,j9] at q1;refine⟨sz,q1,q2,fun ph ei hw=>?_⟩;obtain⟨ao,H',e,_,o3,o4,o5,rfl,h1,x⟩:=sim (ph,ei) [some (.fl (ns.map W.int)),some (.ref ei),some (.ref ph.length),none,none,none] (ph++[PO.lst []]) ⟨hw,_,_,_,rfl,bc _ _,Ex.one _ _⟩;refine⟨ph.length,H',?_,x,h1⟩;unfold ul uk;rw[gU];refine bq (σ1:=[some (.fl (ns.map W.int)),some (.ref ei),some (.ref ph.length),none,none,none]) (ph1:=ph++[PO.lst []]) rfl ?_;have DL:cY (ab (aX bv (ab (aa 1) af)) af) [some (.fl (ns.map W.int)),some (.ref ei),some (.ref ph.length),none,none,none] (ph++[PO.lst []])=.ok (dc 0 E.length,fun _=>true) (ph++[PO.lst []]):=by
  have e:(ab (aX bv (ab (aa 1) af)) af) [some (.fl (ns.map W.int)),some (.ref ei),some (.ref ph.length),none,none,none] (ph++[PO.lst []])=.ok [.int E.length] (ph++[PO.lst []]):=by
   ac_nf
   refine aB (UO (hw.mono (Ex.one _ _))) ?_;ac_nf
  rw[fZ e (by omega) (by omega),aba]
 refine bq (eZ DL e) ?_;rfl
noncomputable def jU(E:List (List Nat))(cL:Nat)(m:List Nat×List Nat):List Nat×List Nat:=if m.2.getLastD 0=cL\/m.2.getLastD 0∈m.1 then(m.1,m.2.dropLast) else(m.1++[m.2.getLastD 0],m.2.dropLast++dO E (m.2.getLastD 0))
noncomputable def DM(E:List (List Nat))(cL:Nat)(a:PH×Nat)(m:List Nat×List Nat)(σ:aS)(H:PH):Prop:=Wy a.1 a.2 E/\∃wr o4,σ=[some (.ref a.2),some (.int cL),some (.ref a.1.length),some (.ref wr),o4]/\a.1.length<wr/\H[a.1.length]? =some (.aG (mk m.1))/\H[wr]? =some (.lst (iw m.2))/\Ex a.1 H
theorem RS{cL:Nat}{a:PH×Nat}{F Wt:List Nat}{w:Nat}(hw:w<E.length)(hF:F.length<=100)(hl:Wt.length<=1000)(hE:∀g∈E,g.length<=2)(r:DM E cL a (F,Wt++[w]) σ H) :
  ∃bw aI,tJ σ H=.ok (.nx bw) aI/\DM E cL a (jU E cL (F,Wt++[w])) bw aI:=by
 obtain⟨hy,wr,o4,rfl,dM,hd,hq,x⟩:=r;have g7:(Wt++[w]).getLastD 0=w:=by simp
 have lU:(Wt++[w]).dropLast=Wt:=adW;simp only at hd hq;rw[AH] at hq;have hwr:=f9 hq;have e1:ax (cz bU oK (aa 3) af) (gN 4) [some (.ref a.2),some (.int cL),some (.ref a.1.length),some (.ref wr),o4] H=.ok (.nx [some (.ref a.2),some (.int cL),some (.ref a.1.length),some (.ref wr),some (.int w)]) (H.set wr (.lst (iw Wt))):=by
  refine asg ?_;ac_nf;refine aB (Gb hq) ?_;exact RR hq
 have x1:Ex a.1 (H.set wr (.lst (iw Wt))):=Ex.set x (by omega) _;have kN:(H.set wr (.lst (iw Wt)))[a.1.length]? =some (.aG (mk F)):=by rw[cy (by omega)];exact hd
 have DN:(H.set wr (.lst (iw Wt)))[wr]? =some (.lst (iw Wt)):=da hq;generalize H.set wr (.lst (iw Wt))=H1 at e1 x1 kN DN;have pk:lift (bY (.int w) (.ref a.1.length)) H1=.ok (.bl (!decide (w∈F))) H1:=by rw[nS kN (oA _ _),wN]
 have et:(fq (eT (ae dJ (aa 4) (aa 1))) (eT (ae bY (aa 4) (aa 2)))) [some (.ref a.2),some (.int cL),some (.ref a.1.length),some (.ref wr),some (.int w)] H1=.ok (!decide (w=cL\/w∈F)) H1:=by
  have d1:decide ((w:Int)=(cL:Int))=decide (w=cL):=decide_eq_decide.mpr (by omega);have d2:decide (w=cL\/w∈F)=(decide (w=cL)||decide (w∈F)):=by simp
  ac_nf
  rw[d1,d2];cases decide (w=cL) with
  | true=>rfl
  | false=>
   rw[if_pos (show(!false)=true from rfl),bg pk];cases decide (w∈F) <;> rfl
 unfold tJ;by_cases c:w=cL\/w∈F
 ·rw[decide_eq_true c] at et;refine⟨_,H1,sq e1 (bN et rfl),hy,wr,_,rfl,dM,?_,?_,x1⟩
  ·unfold jU;simp only[g7,lU,if_pos c];exact kN
  ·unfold jU;simp only[g7,lU,if_pos c];exact DN
 ·rw[decide_eq_false c] at et;have DG:jU E cL (F,Wt++[w])=(F++[w],Wt++dO E w):=by
   unfold jU;simp only[g7,lU,if_neg c]
  rw[DG];have Zg:w∉F:=fun z=>c (.inr z)
  have hg:E[w]? =some (dO E w):=by unfold dO;rw[aaZ hw];rfl
  obtain⟨r,hr,DO⟩:=BI hy hg;have e2:ax (eC (.bl true)) (h9 (aa 2) (aa 4)) [some (.ref a.2),some (.int cL),some (.ref a.1.length),some (.ref wr),some (.int w)] H1=.ok (.nx [some (.ref a.2),some (.int cL),some (.ref a.1.length),some (.ref wr),some (.int w)]) (H1.set a.1.length (.aG (mk (F++[w])))):=by
   ac_nf
   refine aB (qK kN (oA _ _) (by unfold mk;rw[aan];exact aay (by omega:_<1000) (by decide)) _) ?_;rw[GP];unfold ins;rw[if_neg Zg];rfl
  have x2:Ex a.1 (H1.set a.1.length (.aG (mk (F++[w])))):=Ex.set x1 (aat _) _;have hd2:(H1.set a.1.length (.aG (mk (F++[w]))))[a.1.length]? =some (.aG (mk (F++[w]))):=da kN;have lV:(H1.set a.1.length (.aG (mk (F++[w]))))[wr]? =some (.lst (iw Wt)):=by rw[cy (by omega)];exact DN
  generalize H1.set a.1.length (.aG (mk (F++[w])))=H2 at e2 x2 hd2 lV;have pF:=hE _ (aap hg);have xP:=f9 hd2;have e3:ax (ae addW (aa 3) (ae ah (aa 0) (aa 4))) (gN 3) [some (.ref a.2),some (.int cL),some (.ref a.1.length),some (.ref wr),some (.int w)] H2=.ok (.nx [some (.ref a.2),some (.int cL),some (.ref a.1.length),some (.ref H2.length),some (.int w)]) (H2++[.lst (iw Wt++iw (dO E w))]):=by
   refine asg ?_;ac_nf;refine aB (hr H2 x2) ?_;exact qS lV (x2.get DO) (by rw[k9,k9];exact aaN (by omega:_<=100000) (by decide))
  refine⟨_,_,sq e1 (cw et (sq e2 e3)),hy,H2.length,_,rfl,by omega,(Ex.one _ _).get hd2,?_,x2.trans (Ex.one _ _)⟩;rw[bc,AH]
theorem M2(E:List (List Nat))(cL:Nat)(h0:0<E.length)(h6:E.length<=6)(hE:∀g∈E,g.length<=2)(dM:∀g∈E,∀x∈g,x<E.length):∃F:List Nat,(cL=0->F=[])/\∀ph ei,Wy ph ei E->∃i ph',nz [.ref ei,.int cL] ph=.ok (.ref i) ph'/\Ex ph ph'/\ph.length<=i/\ph'[i]? =some (.aG (mk F)):=by
 have kD:∀w,w<E.length->dO E w∈E:=fun w hw=>by unfold dO;rw[aaZ hw];exact acu hw
 obtain⟨⟨F,Wt⟩,hJ,hg,sim⟩:=OE (M:=List Nat×List Nat) (A:=PH×Nat) (t:=eT (ae kH (aX bv (ab (aa 3) af)) (eC (.int (0))))) (b:=tJ)
  (fun m=>m.1.Nodup/\(∀x∈m.1,x<E.length)/\(∀x∈m.2,x<E.length)/\m.2.length<=1+2*m.1.length/\(cL=0->m.1=[]/\∀x∈m.2,x=0))
  (fun m=>m.2.length+3*(E.length-m.1.length)) (fun m=>decide (0<m.2.length)) (jU E cL) (DM E cL)
  (fun a m σ H hJ ck=>by
   obtain⟨hy,wr,o4,e,hl,hd,hq,x⟩:=ck;subst e;ac_nf;refine aB (eF hq) ?_;rw[k9];ac_nf;rw[show decide ((0:Int)<(m.2.length:Int))=decide (0<m.2.length) from decide_eq_decide.mpr (by omega)])
  (fun m hJ hg=>by
   obtain⟨F,yi⟩:=m;obtain⟨n1,n2,n3,n4,n5⟩:=hJ;simp only at n1 n2 n3 n4 n5;have dm:yi≠[]:=fun z=>by rw[z] at hg;simp at hg
   obtain⟨Wt,w,rfl⟩:∃Wt w,yi=Wt++[w]:=⟨yi.dropLast,yi.getLast dm,(List.dropLast_concat_getLast dm).symm⟩
   have hw:w<E.length:=n3 w (by simp);have Jw:=vm n1 n2;have hWl:Wt.length+1<=1+2*F.length:=by simpa using n4
   have g7:(Wt++[w]).getLastD 0=w:=by simp
   have lU:(Wt++[w]).dropLast=Wt:=adW;refine⟨?_,?_,fun a σ H r=>RS hw (by omega) (by omega) hE r⟩
   ·by_cases c:w=cL\/w∈F
    ·unfold jU;simp only[g7,lU,if_pos c];exact⟨n1,n2,fun x hx=>n3 x (abf _ hx),by omega,fun z=>⟨(n5 z).1,fun x hx=>(n5 z).2 x (abf _ hx)⟩⟩
    ·unfold jU;simp only[g7,lU,if_neg c];have jp:=hE _ (kD w hw);refine⟨?_,fun x hx=>?_,fun x hx=>?_,by simp;omega,fun z=>(c (.inl (by rw[z];exact(n5 z).2 w (by simp)))).elim⟩
     ·rw[adf];exact⟨n1,by simp,fun x hx y hy=>by rw[aav.mp hy];exact fun z=>c (.inr (z▸hx))⟩
     ·rcases gn hx with z | z
      ·exact n2 x z
      ·rw[z];exact hw
     ·rcases aaS.mp hx with z | z
      ·exact n3 x (abf _ z)
      ·exact dM _ (kD w hw) x z
   ·by_cases c:w=cL\/w∈F
    ·unfold jU;simp only[g7,lU,if_pos c];simp
    ·have jp:=hE _ (kD w hw);have hn:(F++[w]).length<=E.length:=vm (by
      rw[adf];exact⟨n1,by simp,fun x hx y hy=>by rw[aav.mp hy];exact fun z=>c (.inr (z▸hx))⟩) (fun x hx=>by
      rcases gn hx with z | z
      ·exact n2 x z
      ·rw[z];exact hw)
     unfold jU;simp only[g7,lU,if_neg c];simp at hn ⊢;omega)
  _ ([],[0]) rfl ⟨adI,fun _ h=>(nomatch h),fun x hx=>by rw[aav.mp hx];exact h0,by simp,fun _=>⟨rfl,fun x hx=>aav.mp hx⟩⟩
 refine⟨F,fun z=>(hJ.2.2.2.2 z).1,fun ph ei hy=>?_⟩;have kO:(ph++[PO.aG []]).length=ph.length+1:=by simp
 obtain⟨ao,H',e,_,wr,o4,rfl,h1,h2,h3,x⟩:=sim (ph,ei) [some (.ref ei),some (.int cL),some (.ref ph.length),some (.ref (ph++[PO.aG []]).length),none] (ph++[PO.aG []]++[PO.lst [.int 0]])
  ⟨hy,_,_,rfl,by simp,(Ex.one _ _).get (bc _ _),bc _ _,(Ex.one _ _).trans (Ex.one _ _)⟩
 refine⟨ph.length,H',?_,x,aat _,h2⟩;unfold nz tP;rw[gU];refine bq (σ1:=[some (.ref ei),some (.int cL),some (.ref ph.length),none,none]) (ph1:=ph++[PO.aG []]) rfl ?_;refine bq (σ1:=[some (.ref ei),some (.int cL),some (.ref ph.length),some (.ref (ph++[PO.aG []]).length),none]) (ph1:=ph++[PO.aG []]++[PO.lst [.int 0]]) rfl ?_;refine bq e ?_;rfl
theorem fx{b:SM}{w:W}(h:a σ ph=.ok (.rt w) ph1):au (av a b σ) dY ph=.ok w ph1:=by
 rw[kY,dS,bg h];rfl
theorem Xm(b:SM)(n:Nat)(x y z u v w t:W):fM b n 7 [x,y,z,u,v,w,t]=au (b (some x::some y::some z::some u::some v::some w::some t::aaF (n-7) none)) dY:=(rfl)
theorem OH(h:ph[i]? =some (.lst ws)):lift (jH [.ref i]) ph=.ok (.ref ph.length) (ph++[.lst ws]):=by
 have e:jH [.ref i] ph=mH [.ref i] ph:=by
  unfold jH;simp only[wJ h]
 have:=Px h;unfold lift at this ⊢;rw[e];exact this
theorem qU{l:List Int}{d:Int}(h0:0<=d)(h:d<l.length):∃x∈l,cA (l.map W.int) d=some (.int x):=by
 obtain⟨w,hw,e⟩:=Ux (l.map W.int) d h0 (by rw[aan];exact h);obtain⟨x,hx,rfl⟩:=aaD.mp hw;exact⟨x,hx,e⟩
noncomputable def wordOf(d:Int):String:=if d=0 then "sum" else if d=1 then "less" else if d=2 then "times" else if d=3 then "part" else if d=4 then "below" else "alike"
theorem UQ(nu v:Int)(now:List Int)(hn:now≠[])(hz:now.length<=1000):∃r:Row,(∀x∈r.use,x∈now)/\(r.dP=some v\/r.dP=none)/\∀ph ni,ph[ni]? =some (.lst (now.map W.int))->∃ph',jY [.int nu,.int v,.ref ni] ph=.ok r.w ph'/\Ex ph ph':=by
 have sh:0<now.length:=afL.mpr hn;obtain⟨m,hm⟩:∃m:Int,m=if(7:Int)<(now.length:Int) then 7 else(now.length:Int):=⟨_,rfl⟩
 have Zh:0<m/\m<=now.length:=by rw[hm];split <;> omega
 obtain⟨d,kN,hd2⟩:=la (a:=nu.fdiv 16) Zh.1;obtain⟨x1,Jx,e1⟩:=qU (l:=now) (d:=(now.length:Int)-1-(d:Int)) (by omega) (by omega);obtain⟨d2,DP,Zi⟩:=la (a:=nu.fdiv 112) (n:=(now.length:Int)) (by omega);obtain⟨x2,Zj,e2⟩:=qU (l:=now) (d:=(d2:Int)) (by omega) (by omega);have qw:=fA nu 16 (by decide);generalize hw:nu.fmod 16=w at qw;have start:∀(ph:PH) (ni:Nat) (b:SM) (r:Out W),ph[ni]? =some (.lst (now.map W.int))->au (b [some (.int nu),some (.int v),some (.ref ni),some (.int x1),some (.int x2),some (.int w),none]) dY ph=r →
   au ((av (ax (ae ah (aa 2) (ae dj (ae dj (aX bv (ab (aa 2) af)) (eC (.int (1)))) (ae aN (ae bS (aa 0) (eC (.int (16)))) (aX rN (ab (aX bv (ab (aa 2) af)) (ab (eC (.int (7))) af)))))) (gN 3)) (av (ax (ae ah (aa 2) (ae aN (ae bS (aa 0) (eC (.int (112)))) (aX bv (ab (aa 2) af)))) (gN 4)) (av (ax (ae aN (aa 0) (eC (.int (16)))) (gN 5)) b))) [some (.int nu),some (.int v),some (.ref ni),none,none,none,none]) dY ph=r:=by
  intro ph ni b r h hr;have hl:lift (bv [.ref ni]) ph=.ok (.int now.length) ph:=by rw[eF h,aan]
  refine bq (asg (w:=.int x1) (ph1:=ph) ?_) (bq (asg (w:=.int x2) (ph1:=ph) ?_) (bq (asg (w:=.int w) (ph1:=ph) ?_) hr))
  ·push_cast [dI (show(16:Int)≠0 by decide) (by decide)]
   refine aB hl ?_
   push_cast [dI (show(16:Int)≠0 by decide) (by decide)]
   refine aB hl ?_;ac_nf;rw[<- hm,bZ (by omega),hd2];ac_nf;exact cK h e1
  ·show au (aA (W.ref ni)) _ ph=_
   push_cast [dI (show(112:Int)≠0 by decide) (by decide)]
   refine aB hl ?_;ac_nf;rw[bZ (by omega),Zi];exact cK h e2
  ·push_cast [bZ (show(16:Int)≠0 by decide)]
   rw[hw]
   all_goals rfl
 have tl:∀(c:Int) (ni:Nat) (ph:PH),(eT (ae dB (aa 5) (eC (.int c)))) [some (.int nu),some (.int v),some (.ref ni),some (.int x1),some (.int x2),some (.int w),none] ph=.ok (decide (w<c)) ph:=fun _ _ _=>rfl
 have te:∀(ni:Nat) (ph:PH),(eT (ae aY (aa 5) (eC (.int 2)))) [some (.int nu),some (.int v),some (.ref ni),some (.int x1),some (.int x2),some (.int w),none] ph=.ok (decide (w=2)) ph:=fun ni ph=>by
  ac_nf
 have skip:∀{t:TM} {a:SM} {σ:aS} {ph:PH},t σ ph=.ok false ph->aV t a aZ σ ph=.ok (.nx σ) ph:=fun h=>bN h rfl
 by_cases c1:w<2
 ·refine⟨.set v ((nu.fdiv 16).fmod 9-2),fun _ h=>(nomatch h),.inl rfl,fun ph ni h=>⟨ph,?_,Ex.refl _⟩⟩;unfold jY jX;rw[ia];refine start ph ni _ _ h (fx (cw (by rw[tl,decide_eq_true c1]) (retS ?_)))
  push_cast [dI (show(16:Int)≠0 by decide) (by decide),bZ (show(9:Int)≠0 by decide)]
  rfl
 have f1:decide (w<2)=false:=decide_eq_false c1;by_cases c2:w=2
 ·obtain⟨x,hx⟩:=AI nu;refine⟨.set v x,fun _ h=>(nomatch h),.inl rfl,fun ph ni h=>?_⟩;obtain⟨o,ho⟩:=hx ph;refine⟨_,?_,Ex.one ph o⟩;unfold jY jX;rw[ia];refine start ph ni _ _ h (bq (skip (by rw[tl,f1])) (fx (cw (by rw[te,decide_eq_true c2]) (retS ?_))));ac_nf;refine aB ho ?_
  all_goals rfl
 have f2:decide (w=2)=false:=decide_eq_false c2;by_cases c3:w<11
 ·have q6:=fA (nu.fdiv 2240) 6 (by decide);refine⟨.gz v (wordOf ((nu.fdiv 2240).fmod 6)) x1 x2,fun x h=>?_,.inl rfl,fun ph ni h=>⟨_,?_,Ex.one ph (.lst [.str "sum",.str "less",.str "times",.str "part",.str "below",.str "alike"])⟩⟩
  ·rcases aaO.mp h with rfl | h
   ·exact Jx
   ·rw[aav.mp h];exact Zj
  ·unfold jY jX;rw[ia];refine start ph ni _ _ h (bq (skip (by rw[tl,f1])) (bq (skip (by rw[te,f2])) (fx (cw (by rw[tl,decide_eq_true c3]) (sq (asg (w:=.str (aaC (wordOf ((nu.fdiv 2240).fmod 6)))) (ph1:=ph++[.lst [.str "sum",.str "less",.str "times",.str "part",.str "below",.str "alike"]]) ?_) (retS ?_))))))
   ·push_cast [dI (show(2240:Int)≠0 by decide) (by decide),bZ (show(6:Int)≠0 by decide)]
    rw[gp _ _ _ (small (by simp))];have hc:=bc ph (.lst [.str "sum",.str "less",.str "times",.str "part",.str "below",.str "alike"]);generalize (nu.fdiv 2240).fmod 6=d6 at q6;have:d6=0\/d6=1\/d6=2\/d6=3\/d6=4\/d6=5:=by omega
    rcases this with rfl | rfl | rfl | rfl | rfl | rfl <;> exact cK hc (by rfl)
   ·rfl
 have f3:decide (w<11)=false:=decide_eq_false c3;by_cases c4:w<13
 ·refine⟨.take v,fun _ h=>(nomatch h),.inl rfl,fun ph ni h=>⟨ph,?_,Ex.refl _⟩⟩;unfold jY jX;rw[ia];exact start ph ni _ _ h (bq (skip (by rw[tl,f1])) (bq (skip (by rw[te,f2])) (bq (skip (by rw[tl,f3])) (fx (cw (by rw[tl,decide_eq_true c4]) (retS rfl))))))
 have f4:decide (w<13)=false:=decide_eq_false c4;by_cases c5:w<15
 ·refine⟨.tell x1,fun x h=>by rw[aav.mp h];exact Jx,.inr rfl,fun ph ni h=>⟨ph,?_,Ex.refl _⟩⟩;unfold jY jX;rw[ia];exact start ph ni _ _ h (bq (skip (by rw[tl,f1])) (bq (skip (by rw[te,f2])) (bq (skip (by rw[tl,f3])) (bq (skip (by rw[tl,f4])) (fx (cw (by rw[tl,decide_eq_true c5]) (retS rfl)))))))
 ·refine⟨.turn,fun _ h=>(nomatch h),.inr rfl,fun ph ni h=>⟨ph,?_,Ex.refl _⟩⟩;unfold jY jX;rw[ia];exact start ph ni _ _ h (bq (skip (by rw[tl,f1])) (bq (skip (by rw[te,f2])) (bq (skip (by rw[tl,f3])) (bq (skip (by rw[tl,f4])) (bq (skip (by rw[tl,decide_eq_false c5])) rfl)))))
theorem rV(ph:PH)(s:String):dat ph 40 (.str (aaC s))=some (.str (aaC s)):=by
 unfold dat;rw[if_pos (so s)]
theorem qF(x:String)(ss:List String)(h:ph[i]? =some (.lst (ss.map fun s=>.str (aaC s)))):lift (bY (.str (aaC x)) (.ref i)) ph=.ok (.bl (!(ss.any fun s=>decide (s=x)))) ph:=by
 rw[zp h (iC (dat ph 40) (fun s=>W.str (aaC s)) (fun s=>agj (aaC s)) (fun s=>rV ph s) ss) (rV ph x)];rw[afq]
 congr 3
 apply List.any_congr rfl
 intro s;simp only[afW,Bu];exact decide_eq_decide.mpr rq
theorem UR(r:Row)(h:ph[i]? =some (.lst [.str "tell",.str "turn"])):∃x,(∀ph',lift (ah r.w (.int 0)) ph'=.ok x ph')/\lift (bY x (.ref i)) ph=.ok (.bl r.dP.isSome) ph:=by
 cases r with
 | set v n=>exact⟨.str "set",fun _=>rfl,qF "set" ["tell","turn"] h⟩
 | gz v w a b=>exact⟨.str "do",fun _=>rfl,qF "do" ["tell","turn"] h⟩
 | take v=>exact⟨.str "take",fun _=>rfl,qF "take" ["tell","turn"] h⟩
 | tell v=>exact⟨.str "tell",fun _=>rfl,qF "tell" ["tell","turn"] h⟩
 | turn=>exact⟨.str "turn",fun _=>rfl,qF "turn" ["tell","turn"] h⟩
variable{v:Int}
theorem US{r:Row}(h:r.dP=some v)(ph:PH):lift (ah r.w (.int 1)) ph=.ok (.int v) ph:=by
 cases r <;> simp[Row.dP] at h <;> subst h <;> rfl
noncomputable def nk(now:List Int)(r:Row):List Int:=match r.dP with
 | some v=>now++[v]
 | none=>now
theorem UT{now:List Int}{r:Row}(h:now≠[]):nk now r≠[]:=by
 unfold nk;split
 ·simp
 ·exact h
theorem OI(ns:List Int)(k j:Nat)(first step:Int)(rs:List Row)(now:List Int)(hk:k<=20)(hj:j<=12)(hs:0<step/\step<10)(hn:now≠[])(hz:now.length<=900)(hr:rs.length<=100):∃r:Row,(∀x∈r.use,x∈now)/\(r.dP=some (first+step*(rs.length:Int))\/r.dP=none) /\
  ∀(ri ni:Nat) (s4 s5 s6 s9 o11 eM:Option W) (H:PH),H[ri]? =some (.lst (rs.map Row.w))->H[ni]? =some (.lst (now.map W.int))->ri≠ni →
   ∃pG pH H',pV [some (.fl (ns.map W.int)),some (.int k),some (.int first),some (.int step),s4,s5,s6,some (.ref ri),some (.ref ni),s9,some (.int j),o11,eM] H =
    .ok (.nx [some (.fl (ns.map W.int)),some (.int k),some (.int first),some (.int step),s4,s5,s6,some (.ref ri),some (.ref ni),s9,some (.int j),pG,pH]) H'/\H'[ri]? =some (.lst ((rs++[r]).map Row.w))/\H'[ni]? =some (.lst ((nk now r).map W.int))/\Kp [ri,ni] H H':=by
 obtain⟨n0,Jy⟩:∃n0,n0=mx (ns.getD ((20:Int)+4*(k:Int)+(j:Int).fmod 4).toNat 0) (j:Int):=⟨_,rfl⟩
 have qn:0<=n0/\n0<2147483647:=by rw[Jy];exact PU _ _
 obtain⟨nu,jT⟩:∃nu,nu=if 3<j then(n0*(n0.fdiv 7+(j:Int))).fmod 2147483647 else n0:=⟨_,rfl⟩
 obtain⟨r,h1,h2,h3⟩:=UQ nu (first+step*(rs.length:Int)) now hn (by omega);refine⟨r,h1,h2,fun ri ni s4 s5 s6 s9 o11 eM H Jz lW dm=>?_⟩;obtain⟨H1,e1,x1⟩:=h3 H ni lW;have q4:=fA (j:Int) 4 (by decide);have hl:lift (bv [.ref ri]) H=.ok (.int rs.length) H:=by rw[eF Jz,aan]
 have CF:=x1.get Jz;have Xn:=x1.get lW;have eA:ax (aC jY (ab (aa 11) (ab (ae addW (aa 2) (ae cI (aa 3) (aX bv (ab (aa 7) af)))) (ab (aa 8) af)))) (gN 12) [some (.fl (ns.map W.int)),some (.int k),some (.int first),some (.int step),s4,s5,s6,some (.ref ri),some (.ref ni),s9,some (.int j),some (.int nu),eM] H =
   .ok (.nx [some (.fl (ns.map W.int)),some (.int k),some (.int first),some (.int step),s4,s5,s6,some (.ref ri),some (.ref ni),s9,some (.int j),some (.int nu),some r.w]) H1:=by
  refine asg ?_;ac_nf;refine aB hl ?_
  push_cast [gO (jC (a:=step) (b:=(rs.length:Int)) (by omega) (by omega))]
  exact e1
 have eB:=fh (o:=aa 7) (e:=aa 12) (σ:=[some (.fl (ns.map W.int)),some (.int k),some (.int first),some (.int step),s4,s5,s6,some (.ref ri),some (.ref ni),s9,some (.int j),some (.int nu),some r.w]) (ph:=H1) (ph1:=H1) (w:=r.w) rfl ⟨_,CF⟩ rfl CF (by rw[aan];omega);have CG:=da (o':=PO.lst (rs.map Row.w++[r.w])) CF;have sj:(H1.set ri (PO.lst (rs.map Row.w++[r.w])))[ni]? =some (.lst (now.map W.int)):=by rw[cy dm];exact Xn
 have k2:Kp [ri,ni] H (H1.set ri (PO.lst (rs.map Row.w++[r.w]))):=(Kp.ex x1).trans (Kp.set (i:=ri) (by simp) _ _);generalize H1.set ri (PO.lst (rs.map Row.w++[r.w]))=H2 at eB CG sj k2;obtain⟨x,DQ,Zk⟩:=UR (ph:=H2++[.lst [.str "tell",.str "turn"]]) (i:=H2.length) r (bc _ _);have yj:(eT (ae bY (ae ah (aa 12) (eC (.int (0)))) (aR (ab (eC (.str "tell")) (ab (eC (.str "turn")) af))))) [some (.fl (ns.map W.int)),some (.int k),some (.int first),some (.int step),s4,s5,s6,some (.ref ri),some (.ref ni),s9,some (.int j),some (.int nu),some r.w] H2=.ok r.dP.isSome (H2++[.lst [.str "tell",.str "turn"]]):=by
  rw[mK,hX,hX];show au (au (lift (ah r.w (.int 0))) _) _ H2=_;rw[dS,bg (DQ H2)];show au (au (lift (lx [.str "tell",.str "turn"])) _) _ H2=_;rw[dS,gp _ _ _ (small (by simp)),bg Zk];rfl
 have x3:Ex H2 (H2++[.lst [.str "tell",.str "turn"]]):=Ex.one _ _;have pre:∀{R:Out Fl},(aV (eT (ae bY (ae ah (aa 12) (eC (.int (0)))) (aR (ab (eC (.str "tell")) (ab (eC (.str "turn")) af))))) (cO (cz bU cB (aa 8) (ab (ae ah (aa 12) (eC (.int (1)))) af))) aZ) [some (.fl (ns.map W.int)),some (.int k),some (.int first),some (.int step),s4,s5,s6,some (.ref ri),some (.ref ni),s9,some (.int j),some (.int nu),some r.w] H2=R →
   pV [some (.fl (ns.map W.int)),some (.int k),some (.int first),some (.int step),s4,s5,s6,some (.ref ri),some (.ref ni),s9,some (.int j),o11,eM] H=R:=fun hR=>by
  unfold pV;refine sq (asg (w:=.int n0) (ph1:=H) ?_) (sq (ph1:=H) (σ1:=[some (.fl (ns.map W.int)),some (.int k),some (.int first),some (.int step),s4,s5,s6,some (.ref ri),some (.ref ni),s9,some (.int j),some (.int nu),eM]) ?_ (sq eA (sq eB hR)))
  ·push_cast [gO (jC (a:=4) (b:=(k:Int)) (by decide) (by decide)),bZ (show(4:Int)≠0 by decide),ku,i7 ns ((20:Int)+4*(k:Int)+(j:Int).fmod 4) (by omega)]
   rw[Jy]
   all_goals rfl
  ·by_cases c:3<j
   ·refine cw (ph1:=H) ?_ ?_
    ·ac_nf
     rw[decide_eq_true (show(3:Int)<(j:Int) by omega)]
    ·rw[jT,if_pos c]
     push_cast [dI (show(7:Int)≠0 by decide) (by decide),gO (jC (a:=n0) (b:=n0.fdiv 7+(j:Int)) (by omega) (by omega)),bZ (show(2147483647:Int)≠0 by decide)]
     all_goals rfl
   ·refine bN (ph1:=H) ?_ ?_
    ·ac_nf
     rw[decide_eq_false (show ¬(3:Int)<(j:Int) by omega)]
    ·rw[jT,if_neg c];rfl
 cases hg:r.dP with
 | none=>
  rw[hg] at yj;refine⟨_,_,_,pre (bN yj rfl),?_,?_,k2.trans (Kp.ex x3)⟩
  ·rw[x3.get CG];simp
  ·unfold nk;rw[hg];exact x3.get sj
 | some v=>
  rw[hg] at yj;have Zl:=fh (o:=aa 8) (e:=ae ah (aa 12) (eC (.int (1)))) (σ:=[some (.fl (ns.map W.int)),some (.int k),some (.int first),some (.int step),s4,s5,s6,some (.ref ri),some (.ref ni),s9,some (.int j),some (.int nu),some r.w]) (ph:=H2++[.lst [.str "tell",.str "turn"]]) (w:=.int v) rfl ⟨_,x3.get sj⟩ (US hg _) (x3.get sj) (by rw[aan];omega);refine⟨_,_,_,pre (cw yj Zl),?_,?_,(k2.trans (Kp.ex x3)).trans (Kp.set (i:=ni) (by simp) _ _)⟩
  ·rw[cy (abD dm),x3.get CG];simp
  ·rw[da (x3.get sj)];unfold nk;rw[hg];simp
noncomputable def gP(wi:Bool):Nat:=if wi=true then 14 else 6
noncomputable def pI(ex:List Int)(r:Row):List Int:=match r.dP with
 | some v=>ex++[v]
 | none=>ex
theorem Gi(known ex:List Int)(r:Row):nk (known++ex) r=known++pI ex r:=by
 unfold nk pI;cases r.dP <;> simp
theorem RT(ns:List Int)(k:Nat)(first step:Int)(known:List Int)(tu wi:Bool)(P:Int->Prop)(Xo:k<=20)(hs:0<step/\step<10)(hk:k≠0->known≠[])(ip:known.length<=800)(DR:P 0)(Zm:∀x∈known,P x)(Zn:∀i:Nat,i<gP wi->P (first+step*(i:Int))) :
  ∃(rs:List Row) (ex:List Int),rs.length<=gP wi/\(k=0->ex≠[])/\(∀x∈ex,P x)/\(∀r∈rs,∀x∈r.use,P x)/\ex.length<=13/\∀ph ki,ph[ki]? =some (.lst (known.map W.int)) →
   ∃ri ni ph',yH [.fl (ns.map W.int),.int k,.int first,.int step,.ref ki,.bl tu,.bl wi] ph=.ok (.tup [.ref ri,.ref ni]) ph'/\Ex ph ph'/\ph.length<=ri/\ph.length<=ni/\ph'[ri]? =some (.lst (rs.map Row.w))/\ph'[ni]? =some (.lst ((known++ex).map W.int)):=by
 obtain⟨x0,DQ⟩:=AI (mx (ns.getD (14:Int).toNat 0) 1);obtain⟨sz,hsz⟩:∃sz,sz=(mx (ns.getD ((14:Int)+(k:Int)).toNat 0) 9).fdiv 7:=⟨_,rfl⟩
 obtain⟨c5,hc5,Zo⟩:=la (a:=sz) (n:=5) (by decide);obtain⟨c7,hc7,Zp⟩:=la (a:=sz) (n:=7) (by decide);obtain⟨cnt,xq⟩:∃cnt:Nat,cnt=if wi=true then 6+c7 else c5:=⟨_,rfl⟩
 have hcm:cnt+2<=gP wi:=by rw[xq];unfold gP;split <;> omega
 have aaj:cnt<=12:=by rw[xq];split <;> omega
 have Xp:gP wi<=14:=by unfold gP;split <;> omega
 obtain⟨r0,yk⟩:∃r0:List Row,r0=(if tu=true then[Row.turn] else[])++(if k=0 then[Row.set 0 x0] else[]):=⟨_,rfl⟩
 obtain⟨e0,nr⟩:∃e0:List Int,e0=if k=0 then[0] else[]:=⟨_,rfl⟩
 have aak:r0.length<=2:=by rw[yk];cases tu <;> by_cases c:k=0 <;> simp[c]
 have Xq:∀r∈r0,r.use=[]:=fun r hr=>by
  rw[yk] at hr
  rcases aaS.mp hr with z | z
  ·split at z
   ·rw[aav.mp z];rfl
   ·simp at z
  ·split at z
   ·rw[aav.mp z];rfl
   ·simp at z
 have Zq:r0.length=r0.length+0/\(known++e0≠[])/\(k=0->e0≠[])/\((∀x∈e0,P x)/\e0.length<=1+0)/\(∀r∈r0,∀x∈r.use,P x):=by
  refine⟨rfl,?_,fun c=>?_,⟨fun x hx=>?_,?_⟩,fun r hr x hx=>?_⟩
  ·by_cases c:k=0
   ·rw[nr,if_pos c];simp
   ·have:=hk c;simp[this]
  ·rw[nr,if_pos c];simp
  ·by_cases c:k=0
   ·rw[nr,if_pos c] at hx;rw[aav.mp hx];exact DR
   ·rw[nr,if_neg c] at hx;cases hx
  ·rw[nr];split <;> simp
  ·rw[Xq r hr] at hx;cases hx
 obtain⟨⟨rs,ex⟩,⟨j1,j2,j3,j4,j5⟩,sim⟩:=mm (M:=List Row×List Int) (A:=PH×Nat) (chk:=fun _ _=>true) (g:=gN 10) (b:=pV)
  (fun j m=>m.1.length=r0.length+j/\(known++m.2≠[])/\(k=0->m.2≠[])/\((∀x∈m.2,P x)/\m.2.length<=1+j)/\(∀r∈m.1,∀x∈r.use,P x))
  (fun a j m σ H=>∃nt o11 eM,σ=[some (.fl (ns.map W.int)),some (.int k),some (.int first),some (.int step),some (.ref a.2),some (.bl tu),some (.bl wi),some (.ref a.1.length),some (.ref (a.1.length+1)),some (.int sz),nt,o11,eM]/\H[a.1.length]? =some (.lst (m.1.map Row.w))/\H[a.1.length+1]? =some (.lst ((known++m.2).map W.int))/\Ex a.1 H)
  (dc 0 cnt) 0 (r0,e0) (fun _ _ _ _ _ _=>rfl)
  (fun j x m hj hJ=>by
   obtain⟨rs,ex⟩:=m;rw[abi] at hJ ⊢;obtain⟨j1,j2,j3,⟨j4,Zr⟩,j5⟩:=hJ;simp only at j1 j2 j3 j4 Zr j5;obtain⟨gk,rfl⟩:=iB hj;rw[aci];have Zs:∀x∈known++ex,P x:=fun x hx=>(aaS.mp hx).elim (Zm x) (j4 x)
   obtain⟨r,h1,h2,h3⟩:=OI ns k j first step rs (known++ex) Xo (by omega) hs j2 (by simp;omega) (by omega)
   have hg:∀v,r.dP=some v->v=first+step*(rs.length:Int):=fun v hv=>by
    rcases h2 with h2 | h2
    ·rw[h2] at hv;exact(abq hv).symm
    ·rw[h2] at hv;cases hv
   refine⟨(rs++[r],pI ex r),⟨by simp;omega,?_,fun Zt=>?_,⟨fun x hx=>?_,?_⟩,fun r' iT x hx=>?_⟩,fun a σ H zq=>?_⟩
   ·simp only;rw[<- Gi];exact UT j2
   ·have:=j3 Zt;simp only;unfold pI;split
    ·simp
    ·exact this
   ·unfold pI at hx;split at hx
    ·rename_i v hv
     rcases gn hx with z | z
     ·exact j4 x z
     ·rw[z,hg v hv];exact Zn rs.length (by omega)
    ·exact j4 x hx
   ·simp only;unfold pI;split
    ·simp;omega
    ·omega
   ·rcases gn iT with z | z
    ·exact j5 r' z x hx
    ·subst z;exact Zs x (h1 x hx)
   ·obtain⟨nt,o11,eM,rfl,q1,q2,q3⟩:=zq;obtain⟨pG,pH,H',e1,a1,a2,a3⟩:=h3 a.1.length (a.1.length+1) (some (.ref a.2)) (some (.bl tu)) (some (.bl wi)) (some (.int sz)) o11 eM H q1 q2 (by omega);exact⟨_,_,rfl,_,H',e1,_,_,_,rfl,a1,by rw[<- Gi];exact a2,a3.toEx q3 (fun m hm=>by simp at hm;omega)⟩)
  Zq
 rw[abi,j9] at j1 j4;refine⟨rs,ex,by simp only at j1;omega,j3,j4.1,j5,by have:=j4.2;simp only at this;omega,fun ph ki Zu=>?_⟩;have l1:(ph++[PO.lst []]).length=ph.length+1:=by simp
 have jn:(ph++[PO.lst []]++[PO.lst (known.map W.int)])[ph.length]? =some (.lst []):=(Ex.one _ _).get (bc _ _);have lQ:(ph++[PO.lst []]++[PO.lst (known.map W.int)])[ph.length+1]? =some (.lst (known.map W.int)):=by rw[<- l1];exact bc _ _
 have xb:Ex ph (ph++[PO.lst []]++[PO.lst (known.map W.int)]):=(Ex.one _ _).trans (Ex.one _ _);obtain⟨HA,eA,yl,JC,xA⟩:∃HA,aV (eU (aa 5)) (cO (cz bU cB (aa 7) (ab (aQ (ab (eC (.str "turn")) af)) af))) aZ [some (.fl (ns.map W.int)),some (.int k),some (.int first),some (.int step),some (.ref ki),some (.bl tu),some (.bl wi),some (.ref ph.length),some (.ref (ph.length+1)),none,none,none,none] (ph++[PO.lst []]++[PO.lst (known.map W.int)]) =
   .ok (.nx [some (.fl (ns.map W.int)),some (.int k),some (.int first),some (.int step),some (.ref ki),some (.bl tu),some (.bl wi),some (.ref ph.length),some (.ref (ph.length+1)),none,none,none,none]) HA/\HA[ph.length]? =some (.lst ((if tu=true then[Row.turn] else[]).map Row.w))/\HA[ph.length+1]? =some (.lst (known.map W.int))/\Ex ph HA:=by
  generalize (ph++[PO.lst []]++[PO.lst (known.map W.int)])=Hb at jn lQ xb;cases tu with
  | false=>exact⟨Hb,bN rfl rfl,jn,lQ,xb⟩
  | true=>exact⟨_,cw rfl (fh rfl ⟨_,jn⟩ rfl jn (by simp)),da jn,by rw[cy (by omega)];exact lQ,Ex.set xb (aat _) _⟩
 obtain⟨HB,eB,Zv,Zw,xB⟩:∃HB,aV (eT (ae aY (aa 1) (eC (.int (0))))) (av (cO (cz bU cB (aa 7) (ab (aQ (ab (eC (.str "set")) (ab (eC (.int (0))) (ab (aC kS (ab (aC fK (ab (aC cG (ab (aa 0) (ab (eC (.int (14))) af))) (ab (eC (.int (1))) af))) af)) af)))) af))) (cO (cz bU cB (aa 8) (ab (eC (.int (0))) af)))) aZ [some (.fl (ns.map W.int)),some (.int k),some (.int first),some (.int step),some (.ref ki),some (.bl tu),some (.bl wi),some (.ref ph.length),some (.ref (ph.length+1)),none,none,none,none] HA =
   .ok (.nx [some (.fl (ns.map W.int)),some (.int k),some (.int first),some (.int step),some (.ref ki),some (.bl tu),some (.bl wi),some (.ref ph.length),some (.ref (ph.length+1)),none,none,none,none]) HB/\HB[ph.length]? =some (.lst (r0.map Row.w))/\HB[ph.length+1]? =some (.lst ((known++e0).map W.int))/\Ex ph HB:=by
  by_cases c:k=0
  ·obtain⟨o,ho⟩:=DQ HA;have x1:Ex HA (HA++[o]):=Ex.one _ _;have ea:cO (cz bU cB (aa 7) (ab (aQ (ab (eC (.str "set")) (ab (eC (.int (0))) (ab (aC kS (ab (aC fK (ab (aC cG (ab (aa 0) (ab (eC (.int (14))) af))) (ab (eC (.int (1))) af))) af)) af)))) af)) [some (.fl (ns.map W.int)),some (.int k),some (.int first),some (.int step),some (.ref ki),some (.bl tu),some (.bl wi),some (.ref ph.length),some (.ref (ph.length+1)),none,none,none,none] HA=_:=fh (w:=(Row.set 0 x0).w) rfl ⟨_,yl⟩ (by
    push_cast [ku,i7 ns 14 (by decide)]
    refine aB ho ?_
    all_goals rfl) (x1.get yl) (by cases tu <;> simp)
   have h2:((HA++[o]).set ph.length (PO.lst ((if tu=true then[Row.turn] else[]).map Row.w++[(Row.set 0 x0).w])))[ph.length+1]? =some (.lst (known.map W.int)):=by rw[cy (by omega)];exact x1.get JC
   refine⟨_,cw (ph1:=HA) ?_ (sq ea (fh rfl ⟨_,h2⟩ rfl h2 (by rw[aan];omega))),?_,?_,Ex.set (Ex.set (xA.trans x1) (aat _) _) (by omega) _⟩
   ·ac_nf
    rw[decide_eq_true (show(k:Int)=0 by omega)]
   ·rw[cy (by omega),da (x1.get yl),yk,if_pos c];simp
   ·rw[da h2,nr,if_pos c];simp
  ·refine⟨HA,bN (ph1:=HA) ?_ rfl,?_,?_,xA⟩
   ·ac_nf
    rw[decide_eq_false (show ¬(k:Int)=0 by omega)]
   ·rw[yl,yk,if_neg c];simp
   ·rw[JC,nr,if_neg c];simp
 have hC:=bc HB (.lst [.int (sz.fmod 5),.int (6+sz.fmod 7)]);have xC:Ex HB (HB++[.lst [.int (sz.fmod 5),.int (6+sz.fmod 7)]]):=Ex.one _ _;have ei:cY (ab (ae ah (aR (ab (ae aN (aa 9) (eC (.int (5)))) (ab (ae addW (eC (.int (6))) (ae aN (aa 9) (eC (.int (7))))) af))) (aX mO (ab (aa 6) af))) af) [some (.fl (ns.map W.int)),some (.int k),some (.int first),some (.int step),some (.ref ki),some (.bl tu),some (.bl wi),some (.ref ph.length),some (.ref (ph.length+1)),some (.int sz),none,none,none] HB=.ok (dc 0 cnt,fun _=>true) (HB++[.lst [.int (sz.fmod 5),.int (6+sz.fmod 7)]]):=by
  have e:(ab (ae ah (aR (ab (ae aN (aa 9) (eC (.int (5)))) (ab (ae addW (eC (.int (6))) (ae aN (aa 9) (eC (.int (7))))) af))) (aX mO (ab (aa 6) af))) af) [some (.fl (ns.map W.int)),some (.int k),some (.int first),some (.int step),some (.ref ki),some (.bl tu),some (.bl wi),some (.ref ph.length),some (.ref (ph.length+1)),some (.int sz),none,none,none] HB=.ok [.int cnt] (HB++[.lst [.int (sz.fmod 5),.int (6+sz.fmod 7)]]):=by
   push_cast [bZ (show(5:Int)≠0 by decide),bZ (show(7:Int)≠0 by decide)]
   rw[gp _ _ _ (small (by simp))];cases wi with
   | true=>
    refine aB (cK hC (by rfl)) ?_;rw[xq,Zp];rfl
   | false=>
    refine aB (cK hC (by rfl)) ?_;rw[xq,Zo];rfl
  rw[fZ e (by omega) (by omega),aba]
 obtain⟨ao,H',e,nt,o11,eM,rfl,h1,h2,x⟩:=sim (ph,ki) [some (.fl (ns.map W.int)),some (.int k),some (.int first),some (.int step),some (.ref ki),some (.bl tu),some (.bl wi),some (.ref ph.length),some (.ref (ph.length+1)),some (.int sz),none,none,none] (HB++[.lst [.int (sz.fmod 5),.int (6+sz.fmod 7)]])
  ⟨_,_,_,rfl,xC.get Zv,xC.get Zw,xB.trans xC⟩
 refine⟨ph.length,ph.length+1,H',?_,x,aat _,by omega,h1,h2⟩;unfold yH ux;rw[Xm];refine bq (σ1:=[some (.fl (ns.map W.int)),some (.int k),some (.int first),some (.int step),some (.ref ki),some (.bl tu),some (.bl wi),some (.ref ph.length),none,none,none,none,none]) (ph1:=ph++[PO.lst []]) rfl ?_;refine bq (σ1:=[some (.fl (ns.map W.int)),some (.int k),some (.int first),some (.int step),some (.ref ki),some (.bl tu),some (.bl wi),some (.ref ph.length),some (.ref (ph.length+1)),none,none,none,none]) (ph1:=ph++[PO.lst []]++[PO.lst (known.map W.int)]) ?_ ?_
 ·rw[<- l1];refine asg ?_;ac_nf;exact OH ((Ex.one _ _).get Zu)
 refine bq eA (bq eB (bq (asg (w:=.int sz) (ph1:=HB) ?_) (bq (eZ ei e) rfl)))
 push_cast [ku,i7 ns (14+(k:Int)) (by omega),dI (show(7:Int)≠0 by decide) (by decide)]
 rw[hsz]
 all_goals rfl
theorem zZ(h:ph[i]? =some (.lst ws)):lift (k0 [.ref i]) ph=.ok (.tup ws) ph:=by
 unfold lift k0;have:cC (.ref i) ph=some ws:=by unfold cC;simp only[h]
 simp only[this]
theorem UU(ph:PH)(n:Nat)(g:List Nat):bH (dat ph n) (iw g)=some (g.map fun x:Nat=>ads (x:Int)):=iC (dat ph n) (fun x:Nat=>W.int x) (fun x:Nat=>ads (x:Int)) (fun x=>fN ph n _) g
theorem UV(ns:List Int)(k:Nat)(g sz:List Nat)(now:List Int)(hk:k<=20)(hg:g.length<=2)(hn:now≠[])(hz:now.length<=1000)(pz:∀x∈g,x<sz.length)(m5:∀x∈sz,x<=3) :
  ∃en:En,en.to=g/\(∀x∈en.use,x∈now)/\en.use.length<=3/\∀ph gi si ni,ph[gi]? =some (.lst (iw g))->ph[si]? =some (.lst (iw sz))->ph[ni]? =some (.lst (now.map W.int))->∃ph',nC [.fl (ns.map W.int),.int k,.ref gi,.ref si,.ref ni] ph=.ok en.w ph'/\Ex ph ph':=by
 have sh:0<now.length:=afL.mpr hn;obtain⟨nu,jT⟩:∃nu,nu=mx (ns.getD ((44:Int)+(k:Int)).toNat 0) (k:Int):=⟨_,rfl⟩
 have pick:∀d:Int,∃x,x∈now/\cA (now.map W.int) (d.fmod (now.length:Int))=some (.int x):=fun d=>by
  have q:=fA d (now.length:Int) (by omega);obtain⟨x,hx,e⟩:=qU (l:=now) q.1 q.2;exact⟨x,hx,e⟩
 obtain⟨f,hf⟩:=aeT pick;have first:∀{ph:PH} {gi si ni:Nat} {b:SM} {r:Out W},au (b [some (.fl (ns.map W.int)),some (.int k),some (.ref gi),some (.ref si),some (.ref ni),some (.int nu),none]) dY ph=r →
   au (av (ax (aC fK (ab (aC cG (ab (aa 0) (ab (ae addW (eC (.int (44))) (aa 1)) af))) (ab (aa 1) af))) (gN 5)) b [some (.fl (ns.map W.int)),some (.int k),some (.ref gi),some (.ref si),some (.ref ni),none,none]) dY ph=r:=fun{ph gi si ni b r} hr=>by
  refine bq (asg (w:=.int nu) (ph1:=ph) ?_) hr
  push_cast [ku,i7 ns (44+(k:Int)) (by omega)]
  rw[jT]
  all_goals rfl
 have CH:∀{ph:PH} {gi si ni:Nat},ph[gi]? =some (.lst (iw g))->(eT (ae aY (aa 2) (aR af))) [some (.fl (ns.map W.int)),some (.int k),some (.ref gi),some (.ref si),some (.ref ni),some (.int nu),none] ph=.ok g.isEmpty (ph++[.lst []]):=fun{ph gi si ni} h=>by
  ac_nf
  rw[gp _ _ _ (small (by simp)),bg (Hg (eq_nil ((Ex.one _ _).get h) (bc _ _) (UU _ 39 g)))];ac_nf;cases g <;> rfl
 have HW:∀{ph:PH} {gi si ni:Nat},ph[gi]? =some (.lst (iw g))->(eT (ae aY (aX bv (ab (aa 2) af)) (eC (.int (2))))) [some (.fl (ns.map W.int)),some (.int k),some (.ref gi),some (.ref si),some (.ref ni),some (.int nu),none] ph=.ok (decide (g.length=2)) ph:=fun{ph gi si ni} h=>by
  ac_nf
  refine aB (eF h) ?_;rw[k9];ac_nf;rw[show decide ((g.length:Int)=2)=decide (g.length=2) from decide_eq_decide.mpr (by omega)]
 have skip:∀{t:TM} {a:SM} {σ:aS} {ph ph1:PH},t σ ph=.ok false ph1->aV t a aZ σ ph=.ok (.nx σ) ph1:=fun h=>bN h rfl
 rcases g with _ | ⟨a,_ | ⟨b,_ | ⟨c,g⟩⟩⟩
 ·refine⟨.fin,rfl,fun _ h=>(nomatch h),by simp[En.use],fun ph gi si ni h1 h2 h3=>⟨_,?_,Ex.one ph (.lst [])⟩⟩;unfold nC nB;rw[oS];exact first (fx (cw (CH h1) (retS rfl)))
 ·have ha:a<sz.length:=pz a (by simp);obtain⟨s,hs⟩:∃s,sz[a]? =some s:=cW ha;have Xr:=m5 s (aap hs);refine⟨.go a ((aaK s).map fun j:Nat=>f (nu.fdiv (1+13*(j:Int)))),rfl,fun x hx=>?_,by simp[En.use];omega,fun ph gi si ni h1 h2 h3=>?_⟩
  ·obtain⟨j,_,rfl⟩:=aaD.mp hx;exact(hf _).1
  ·have x0:Ex ph (ph++[.lst []]):=Ex.one _ _;generalize Zx:ph++[.lst []]=ph0 at x0;have ei:cY (ab (ae ah (aa 3) (ae ah (aa 2) (eC (.int (0))))) af) [some (.fl (ns.map W.int)),some (.int k),some (.ref gi),some (.ref si),some (.ref ni),some (.int nu),none] ph0=.ok ((aaK s).map (fun i:Nat=>W.int i),fun _=>true) ph0:=by
    have e:(ab (ae ah (aa 3) (ae ah (aa 2) (eC (.int (0))))) af) [some (.fl (ns.map W.int)),some (.int k),some (.ref gi),some (.ref si),some (.ref ni),some (.int nu),none] ph0=.ok [.int s] ph0:=by
     ac_nf
     refine aB (cK (x0.get h1) (by rfl)) (aB (cK (x0.get h2) (BG hs)) ?_);rfl
    rw[fZ e (by omega) (by omega),aba,<- nZ]
   obtain⟨ph',e2,x2⟩:=j8 (aaK s) (fun i:Nat=>W.int i) (cap:=[none,some 4,some 5]) (g:=gN 0) (c:=dH) (e:=ae ah (aa 1) (ae aN (ae bS (aa 2) (ae addW (eC (.int (1))) (ae cI (eC (.int (13))) (aa 0)))) (aX bv (ab (aa 1) af)))) ei (fun _ _=>rfl) (by rw[abN];exact aaN Xr (by decide))
    (fun j=>some (.int (f (nu.fdiv (1+13*(j:Int)))))) (fun σ=>∃o,σ=[o,some (.ref ni),some (.int nu)]) ⟨none,rfl⟩
    (fun j hj σ H ck hx=>by
     obtain⟨o,bK⟩:=ck;subst bK;have hj3:j<s:=abG.mp hj;have lW:=hx.get (x0.get h3);refine⟨_,rfl,⟨_,rfl⟩,true,H,rfl,Ex.refl _,.inr ⟨rfl,_,H,?_,Ex.refl _,rfl⟩⟩;show(ae ah (aa 1) (ae aN (ae bS (aa 2) (ae addW (eC (.int (1))) (ae cI (eC (.int (13))) (aa 0)))) (aX bv (ab (aa 1) af)))) [some (.int j),some (.ref ni),some (.int nu)] H=_
     push_cast [gO (jC (a:=13) (b:=(j:Int)) (by decide) (by decide)),dI (show(1:Int)+13*(j:Int)≠0 by omega) (show((1:Int)+13*(j:Int)).natAbs<2 ^ 64 by omega)]
     refine aB (eF lW) ?_;rw[aan,bg (show lift (aN (.int (nu.fdiv (1+13*(j:Int)))) (.int now.length)) H=.ok (.int ((nu.fdiv (1+13*(j:Int))).fmod (now.length:Int))) H by rw[bZ (by omega)];rfl)];exact cK lW (hf _).2)
   rw[jx] at x2;have hh:=x2.get (bc ph0 (.lst ((aaK s).map fun j:Nat=>W.int (f (nu.fdiv (1+13*(j:Int)))))));refine⟨ph',?_,(x0.trans (Ex.one _ _)).trans x2⟩;unfold nC nB;rw[oS];have xx:=(Ex.one _ _).trans x2;refine first (bq (skip (CH h1)) ?_)
   rw[Zx];refine bq (skip (HW (x0.get h1))) (bq (asg e2) (br ?_));show(aQ (ab (eC (.str "go")) (ab (ae ah (aa 2) (eC (.int (0)))) (ab (aX k0 (ab (aa 6) af)) af)))) [some (.fl (ns.map W.int)),some (.int k),some (.ref gi),some (.ref si),some (.ref ni),some (.int nu),some (.ref ph0.length)] ph'=_;ac_nf;refine aB (cK (xx.get (x0.get h1)) (by rfl)) (aB (zZ hh) ?_);ac_nf;have:((aaK s).map fun j:Nat=>W.int (f (nu.fdiv (1+13*(j:Int)))))=((aaK s).map fun j:Nat=>f (nu.fdiv (1+13*(j:Int)))).map W.int:=by rw[abF];rfl
   rw[this];rfl
 ·obtain⟨x,hx,ex⟩:=pick nu;refine⟨.iff x a b,rfl,fun y hy=>by rw[aav.mp hy];exact hx,by simp[En.use],fun ph gi si ni h1 h2 h3=>?_⟩;have x0:Ex ph (ph++[.lst []]):=Ex.one _ _;refine⟨_,?_,x0⟩;unfold nC nB;rw[oS];refine first (bq (skip (CH h1)) (fx (cw (HW (x0.get h1)) (retS ?_))))
  ac_nf
  refine aB (eF (x0.get h3)) ?_;rw[aan,bg (show lift (aN (.int nu) (.int now.length)) (ph++[.lst []])=.ok (.int (nu.fmod (now.length:Int))) (ph++[.lst []]) by rw[bZ (by omega)];rfl),bg (cK (x0.get h3) ex),bg (cK (x0.get h1) (by rfl)),bg (cK (x0.get h1) (by rfl))];rfl
 ·simp at hg
noncomputable def iX(H:PH)(i lo:Nat)(gv:List (List Int)):Prop:=∃rs:List Nat,H[i]? =some (.lst (rs.map W.ref))/\rs.length=gv.length/\(∀(k r:Nat) g,rs[k]? =some r->gv[k]? =some g->H[r]? =some (.lst (g.map W.int)))/\∀r∈rs,lo<=r
variable{gv:List (List Int)}
theorem iX.kp{lo:Nat}(h:iX H i lo gv)(k:Kp M H H')(hM:∀m∈M,m<lo)(hi:i∉M):iX H' i lo gv:=by
 obtain⟨rs,h1,h2,h3,h4⟩:=h;exact⟨rs,k.2 _ _ hi h1,h2,fun j r g a c=>k.2 _ _ (fun z=>by have:=hM _ z;have:=h4 r (aap a);omega) (h3 j r g a c),h4⟩
theorem iX.add{lo:Nat}{g:List Int}(h:iX H i lo gv)(k:Kp M H H')(hM:∀m∈M,m<lo)(h1:∀rs:List Nat,H[i]? =some (.lst (rs.map W.ref))->H'[i]? =some (.lst ((rs++[r]).map W.ref)))(h2:H'[r]? =some (.lst (g.map W.int)))(h3:lo<=r):iX H' i lo (gv++[g]):=by
 obtain⟨rs,a1,a2,a3,a4⟩:=h;refine⟨rs++[r],h1 rs a1,by simp[a2],fun j q g' hq hg=>?_,fun q hq=>?_⟩
 ·rcases dZ hq with⟨_,a⟩ | ⟨hj,rfl⟩
  ·rcases dZ hg with⟨_,c⟩ | ⟨nj,_⟩
   ·exact k.2 _ _ (fun z=>by have:=hM _ z;have:=a4 q (aap a);omega) (a3 j q g' a c)
   ·have:=(aam.mp a).1;omega
  ·rcases dZ hg with⟨nj,c⟩ | ⟨_,rfl⟩
   ·omega
   ·exact h2
 ·rcases gn hq with z | z
  ·exact a4 q z
  ·rw[z];exact h3
theorem iX.ix{lo b:Nat}{g:List Int}(h:iX H i lo gv)(e:gv[b]? =some g):∃r,(∀H',Ex H H'->lift (ah (.ref i) (.int b)) H'=.ok (.ref r) H')/\H[r]? =some (.lst (g.map W.int)):=by
 obtain⟨rs,h1,h2,h3,_⟩:=h;have hb:b<rs.length:=by rw[h2];exact(aam.mp e).1
 obtain⟨r,hr⟩:∃r,rs[b]? =some r:=cW hb;refine⟨r,fun ph' x=>cK (x.get h1) ?_,h3 b r g hr e⟩;rw[gK _ _ (by rw[aan];exact hb),aau,hr];rfl
noncomputable def Wd(ph:PH)(i:Nat)(Fs:List (List Nat)):Prop:=∃rs:List Nat,ph[i]? =some (.lst (rs.map W.ref))/\rs.length=Fs.length/\∀(k r:Nat) g,rs[k]? =some r->Fs[k]? =some g->ph[r]? =some (.aG (mk g))
theorem Wd.ix{b:Nat}{G:List (List Nat)}(h:Wd ph wi G)(e:G[b]? =some g):∃r,(∀ph',Ex ph ph'->lift (ah (.ref wi) (.int b)) ph'=.ok (.ref r) ph')/\ph[r]? =some (.aG (mk g)):=by
 obtain⟨rs,h1,h2,h3⟩:=h;have hb:b<rs.length:=by rw[h2];exact(aam.mp e).1
 obtain⟨r,hr⟩:∃r,rs[b]? =some r:=cW hb;refine⟨r,fun ph' x=>cK (x.get h1) ?_,h3 b r g hr e⟩;rw[gK _ _ (by rw[aan];exact hb),aau,hr];rfl
theorem Wd.ex{G:List (List Nat)}(h:Wd ph i G)(x:Ex ph ph'):Wd ph' i G:=by
 obtain⟨rs,h1,h2,h3⟩:=h;exact⟨rs,x.get h1,h2,fun k r g a b=>x.get (h3 k r g a b)⟩
noncomputable def lX(Fs:List (List Nat))(gv:List (List Int))(k:Nat)(acc:List Int)(j:Nat):List Int:=if k∈Fs.getD j [] then acc else acc++gv.getD j []
noncomputable def kn(Fs:List (List Nat))(gv:List (List Int))(k m:Nat):List Int:=(aaK m).foldl (lX Fs gv k) []
theorem n6(Fs:List (List Nat))(gv:List (List Int))(k m:Nat):kn Fs gv k (m+1)=lX Fs gv k (kn Fs gv k m) m:=by
 unfold kn;rw[afu,aeM];rfl
theorem vX{Fs:List (List Nat)}{gv:List (List Int)}{k:Nat}{P:Int->Prop}(h:∀l∈gv,∀x∈l,P x):∀m,∀x∈kn Fs gv k m,P x
 | 0,x,hx=>by cases hx
 | m+1,x,hx=>by
  rw[n6] at hx;unfold lX at hx;split at hx
  ·exact vX h m x hx
  ·rcases aaS.mp hx with z | z
   ·exact vX h m x z
   ·by_cases hm:m<gv.length
    ·have e:gv.getD m []=gv[m]:=by simp[hm]
     rw[e] at z;exact h _ (acu hm) x z
    ·have e:gv.getD m []=[]:=by simp[acN hm]
     rw[e] at z;cases z
theorem AJ{Fs:List (List Nat)}{gv:List (List Int)}{k:Nat}(h:∀l∈gv,l.length<=20):∀m,(kn Fs gv k m).length<=20*m
 | 0=>by simp[kn]
 | m+1=>by
  have ih:=AJ (Fs:=Fs) (k:=k) h m;rw[n6];unfold lX;split
  ·omega
  ·by_cases hm:m<gv.length
   ·have e:gv.getD m []=gv[m]:=by simp[hm]
    have:=h _ (acu hm);rw[e,aaU];omega
   ·have e:gv.getD m []=[]:=by simp[acN hm]
    rw[e];simp;omega
theorem Hk{Fs:List (List Nat)}{gv:List (List Int)}{k:Nat}(h0:Fs.getD 0 []=[])(hg:gv.getD 0 []≠[]):∀m,kn Fs gv k (m+1)≠[]
 | 0=>by
  rw[n6];unfold lX;rw[h0,if_neg (by simp)]
  simpa[kn] using hg
 | m+1=>by
  have ih:=Hk (k:=k) h0 hg m;rw[n6];unfold lX;split
  ·exact ih
  ·intro z;exact ih (acq.mp z).1
section
variable{ns:List Int}{many:Nat}{step wide:Int}{ei si wi gi vi:Nat}
theorem RU{first:Int}{k:Nat}{Fs:List (List Nat)}{gv:List (List Int)}{H:PH}{lo:Nat}{o11 o13 o14 o15 o16 o17:Option W}(hw:Wd H wi Fs)(hv:iX H vi lo gv)(hk:k<=6)(Jw:k<=Fs.length)(pF:k=gv.length)(tm:∀l∈gv,l.length<=20) :
  ∃kr fy H',cT (cY (ab (aa 10) af)) (gN 13) yv [some (.fl (ns.map W.int)),some (.int many),some (.int step),some (.int wide),some (.ref ei),some (.ref si),some (.ref wi),some (.ref gi),some (.ref vi),some (.int first),some (.int k),o11,some (.ref H.length),o13,o14,o15,o16,o17] (H++[.lst []])=.ok (.nx [some (.fl (ns.map W.int)),some (.int many),some (.int step),some (.int wide),some (.ref ei),some (.ref si),some (.ref wi),some (.ref gi),some (.ref vi),some (.int first),some (.int k),o11,some (.ref kr),fy,o14,o15,o16,o17]) H'/\Ex H H'/\H'[kr]? =some (.lst ((kn Fs gv k k).map W.int)):=by
 obtain⟨ao,H',e,kr,fy,rfl,x,h⟩:=hU (chk:=fun _=>true) (g:=gN 13) (b:=yv)
  (fun m σ K=>∃kr fy,σ=[some (.fl (ns.map W.int)),some (.int many),some (.int step),some (.int wide),some (.ref ei),some (.ref si),some (.ref wi),some (.ref gi),some (.ref vi),some (.int first),some (.int k),o11,some (.ref kr),fy,o14,o15,o16,o17]/\Ex H K/\K[kr]? =some (.lst ((kn Fs gv k m).map W.int)))
  (dc 0 k) [some (.fl (ns.map W.int)),some (.int many),some (.int step),some (.int wide),some (.ref ei),some (.ref si),some (.ref wi),some (.ref gi),some (.ref vi),some (.int first),some (.int k),o11,some (.ref H.length),o13,o14,o15,o16,o17] (H++[.lst []]) (fun _ _ _ _=>rfl)
  (fun m x σ K hm ck=>by
   obtain⟨kr,fy,bK,xK,hq⟩:=ck;subst bK;obtain⟨yh,rfl⟩:=iB hm;rw[aci];obtain⟨F,hF⟩:∃F,Fs[m]? =some F:=cW (by omega);obtain⟨g,hg⟩:∃g,gv[m]? =some g:=cW (by omega);have JD:Fs.getD m []=F:=by rw[abW,hF];rfl
   have Zy:gv.getD m []=g:=by rw[abW,hg];rfl
   obtain⟨r1,i1,c1⟩:=hw.ix hF;obtain⟨r2,i2,c2⟩:=hv.ix hg;have et:(eT (ae bY (aa 10) (ae ah (aa 6) (aa 13)))) [some (.fl (ns.map W.int)),some (.int many),some (.int step),some (.int wide),some (.ref ei),some (.ref si),some (.ref wi),some (.ref gi),some (.ref vi),some (.int first),some (.int k),o11,some (.ref kr),some (.int m),o14,o15,o16,o17] K=.ok (!decide (k∈F)) K:=by
    ac_nf
    refine aB (i1 K xK) (aB (show lift (bY (.int k) (.ref r1)) K=.ok (.bl (!decide (k∈F))) K by rw[nS (xK.get c1) (oA _ _),wN]) ?_);rfl
   by_cases c:k∈F
   ·rw[decide_eq_true c] at et;refine⟨_,_,rfl,_,_,bN et rfl,_,.inl rfl,kr,_,rfl,xK,?_⟩;rw[n6];unfold lX;rw[JD,if_pos c];exact hq
   ·rw[decide_eq_false c] at et;have l1:=AJ (Fs:=Fs) (k:=k) tm m;have l2:=tm g (aap hg);have ea:ax (ae addW (aa 12) (ae ah (aa 8) (aa 13))) (gN 12) [some (.fl (ns.map W.int)),some (.int many),some (.int step),some (.int wide),some (.ref ei),some (.ref si),some (.ref wi),some (.ref gi),some (.ref vi),some (.int first),some (.int k),o11,some (.ref kr),some (.int m),o14,o15,o16,o17] K=.ok (.nx [some (.fl (ns.map W.int)),some (.int many),some (.int step),some (.int wide),some (.ref ei),some (.ref si),some (.ref wi),some (.ref gi),some (.ref vi),some (.int first),some (.int k),o11,some (.ref K.length),some (.int m),o14,o15,o16,o17]) (K++[.lst ((kn Fs gv k m).map W.int++g.map W.int)]):=by
     refine asg ?_;ac_nf;refine aB (i2 K xK) ?_;exact qS hq (xK.get c2) (by rw[aan,aan];exact aaN (by omega:_<=100000) (by decide))
    refine⟨_,_,rfl,_,_,cw et ea,_,.inl rfl,K.length,_,rfl,xK.trans (Ex.one _ _),?_⟩;rw[bc,n6];unfold lX;rw[JD,if_neg c,Zy,abj])
  ⟨H.length,o13,rfl,Ex.one _ _,bc _ _⟩
 rw[j9] at h;refine⟨kr,fy,H',?_,x,h⟩;exact eZ (fZ rfl (by omega) (by omega)) (by rw[aba];exact e)
end
noncomputable def gm(many:Nat)(wide:Int)(k:Nat):Bool:=decide (wide.fmod 5=1)&&decide ((k:Int)=(wide.fdiv 5).fmod (many:Int))
theorem RV(ns:List Int)(many k:Nat)(step wide first:Int)(E:List (List Nat))(sz:List Nat)(Fs:List (List Nat))(gv:List (List Int))(P:Int->Prop)(s:Nat)(hsz:sz[k]? =some s)(m5:∀x∈sz,x<=3)(hm:k<many)(Zz:many<=6)(hE:DK many E)(Xs:sz.length=many)
  (hFs:Fs.length=many) (ZA:Fs.getD 0 []=[]) (pF:k=gv.length) (tm:∀l∈gv,l.length<=20) (px:k≠0->gv.getD 0 []≠[]) (c9:0<step/\step<10) (DR:P 0) (JH:∀l∈gv,∀x∈l,P x) (hP:∀i:Nat,i<s+gP (gm many wide k)->P (first+step*(i:Int))) :
  ∃(b:bp) (ex:List Int),b.ps.length=s/\b.rs.length<=gP (gm many wide k)/\b.en.to=dO E k/\(∀r∈b.rs,∀x∈r.use,P x)/\(∀x∈b.en.use,P x)/\b.en.use.length<=3/\ex.length<=20/\(∀x∈ex,P x)/\(k=0->ex≠[]) /\
   ∀(ph0:PH) (ei si wi gi vi lo:Nat) (ws:List W) (H:PH) (o11 eM o13 o14 o15 o16 o17:Option W),Ex ph0 H->ph0.length<=gi->ph0.length<=vi->Wy ph0 ei E->ph0[si]? =some (.lst (iw sz))->Wd ph0 wi Fs->iX H vi lo gv->H[gi]? =some (.lst ws)->ws.length<=100->gi≠vi->gi<lo->vi<lo->lo<=H.length →
    ∃pG pH fy DS DT DU DV H' w,pP [some (.fl (ns.map W.int)),some (.int many),some (.int step),some (.int wide),some (.ref ei),some (.ref si),some (.ref wi),some (.ref gi),some (.ref vi),some (.int first),some (.int k),o11,eM,o13,o14,o15,o16,o17] H=.ok (.nx [some (.fl (ns.map W.int)),some (.int many),some (.int step),some (.int wide),some (.ref ei),some (.ref si),some (.ref wi),some (.ref gi),some (.ref vi),some (.int (first+step*(s:Int)+step*(b.rs.length:Int))),some (.int k),pG,pH,fy,DS,DT,DU,DV]) H'/\Kp [gi,vi] H H'/\H'[gi]? =some (.lst (ws++[w]))/\gH lo H' w b/\iX H' vi lo (gv++[ex]):=by
 have ip:=AJ (Fs:=Fs) (k:=k) tm k;have hs:=m5 s (aap hsz);have Xp:gP (gm many wide k)<=14:=by unfold gP;split <;> omega
 obtain⟨ps,tq⟩:∃ps,ps=(aaK s).map fun j:Nat=>first+step*(j:Int):=⟨_,rfl⟩
 have Xt:ps.length=s:=by rw[tq];simp
 have CI:∀x∈ps,P x:=fun x hx=>by
  rw[tq] at hx;obtain⟨j,hj,rfl⟩:=aaD.mp hx;have:=abG.mp hj;exact hP j (by omega)
 obtain⟨tu,ZC⟩:∃tu,tu=((aaK many).map fun j:Nat=>decide (k∈dO E j)&&decide (k<=j)).any id:=⟨_,rfl⟩
 have JJ:k≠0->kn Fs gv k k≠[]:=fun h=>by
  obtain⟨k',rfl⟩:∃k',k=k'+1:=⟨k-1,by omega⟩
  exact Hk ZA (px h) k'
 obtain⟨rs,ex,r1,r2,r3,r4,r5,r6⟩:=RT ns k (first+step*(s:Int)) step (kn Fs gv k k++ps) tu (gm many wide k) P (by omega) c9 (fun h z=>JJ h (acq.mp z).1) (by simp;omega) DR
  (fun x hx=>(aaS.mp hx).elim (vX JH k x) (CI x)) (fun i hi=>by
   have:=hP (s+i) (by omega);rw[aem,afM,<- Int.add_assoc] at this;exact this)
 have Xu:(kn Fs gv k k++ps)++ex≠[]:=fun z=>by
  obtain⟨z1,z2⟩:=acq.mp z;by_cases c:k=0
  ·exact r2 c z2
  ·exact JJ c (acq.mp z1).1
 have JK:dO E k∈E:=by unfold dO;rw[aaZ (by rw[hE.len];exact hm)];exact acu _
 obtain⟨en,e1,e2,e3,e4⟩:=UV ns k (dO E k) sz ((kn Fs gv k k++ps)++ex) (by omega) (hE.Jv _ JK) Xu (by simp;omega) (fun x hx=>by rw[Xs];exact hE.lt _ JK x hx) m5;have ZD:∀x∈(kn Fs gv k k++ps)++ex,P x:=fun x hx=>(aaS.mp hx).elim (fun hx=>(aaS.mp hx).elim (vX JH k x) (CI x)) (r3 x)
 refine⟨⟨ps,rs,en⟩,ps++ex,Xt,r1,e1,r4,fun x hx=>ZD x (e2 x hx),e3,by simp;omega,fun x hx=>(aaS.mp hx).elim (CI x) (r3 x),fun h z=>r2 h (acq.mp z).2,fun ph0 ei si wi gi vi lo ws H o11 eM o13 o14 o15 o16 o17 x0 hpg hpv JL HX DW hv DX hws dm aal hvl lI=>?_⟩;have hy:=JL.mono x0;have tv:=x0.get HX;have hw:=DW.ex x0;have i1:cY (ab (ae ah (aa 5) (aa 10)) af) [some (.fl (ns.map W.int)),some (.int many),some (.int step),some (.int wide),some (.ref ei),some (.ref si),some (.ref wi),some (.ref gi),some (.ref vi),some (.int first),some (.int k),o11,eM,o13,o14,o15,o16,o17] H=.ok ((aaK s).map (fun i:Nat=>W.int i),fun _=>true) H:=by
  have e:(ab (ae ah (aa 5) (aa 10)) af) [some (.fl (ns.map W.int)),some (.int many),some (.int step),some (.int wide),some (.ref ei),some (.ref si),some (.ref wi),some (.ref gi),some (.ref vi),some (.int first),some (.int k),o11,eM,o13,o14,o15,o16,o17] H=.ok [.int s] H:=by
   ac_nf
   refine aB (cK tv (BG hsz)) ?_
   all_goals rfl
  rw[fZ e (by omega) (by omega),aba,<- nZ]
 obtain⟨H1,c1,x1⟩:=j8 (aaK s) (fun i:Nat=>W.int i) (cap:=[none,some 9,some 2]) (g:=gN 0) (c:=dH) (e:=ae addW (aa 1) (ae cI (aa 2) (aa 0))) i1 (fun _ _=>rfl) (by rw[abN];exact aaN hs (by decide))
  (fun j=>some (.int (first+step*(j:Int)))) (fun σ=>∃o,σ=[o,some (.int first),some (.int step)]) ⟨none,rfl⟩
  (fun j hj σ K ck hx=>by
   obtain⟨o,bK⟩:=ck;subst bK;refine⟨_,rfl,⟨_,rfl⟩,true,K,rfl,Ex.refl _,.inr ⟨rfl,_,K,?_,Ex.refl _,rfl⟩⟩;show(ae addW (aa 1) (ae cI (aa 2) (aa 0))) [some (.int j),some (.int first),some (.int step)] K=_
   push_cast [gO (jC (a:=step) (b:=(j:Int)) (by omega) (by omega))]
   all_goals rfl)
 rw[jx,show((aaK s).map fun j:Nat=>W.int (first+step*(j:Int)))=ps.map W.int by rw[tq,abF];rfl] at x1;have ZE:=x1.get (bc H (.lst (ps.map W.int)));have y1:Ex H H1:=(Ex.one _ _).trans x1;obtain⟨kr,fy,H2,c2,y2,lT⟩:=RU (ns:=ns) (many:=many) (step:=step) (wide:=wide) (ei:=ei) (si:=si) (gi:=gi) (first:=first+step*(s:Int)) (o11:=some (.ref H.length)) (o13:=o13) (o14:=o14) (o15:=o15) (o16:=o16) (o17:=o17) (hw.ex y1) (hv.kp (M:=[]) (Kp.ex y1) (fun _ h=>(nomatch h)) (fun h=>(nomatch h))) (k:=k) (by omega) (by omega) pF tm;have JM:=y1.trans y2;have i3:cY (ab (aa 1) af) [some (.fl (ns.map W.int)),some (.int many),some (.int step),some (.int wide),some (.ref ei),some (.ref si),some (.ref wi),some (.ref gi),some (.ref vi),some (.int (first+step*(s:Int))),some (.int k),some (.ref H.length),some (.ref kr),fy,o14,o15,o16,o17] H2=.ok ((aaK many).map (fun i:Nat=>W.int i),fun _=>true) H2:=by
  rw[fZ rfl (by omega) (by omega),aba,<- nZ]
 obtain⟨H3,c3,x3⟩:=j8 (aaK many) (fun i:Nat=>W.int i) (cap:=[none,some 10,some 4]) (g:=gN 0) (c:=dH) (e:=jb (ae dN (aa 1) (ae ah (aa 2) (aa 0))) (ae kG (aa 1) (aa 0))) i3 (fun _ _=>rfl) (by rw[abN];exact aaN Zz (by decide))
  (fun j=>some (.bl (decide (k∈dO E j)&&decide (k<=j)))) (fun σ=>∃o,σ=[o,some (.int k),some (.ref ei)]) ⟨none,rfl⟩
  (fun j hj σ K fW hx=>by
   obtain⟨o,bK⟩:=fW;subst bK;have ZF:=abG.mp hj;refine⟨_,rfl,⟨_,rfl⟩,true,K,rfl,Ex.refl _,.inr ⟨rfl,_,K,?_,Ex.refl _,rfl⟩⟩;have hg:E[j]? =some (dO E j):=by unfold dO;rw[aaZ (by rw[hE.len];exact ZF)];rfl
   obtain⟨r,hr,DO⟩:=BI (hy.mono JM) hg;show(jb (ae dN (aa 1) (ae ah (aa 2) (aa 0))) (ae kG (aa 1) (aa 0))) [some (.int j),some (.int k),some (.ref ei)] K=_;rw[nX,hX];show au (au (au (aA (W.ref ei)) fun x=>au (aA (W.int j)) fun y=>lift (ah x y)) _) _ K=_;rw[fD,fD,dS,bg (hr K hx),bg (zY (hx.get DO) k)];by_cases c:k∈dO E j
   ·rw[decide_eq_true c];show(ae kG (aa 1) (aa 0)) [some (.int j),some (.int k),some (.ref ei)] K=_;ac_nf;rw[show decide ((k:Int)<=(j:Int))=decide (k<=j) from decide_eq_decide.mpr (by omega)]
    all_goals rfl
   ·rw[decide_eq_false c]
    all_goals rfl)
 rw[jx,show((aaK many).map fun j:Nat=>W.bl (decide (k∈dO E j)&&decide (k<=j)))=((aaK many).map fun j:Nat=>decide (k∈dO E j)&&decide (k<=j)).map W.bl by rw[abF];rfl] at x3;have sX:=x3.get (bc H2 (.lst (((aaK many).map fun j:Nat=>decide (k∈dO E j)&&decide (k<=j)).map W.bl)));have y3:Ex H2 H3:=(Ex.one _ _).trans x3;have pJ:=JM.trans y3;have JN:=y3.get lT;have ym:=(y2.trans y3).get ZE;have sk:lift (addW (.ref kr) (.ref H.length)) H3=.ok (.ref H3.length) (H3++[.lst ((kn Fs gv k k).map W.int++ps.map W.int)]):=qS JN ym (by rw[aan,aan];exact aaN (by omega:_<=100000) (by decide));have y4:Ex H3 (H3++[.lst ((kn Fs gv k k).map W.int++ps.map W.int)]):=Ex.one _ _;obtain⟨ri,ni,H5,c5,y5,l5,l5',q5,JP⟩:=r6 (H3++[.lst ((kn Fs gv k k).map W.int++ps.map W.int)]) H3.length (by rw[bc,abj]);have hHl:=pJ.len;have l3:H3.length<=ri:=by have:=y4.len;omega
 have l3':H3.length<=ni:=by have:=y4.len;omega
 have yn:=(pJ.trans y4).trans y5;have Xv:=(y4.trans y5).get JN;obtain⟨rv,v1,v2,v3,v4⟩:=id hv;have CJ:=yn.get v1;have y6:Ex H5 (H5++[.lst ((ps++ex).map W.int)]):=Ex.one _ _;have Wc:(((kn Fs gv k k++ps)++ex).map W.int).drop (kn Fs gv k k).length=(ps++ex).map W.int:=by
  rw[adb,abj,List.drop_append,aan,Nat.sub_self,List.drop_of_length_le (by simp)];simp
 have a6:=fh (o:=aa 8) (e:=sN (aa 17) (rL (aX bv (ab (aa 12) af))) wj) (σ:=[some (.fl (ns.map W.int)),some (.int many),some (.int step),some (.int wide),some (.ref ei),some (.ref si),some (.ref wi),some (.ref gi),some (.ref vi),some (.int (first+step*(s:Int))),some (.int k),some (.ref H.length),some (.ref kr),fy,some (.bl tu),some (.bl (gm many wide k)),some (.ref ri),some (.ref ni)]) (ph:=H5) (ph1:=H5++[.lst ((ps++ex).map W.int)]) (w:=.ref H5.length) rfl ⟨_,CJ⟩ (by
  rw[UD,Pz];show au (aA (W.ref ni)) _ H5=_;rw[fD,dS];show au (lift (bv [.ref kr])) _ H5=_;refine aB (eF Xv) ?_;rw[aan];show lift (pv (.ref ni) (some ((kn Fs gv k k).length:Int)) none) H5=_;rw[RA JP,Wc]) (y6.get CJ) (by rw[aan];omega)
 generalize jm:(H5++[PO.lst ((ps++ex).map W.int)]).set vi (.lst (rv.map W.ref++[W.ref H5.length]))=H6 at a6;have k6:Kp [gi,vi] H H6:=by rw[<- jm];exact(Kp.ex (yn.trans y6)).trans (Kp.set (i:=vi) (by simp) _ _)
 have DY:Kp [vi] H5 H6:=by rw[<- jm];exact(Kp.ex y6).trans (Kp.set (i:=vi) (by simp) _ _)
 have hl5:=yn.len;have HY:H6[ri]? =some (.lst (rs.map Row.w)):=DY.2 _ _ (by simp;omega) q5;have Xw:H6[ni]? =some (.lst (((kn Fs gv k k++ps)++ex).map W.int)):=DY.2 _ _ (by simp;omega) JP;have Xx:H6[H.length]? =some (.lst (ps.map W.int)):=DY.2 _ _ (by simp;omega) ((y4.trans y5).get ym);have Xy:H6[vi]? =some (.lst (rv.map W.ref++[W.ref H5.length])):=by rw[<- jm];exact da (y6.get CJ)
 have Xz:H6[H5.length]? =some (.lst ((ps++ex).map W.int)):=by rw[<- jm,cy (by omega)];exact bc _ _
 have CK:H6[gi]? =some (.lst ws):=by rw[<- jm,cy (abD dm)];exact(yn.trans y6).get DX
 have x6:Ex ph0 H6:=k6.toEx x0 (fun m hm=>by simp at hm;omega);have hl6:=k6.1;have ZG:E[k]? =some (dO E k):=by unfold dO;rw[aaZ (by rw[hE.len];exact hm)];rfl
 obtain⟨rg,g1,g2⟩:=BI JL ZG;obtain⟨H7,c7,y7⟩:=e4 H6 rg si ni (x6.get g2) (x6.get HX) Xw;have a7:=fh (o:=aa 7) (e:=aQ (ab (aa 11) (ab (aa 16) (ab (aC nC (ab (aa 0) (ab (aa 10) (ab (ae ah (aa 4) (aa 10)) (ab (aa 5) (ab (aa 17) af)))))) af)))) (σ:=[some (.fl (ns.map W.int)),some (.int many),some (.int step),some (.int wide),some (.ref ei),some (.ref si),some (.ref wi),some (.ref gi),some (.ref vi),some (.int (first+step*(s:Int)+step*(rs.length:Int))),some (.int k),some (.ref H.length),some (.ref kr),fy,some (.bl tu),some (.bl (gm many wide k)),some (.ref ri),some (.ref ni)]) (ph:=H6) (ph1:=H7) (w:=.tup [.ref H.length,.ref ri,en.w]) rfl ⟨_,CK⟩ (by
  rw[qR,iA];show au (au (aA (W.ref H.length)) _) _ H6=_;rw[fD,dS,iA];show au (au (aA (W.ref ri)) _) _ H6=_;rw[fD,dS,iA,dS,nR];ac_nf;refine aB (g1 H6 x6) (aB c7 ?_)
  all_goals rfl) (y7.get CK) (by omega)
 refine⟨some (.ref H.length),some (.ref kr),fy,some (.bl tu),some (.bl (gm many wide k)),some (.ref ri),some (.ref ni),H7.set gi (.lst (ws++[.tup [.ref H.length,.ref ri,en.w]])),.tup [.ref H.length,.ref ri,en.w],?_,?_,da (y7.get CK),?_,?_⟩
 rotate_left
 ·exact(k6.trans (Kp.ex y7)).trans (Kp.set (i:=gi) (by simp) _ _)
 ·refine⟨H.length,ri,rfl,lI,by omega,?_,?_⟩
  ·rw[cy (by omega)];exact y7.get Xx
  ·rw[cy (by omega)];exact y7.get HY
 ·refine hv.add (r:=H5.length) ((k6.trans (Kp.ex y7)).trans (Kp.set (i:=gi) (M:=[gi,vi]) (by simp) _ _)) (fun m hm=>by simp at hm;omega) (fun g8 h'=>?_) ?_ (by omega)
  ·rw[v1] at h';have:rv.map W.ref=g8.map W.ref:=PO.lst.inj (abq h');rw[cy dm,y7.get Xy,this];simp
  ·rw[cy (by omega)];exact y7.get Xz
 ·unfold pP;have b2:ax (aR af) (gN 12) [some (.fl (ns.map W.int)),some (.int many),some (.int step),some (.int wide),some (.ref ei),some (.ref si),some (.ref wi),some (.ref gi),some (.ref vi),some (.int (first+step*(s:Int))),some (.int k),some (.ref H.length),eM,o13,o14,o15,o16,o17] H1=.ok (.nx [some (.fl (ns.map W.int)),some (.int many),some (.int step),some (.int wide),some (.ref ei),some (.ref si),some (.ref wi),some (.ref gi),some (.ref vi),some (.int (first+step*(s:Int))),some (.int k),some (.ref H.length),some (.ref H1.length),o13,o14,o15,o16,o17]) (H1++[.lst []]):=asg (by rw[kb,ka,fD];exact k8 [] H1 (small (by simp)));refine sq (asg c1) (sq (σ1:=[some (.fl (ns.map W.int)),some (.int many),some (.int step),some (.int wide),some (.ref ei),some (.ref si),some (.ref wi),some (.ref gi),some (.ref vi),some (.int (first+step*(s:Int))),some (.int k),some (.ref H.length),eM,o13,o14,o15,o16,o17]) (ph1:=H1) (asg (w:=.int (first+step*(s:Int))) ?_) (sq b2 (sq c2 (sq (σ1:=[some (.fl (ns.map W.int)),some (.int many),some (.int step),some (.int wide),some (.ref ei),some (.ref si),some (.ref wi),some (.ref gi),some (.ref vi),some (.int (first+step*(s:Int))),some (.int k),some (.ref H.length),some (.ref kr),fy,some (.bl tu),o15,o16,o17]) (ph1:=H3) (asg (w:=.bl tu) ?_) (sq (σ1:=[some (.fl (ns.map W.int)),some (.int many),some (.int step),some (.int wide),some (.ref ei),some (.ref si),some (.ref wi),some (.ref gi),some (.ref vi),some (.int (first+step*(s:Int))),some (.int k),some (.ref H.length),some (.ref kr),fy,some (.bl tu),some (.bl (gm many wide k)),o16,o17]) (ph1:=H3) (asg (w:=.bl (gm many wide k)) ?_) (sq (σ1:=[some (.fl (ns.map W.int)),some (.int many),some (.int step),some (.int wide),some (.ref ei),some (.ref si),some (.ref wi),some (.ref gi),some (.ref vi),some (.int (first+step*(s:Int))),some (.int k),some (.ref H.length),some (.ref kr),fy,some (.bl tu),some (.bl (gm many wide k)),some (.ref ri),some (.ref ni)]) (ph1:=H5) ?_ (sq a6 (sq (σ1:=[some (.fl (ns.map W.int)),some (.int many),some (.int step),some (.int wide),some (.ref ei),some (.ref si),some (.ref wi),some (.ref gi),some (.ref vi),some (.int (first+step*(s:Int)+step*(rs.length:Int))),some (.int k),some (.ref H.length),some (.ref kr),fy,some (.bl tu),some (.bl (gm many wide k)),some (.ref ri),some (.ref ni)]) (ph1:=H6) (asg (w:=.int (first+step*(s:Int)+step*(rs.length:Int))) ?_) a7))))))))
  ·ac_nf
   refine aB (cK (y1.get tv) (BG hsz)) ?_
   push_cast [gO (jC (a:=step) (b:=(s:Int)) (by omega) (by omega))]
   all_goals rfl
  ·rw[vg,iA,dS,bg c3];show lift (oO [.ref H2.length]) H3=_;rw[Ry sX,ZC]
  ·push_cast [bZ (show(5:Int)≠0 by decide),dI (show(5:Int)≠0 by decide) (by decide),bZ (show(many:Int)≠0 by omega)]
   unfold gm;cases decide (wide.fmod 5=1) <;> rfl
  ·rw[jw,nR];ac_nf;refine aB sk ?_;ac_nf;refine aB c5 ?_
   all_goals rfl
  ·ac_nf
   refine aB (eF HY) ?_;rw[aan]
   push_cast [gO (jC (a:=step) (b:=(rs.length:Int)) (by omega) (by omega))]
   all_goals rfl
structure kP(n:Nat)(P:Int->Prop)(b:bp):Prop where
 rl:b.rs.length<=14
 to:∀x∈b.en.to,x<n
 ru:∀r∈b.rs,∀x∈r.use,P x
 eu:∀x∈b.en.use,P x
 el:b.en.use.length<=12
 pl:b.ps.length<=12
structure cZ(G:List bp):Prop where
 pos:0<G.length
 top:G.length<=20
 vs:∃S:List Int,S.length<=63/\∀b∈G,kP G.length (fun x=>x∈S) b
 reach:∀P:Nat->Prop,P 0->(∀(j:Nat) b,P j->G[j]? =some b->∀k∈b.en.to,P k)->∀k,k<G.length->P k
theorem kP.mono{P Q:Int->Prop}(h:kP n P b)(k:∀x,P x->Q x):kP n Q b:=⟨h.rl,h.to,fun r hr x hx=>k x (h.ru r hr x hx),fun x hx=>k x (h.eu x hx),h.el,h.pl⟩
noncomputable def pK(many:Nat)(wide:Int)(j:Nat):Nat:=1+9*j+(if wide.fmod 5=1/\(wide.fdiv 5).fmod (many:Int)<(j:Int) then 8 else 0)
theorem RW{many:Nat}{wide:Int}(hj:j<6):pK many wide j+3+gP (gm many wide j)<=pK many wide (j+1)/\pK many wide (j+1)<=63:=by
 unfold pK gP;cases hw:gm many wide j with
 | true=>
  unfold gm at hw;simp at hw;have n1:¬(wide.fmod 5=1/\(wide.fdiv 5).fmod (many:Int)<(j:Int)):=fun h=>by omega
  have n2:wide.fmod 5=1/\(wide.fdiv 5).fmod (many:Int)<((j+1:Nat):Int):=⟨hw.1,by omega⟩
  rw[if_neg n1,if_pos n2];simp;omega
 | false=>
  simp only[abS,if_false];by_cases c:wide.fmod 5=1/\(wide.fdiv 5).fmod (many:Int)<(j:Int)
  ·rw[if_pos c,if_pos ⟨c.1,by omega⟩];omega
  ·rw[if_neg c];split <;> omega
theorem PY(E:List (List Nat))(many:Nat)(hE:DK many E)(h1:1<=many)(h6:many<=6):∃Fs:List (List Nat),Fs.length=many/\Fs.getD 0 []=[]/\∀(ph:PH) (ei:Nat) (σ:aS),Wy ph ei E->σ[1]? =some (some (.int many))->σ[4]? =some (some (.ref ei)) →
  ∃wi ph',dW (cY (ab (aa 1) af)) [none,some 4] (gN 0) dH (aC nz (ab (aa 1) (ab (aa 0) af))) σ ph=.ok (.ref wi) ph'/\Ex ph ph'/\Wd ph' wi Fs:=by
 obtain⟨F,hF⟩:=aeT fun cL=>M2 E cL (by rw[hE.len];omega) (by rw[hE.len];omega) hE.Jv (fun g hg x hx=>by rw[hE.len];exact hE.lt g hg x hx)
 refine⟨(aaK many).map F,by simp,?_,fun ph ei σ hy s1 s4=>?_⟩
 ·have h0:(0:Nat)<many:=by omega
  simp only[abW,aau,aeg h0,abh,adR];exact(hF 0).1 rfl
 ·have ZH:aa 1 σ=aA (.int many):=Rv s1;have DL:cY (ab (aa 1) af) σ ph=.ok ((aaK many).map (fun i:Nat=>W.int i),fun _=>true) ph:=by
   have e:(ab (aa 1) af) σ ph=.ok [.int many] ph:=by rw[iA,ZH];rfl
   rw[fZ e (by omega) (by omega),aba,<- nZ]
  have BW:fF [none,some 4] σ=[none,some (.ref ei)]:=by
   unfold fF;simp[s4]
  obtain⟨ws,ph',e,x,hl,hr⟩:=Om (aaK many) (fun i:Nat=>W.int i) (cap:=[none,some 4]) (g:=gN 0) (c:=dH) (e:=aC nz (ab (aa 1) (ab (aa 0) af))) DL (fun _ _=>rfl) (by rw[abN];exact aaN h6 (by decide))
   (fun j w H=>∃r,w=.ref r/\r≠ph.length/\H[r]? =some (.aG (mk (F j)))) (fun j w H H' ⟨r,a,b,c⟩ x=>⟨r,a,b,x.get c⟩) (fun j w H o ⟨r,a,b,c⟩=>⟨r,a,b,by rw[cy (abD b)];exact c⟩) (fun σ=>∃o,σ=[o,some (.ref ei)]) ⟨none,BW⟩
   (fun j y hj σ H ck hx dM=>by
    obtain⟨o,bK⟩:=ck;subst bK;have:y=j:=by
     obtain⟨q1,q2⟩:=aam.mp hj
     simpa using q2.symm
    subst this;obtain⟨r,H2,e2,x2,l2,c2⟩:=(hF y).2 H ei (hy.mono hx);exact⟨_,rfl,⟨_,rfl⟩,H,rfl,Ex.refl _,.ref r,H2,e2,x2,r,rfl,by omega,c2⟩)
  refine⟨ph.length,ph',e,(Ex.one _ _).trans x,?_⟩;have lP:∃rs:List Nat,ws=rs.map W.ref:=by
   refine⟨ws.map fun w=>match w with | .ref r=>r | _=>0,?_⟩;rw[abF];apply acj;intro j;rw[aau];cases hw:ws[j]? with
   | none=>rfl
   | some w=>
    obtain⟨r,rfl,_⟩:=hr j w hw;rfl
  obtain⟨rs,rfl⟩:=lP;refine⟨rs,x.get (bc _ _),by simpa using hl,fun k r g a c=>?_⟩;obtain⟨r',h1,_,h3⟩:=hr k (.ref r) (by rw[aau,a];rfl);cases h1;rw[aau] at c;obtain⟨k',sL,rfl⟩:=aaA.mp c;have:k'=k:=by
   obtain⟨q1,q2⟩:=aam.mp sL
   simpa using q2.symm
  rw[this];exact h3
theorem RX(ns:List Int)(many:Nat)(step wide:Int)(h1:1<=many)(h6:many<=6)(c9:0<step/\step<10):∃G,cZ G/\∀ph,∃gi ph',au (av (ax (aC uw (ab (aa 0) (ab (aa 1) af))) (gN 4)) (av (ax (aC ul (ab (aa 0) (ab (aa 4) af))) (gN 5)) (av (ax (dW (cY (ab (aa 1) af)) [none,some 4] (gN 0) dH (aC nz (ab (aa 1) (ab (aa 0) af)))) (gN 6)) (av (ax (aR af) (gN 7)) (av (ax (aR af) (gN 8)) (av (ax (aa 2) (gN 9)) (av (cT (cY (ab (aa 1) af)) (gN 10) pP) (aW (aa 7)))))))) [some (.fl (ns.map W.int)),some (.int many),some (.int step),some (.int wide),none,none,none,none,none,none,none,none,none,none,none,none,none,none]) dY ph=.ok (.ref gi) ph'/\Ex ph ph'/\cu ph.length ph' gi G/\ph.length<=gi:=by
 obtain⟨E,hE,sE⟩:=RP ns many h1 h6;obtain⟨sz,z1,z2,sS⟩:=PX ns E (by rw[hE.len];exact h6);obtain⟨Fs,f1,f2,sF⟩:=PY E many hE h1 h6;obtain⟨P,DZ⟩:∃P:Int->Prop,P=fun x=>∃m:Nat,m<63/\x=step*(m:Int):=⟨_,rfl⟩
 obtain⟨⟨G,gv,f⟩,⟨j1,j2,j3,j4,j5,j6⟩,sim⟩:=mm (M:=List bp×List (List Int)×Nat) (A:=PH×Nat×Nat×Nat) (chk:=fun _ _=>true) (g:=gN 10) (b:=pP)
  (fun j m=>m.1.length=j/\m.2.1.length=j/\(∀l∈m.2.1,l.length<=20/\∀x∈l,P x)/\(0<j->m.2.1.getD 0 []≠[])/\m.2.2<=pK many wide j/\(∀(i:Nat) b,m.1[i]? =some b->kP many P b/\b.en.to=dO E i))
  (fun a j m σ H=>Wy a.1 a.2.1 E/\a.1[a.2.2.1]? =some (.lst (iw sz))/\Wd a.1 a.2.2.2 Fs/\Ex a.1 H/\a.1.length+2<=H.length/\cu (a.1.length+2) H a.1.length m.1/\iX H (a.1.length+1) (a.1.length+2) m.2.1/\∃nt o11 eM o13 o14 o15 o16 o17,σ=[some (.fl (ns.map W.int)),some (.int many),some (.int step),some (.int wide),some (.ref a.2.1),some (.ref a.2.2.1),some (.ref a.2.2.2),some (.ref a.1.length),some (.ref (a.1.length+1)),some (.int (step*(m.2.2:Int))),nt,o11,eM,o13,o14,o15,o16,o17])
  (dc 0 many) 0 ([],[],1) (fun _ _ _ _ _ _=>rfl)
  (fun j x m hj hJ=>by
   obtain⟨G,gv,f⟩:=m;rw[abi] at hJ ⊢;obtain⟨j1,j2,j3,j4,j5,j6⟩:=hJ;simp only at j1 j2 j3 j4 j5 j6;obtain⟨gk,rfl⟩:=iB hj;rw[aci];obtain⟨s,hs⟩:∃s,sz[j]? =some s:=cW (by rw[z1,hE.len];exact gk);have m5:=z2 s (aap hs);have hbd:=RW (many:=many) (wide:=wide) (j:=j) (by omega);obtain⟨b,ex,b1,b2,b3,b4,b5,b6,b7,b8,b9,bs⟩:=RV ns many j step wide (step*(f:Int)) E sz Fs gv P s hs z2 gk h6 hE (by rw[z1,hE.len]) f1 f2 j2.symm (fun l hl=>(j3 l hl).1) (fun h=>j4 (by omega)) c9 (by rw[DZ];exact⟨0,by omega,by simp⟩) (fun l hl=>(j3 l hl).2) (fun i hi=>by
    rw[DZ];exact⟨f+i,by omega,by rw[aem,afM]⟩)
   refine⟨(G++[b],gv++[ex],f+s+b.rs.length),⟨by simp[j1],by simp[j2],fun l hl=>?_,fun _=>?_,by simp only;omega,fun i b' df=>?_⟩,fun a σ H zq=>?_⟩
   ·rcases gn hl with z | z
    ·exact j3 l z
    ·rw[z];exact⟨b7,b8⟩
   ·simp only;by_cases c:j=0
    ·have:gv=[]:=List.length_eq_zero_iff.mp (by omega);subst this;exact b9 c
    ·have:=j4 (by omega)
     rwa [abW,aaM (by omega),<- abW]
   ·rcases dZ df with⟨_,a⟩ | ⟨hi,rfl⟩
    ·exact j6 i b' a
    ·refine⟨⟨?_,fun x hx=>?_,b4,b5,by omega,by omega⟩,by rw[b3,hi,j1]⟩
     ·have:gP (gm many wide j)<=14:=by unfold gP;split <;> omega
      omega
     ·rw[b3] at hx;have hg:dO E j∈E:=by unfold dO;rw[aaZ (by rw[hE.len];exact gk)];exact acu _
      exact hE.lt _ hg x hx
   ·obtain⟨hy,tv,hw,x0,hl,⟨ws,g1,g2,g3⟩,hv,nt,o11,eM,o13,o14,o15,o16,o17,rfl⟩:=zq;simp only at g2;obtain⟨pG,pH,fy,DS,DT,DU,DV,H',w,e',k',a1,a2,a3⟩:=bs a.1 a.2.1 a.2.2.1 a.2.2.2 a.1.length (a.1.length+1) (a.1.length+2) ws H o11 eM o13 o14 o15 o16 o17 x0 (aat _) (by omega) hy tv hw hv g1 (by omega) (by omega) (by omega) (by omega) hl;refine⟨_,_,rfl,_,H',e',hy,tv,hw,k'.toEx x0 (fun m hm=>by simp at hm;omega),aaN hl k'.1,cu.snoc g1 g2 g3 k' (fun m hm=>by simp at hm;omega) a1 a2,a3,some (.int j),pG,pH,fy,DS,DT,DU,DV,?_⟩;rw[show step*(f:Int)+step*(s:Int)+step*(b.rs.length:Int)=step*((f+s+b.rs.length:Nat):Int) by rw[aem,aem,afM,afM]])
  ⟨rfl,rfl,fun _ h=>(nomatch h),fun h=>by omega,by unfold pK;simp only;omega,fun i b h=>by simp at h⟩
 rw[abi,j9] at j1 j2;simp only at j1 j2 j3 j6;refine⟨G,⟨by omega,by omega,⟨(aaK 63).map fun m:Nat=>step*(m:Int),by simp,fun b hb=>?_⟩,fun Q q0 qs k hk=>?_⟩,fun ph=>?_⟩
 ·obtain⟨i,hi⟩:=abo hb;have:=(j6 i b hi).1;rw[j1];refine this.mono fun x hx=>?_
  rw[DZ] at hx;obtain⟨m,hm,rfl⟩:=hx;exact aaD.mpr ⟨m,abG.mpr hm,rfl⟩
 ·rw[j1] at hk
  induction k using adz with
  | ind k ih=>
   cases k with
   | zero=>exact q0
   | succ k=>
    obtain⟨i,g,hi,hg,hm⟩:=hE.Xl k hk;obtain⟨b,hb⟩:∃b,G[i]? =some b:=cW (by omega);refine qs i b (ih i (by omega) (by omega)) hb (k+1) ?_;rw[(j6 i b hb).2];unfold dO;rw[hg];exact hm
 ·obtain⟨ei,H1,e1,x1,w1⟩:=sE ph;obtain⟨si,H2,e2,x2,w2⟩:=sS H1 ei w1;obtain⟨wi,H3,e3,x3,w3⟩:=sF H2 ei [some (.fl (ns.map W.int)),some (.int many),some (.int step),some (.int wide),some (.ref ei),some (.ref si),none,none,none,none,none,none,none,none,none,none,none,none] (w1.mono x2) rfl rfl;have l4:(H3++[PO.lst []]).length=H3.length+1:=by simp
  obtain⟨ao,H',e,_,_,_,x,_,g,_,nt,o11,eM,o13,o14,o15,o16,o17,rfl⟩:=sim (H3,ei,si,wi) [some (.fl (ns.map W.int)),some (.int many),some (.int step),some (.int wide),some (.ref ei),some (.ref si),some (.ref wi),some (.ref H3.length),some (.ref (H3.length+1)),some (.int step),none,none,none,none,none,none,none,none] (H3++[PO.lst []]++[PO.lst []]) ⟨w1.mono (x2.trans x3),x3.get w2,w3,(Ex.one _ _).trans (Ex.one _ _),by simp,⟨[],(Ex.one _ _).get (bc _ _),rfl,fun k w b h=>by simp at h⟩,⟨[],by rw[<- l4];exact bc _ _,rfl,fun k r g h=>by simp at h,fun _ h=>(nomatch h)⟩,none,none,none,none,none,none,none,none,by simp⟩;have D0:=(x1.trans x2).trans x3;refine⟨H3.length,H',?_,D0.trans x,g.lo (by have:=D0.len;simp only;omega),D0.len⟩;refine bq (σ1:=[some (.fl (ns.map W.int)),some (.int many),some (.int step),some (.int wide),some (.ref ei),none,none,none,none,none,none,none,none,none,none,none,none,none]) (ph1:=H1) (asg ?_) (bq (σ1:=[some (.fl (ns.map W.int)),some (.int many),some (.int step),some (.int wide),some (.ref ei),some (.ref si),none,none,none,none,none,none,none,none,none,none,none,none]) (ph1:=H2) (asg ?_) (bq (σ1:=[some (.fl (ns.map W.int)),some (.int many),some (.int step),some (.int wide),some (.ref ei),some (.ref si),some (.ref wi),none,none,none,none,none,none,none,none,none,none,none]) (ph1:=H3) (asg e3) (bq (σ1:=[some (.fl (ns.map W.int)),some (.int many),some (.int step),some (.int wide),some (.ref ei),some (.ref si),some (.ref wi),some (.ref H3.length),none,none,none,none,none,none,none,none,none,none]) (ph1:=H3++[.lst []]) (asg (by rw[kb,ka,fD];exact k8 [] H3 (small (by simp)))) (bq (σ1:=[some (.fl (ns.map W.int)),some (.int many),some (.int step),some (.int wide),some (.ref ei),some (.ref si),some (.ref wi),some (.ref H3.length),some (.ref (H3.length+1)),none,none,none,none,none,none,none,none,none]) (ph1:=H3++[.lst []]++[.lst []]) (asg ?_) (bq (σ1:=[some (.fl (ns.map W.int)),some (.int many),some (.int step),some (.int wide),some (.ref ei),some (.ref si),some (.ref wi),some (.ref H3.length),some (.ref (H3.length+1)),some (.int step),none,none,none,none,none,none,none,none]) (ph1:=H3++[.lst []]++[.lst []]) (asg rfl) (bq (eZ (fZ rfl (by omega) (by omega)) (by rw[aba];exact e)) rfl))))))
  ·try simp only[Jg,Nat.reduceSub,List.reduceReplicate,List.set_cons_zero,aex,if_true,if_false,↓reduceIte,String.reduceEq,reduceCtorEq]
   exact e1
  ·ac_nf
   exact e2
  ·rw[kb,ka,fD,<- l4];exact k8 [] _ (small (by simp))
noncomputable def pL(many:Nat)(cell:Int)(k:Nat):List Row:=if k=1 then[.tell 900,.gz 901 "sum" 0 900,.tell 901] else if k+1=many then[.take 900] else if(cell+(k:Int)*(k:Int)).fmod 3=0 then[] else if(cell+(k:Int)*(k:Int)).fmod 3=1 then[.take (k:Int)] else[.turn]
noncomputable def iq(k:Nat):En:=if k=1 then .fin else .go (k-1) []
noncomputable def pM(many:Nat)(cell:Int)(k:Nat):bp:=⟨[],pL many cell k,iq k⟩
noncomputable def g9(many:Nat)(cell:Int)(j:Nat):List bp:=⟨[],[.set 0 (cell.fmod 9)],.go (many-1) []⟩::(aaK j).map fun i=>pM many cell (i+1)
theorem FK(many:Nat)(cell:Int)(j:Nat):g9 many cell (j+1)=g9 many cell j++[pM many cell (j+1)]:=by
 unfold g9;rw[afu,abj];rfl
noncomputable def tw(lo gi:Nat)(ph:PH)(w:W)(b:bp):Prop:=∃p r,w=.tup [.ref p,.ref r,b.en.w]/\lo<=p/\lo<=r/\p≠gi/\r≠gi/\ph[p]? =some (.lst (b.ps.map W.int))/\ph[r]? =some (.lst (b.rs.map Row.w))
theorem tw.kp{lo:Nat}{w:W}(h:tw lo gi H w b)(k:Kp [gi] H H'):tw lo gi H' w b:=by
 obtain⟨p,r,e,l1,l2,h1,h2,h3,h4⟩:=h;exact⟨p,r,e,l1,l2,h1,h2,k.2 _ _ (by simpa using h1) h3,k.2 _ _ (by simpa using h2) h4⟩
noncomputable def D1(lo:Nat)(ph:PH)(gi:Nat)(G:List bp):Prop:=∃ws,ph[gi]? =some (.lst ws)/\ws.length=G.length/\∀(k:Nat) w b,ws[k]? =some w->G[k]? =some b->tw lo gi ph w b
theorem D1.ZI{lo:Nat}(h:D1 lo ph gi G):cu lo ph gi G:=by
 obtain⟨ws,h1,h2,h3⟩:=h;refine⟨ws,h1,h2,fun k w b a c=>?_⟩;obtain⟨p,r,e,l1,l2,_,_,h4,h5⟩:=h3 k w b a c;exact⟨p,r,e,l1,l2,h4,h5⟩
variable{o4:Option W}
theorem NG{many:Nat}{cell:Int}(hm:15<=many)(il:many<=20)(hj:j+1<many)(h1:H[gi]? =some (.lst ws))(hz:ws.length<=100) :
  ∃p4 p5 H' w,tL [some (.int many),some (.int cell),some (.ref gi),some (.int ((j+1:Nat):Int)),o4,o5] H=.ok (.nx [some (.int many),some (.int cell),some (.ref gi),some (.int ((j+1:Nat):Int)),p4,p5]) H'/\Kp [gi] H H'/\H'[gi]? =some (.lst (ws++[w]))/\tw H.length gi H' w (pM many cell (j+1)):=by
 have pF:=f9 h1;generalize hk:j+1=k at hj;obtain⟨r1,H1,e1,x1,l1,q1⟩:∃r1 H1,ax (ae ah (aR (ab (aR af) (ab (aR (ab (aQ (ab (eC (.str "take")) (ab (aa 3) af))) af)) (ab (aR (ab (aQ (ab (eC (.str "turn")) af)) af)) af)))) (ae aN (ae addW (aa 1) (ae cI (aa 3) (aa 3))) (eC (.int (3))))) (gN 4) [some (.int many),some (.int cell),some (.ref gi),some (.int k),o4,o5] H =
   .ok (.nx [some (.int many),some (.int cell),some (.ref gi),some (.int k),some (.ref r1),o5]) H1/\Ex H H1/\H.length<=r1/\H1[r1]? =some (.lst ((if(cell+(k:Int)*(k:Int)).fmod 3=0 then[] else if(cell+(k:Int)*(k:Int)).fmod 3=1 then[Row.take (k:Int)] else[Row.turn]).map Row.w)):=by
  have q:=fA (cell+(k:Int)*(k:Int)) 3 (by decide);have x4:Ex H (H++[PO.lst []]++[PO.lst [.tup [.str "take",.int k]]]++[PO.lst [.tup [.str "turn"]]]++[PO.lst [.ref H.length,.ref (H.length+1),.ref (H.length+2)]]):=(((Ex.one _ _).trans (Ex.one _ _)).trans (Ex.one _ _)).trans (Ex.one _ _);have ee:∀w,cA [W.ref H.length,W.ref (H.length+1),W.ref (H.length+2)] ((cell+(k:Int)*(k:Int)).fmod 3)=some w->(ae ah (aR (ab (aR af) (ab (aR (ab (aQ (ab (eC (.str "take")) (ab (aa 3) af))) af)) (ab (aR (ab (aQ (ab (eC (.str "turn")) af)) af)) af)))) (ae aN (ae addW (aa 1) (ae cI (aa 3) (aa 3))) (eC (.int (3))))) [some (.int many),some (.int cell),some (.ref gi),some (.int k),o4,o5] H=.ok w (H++[PO.lst []]++[PO.lst [.tup [.str "take",.int k]]]++[PO.lst [.tup [.str "turn"]]]++[PO.lst [.ref H.length,.ref (H.length+1),.ref (H.length+2)]]):=fun w hw=>by
   have l1:(H++[PO.lst []]).length=H.length+1:=by simp
   have l2:(H++[PO.lst []]++[PO.lst [.tup [.str "take",.int k]]]).length=H.length+2:=by simp
   try simp only[Jg,Nat.reduceSub,List.reduceReplicate,List.set_cons_zero,aex,if_true,if_false,↓reduceIte,String.reduceEq,reduceCtorEq,gO (jC (a:=(k:Int)) (b:=(k:Int)) (by omega) (by omega)),bZ (show(3:Int)≠0 by decide)]
   rw[gp _ _ _ (small (by simp)),gp _ _ _ (small (by simp)),gp _ _ _ (small (by simp)),gp _ _ _ (small (by simp)),l1,l2];exact cK (bc _ _) hw
  have g0:(H++[PO.lst []]++[PO.lst [.tup [.str "take",.int k]]]++[PO.lst [.tup [.str "turn"]]]++[PO.lst [.ref H.length,.ref (H.length+1),.ref (H.length+2)]])[H.length]? =some (.lst []):=by simp
  have g1:(H++[PO.lst []]++[PO.lst [.tup [.str "take",.int k]]]++[PO.lst [.tup [.str "turn"]]]++[PO.lst [.ref H.length,.ref (H.length+1),.ref (H.length+2)]])[H.length+1]? =some (.lst [.tup [.str "take",.int k]]):=by simp
  have g2:(H++[PO.lst []]++[PO.lst [.tup [.str "take",.int k]]]++[PO.lst [.tup [.str "turn"]]]++[PO.lst [.ref H.length,.ref (H.length+1),.ref (H.length+2)]])[H.length+2]? =some (.lst [.tup [.str "turn"]]):=by simp
  generalize (cell+(k:Int)*(k:Int)).fmod 3=d at q ee;have:d=0\/d=1\/d=2:=by omega
  rcases this with rfl | rfl | rfl
  ·exact⟨_,_,asg (ee _ rfl),x4,aat _,g0⟩
  ·exact⟨_,_,asg (ee _ rfl),x4,by omega,g1⟩
  ·exact⟨_,_,asg (ee _ rfl),x4,by omega,g2⟩
 obtain⟨r2,H2,e2,x2,l2,q2⟩:∃r2 H2,aV (eT (ae aY (aa 3) (ae dj (aa 0) (eC (.int (1)))))) (ax (aR (ab (aQ (ab (eC (.str "take")) (ab (eC (.int (900))) af))) af)) (gN 4)) aZ [some (.int many),some (.int cell),some (.ref gi),some (.int k),some (.ref r1),some (.tup [.str "go",.int ((k:Int)-1),.tup []])] H1 =
   .ok (.nx [some (.int many),some (.int cell),some (.ref gi),some (.int k),some (.ref r2),some (.tup [.str "go",.int ((k:Int)-1),.tup []])]) H2/\Ex H H2/\H.length<=r2/\H2[r2]? =some (.lst ((if k+1=many then[Row.take 900] else if(cell+(k:Int)*(k:Int)).fmod 3=0 then[] else if(cell+(k:Int)*(k:Int)).fmod 3=1 then[Row.take (k:Int)] else[Row.turn]).map Row.w)):=by
  by_cases c:k+1=many
  ·refine⟨H1.length,H1++[.lst [.tup [.str "take",.int 900]]],cw (ph1:=H1) ?_ (asg rfl),x1.trans (Ex.one _ _),x1.len,?_⟩
   ·ac_nf
    rw[decide_eq_true (show(k:Int)=(many:Int)-1 by omega)]
   ·rw[bc,if_pos c];rfl
  ·refine⟨r1,H1,bN (ph1:=H1) ?_ rfl,x1,l1,?_⟩
   ·ac_nf
    rw[decide_eq_false (show ¬(k:Int)=(many:Int)-1 by omega)]
   ·rw[if_neg c];exact q1
 obtain⟨r3,H3,e3,x3,l3,q3⟩:∃r3 H3,aV (eT (ae aY (aa 3) (eC (.int (1))))) (av (ax (aR (ab (aQ (ab (eC (.str "tell")) (ab (eC (.int (900))) af))) (ab (aQ (ab (eC (.str "do")) (ab (eC (.int (901))) (ab (eC (.str "sum")) (ab (eC (.int (0))) (ab (eC (.int (900))) af)))))) (ab (aQ (ab (eC (.str "tell")) (ab (eC (.int (901))) af))) af)))) (gN 4)) (ax (aQ (ab (eC (.str "end")) af)) (gN 5))) aZ [some (.int many),some (.int cell),some (.ref gi),some (.int k),some (.ref r2),some (.tup [.str "go",.int ((k:Int)-1),.tup []])] H2 =
   .ok (.nx [some (.int many),some (.int cell),some (.ref gi),some (.int k),some (.ref r3),some (iq k).w]) H3/\Ex H H3/\H.length<=r3/\H3[r3]? =some (.lst ((pL many cell k).map Row.w)):=by
  by_cases c:k=1
  ·refine⟨H2.length,H2++[.lst [.tup [.str "tell",.int 900],.tup [.str "do",.int 901,.str "sum",.int 0,.int 900],.tup [.str "tell",.int 901]]],cw (ph1:=H2) ?_ ?_,x2.trans (Ex.one _ _),x2.len,?_⟩
   ·ac_nf
    rw[decide_eq_true (show(k:Int)=1 by omega)]
   ·unfold iq;rw[if_pos c];exact sq (asg rfl) (asg rfl)
   ·rw[bc];unfold pL;rw[if_pos c];rfl
  ·refine⟨r2,H2,bN (ph1:=H2) ?_ ?_,x2,l2,?_⟩
   ·ac_nf
    rw[decide_eq_false (show ¬(k:Int)=1 by omega)]
   ·unfold iq;rw[if_neg c];unfold En.w;simp only;rw[show((k-1:Nat):Int)=(k:Int)-1 by omega];rfl
   ·unfold pL;rw[if_neg c];exact q2
 have x4:Ex H3 (H3++[.lst []]):=Ex.one _ _;have ea:=fh (o:=aa 2) (e:=aQ (ab (aR af) (ab (aa 4) (ab (aa 5) af)))) (σ:=[some (.int many),some (.int cell),some (.ref gi),some (.int k),some (.ref r3),some (iq k).w]) (ph:=H3) (ph1:=H3++[.lst []]) (w:=.tup [.ref H3.length,.ref r3,(iq k).w]) rfl ⟨_,x3.get h1⟩ rfl (x4.get (x3.get h1)) (by omega);have ya:=x3.len;refine⟨some (.ref r3),some (iq k).w,(H3++[PO.lst []]).set gi (PO.lst (ws++[W.tup [.ref H3.length,.ref r3,(iq k).w]])),W.tup [.ref H3.length,.ref r3,(iq k).w],?_,(Kp.ex (x3.trans x4)).trans (Kp.set (i:=gi) (by simp) _ _),da (x4.get (x3.get h1)),H3.length,r3,rfl,ya,l3,by omega,by omega,?_,?_⟩
 ·unfold tL;refine sq e1 (sq (σ1:=[some (.int many),some (.int cell),some (.ref gi),some (.int k),some (.ref r1),some (.tup [.str "go",.int ((k:Int)-1),.tup []])]) (ph1:=H1) (asg rfl) (sq e2 (sq e3 ea)))
 ·rw[cy (by omega)];exact bc _ _
 ·rw[cy (by omega)];exact x4.get q3
theorem RY(many:Nat)(cell:Int)(hm:15<=many)(il:many<=20)(ph:PH):∃gi ph',yA [.int many,.int cell] ph=.ok (.ref gi) ph'/\Ex ph ph'/\cu ph.length ph' gi (g9 many cell (many-1))/\ph.length<=gi:=by
 have l1:(ph++[PO.lst []]).length=ph.length+1:=by simp
 have l2:(ph++[PO.lst []]++[PO.lst [.tup [.str "set",.int 0,.int (cell.fmod 9)]]]).length=ph.length+2:=by simp
 have x0:Ex ph (ph++[PO.lst []]++[PO.lst [.tup [.str "set",.int 0,.int (cell.fmod 9)]]]++[PO.lst [.tup [.ref ph.length,.ref (ph.length+1),.tup [.str "go",.int ((many:Int)-1),.tup []]]]]):=((Ex.one _ _).trans (Ex.one _ _)).trans (Ex.one _ _);have e0:ax (aR (ab (aQ (ab (aR af) (ab (aR (ab (aQ (ab (eC (.str "set")) (ab (eC (.int (0))) (ab (ae aN (aa 1) (eC (.int (9)))) af)))) af)) (ab (aQ (ab (eC (.str "go")) (ab (ae dj (aa 0) (eC (.int (1)))) (ab (aQ af) af)))) af)))) af)) (gN 2) [some (.int many),some (.int cell),none,none,none,none] ph =
   .ok (.nx [some (.int many),some (.int cell),some (.ref (ph.length+2)),none,none,none]) (ph++[PO.lst []]++[PO.lst [.tup [.str "set",.int 0,.int (cell.fmod 9)]]]++[PO.lst [.tup [.ref ph.length,.ref (ph.length+1),.tup [.str "go",.int ((many:Int)-1),.tup []]]]]):=by
  refine asg ?_
  push_cast [bZ (show(9:Int)≠0 by decide)]
  rw[gp _ _ _ (small (by simp)),gp _ _ _ (small (by simp)),l1];show lift (lx _) _=_;rw[k8 _ _ (small (by simp)),l2]
 obtain⟨ao,H',e,p3,p4,p5,rfl,x,g⟩:=hU (chk:=fun _=>true) (g:=gN 3) (b:=tL)
  (fun j σ H=>∃p3 p4 p5,σ=[some (.int many),some (.int cell),some (.ref (ph.length+2)),p3,p4,p5]/\Ex ph H/\D1 ph.length H (ph.length+2) (g9 many cell j))
  (dc 1 (many-1)) [some (.int many),some (.int cell),some (.ref (ph.length+2)),none,none,none] (ph++[PO.lst []]++[PO.lst [.tup [.str "set",.int 0,.int (cell.fmod 9)]]]++[PO.lst [.tup [.ref ph.length,.ref (ph.length+1),.tup [.str "go",.int ((many:Int)-1),.tup []]]]])
  (fun _ _ _ _=>rfl)
  (fun j y σ H hj ck=>by
   obtain⟨p3,p4,p5,bK,x,ws,g1,g2,g3⟩:=ck;subst bK;obtain⟨gk,rfl⟩:=iB hj;rw[show(1+(j:Int))=((j+1:Nat):Int) by omega];have pF:(g9 many cell j).length=j+1:=by simp[g9]
   obtain⟨q4,q5,H',w,e,k,a1,a2⟩:=NG (o4:=p4) (o5:=p5) (cell:=cell) hm il (by omega:j+1<many) g1 (by omega);refine⟨_,_,rfl,_,H',e,_,.inl rfl,_,q4,q5,rfl,k.toEx x (fun m hm=>by simp at hm;omega),ws++[w],a1,by rw[FK];simp[g2],fun i w' b' hw hb=>?_⟩;rw[FK] at hb
   rcases dZ hw with⟨hi,a⟩ | ⟨hi,rfl⟩
   ·rcases dZ hb with⟨_,c⟩ | ⟨gj,_⟩
    ·exact(g3 i w' b' a c).kp k
    ·omega
   ·rcases dZ hb with⟨gj,c⟩ | ⟨_,rfl⟩
    ·omega
    ·obtain⟨p,r,e,l1,l2,z⟩:=a2;have:=x.len;exact⟨p,r,e,by omega,by omega,z⟩)
  ⟨none,none,none,rfl,x0,[.tup [.ref ph.length,.ref (ph.length+1),.tup [.str "go",.int ((many:Int)-1),.tup []]]],by rw[<- l2];exact bc _ _,by simp[g9],fun i w b hw hb=>by
   have hi:i=0:=by have:=(aam.mp hw).1;simp at this;omega
   subst hi;simp at hw;simp[g9] at hb;subst hw hb;refine⟨ph.length,ph.length+1,?_,aat _,by omega,by omega,by omega,by simp,by simp[Row.w]⟩;unfold En.w;simp only;rw[show((many-1:Nat):Int)=(many:Int)-1 by omega];rfl⟩
 rw[j9] at g;refine⟨ph.length+2,H',?_,x,g.ZI,by omega⟩;unfold yA tX;rw[gU];have ei:pg (ab (eC (.int (1))) (ab (aa 0) af)) [some (.int many),some (.int cell),some (.ref (ph.length+2)),none,none,none] (ph++[PO.lst []]++[PO.lst [.tup [.str "set",.int 0,.int (cell.fmod 9)]]]++[PO.lst [.tup [.ref ph.length,.ref (ph.length+1),.tup [.str "go",.int ((many:Int)-1),.tup []]]]])=.ok (dc 1 (many-1),fun _=>true) (ph++[PO.lst []]++[PO.lst [.tup [.str "set",.int 0,.int (cell.fmod 9)]]]++[PO.lst [.tup [.ref ph.length,.ref (ph.length+1),.tup [.str "go",.int ((many:Int)-1),.tup []]]]]):=by
  rw[Uy rfl (by omega) (by omega) (by omega) (by omega),show((many:Int)-1).toNat=many-1 by omega]
 exact bq e0 (bq (eZ ei e) rfl)
theorem PZ(many:Nat)(cell:Int)(hm:15<=many)(il:many<=20):cZ (g9 many cell (many-1)):=by
 have hl:(g9 many cell (many-1)).length=many:=by simp[g9];omega
 have m9:∀i,1<=i->i<many->(g9 many cell (many-1))[i]? =some (pM many cell i):=fun i h1 h2=>by
  obtain⟨i',rfl⟩:∃i',i=i'+1:=⟨i-1,by omega⟩
  unfold g9;rw[aeU,aau,aeg (by omega)];rfl
 refine⟨by omega,by omega,⟨[0,900,901],by simp,fun b hb=>?_⟩,fun P p0 ps k hk=>?_⟩
 ·rw[hl]
  rcases aaO.mp hb with rfl | hb
  ·exact⟨by simp,fun x hx=>(by rw[aav.mp hx];omega),fun r hr x hx=>(by rw[aav.mp hr] at hx;cases hx),fun x hx=>(by cases hx),by simp[En.use],by simp⟩
  ·obtain⟨i,hi,rfl⟩:=aaD.mp hb;have hi:=abG.mp hi;unfold pM;refine⟨?_,fun x hx=>?_,fun r hr x hx=>?_,fun x hx=>?_,?_,by simp⟩
   ·simp only;unfold pL;split
    ·simp
    ·split
     ·simp
     ·split
      ·simp
      ·split <;> simp
   ·simp only at hx;unfold iq at hx;split at hx
    ·cases hx
    ·rw[aav.mp hx];omega
   ·simp only at hr;unfold pL at hr;split at hr
    ·simp at hr
     rcases hr with rfl | rfl | rfl <;> simp[Row.use] at hx <;> simp <;> omega
    ·split at hr
     ·simp at hr;subst hr;cases hx
     ·split at hr
      ·cases hr
      ·split at hr
       ·simp at hr;subst hr;cases hx
       ·simp at hr;subst hr;cases hx
   ·simp only at hx;unfold iq at hx;split at hx <;> cases hx
   ·simp only;unfold iq;split <;> simp[En.use]
 ·rw[hl] at hk;have top:P (many-1):=ps 0 _ p0 rfl (many-1) (by simp[En.to]);have down:∀d,d<many-1->P (many-1-d):=fun d=>by
   induction d with
   | zero=>intro _;exact top
   | succ d ih=>
    intro hd;have:=ps _ _ (ih (by omega)) (m9 (many-1-d) (by omega) (by omega)) (many-1-(d+1)) (by
     unfold pM iq;simp only;rw[if_neg (by omega)];simp[En.to];omega)
    exact this
  by_cases h0:k=0
  ·rw[h0];exact p0
  ·have:=down (many-1-k) (by omega);rw[show many-1-(many-1-k)=k by omega] at this;exact this
theorem P0(ns:List Int)(k:Nat)(hk:k<=12):∃r:Row,r.use=[]/\∀(ri:Nat) (ws:List W) (s0 o4 o5 s6 s7 s8 s9:Option W) (H:PH),H[ri]? =some (.lst ws)->ws.length<=100 →
  ∃p4 p5 H',yx [s0,some (.fl (ns.map W.int)),some (.ref ri),some (.int k),o4,o5,s6,s7,s8,s9] H=.ok (.nx [s0,some (.fl (ns.map W.int)),some (.ref ri),some (.int k),p4,p5,s6,s7,s8,s9]) H'/\H'[ri]? =some (.lst (ws++[r.w]))/\Kp [ri] H H':=by
 obtain⟨nu,jT⟩:∃nu,nu=mx (ns.getD ((2:Int)+(k:Int)).toNat 0) (k:Int):=⟨_,rfl⟩
 obtain⟨x,hx⟩:=AI nu;refine⟨if nu.fmod 5=0 then .take (k:Int) else .set (k:Int) x,by split <;> rfl,fun ri ws s0 o4 o5 s6 s7 s8 s9 H h1 hz=>?_⟩;obtain⟨o,ho⟩:=hx H;have x1:Ex H (H++[o]):=Ex.one _ _;have e1:ax (aC fK (ab (aC cG (ab (aa 1) (ab (ae addW (eC (.int (2))) (aa 3)) af))) (ab (aa 3) af))) (gN 4) [s0,some (.fl (ns.map W.int)),some (.ref ri),some (.int k),o4,o5,s6,s7,s8,s9] H=.ok (.nx [s0,some (.fl (ns.map W.int)),some (.ref ri),some (.int k),some (.int nu),o5,s6,s7,s8,s9]) H:=by
  refine asg ?_
  push_cast [ku,i7 ns (2+(k:Int)) (by omega)]
  rw[jT]
  all_goals rfl
 have e2:ax (aQ (ab (eC (.str "set")) (ab (aa 3) (ab (aC kS (ab (aa 4) af)) af)))) (gN 5) [s0,some (.fl (ns.map W.int)),some (.ref ri),some (.int k),some (.int nu),o5,s6,s7,s8,s9] H=.ok (.nx [s0,some (.fl (ns.map W.int)),some (.ref ri),some (.int k),some (.int nu),some (.tup [.str "set",.int k,.int x]),s6,s7,s8,s9]) (H++[o]):=by
  refine asg ?_;ac_nf;refine aB ho ?_
  all_goals rfl
 have e3:aV (eT (ae aY (ae aN (aa 4) (eC (.int (5)))) (eC (.int (0))))) (ax (aQ (ab (eC (.str "take")) (ab (aa 3) af))) (gN 5)) aZ [s0,some (.fl (ns.map W.int)),some (.ref ri),some (.int k),some (.int nu),some (.tup [.str "set",.int k,.int x]),s6,s7,s8,s9] (H++[o])=.ok (.nx [s0,some (.fl (ns.map W.int)),some (.ref ri),some (.int k),some (.int nu),some (if nu.fmod 5=0 then Row.take (k:Int) else Row.set (k:Int) x).w,s6,s7,s8,s9]) (H++[o]):=by
  have et:(eT (ae aY (ae aN (aa 4) (eC (.int (5)))) (eC (.int (0))))) [s0,some (.fl (ns.map W.int)),some (.ref ri),some (.int k),some (.int nu),some (.tup [.str "set",.int k,.int x]),s6,s7,s8,s9] (H++[o])=.ok (decide (nu.fmod 5=0)) (H++[o]):=by
   push_cast [bZ (show(5:Int)≠0 by decide)]
  by_cases c:nu.fmod 5=0
  ·rw[decide_eq_true c] at et;rw[if_pos c];exact cw et rfl
  ·rw[decide_eq_false c] at et;rw[if_neg c];exact bN et rfl
 have ea:=fh (o:=aa 2) (e:=aa 5) (σ:=[s0,some (.fl (ns.map W.int)),some (.ref ri),some (.int k),some (.int nu),some (if nu.fmod 5=0 then Row.take (k:Int) else Row.set (k:Int) x).w,s6,s7,s8,s9]) (ph:=H++[o]) rfl ⟨_,x1.get h1⟩ rfl (x1.get h1) (by omega);refine⟨_,_,_,sq e1 (sq e2 (sq e3 ea)),da (x1.get h1),(Kp.ex x1).trans (Kp.set (i:=ri) (by simp) _ _)⟩
noncomputable def dC(many:Nat):List Int:=(aaK many).map fun k:Nat=>100+3*(k:Int)
theorem P4(ns:List Int)(many k:Nat)(h7:7<=many)(hk:k<many)(yo:many<=12):∃v:Int,v∈dC many/\∀(pi ai:Nat) (ws:List W) (s2 o4 s5 o8 s9:Option W) (H:PH),H[pi]? =some (.lst ((dC many).map W.int))->H[ai]? =some (.lst ws)->ws.length<=100 →
  ∃p4 p8,yy [some (.int many),some (.fl (ns.map W.int)),s2,some (.int k),o4,s5,some (.ref pi),some (.ref ai),o8,s9] H=.ok (.nx [some (.int many),some (.fl (ns.map W.int)),s2,some (.int k),p4,s5,some (.ref pi),some (.ref ai),p8,s9]) (H.set ai (.lst (ws++[.int v]))):=by
 obtain⟨nu,jT⟩:∃nu,nu=mx (ns.getD ((15:Int)+(k:Int)).toNat 0) (k:Int):=⟨_,rfl⟩
 obtain⟨c,hc⟩:∃c,c=ns.getD ((14:Int)).toNat 0:=⟨_,rfl⟩
 have hl:(dC many).length=many:=by simp[dC]
 have pick:∀d:Int,∃x∈dC many,cA ((dC many).map W.int) (d.fmod (many:Int))=some (.int x):=fun d=>by
  have q:=fA d (many:Int) (by omega);exact qU q.1 (by rw[hl];exact q.2)
 obtain⟨x1,m1,e1⟩:=pick ((k:Int)+1+(c.fdiv 2).fmod ((many:Int)-1));obtain⟨x2,m2,e2⟩:=pick (nu.fdiv 3);refine⟨if c.fmod 2=1 then x2 else x1,by split <;> assumption,fun pi ai ws s2 o4 s5 o8 s9 H hp ha hz=>?_⟩;have iD:=i7 ns 14 (by decide);rw[<- hc] at iD;have a1:ax (aC fK (ab (aC cG (ab (aa 1) (ab (ae addW (eC (.int (15))) (aa 3)) af))) (ab (aa 3) af))) (gN 4) [some (.int many),some (.fl (ns.map W.int)),s2,some (.int k),o4,s5,some (.ref pi),some (.ref ai),o8,s9] H=.ok (.nx [some (.int many),some (.fl (ns.map W.int)),s2,some (.int k),some (.int nu),s5,some (.ref pi),some (.ref ai),o8,s9]) H:=by
  refine asg ?_
  push_cast [ku,i7 ns (15+(k:Int)) (by omega)]
  rw[jT]
  all_goals rfl
 have a2:ax (ae ah (aa 6) (ae aN (ae addW (ae addW (aa 3) (eC (.int (1)))) (ae aN (ae bS (aC cG (ab (aa 1) (ab (eC (.int (14))) af))) (eC (.int (2)))) (ae dj (aa 0) (eC (.int (1)))))) (aa 0))) (gN 8) [some (.int many),some (.fl (ns.map W.int)),s2,some (.int k),some (.int nu),s5,some (.ref pi),some (.ref ai),o8,s9] H=.ok (.nx [some (.int many),some (.fl (ns.map W.int)),s2,some (.int k),some (.int nu),s5,some (.ref pi),some (.ref ai),some (.int x1),s9]) H:=by
  refine asg ?_
  push_cast [iD,dI (show(2:Int)≠0 by decide) (by decide),bZ (show(many:Int)-1≠0 by omega),bZ (show(many:Int)≠0 by omega)]
  exact cK hp e1
 have a3:aV (eT (ae aY (ae aN (aC cG (ab (aa 1) (ab (eC (.int (14))) af))) (eC (.int (2)))) (eC (.int (1))))) (ax (ae ah (aa 6) (ae aN (ae bS (aa 4) (eC (.int (3)))) (aa 0))) (gN 8)) aZ [some (.int many),some (.fl (ns.map W.int)),s2,some (.int k),some (.int nu),s5,some (.ref pi),some (.ref ai),some (.int x1),s9] H=.ok (.nx [some (.int many),some (.fl (ns.map W.int)),s2,some (.int k),some (.int nu),s5,some (.ref pi),some (.ref ai),some (.int (if c.fmod 2=1 then x2 else x1)),s9]) H:=by
  have et:(eT (ae aY (ae aN (aC cG (ab (aa 1) (ab (eC (.int (14))) af))) (eC (.int (2)))) (eC (.int (1))))) [some (.int many),some (.fl (ns.map W.int)),s2,some (.int k),some (.int nu),s5,some (.ref pi),some (.ref ai),some (.int x1),s9] H=.ok (decide (c.fmod 2=1)) H:=by
   push_cast [iD,bZ (show(2:Int)≠0 by decide)]
  by_cases cc:c.fmod 2=1
  ·rw[decide_eq_true cc] at et;rw[if_pos cc];refine cw et (asg ?_)
   push_cast [dI (show(3:Int)≠0 by decide) (by decide),bZ (show(many:Int)≠0 by omega)]
   exact cK hp e2
  ·rw[decide_eq_false cc] at et;rw[if_neg cc];exact bN et rfl
 have ea:=fh (o:=aa 7) (e:=aa 8) (σ:=[some (.int many),some (.fl (ns.map W.int)),s2,some (.int k),some (.int nu),s5,some (.ref pi),some (.ref ai),some (.int (if c.fmod 2=1 then x2 else x1)),s9]) (ph:=H) (ph1:=H) rfl ⟨_,ha⟩ rfl ha (by omega);exact⟨_,_,sq a1 (sq a2 (sq a3 ea))⟩
theorem UW(ns:List Int)(many:Nat)(h7:7<=many)(yo:many<=12):∃G,cZ G/\∀ph,∃gi ph',yE [.int many,.fl (ns.map W.int)] ph=.ok (.ref gi) ph'/\Ex ph ph'/\cu ph.length ph' gi G/\ph.length<=gi:=by
 obtain⟨rs,⟨r1,r2⟩,XA⟩:=mm (M:=List Row) (A:=PH) (chk:=fun _ _=>true) (g:=gN 3) (b:=yx)
  (fun j m=>m.length=j/\∀r∈m,r.use=[])
  (fun ph j m σ H=>∃o3 o4 o5,σ=[some (.int many),some (.fl (ns.map W.int)),some (.ref ph.length),o3,o4,o5,none,none,none,none]/\H[ph.length]? =some (.lst (m.map Row.w))/\Ex ph H)
  (dc 0 many) 0 [] (fun _ _ _ _ _ _=>rfl)
  (fun j x m hj hJ=>by
   rw[abi] at hJ ⊢;obtain⟨q1,q2⟩:=hJ;obtain⟨gk,rfl⟩:=iB hj;rw[aci];obtain⟨r,u,s⟩:=P0 ns j (by omega);refine⟨m++[r],⟨by simp[q1],fun r' iT=>?_⟩,fun ph σ H zq=>?_⟩
   ·rcases gn iT with z | z
    ·exact q2 r' z
    ·rw[z];exact u
   ·obtain⟨o3,o4,o5,rfl,h1,x1⟩:=zq;obtain⟨p4,p5,H',e,a1,a2⟩:=s ph.length _ (some (.int many)) o4 o5 none none none none H h1 (by rw[aan];omega);exact⟨_,_,rfl,_,H',e,_,p4,p5,rfl,by rw[a1];simp,a2.toEx x1 (fun m hm=>by simp at hm;omega)⟩)
  ⟨rfl,fun _ h=>(nomatch h)⟩
 obtain⟨as,⟨a1,a2⟩,XB⟩:=mm (M:=List Int) (A:=PH×PH×Option W) (chk:=fun _ _=>true) (g:=gN 3) (b:=yy)
  (fun j m=>m.length=j/\∀x∈m,x∈dC many)
  (fun a j m σ H=>∃pi o3 o4 o5 o8,σ=[some (.int many),some (.fl (ns.map W.int)),some (.ref a.1.length),o3,o4,o5,some (.ref pi),some (.ref a.2.1.length),o8,none]/\a.2.1[pi]? =some (.lst ((dC many).map W.int))/\a.2.2=some (.ref pi)/\H[a.2.1.length]? =some (.lst (m.map W.int))/\Ex a.2.1 H)
  (dc 0 many) 0 [] (fun _ _ _ _ _ _=>rfl)
  (fun j x m hj hJ=>by
   rw[abi] at hJ ⊢;obtain⟨q1,q2⟩:=hJ;obtain⟨gk,rfl⟩:=iB hj;rw[aci];obtain⟨v,hv,s⟩:=P4 ns many j h7 gk yo;refine⟨m++[v],⟨by simp[q1],fun x hx=>?_⟩,fun a σ H zq=>?_⟩
   ·rcases gn hx with z | z
    ·exact q2 x z
    ·rw[z];exact hv
   ·obtain⟨pi,o3,o4,o5,o8,rfl,hp,ZJ,h1,x1⟩:=zq;obtain⟨p4,p8,e⟩:=s pi a.2.1.length _ (some (.ref a.1.length)) o4 o5 o8 none H (x1.get hp) h1 (by rw[aan];omega);exact⟨_,_,rfl,_,_,e,pi,_,p4,o5,p8,rfl,hp,ZJ,by rw[da h1];simp,Ex.set x1 (aat _) _⟩)
  ⟨rfl,fun _ h=>(nomatch h)⟩
 rw[abi,j9] at r1 a1;refine⟨[⟨[],rs,.go 1 ((aaK many).map fun i:Nat=>(i:Int))⟩,⟨dC many,.turn::(dC many).map Row.tell,.go 1 as⟩],⟨by simp,by simp,⟨((aaK many).map fun i:Nat=>(i:Int))++dC many,by simp[dC];omega,fun b hb=>?_⟩,fun P p0 ps k hk=>?_⟩,fun ph=>?_⟩
 ·have hl:(dC many).length=many:=by simp[dC]
  rcases aaO.mp hb with rfl | hb
  ·exact⟨by simp only;omega,fun x hx=>(by rw[aav.mp hx];simp),fun r hr x hx=>(by rw[r2 r hr] at hx;cases hx),fun x hx=>abf _ hx,by simp[En.use];omega,by simp⟩
  ·rw[aav.mp hb];refine⟨by simp only[abb,aan,hl];omega,fun x hx=>(by rw[aav.mp hx];simp),fun r hr x hx=>?_,fun x hx=>aaT _ (a2 x hx),by simp only[En.use];omega,by simp only[hl];omega⟩
   rcases aaO.mp hr with rfl | hr
   ·cases hx
   ·obtain⟨v,hv,rfl⟩:=aaD.mp hr;rw[aav.mp hx];exact aaT _ hv
 ·have:k=0\/k=1:=by simp at hk;omega
  rcases this with rfl | rfl
  ·exact p0
  ·exact ps 0 _ p0 rfl 1 (by simp[En.to])
 ·obtain⟨σ1,H1,e1,o3,o4,o5,rfl,h1,x1⟩:=XA ph [some (.int many),some (.fl (ns.map W.int)),some (.ref ph.length),none,none,none,none,none,none,none] (ph++[.lst []]) ⟨_,_,_,rfl,bc _ _,Ex.one _ _⟩;have i2:cY (ab (aa 0) af) [some (.int many),some (.fl (ns.map W.int)),some (.ref ph.length),o3,o4,o5,none,none,none,none] H1=.ok ((aaK many).map (fun i:Nat=>W.int i),fun _=>true) H1:=by
   rw[fZ rfl (by omega) (by omega),aba,<- nZ]
  obtain⟨H2,c2,x2⟩:=j8 (aaK many) (fun i:Nat=>W.int i) (cap:=[none]) (g:=gN 0) (c:=dH) (e:=ae addW (eC (.int (100))) (ae cI (eC (.int (3))) (aa 0))) i2 (fun _ _=>rfl) (by rw[abN];exact aaN yo (by decide))
   (fun j=>some (.int (100+3*(j:Int)))) (fun σ=>∃o,σ=[o]) ⟨none,rfl⟩
   (fun j hj σ K ck hx=>by
    obtain⟨o,bK⟩:=ck;subst bK;refine⟨_,rfl,⟨_,rfl⟩,true,K,rfl,Ex.refl _,.inr ⟨rfl,_,K,?_,Ex.refl _,rfl⟩⟩;show(ae addW (eC (.int (100))) (ae cI (eC (.int (3))) (aa 0))) [some (.int j)] K=_
    push_cast [gO (jC (a:=3) (b:=(j:Int)) (by decide) (by decide))]
    all_goals rfl)
  rw[jx,show((aaK many).map fun j:Nat=>W.int (100+3*(j:Int)))=(dC many).map W.int by unfold dC;rw[abF];rfl] at x2;have iR:=x2.get (bc H1 (.lst ((dC many).map W.int)));have y2:Ex H1 H2:=(Ex.one _ _).trans x2;obtain⟨iY,H3,e3,pi,yp,yq,D2,yr,rfl,ym,ZK,h3,x3⟩:=XB (ph,H2,some (.ref H1.length)) [some (.int many),some (.fl (ns.map W.int)),some (.ref ph.length),o3,o4,o5,some (.ref H1.length),some (.ref H2.length),none,none] (H2++[.lst []]) ⟨H1.length,_,_,_,_,rfl,iR,rfl,bc _ _,Ex.one _ _⟩;obtain rfl:H1.length=pi:=by simpa using ZK
  simp only at h3 x3 ym;have x4:Ex H3 (H3++[.lst [.tup [.str "turn"]]]):=Ex.one _ _;have CL:=x4.get (x3.get iR);have hl:(dC many).length=many:=by simp[dC]
  generalize lM:H3++[.lst [.tup [.str "turn"]]]=H4 at x4 CL;have ZM:H4[H3.length]? =some (.lst [.tup [.str "turn"]]):=by rw[<- lM];exact bc _ _
  obtain⟨H5,c5,x5⟩:=j8 (dC many) (fun i:Int=>W.int i) (im:=c8 (aa 6)) (cap:=[none]) (g:=gN 0) (c:=dH) (e:=aQ (ab (eC (.str "tell")) (ab (aa 0) af))) (σ:=[some (.int many),some (.fl (ns.map W.int)),some (.ref ph.length),yp,yq,D2,some (.ref H1.length),some (.ref H2.length),yr,none]) (iz rfl CL) (fun _ y=>decide_eq_true (y.get CL)) (by rw[hl];exact aaN yo (by decide))
   (fun v=>some (Row.tell v).w) (fun σ=>∃o,σ=[o]) ⟨none,rfl⟩
   (fun v hv σ K fW hx=>by
    obtain⟨o,bK⟩:=fW;subst bK;exact⟨_,rfl,⟨_,rfl⟩,true,K,rfl,Ex.refl _,.inr ⟨rfl,_,K,rfl,Ex.refl _,rfl⟩⟩)
  rw[jx] at x5;have ZN:=x5.get (bc H4 (.lst ((dC many).map fun v=>(Row.tell v).w)));have y5:Ex H4 H5:=(Ex.one _ _).trans x5;have sk:=qS (y5.get ZM) ZN (by simp only[abb,afg,aan,hl];exact aaN (by omega:_<=100000) (by decide));have We:[W.tup [.str "turn"]]++((dC many).map fun v=>(Row.tell v).w)=(Row.turn::(dC many).map Row.tell).map Row.w:=by
   rw[aaX,abF];rfl
  rw[We] at sk;have x6:Ex H5 (H5++[.lst ((Row.turn::(dC many).map Row.tell).map Row.w)]):=Ex.one _ _;have jm:=bc H5 (.lst ((Row.turn::(dC many).map Row.tell).map Row.w));generalize hE6:H5++[PO.lst ((Row.turn::(dC many).map Row.tell).map Row.w)]=H6 at x6 jm sk;have JQ:=(x4.trans y5).trans x6;have tB:=x3.trans JQ;have ZO:=JQ.get h3;have ZP:=tB.get iR;have ZQ:=(y2.trans tB).get h1;have x7:Ex H6 (H6++[.lst []]):=Ex.one _ _;have ZR:∀o,Ex H6 (H6++[.lst []]++[o]):=fun o=>(Ex.one _ _).trans (Ex.one _ _)
  have ZS:lift (wC (.int many)) (H6++[.lst []])=.ok (.tup (((aaK many).map fun i:Nat=>(i:Int)).map W.int)) (H6++[.lst []]):=by
   unfold lift wC;simp only;rw[if_pos ⟨by omega,by omega⟩,aba,nZ,abF];rfl
  refine⟨(H6++[PO.lst []]).length,H6++[PO.lst []]++[PO.lst [.tup [.ref H6.length,.ref ph.length,(En.go 1 ((aaK many).map fun i:Nat=>(i:Int))).w],.tup [.ref H1.length,.ref H5.length,(En.go 1 as).w]]],?_,(((x1.trans y2).trans tB).trans x7).trans (Ex.one _ _),⟨[.tup [.ref H6.length,.ref ph.length,(En.go 1 ((aaK many).map fun i:Nat=>(i:Int))).w],.tup [.ref H1.length,.ref H5.length,(En.go 1 as).w]],bc _ _,rfl,fun k w b hw hb=>?_⟩,(((x1.trans y2).trans tB).trans x7).len⟩
  ·unfold yE t8;rw[gU];refine bq (σ1:=[some (.int many),some (.fl (ns.map W.int)),some (.ref ph.length),none,none,none,none,none,none,none]) (ph1:=ph++[.lst []]) rfl ?_;refine bq (eZ (fZ rfl (by omega) (by omega)) (by rw[aba];exact e1)) ?_;refine bq (σ1:=[some (.int many),some (.fl (ns.map W.int)),some (.ref ph.length),o3,o4,o5,some (.ref H1.length),none,none,none]) (ph1:=H2) (asg c2) ?_;refine bq (σ1:=[some (.int many),some (.fl (ns.map W.int)),some (.ref ph.length),o3,o4,o5,some (.ref H1.length),some (.ref H2.length),none,none]) (ph1:=H2++[.lst []]) (asg (by rw[kb,ka,fD];exact k8 [] H2 (small (by simp)))) ?_;refine bq (eZ (fZ rfl (by omega) (by omega)) (by rw[aba];exact e3)) ?_;refine bq (σ1:=[some (.int many),some (.fl (ns.map W.int)),some (.ref ph.length),yp,yq,D2,some (.ref H1.length),some (.ref H2.length),yr,some (.ref H5.length)]) (ph1:=H6) (asg ?_) (br ?_)
   ·rw[hX];show au ((aR (ab (aQ (ab (eC (.str "turn")) af)) af)) _) _ H3=_;rw[kb];ac_nf;rw[gp _ _ _ (small (by simp)),lM,bg c5];exact sk
   ·ac_nf
    rw[gp _ _ _ (small (by simp))];refine aB (show wD (aa 0) [some (.int many),some (.fl (ns.map W.int)),some (.ref ph.length),yp,yq,D2,some (.ref H1.length),some (.ref H2.length),yr,some (.ref H5.length)] (H6++[.lst []])=.ok (.tup (((aaK many).map fun i:Nat=>(i:Int)).map W.int)) (H6++[.lst []]) from ZS) ?_;ac_nf;refine aB (zZ (x7.get ZO)) ?_;ac_nf;exact k8 _ _ (small (by simp))
  ·have hx:=ZR (PO.lst [.tup [.ref H6.length,.ref ph.length,(En.go 1 ((aaK many).map fun i:Nat=>(i:Int))).w],.tup [.ref H1.length,.ref H5.length,(En.go 1 as).w]]);have hk:k=0\/k=1:=by have:=(aam.mp hw).1;simp at this;omega
   rcases hk with rfl | rfl
   ·simp at hw hb
    subst hw hb;exact⟨H6.length,ph.length,rfl,((x1.trans y2).trans tB).len,aat _,(Ex.one _ _).get (bc _ _),hx.get ZQ⟩
   ·simp at hw hb
    subst hw hb;exact⟨H1.length,H5.length,rfl,x1.len,(((x1.trans y2).trans x3).trans (x4.trans y5)).len,hx.get ZP,hx.get jm⟩
theorem P5(ns:List Int):∃G,cZ G/\∀ph,∃gi ph',l7 [.fl (ns.map W.int)] ph=.ok (.ref gi) ph'/\Ex ph ph'/\cu ph.length ph' gi G/\ph.length<=gi:=by
 obtain⟨c0,h0⟩:∃c0,c0=ns.getD 0 0:=⟨_,rfl⟩
 have pN:=RM ns;rw[<- h0] at pN;have q1:=fA c0 6 (by decide);have q2:=fA (ns.getD 1 0) 3 (by decide);have t1:∀(v:Int) (ph:PH),(eT (ae aY (ae aN (ae bS (aC cG (ab (aa 0) (ab (eC (.int (0))) af))) (eC (.int (6)))) (eC (.int (9)))) (eC (.int v)))) [some (.fl (ns.map W.int)),none,none,none,none,none,none,none,none,none,none,none,none,none,none,none,none,none] ph=.ok (decide ((c0.fdiv 6).fmod 9=v)) ph:=fun v ph=>by
  push_cast [pN,dI (show(6:Int)≠0 by decide) (by decide),bZ (show(9:Int)≠0 by decide)]
 obtain⟨d,hd,ed⟩:=la (a:=c0.fdiv 54) (n:=6) (by decide);by_cases c1:(c0.fdiv 6).fmod 9=4
 ·refine⟨_,PZ (15+d) (ns.getD (2:Int).toNat 0) (by omega) (by omega),fun ph=>?_⟩;obtain⟨gi,ph',e,x⟩:=RY (15+d) (ns.getD (2:Int).toNat 0) (by omega) (by omega) ph;refine⟨gi,ph',?_,x⟩;unfold l7 ny;rw[gf];refine fx (cw ((t1 4 ph).trans (by rw[decide_eq_true c1])) (retS ?_))
  push_cast [pN,i7 ns 2 (by decide),dI (show(54:Int)≠0 by decide) (by decide),bZ (show(6:Int)≠0 by decide)]
  rw[ed,show(15:Int)+(d:Int)=((15+d:Nat):Int) by omega];exact e
 ·have skip:∀{t:TM} {a:SM} {σ:aS} {ph ph1:PH},t σ ph=.ok false ph1->aV t a aZ σ ph=.ok (.nx σ) ph1:=fun h=>bN h rfl
  by_cases c2:(c0.fdiv 6).fmod 9=5
  ·obtain⟨G,hG,s⟩:=UW ns (7+d) (by omega) (by omega);refine⟨G,hG,fun ph=>?_⟩;obtain⟨gi,ph',e,x⟩:=s ph;refine⟨gi,ph',?_,x⟩;unfold l7 ny;rw[gf];refine bq (skip ((t1 4 ph).trans (by rw[decide_eq_false c1]))) (fx (cw ((t1 5 ph).trans (by rw[decide_eq_true c2])) (retS ?_)))
   push_cast [pN,dI (show(54:Int)≠0 by decide) (by decide),bZ (show(6:Int)≠0 by decide)]
   rw[ed,show(7:Int)+(d:Int)=((7+d:Nat):Int) by omega];exact e
  ·obtain⟨m,hm,em⟩:=la (a:=c0) (n:=6) (by decide);obtain⟨G,hG,s⟩:=RX ns (1+m) (1+(ns.getD 1 0).fmod 3) (c0.fdiv 54) (by omega) (by omega) (by omega);refine⟨G,hG,fun ph=>?_⟩;obtain⟨gi,ph',e,x⟩:=s ph;refine⟨gi,ph',?_,x⟩;unfold l7 ny;rw[gf];refine bq (skip ((t1 4 ph).trans (by rw[decide_eq_false c1]))) (bq (skip ((t1 5 ph).trans (by rw[decide_eq_false c2]))) (bq (asg (w:=.int ((1+m:Nat):Int)) (ph1:=ph) ?_) (bq (asg (w:=.int (1+(ns.getD 1 0).fmod 3)) (ph1:=ph) ?_) (bq (asg (w:=.int (c0.fdiv 54)) (ph1:=ph) ?_) e))))
   ·push_cast [pN,bZ (show(6:Int)≠0 by decide)]
    rw[em,show(1:Int)+(m:Int)=((1+m:Nat):Int) by omega]
    all_goals rfl
   ·push_cast [Gh,bZ (show(3:Int)≠0 by decide)]
    all_goals rfl
   ·push_cast [pN,dI (show(54:Int)≠0 by decide) (by decide)]
    all_goals rfl
noncomputable def rn(t m v:Int):Int:=(v*t+m).fmod 1009
noncomputable def Row.as(t m:Int):Row->Row
 | .set v n=>.set (rn t m v) n
 | .gz v w a b=>.gz (rn t m v) w (rn t m a) (rn t m b)
 | .take v=>.take (rn t m v)
 | .tell v=>.tell (rn t m v)
 | .turn=>.turn
noncomputable def En.as(t m:Int):En->En
 | .go k as=>.go k (as.map (rn t m))
 | .iff v a b=>.iff (rn t m v) a b
 | .fin=>.fin
noncomputable def bp.as(t m:Int)(b:bp):bp:=⟨b.ps.map (rn t m),b.rs.map (Row.as t m),b.en.as t m⟩
noncomputable def wd(y:String):TM:=eT (ae aY (ae ah (aa 0) (eC (.int 0))) (eC (.str y)))
variable{x y:String}
theorem wQ:wd y (some (.tup (.str x::ws))::σ) ph=.ok (decide (x=y)) ph:=by
 unfold wd;ac_nf
theorem wF{b:SM}{k:Fl->Mo W}{r:Out W}(h:decide (x=y)=false)(h2:au (b (some (.tup (.str x::ws))::σ)) k ph=r):au (av (aV (wd y) a aZ) b (some (.tup (.str x::ws))::σ)) k ph=r:=bq (bN (wQ.trans (h▸rfl)) rfl) h2
theorem wT{e:EM}{b:SM}{w:W}(h2:e (some (.tup (.str x::ws))::σ) ph=.ok w ph1):au (av (aV (wd x) (aW e) aZ) b (some (.tup (.str x::ws))::σ)) dY ph=.ok w ph1:=fx (cw (wQ.trans (by rw[decide_eq_true rfl])) (retS h2))
theorem wO{z:String}:dX (wd y) (wd z) (some (.tup (.str x::ws))::σ) ph=.ok (decide (x=y)||decide (x=z)) ph:=by
 rw[mq,bg wQ];cases decide (x=y)
 ·exact wQ
 ·rfl
theorem iu{e:EM}{r:AM}{aI:PH}{w:W}(h:e σ ph=.ok w ph1)(h2:r σ ph1=.ok ws aI):ab e r σ ph=.ok (w::ws) aI:=aB h (aB h2 rfl)
variable{m:Int}
theorem nm{a b c:EM}{S:aS}{t:Int}(ht:0<t/\t<2000)(ha:a S=aA (.int v))(hb:b S=aA (.int t))(hc:c S=aA (.int m)):ae aN (ae addW (ae cI a b) c) (eC (.int 1009)) S ph=.ok (.int (rn t m v)) ph:=by
 rw[hX,hX,hX,ha,hb,hc]
 push_cast [gO (vW (a:=v) (b:=t) (by omega) (by omega)),bZ (show(1009:Int)≠0 by decide)]
 rfl
theorem CM:eT (ae aY (aX bv (ab (aa 0) af)) (eC (.int 1))) (some (.tup ws)::σ) ph=.ok (decide ((ws.length:Int)=1)) ph:=aB (congrFun (lb ws.length 1) ph) rfl
theorem UX{t:Int}(ht:0<t/\t<2000)(r:Row)(ph:PH):qk [r.w,.int t,.int m] ph=.ok (r.as t m).w ph:=by
 unfold qk uL;rw[ia];cases r with
 | turn=>rfl
 | set v n=>exact bq (bN CM rfl) (bq (asg (nm ht rfl rfl rfl)) (wT rfl))
 | gz v w a b=>exact bq (bN CM rfl) (bq (asg (nm ht rfl rfl rfl)) (wF rfl (wT (aB (iu rfl (iu rfl (iu rfl (iu (nm ht rfl rfl rfl) (iu (nm ht rfl rfl rfl) rfl))))) rfl))))
 | _=>exact bq (bN CM rfl) (bq (asg (nm ht rfl rfl rfl)) (wF rfl (wF rfl rfl)))
theorem Wf(b:SM)(x y z:W):fM b 3 3 [x,y,z]=au (b [some x,some y,some z]) dY:=(rfl)
theorem UY{t:Int}(ht:0<t/\t<2000)(e:En)(he:e.use.length<=1000)(ph:PH):∃ph',uK [e.w,.int t,.int m] ph=.ok (e.as t m).w ph'/\Ex ph ph':=by
 unfold uK uJ;rw[Wf];cases e with
 | fin=>exact⟨ph,wF rfl (wF rfl rfl),Ex.refl _⟩
 | iff v a b=>exact⟨ph,wF rfl (wT (aB (iu rfl (iu (nm ht rfl rfl rfl) (iu rfl (iu rfl rfl)))) rfl)),Ex.refl _⟩
 | go k as=>
  obtain⟨H1,c1,x1⟩:=j8 as (fun v:Int=>W.int v) (im:=c8 (ae ah (aa 0) (eC (.int (2))))) (cap:=[none,some 2,some 1]) (g:=gN 0) (c:=dH) (e:=ae aN (ae addW (ae cI (aa 0) (aa 2)) (aa 1)) (eC (.int (1009)))) (σ:=[some (En.go k as).w,some (.int t),some (.int m)]) (ph0:=ph) (ph:=ph) (chk:=fun _=>true) (Oj rfl) (fun _ _=>rfl) (aaN he (by decide))
   (fun v=>some (.int (rn t m v))) (fun σ=>∃o,σ=[o,some (.int m),some (.int t)]) ⟨none,rfl⟩
   (fun v hv σ K ck hx=>by
    obtain⟨o,bK⟩:=ck;subst bK;exact⟨_,rfl,⟨_,rfl⟩,true,K,rfl,Ex.refl _,.inr ⟨rfl,_,K,nm ht rfl rfl rfl,Ex.refl _,rfl⟩⟩)
  rw[jx] at x1;have h1:=x1.get (bc ph (.lst (as.map fun v=>W.int (rn t m v))));refine⟨H1,wT (aB (iu rfl (iu rfl (iu (aB (iu c1 rfl) (zZ h1)) rfl))) ?_),(Ex.one _ _).trans x1⟩;show Out.ok (W.tup [.str "go",.int k,.tup (as.map fun v=>W.int (rn t m v))]) H1=.ok (W.tup [.str "go",.int k,.tup ((as.map (rn t m)).map W.int)]) H1;rw[abF];rfl
theorem cZ.as{G:List bp}(h:cZ G)(t m:Int):cZ (G.map (bp.as t m)):=by
 have JU:∀e:En,(e.as t m).to=e.to:=fun e=>by cases e <;> rfl
 have JV:∀e:En,(e.as t m).use=e.use.map (rn t m):=fun e=>by cases e <;> rfl
 have ZU:∀r:Row,(r.as t m).use=r.use.map (rn t m):=fun r=>by cases r <;> rfl
 obtain⟨S,hS,hb⟩:=h.vs;refine⟨by simpa using h.pos,by simpa using h.top,⟨S.map (rn t m),by simpa using hS,fun b' df=>?_⟩,fun P p0 ps k hk=>?_⟩
 ·obtain⟨b,sP,rfl⟩:=aaD.mp df;have B:=hb b sP;rw[aan];refine⟨by simpa[bp.as] using B.rl,fun x hx=>?_,fun r' iT x hx=>?_,fun x hx=>?_,?_,by simpa[bp.as] using B.pl⟩
  ·simp only[bp.as,JU] at hx;exact B.to x hx
  ·obtain⟨r,hr,rfl⟩:=aaD.mp iT;rw[ZU] at hx;obtain⟨y,hy,rfl⟩:=aaD.mp hx;exact abx (B.ru r hr y hy)
  ·simp only[bp.as,JV] at hx;obtain⟨y,hy,rfl⟩:=aaD.mp hx;exact abx (B.eu y hy)
  ·simp only[bp.as,JV,aan];exact B.el
 ·refine h.reach P p0 (fun j b pj hj k hk=>?_) k (by simpa using hk);exact ps j (b.as t m) pj (by rw[aau,hj];rfl) k (by simp only[bp.as,JU];exact hk)
variable{o8:Option W}
theorem RZ{t:Int}(ht:0<t/\t<2000){g2 p:Nat}(hp:H[p]? =some (.lst (b.ps.map W.int)))(hr:H[r]? =some (.lst (b.rs.map Row.w)))(hg:H[g2]? =some (.lst ws))(hz:ws.length<=100)(hpl:b.ps.length<=1000)(tD:b.rs.length<=1000)(JY:b.en.use.length<=1000) :
  ∃p8 H' w,pS [s0,s1,some (.int t),some (.int m),some (.ref g2),some (.ref p),some (.ref r),some b.en.w,o8] H=.ok (.nx [s0,s1,some (.int t),some (.int m),some (.ref g2),some (.ref p),some (.ref r),some b.en.w,p8]) H'/\Kp [g2] H H'/\H'[g2]? =some (.lst (ws++[w]))/\gH H.length H' w (b.as t m):=by
 have hm:∀v,lift (mN (.int v) (.int t))=aA (.int (v*t)):=fun v=>gO (vW (by omega) (by omega))
 have pF:=f9 hg;obtain⟨H1,c1,x1⟩:=j8 b.ps (fun v:Int=>W.int v) (im:=c8 (aa 5)) (cap:=[none,some 3,some 2]) (g:=gN 0) (c:=dH) (e:=ae aN (ae addW (ae cI (aa 0) (aa 2)) (aa 1)) (eC (.int (1009)))) (σ:=[s0,s1,some (.int t),some (.int m),some (.ref g2),some (.ref p),some (.ref r),some b.en.w,o8]) (iz rfl hp) (fun _ y=>decide_eq_true (y.get hp)) (aaN hpl (by decide))
  (fun v=>some (.int (rn t m v))) (fun σ=>∃o,σ=[o,some (.int m),some (.int t)]) ⟨none,rfl⟩
  (fun v hv σ K ck hx=>by
   obtain⟨o,bK⟩:=ck;subst bK;refine⟨_,rfl,⟨_,rfl⟩,true,K,rfl,Ex.refl _,.inr ⟨rfl,_,K,?_,Ex.refl _,rfl⟩⟩;show(ae aN (ae addW (ae cI (aa 0) (aa 2)) (aa 1)) (eC (.int (1009)))) [some (.int v),some (.int m),some (.int t)] K=_
   push_cast [hm,bZ (show(1009:Int)≠0 by decide)]
   all_goals rfl)
 rw[jx] at x1;have h1:=x1.get (bc H (.lst (b.ps.map fun v=>W.int (rn t m v))));have y1:Ex H H1:=(Ex.one _ _).trans x1;obtain⟨H2,c2,x2⟩:=j8 b.rs Row.w (im:=c8 (aa 6)) (cap:=[none,some 2,some 3]) (g:=gN 0) (c:=dH) (e:=aC qk (ab (aa 0) (ab (aa 1) (ab (aa 2) af)))) (σ:=[s0,s1,some (.int t),some (.int m),some (.ref g2),some (.ref p),some (.ref r),some b.en.w,some (.ref H.length)]) (iz rfl (y1.get hr)) (fun _ y=>decide_eq_true (y.get (y1.get hr))) (aaN tD (by decide))
  (fun v=>some (v.as t m).w) (fun σ=>∃o,σ=[o,some (.int t),some (.int m)]) ⟨none,rfl⟩
  (fun v hv σ K fW hx=>by
   obtain⟨o,bK⟩:=fW;subst bK;exact⟨_,rfl,⟨_,rfl⟩,true,K,rfl,Ex.refl _,.inr ⟨rfl,_,K,UX ht v K,Ex.refl _,rfl⟩⟩)
 rw[jx] at x2;have h2:=x2.get (bc H1 (.lst (b.rs.map fun v=>(v.as t m).w)));have y2:Ex H1 H2:=(Ex.one _ _).trans x2;obtain⟨H3,c3,y3⟩:=UY (m:=m) ht b.en JY H2;have pJ:=(y1.trans y2).trans y3;have ea:=fh (o:=aa 4) (e:=aQ (ab (aa 8) (ab (dW (c8 (aa 6)) [none,some 2,some 3] (gN 0) dH (aC qk (ab (aa 0) (ab (aa 1) (ab (aa 2) af))))) (ab (aC uK (ab (aa 7) (ab (aa 2) (ab (aa 3) af)))) af)))) (σ:=[s0,s1,some (.int t),some (.int m),some (.ref g2),some (.ref p),some (.ref r),some b.en.w,some (.ref H.length)]) (ph:=H1) (ph1:=H3) (w:=.tup [.ref H.length,.ref H1.length,(b.en.as t m).w]) rfl ⟨_,y1.get hg⟩ (by
  rw[qR,iA];show au (au (aA (W.ref H.length)) _) _ H1=_;rw[fD,dS,iA,dS,bg c2,dS,iA,dS,nR];ac_nf;refine aB c3 ?_
  all_goals rfl) (pJ.get hg) (by omega)
 have kO:=y1.len;refine⟨some (.ref H.length),H3.set g2 (PO.lst (ws++[W.tup [.ref H.length,.ref H1.length,(b.en.as t m).w]])),W.tup [.ref H.length,.ref H1.length,(b.en.as t m).w],?_,(Kp.ex pJ).trans (Kp.set (i:=g2) (by simp) _ _),da (pJ.get hg),H.length,H1.length,rfl,aat _,kO,?_,?_⟩
 ·unfold pS;exact sq (asg c1) ea
 ·rw[cy (by omega),(y2.trans y3).get h1];show some (PO.lst _)=some (PO.lst ((b.ps.map (rn t m)).map W.int));rw[abF];rfl
 ·rw[cy (by omega),y3.get h2];show some (PO.lst _)=some (PO.lst ((b.rs.map (Row.as t m)).map Row.w));rw[abF];rfl
theorem Gj(ns:List Int){t c:Int}(ht:0<t/\t<2000)(hG:cZ G)(s:∀ph,∃gi ph',l7 [.fl (ns.map W.int)] ph=.ok (.ref gi) ph'/\Ex ph ph'/\cu ph.length ph' gi G/\ph.length<=gi)(ph:PH) :
  ∃gi ph',au (av (ax (aR af) (gN 4)) (av (cT (c8 (aC l7 (ab (aa 0) af))) (jd 3 [(gN 5),(gN 6),(gN 7)]) pS) (aW (aa 4))) [some (.fl (ns.map W.int)),some (.int c),some (.int t),some (.int m),none,none,none,none,none]) dY ph=.ok (.ref gi) ph'/\Ex ph ph'/\cu ph.length ph' gi (G.map (bp.as t m))/\ph.length<=gi:=by
 obtain⟨gi,H1,e1,x1,⟨ws,g1,g2,g3⟩,DX⟩:=s (ph++[.lst []]);have l1:(ph++[PO.lst []]).length=ph.length+1:=by simp
 rw[l1] at g3 DX;have CN:=hG.top;obtain⟨S,_,hS⟩:=hG.vs;have kO:=x1.len;obtain⟨ao,H',e,p5,p6,p7,p8,rfl,k,⟨bQ,a1,a2,a3⟩⟩:=hU (chk:=fun p=>decide (p[gi]? =some (.lst ws))) (g:=jd 3 [(gN 5),(gN 6),(gN 7)]) (b:=pS)
  (fun j σ H=>∃p5 p6 p7 p8,σ=[some (.fl (ns.map W.int)),some (.int c),some (.int t),some (.int m),some (.ref ph.length),p5,p6,p7,p8]/\Kp [ph.length] H1 H/\cu (ph.length+1) H ph.length ((G.take j).map (bp.as t m)))
  ws [some (.fl (ns.map W.int)),some (.int c),some (.int t),some (.int m),some (.ref ph.length),none,none,none,none] H1
  (fun j σ H nv=>by obtain⟨_,_,_,_,_,k,_⟩:=nv;exact decide_eq_true (k.2 _ _ (by simp;omega) g1))
  (fun j y σ H hj D3=>by
   obtain⟨p5,p6,p7,p8,bK,k,us,u1,u2,u3⟩:=D3;subst bK;have kC:=(aam.mp hj).1;obtain⟨b,hb⟩:∃b,G[j]? =some b:=cW (by omega);have sP:=aap hb;obtain⟨p,r,rfl,q1,q2,q3,q4⟩:=g3 j y b hj hb;have JZ:us.length<=100:=by rw[u2,aan,abI];omega
   have B:=hS b sP;obtain⟨ZV,H',w,e,k',a1,a2⟩:=RZ (s0:=some (.fl (ns.map W.int))) (s1:=some (.int c)) (m:=m) (o8:=p8) ht (k.2 p _ (by simp;omega) q3) (k.2 r _ (by simp;omega) q4) u1 JZ (by have:=B.pl;omega) (by have:=B.rl;omega) (by have:=B.el;omega);refine⟨_,_,rfl,_,H',e,_,.inl rfl,_,_,_,ZV,rfl,k.trans k',?_⟩;rw[ju hb,abj];have ip:=k.1;exact cu.snoc u1 u2 u3 k' (fun m hm=>by simp at hm;omega) a1 (a2.lo (by omega)))
  ⟨none,none,none,none,rfl,Kp.refl _ _,[],x1.get (bc _ _),rfl,fun k w b h=>by simp at h⟩
 rw[g2,abV] at a2 a3;refine⟨ph.length,H',?_,k.toEx ((Ex.one _ _).trans x1) (fun m hm=>by simp at hm;omega),⟨bQ,a1,a2,fun k w b h1 h2=>(a3 k w b h1 h2).lo (by omega)⟩,aat _⟩;refine bq (σ1:=[some (.fl (ns.map W.int)),some (.int c),some (.int t),some (.int m),some (.ref ph.length),none,none,none,none]) (ph1:=ph++[.lst []]) (asg (by rw[kb,ka,fD];exact k8 [] ph (small (by simp)))) (bq (eZ (iz ?_ g1) e) rfl);ac_nf;exact e1
noncomputable def Lw(G:List bp):Prop:=∀b∈G,(∀r∈b.rs,∀x∈r.use,x<1009)/\∀x∈b.en.use,x<1009
theorem Hl(G:List bp)(t m:Int):Lw (G.map (bp.as t m)):=fun b hb=>by
 have lt:∀v,rn t m v<1009:=fun v=>(fA _ 1009 (by decide)).2
 obtain⟨b,_,rfl⟩:=aaD.mp hb;constructor
 ·intro r hr x hx;obtain⟨r,_,rfl⟩:=aaD.mp hr;cases r with
  | gz v w c d=>
   rcases aaO.mp hx with rfl | hx
   ·exact lt _
   ·rw[aav.mp hx];exact lt _
  | tell v=>
   rw[aav.mp hx];exact lt _
  | _=>cases hx
 ·intro x hx;unfold bp.as at hx;cases he:b.en with
  | go k as=>
   simp only[he,En.as,En.use] at hx;obtain⟨v,_,rfl⟩:=aaD.mp hx;exact lt _
  | iff v c d=>
   simp only[he,En.as,En.use] at hx;rw[aav.mp hx];exact lt _
  | fin=>
   simp only[he,En.as,En.use] at hx;cases hx
theorem P6(ns:List Int):∃G,cZ G/\Lw G/\∀ph,∃gi ph',qb [.fl (ns.map W.int)] ph=.ok (.ref gi) ph'/\Ex ph ph'/\cu ph.length ph' gi G/\ph.length<=gi:=by
 obtain⟨G,hG,s⟩:=P5 ns;obtain⟨c,hc⟩:∃c,c=ns.getD 1 0:=⟨_,rfl⟩
 have cf:=Gh ns;rw[<- hc] at cf;have q1:=fA (c.fdiv 6) 1008 (by decide);have et:∀ph:PH,(eT (ae aY (ae aN (ae bS (aa 1) (eC (.int (3)))) (eC (.int (2)))) (eC (.int (1))))) [some (.fl (ns.map W.int)),some (.int c),some (.int 1),some (.int 0),none,none,none,none,none] ph=.ok (decide ((c.fdiv 3).fmod 2=1)) ph:=fun ph=>by
  push_cast [dI (show(3:Int)≠0 by decide) (by decide),bZ (show(2:Int)≠0 by decide)]
 have pre:∀{ph:PH} {t m:Int} {b:SM} {r:Out W},aV (eT (ae aY (ae aN (ae bS (aa 1) (eC (.int (3)))) (eC (.int (2)))) (eC (.int (1))))) (av (ax (ae addW (eC (.int (1))) (ae aN (ae bS (aa 1) (eC (.int (6)))) (eC (.int (1008))))) (gN 2)) (ax (ae aN (ae bS (aa 1) (eC (.int (6048)))) (eC (.int (1009)))) (gN 3))) aZ [some (.fl (ns.map W.int)),some (.int c),some (.int 1),some (.int 0),none,none,none,none,none] ph=.ok (.nx [some (.fl (ns.map W.int)),some (.int c),some (.int t),some (.int m),none,none,none,none,none]) ph →
   au (b [some (.fl (ns.map W.int)),some (.int c),some (.int t),some (.int m),none,none,none,none,none]) dY ph=r →
   au (av (ax (aC cG (ab (aa 0) (ab (eC (.int (1))) af))) (gN 1)) (av (ax (eC (.int (1))) (gN 2)) (av (ax (eC (.int (0))) (gN 3)) (av (aV (eT (ae aY (ae aN (ae bS (aa 1) (eC (.int (3)))) (eC (.int (2)))) (eC (.int (1))))) (av (ax (ae addW (eC (.int (1))) (ae aN (ae bS (aa 1) (eC (.int (6)))) (eC (.int (1008))))) (gN 2)) (ax (ae aN (ae bS (aa 1) (eC (.int (6048)))) (eC (.int (1009)))) (gN 3))) aZ) b))) [some (.fl (ns.map W.int)),none,none,none,none,none,none,none,none]) dY ph=r:=fun{ph t m b r} hi hr=>by
  refine bq (asg (w:=.int c) (ph1:=ph) ?_) (bq (asg (w:=.int 1) (ph1:=ph) rfl) (bq (asg (w:=.int 0) (ph1:=ph) rfl) (bq hi hr)))
  push_cast [cf]
  all_goals rfl
 by_cases h:(c.fdiv 3).fmod 2=1
 ·refine⟨G.map (bp.as (1+(c.fdiv 6).fmod 1008) ((c.fdiv 6048).fmod 1009)),hG.as _ _,Hl _ _ _,fun ph=>?_⟩;obtain⟨gi,ph',e,x⟩:=Gj ns (c:=c) (t:=1+(c.fdiv 6).fmod 1008) (m:=(c.fdiv 6048).fmod 1009) (by omega) hG s ph;refine⟨gi,ph',?_,x⟩;unfold qb qa;rw[gf];refine pre (cw ((et ph).trans (by rw[decide_eq_true h])) (sq (asg (w:=.int (1+(c.fdiv 6).fmod 1008)) (ph1:=ph) ?_) (asg (w:=.int ((c.fdiv 6048).fmod 1009)) ?_))) e
  ·push_cast [dI (show(6:Int)≠0 by decide) (by decide),bZ (show(1008:Int)≠0 by decide)]
   all_goals rfl
  ·push_cast [dI (show(6048:Int)≠0 by decide) (by decide),bZ (show(1009:Int)≠0 by decide)]
   all_goals rfl
 ·refine⟨G.map (bp.as 1 0),hG.as _ _,Hl _ _ _,fun ph=>?_⟩;obtain⟨gi,ph',e,x⟩:=Gj ns (c:=c) (t:=1) (m:=0) (by omega) hG s ph;refine⟨gi,ph',?_,x⟩;unfold qb qa;rw[gf];exact pre (bN ((et ph).trans (by rw[decide_eq_false h])) rfl) e
abbrev Pt:=Nat×Nat
noncomputable def dv(b:bp)(i:Nat):List Int:=match b.rs[i]? with
 | some r=>r.use
 | none=>b.en.use
noncomputable def Ah(G:List bp)(p:Pt)(v:Int)(q:Pt):Prop:=∃b,G[p.1]? =some b/\((∃i r,p.2=i+1/\b.rs[i]? =some r/\r.dP≠some v/\q=(p.1,i))\/(p.2=0/\v∉b.ps/\∃bo,G[q.1]? =some bo/\p.1∈bo.en.to/\q.2=bo.rs.length))
inductive LV(G:List bp)(v:Int):Pt->Prop where
 | use {p:Pt} {b:bp} (h:G[p.1]? =some b) (l:p.2<=b.rs.length) (u:v∈dv b p.2):LV G v p
 | step {p q:Pt} (h:LV G v p) (a:Ah G p v q):LV G v q
noncomputable def d8(G:List bp)(p:Pt):Prop:=∃b,G[p.1]? =some b/\p.2<=b.rs.length
variable{p q:Pt}
theorem Ah.pt(h:Ah G p v q)(hp:d8 G p):d8 G q:=by
 obtain⟨b,hb,⟨i,r,h1,h2,h3,rfl⟩ | ⟨h1,h2,bo,h3,h4,h5⟩⟩:=h
 ·exact⟨b,hb,by simp only;have:=(aam.mp h2).1;omega⟩
 ·exact⟨bo,h3,by omega⟩
theorem LV.pt{G:List bp}{v:Int}{p:Pt}(h:LV G v p):d8 G p:=by
 induction h with
 | use h l u=>exact⟨_,h,l⟩
 | step h a ih=>exact a.pt ih
variable{S:List Int}
theorem UZ(B:kP n (fun x=>x∈S) b)(h:v∈dv b i):v∈S:=by
 unfold dv at h;split at h
 ·rename_i r hr;exact B.ru r (aap hr) v h
 ·exact B.eu v h
theorem LV.mem(hS:∀b∈G,kP G.length (fun x=>x∈S) b)(h:LV G v p):v∈S:=by
 induction h with
 | use h l u=>exact UZ (hS _ (aap h)) u
 | step h a ih=>exact ih
noncomputable def lC(k n:Nat):List Pt:=(aaK (n+1)).map fun i=>(k,i)
noncomputable def d9:List bp->Nat->List Pt
 | [],_=>[]
 | b::G,k=>lC k b.rs.length++d9 G (k+1)
noncomputable def bC(G:List bp):List Pt:=d9 G 0
theorem vE{p:Pt}:∀{G:List bp} {k:Nat},p∈d9 G k↔∃j b,p.1=k+j/\G[j]? =some b/\p.2<=b.rs.length
 | [],k=>by simp[d9]
 | b::G,k=>by
  unfold d9;rw[aaS,vE];constructor
  ·rintro(h | ⟨j,b',h1,h2,h3⟩)
   ·unfold lC at h;obtain⟨i,hi,rfl⟩:=aaD.mp h;have:=abG.mp hi;exact⟨0,b,rfl,rfl,by simp only;omega⟩
   ·exact⟨j+1,b',by omega,h2,h3⟩
  ·rintro⟨j,b',h1,h2,h3⟩;cases j with
   | zero=>
    simp at h2
    subst h2;refine .inl (aaD.mpr ⟨p.2,abG.mpr (by omega),?_⟩);rw[show k=p.1 by omega]
   | succ j=>exact .inr ⟨j,b',by omega,by simpa using h2,h3⟩
theorem mr:p∈bC G↔d8 G p:=by
 unfold bC;rw[vE];constructor
 ·rintro⟨j,b,h1,h2,h3⟩;exact⟨b,by rw[h1,abi];exact h2,h3⟩
 ·rintro⟨b,h1,h2⟩;exact⟨p.1,b,by omega,h1,h2⟩
noncomputable def HZ(p q:Pt):Prop:=p.1<q.1\/(p.1=q.1/\p.2<q.2)
theorem EB:∀(G:List bp) (k:Nat),(d9 G k).Pairwise HZ
 | [],_=>.nil
 | b::G,k=>by
  unfold d9;rw[List.pairwise_append];refine⟨?_,EB G (k+1),fun p hp q hq=>?_⟩
  ·unfold lC;exact List.Pairwise.map _ (fun a c h=>.inr ⟨rfl,h⟩) List.pairwise_lt_range
  ·unfold lC at hp;obtain⟨i,_,rfl⟩:=aaD.mp hp;obtain⟨j,b',h1,_⟩:=vE.mp hq;exact .inl (by simp only;omega)
theorem R0(h:HZ p q):p≠q:=fun e=>by
 subst e
 rcases h with h | h
 ·omega
 ·omega
theorem nN(G:List bp):(bC G).Nodup:=(EB G 0).imp fun h=>R0 h
theorem P7(k n:Nat):(lC k n).length=n+1:=by simp[lC]
theorem zy{n:Nat}:∀{G:List bp} (k:Nat),(∀b∈G,b.rs.length<=n)->(d9 G k).length<=G.length*(n+1)
 | [],_,_=>by simp[d9]
 | b::G,k,h=>by
  have ih:=zy (n:=n) (G:=G) (k+1) fun b' df=>h b' (aaY _ df)
  have hb:=h b abr;unfold d9;rw[aaU,P7,abb,Nat.succ_mul];omega
theorem vO(hG:cZ G):(bC G).length<=300:=by
 obtain⟨S,_,hS⟩:=hG.vs;have h1:=zy (n:=14) 0 fun b hb=>(hS b hb).rl
 have h2:=hG.top;unfold bC;omega
theorem y8{α:Type}[DecidableEq α]:∀{l S:List α},l.Nodup->(∀x∈l,x∈S)->l.length<=S.length
 | [],_,_,_=>abA _
 | a::l,S,hn,h=>by
  obtain⟨h1,h2⟩:=acl.mp hn;have ha:=h a abr;have ih:=y8 (S:=S.erase a) h2 fun x hx=>by
   have dm:x≠a:=fun e=>h1 (by rw[<- e];exact hx)
   exact(List.mem_erase_of_ne dm).mpr (h x (aaY _ hx))
  have:=aeK ha;have:=List.length_pos_of_mem ha;simp only[abb];omega
abbrev Tab:=List (List (Int×W))
noncomputable def iy(ps:List Pt)(L:Tab)(p:Pt)(v:Int):Prop:=∃(k:Nat) (l:List (Int×W)),ps[k]? =some p/\L[k]? =some l/\v∈l.map (·.1)
structure WI(G:List bp)(L:Tab)(T:Pt->Int->Prop):Prop where
 len:L.length=(bC G).length
 nd:∀l∈L,(l.map (·.1)).Nodup
 sn:∀p v,iy (bC G) L p v->LV G v p
 sT:∀p v,T p v->LV G v p
 cl:∀p v q,iy (bC G) L p v->Ah G p v q->iy (bC G) L q v\/T q v
theorem y9{l:List α}(h:l.Nodup){x:α}(hi:l[i]? =some x)(hj:l[j]? =some x):i=j:=by
 obtain⟨h1,e1⟩:=aam.mp hi;obtain⟨h2,e2⟩:=aam.mp hj;exact(List.getElem_inj h).mp (e1.trans e2.symm)
variable{L:Tab}{l:List (Int×W)}
theorem qV{w:Int}{x:W}(hk:(bC G)[k]? =some p)(hl:L[k]? =some l):iy (bC G) (L.set k (l++[(v,x)])) q w↔iy (bC G) L q w\/(q=p/\w=v):=by
 have ip:=(aam.mp hl).1;constructor
 ·rintro⟨j,l',h1,h2,h3⟩;by_cases hj:j=k
  ·subst hj;rw[aaQ ip] at h2;cases h2;rw[hk] at h1;cases h1;rw[abj] at h3
   rcases aaS.mp h3 with z | z
   ·exact .inl ⟨j,l,hk,hl,z⟩
   ·exact .inr ⟨rfl,by simpa using z⟩
  ·rw[abk (abD hj)] at h2;exact .inl ⟨j,l',h1,h2,h3⟩
 ·rintro(⟨j,l',h1,h2,h3⟩ | ⟨rfl,rfl⟩)
  ·by_cases hj:j=k
   ·subst hj;rw[hl] at h2;cases h2;exact⟨j,_,h1,aaQ ip,by rw[abj];exact abf _ h3⟩
   ·exact⟨j,l',h1,by rw[abk (abD hj)];exact h2,h3⟩
  ·exact⟨k,_,hk,aaQ ip,by simp⟩
variable{T:Pt->Int->Prop}
theorem WI.skip{T':Pt->Int->Prop}(h:WI G L T)(hp:iy (bC G) L p v)(h1:∀q w,T q w->T' q w\/(q=p/\w=v))(h2:∀q w,T' q w->T q w):WI G L T':=
 ⟨h.len,h.nd,h.sn,fun q w t=>h.sT q w (h2 q w t),fun q w r a b=>(h.cl q w r a b).elim .inl fun t=>(h1 r w t).elim .inr fun ck=>by obtain⟨e1,e2⟩:=ck;exact .inl (by rw[e1,e2];exact hp)⟩
theorem WI.add{T':Pt->Int->Prop}(x:W)(h:WI G L T)(hk:(bC G)[k]? =some p)(hl:L[k]? =some l)(hv:v∉l.map (·.1))(hT:T p v)(h1:∀q w,T q w->T' q w\/(q=p/\w=v))(hA:∀q,Ah G p v q->T' q v)(h2:∀q w,T' q w->T q w\/(Ah G p v q/\w=v)):WI G (L.set k (l++[(v,x)])) T':=by
 refine⟨by rw[abg];exact h.len,fun l' tE=>?_,fun q w hq=>?_,fun q w t=>?_,fun q w r a b=>?_⟩
 ·rcases List.mem_or_eq_of_mem_set tE with z | z
  ·exact h.nd l' z
  ·rw[z,abj,adf];exact⟨h.nd l (aap hl),by simp,fun a ha b hb=>by
    have:b=v:=by simpa using hb
    rw[this];exact fun z=>hv (z▸ha)⟩
 ·rcases(qV hk hl).mp hq with z | ⟨rfl,rfl⟩
  ·exact h.sn q w z
  ·exact h.sT _ _ hT
 ·rcases h2 q w t with z | ⟨z,rfl⟩
  ·exact h.sT q w z
  ·exact .step (h.sT _ _ hT) z
 ·rw[qV hk hl]
  rcases(qV hk hl).mp a with z | ⟨rfl,rfl⟩
  ·rcases h.cl q w r z b with c | c
   ·exact .inl (.inl c)
   ·rcases h1 r w c with d | ⟨rfl,rfl⟩
    ·exact .inr d
    ·exact .inl (.inr ⟨rfl,rfl⟩)
  ·exact .inr (hA r b)
theorem WI.small(h:WI G L T)(hG:cZ G):∀l∈L,l.length<=63:=fun l hl=>by
 obtain⟨S,hS,hB⟩:=hG.vs;obtain⟨k,hk⟩:=abo hl;have ip:=(aam.mp hk).1;obtain⟨p,hp⟩:∃p,(bC G)[k]? =some p:=⟨(bC G)[k]'(by rw[<- h.len];exact ip),by simp⟩
 have sub:∀v∈l.map (·.1),v∈S:=fun v hv=>LV.mem hB (h.sn p v ⟨k,l,hp,hk,hv⟩)
 have:=y8 (h.nd l hl) sub;rw[aan] at this;omega
noncomputable def jV(L:Tab):Nat:=(L.map agh).sum
theorem vP:∀{L:Tab} {k:Nat} {l:List (Int×W)} {x:Int×W},L[k]? =some l->jV (L.set k (l++[x]))=jV L+1
 | [],_,_,_,h=>by simp at h
 | a::L,0,l,x,h=>by
  simp at h
  subst h;simp[jV];omega
 | a::L,k+1,l,x,h=>by
  have ih:=vP (L:=L) (k:=k) (l:=l) (x:=x) (by simpa using h);unfold jV at ih ⊢;simp only[aex,aaX,List.sum_cons];omega
theorem GR:∀{L:Tab},(∀l∈L,l.length<=63)->jV L<=63*L.length
 | [],_=>by simp[jV]
 | a::L,h=>by
  have ih:=GR (L:=L) fun l hl=>h l (aaY _ hl)
  have:=h a abr;unfold jV at ih ⊢;simp only[aaX,List.sum_cons,abb];omega
theorem WI.all(h:WI G L T)(h0:∀p v,¬T p v)(hu:∀(p:Pt) b v,G[p.1]? =some b->p.2<=b.rs.length->v∈dv b p.2->iy (bC G) L p v)(p:Pt)(v:Int):iy (bC G) L p v↔LV G v p:=by
 refine⟨h.sn p v,fun hl=>?_⟩
 induction hl with
 | use a l u=>exact hu _ _ v a l u
 | step _ a ih=>exact(h.cl _ _ _ ih a).elim id fun t=>(h0 _ _ t).elim
noncomputable def Ln(G:List bp)(v:Int):Nat->Pt->Prop
 | 0,p=>∃b,G[p.1]? =some b/\p.2<=b.rs.length/\v∈dv b p.2
 | n+1,q=>∃p,Ln G v n p/\Ah G p v q
theorem Ln.lv{G:List bp}{v:Int}:∀{n:Nat} {p:Pt},Ln G v n p->LV G v p
 | 0,_,⟨_,h,l,u⟩=>.use h l u
 | _+1,_,⟨_,h,a⟩=>.step h.lv a
abbrev QE:=Pt×Int×Int
structure DI(G:List bp)(L:Tab)(Q:List QE)(a:Nat):Prop where
 so:∀e∈Q,∃n:Nat,e.2.2=((n+1:Nat):Int)/\Ln G e.2.1 n e.1
 mo:∀(i j:Nat) (x y:QE),i<=j->Q[i]? =some x->Q[j]? =some y->x.2.2<=y.2.2
 wd:∀x,Q[a]? =some x->∀e∈Q,e.2.2<=x.2.2+1
 rc:∀(k:Nat) p l v w,(bC G)[k]? =some p->L[k]? =some l->(v,w)∈l->∃(j:Nat) (s:Int),j<a/\Q[j]? =some (p,v,s)/\w=.int s
 pr:∀(j:Nat) p v s,j<a->Q[j]? =some (p,v,s)->∃(k:Nat) (l:List (Int×W)) (s':Int),(bC G)[k]? =some p/\L[k]? =some l/\(v,.int s')∈l/\s'<=s
 ed:∀(k:Nat) p l v s q,(bC G)[k]? =some p->L[k]? =some l->(v,W.int s)∈l->Ah G p v q->(q,v,s+1)∈Q
 us:∀(p:Pt) b v,G[p.1]? =some b->p.2<=b.rs.length->v∈dv b p.2->(p,v,1)∈Q
section
variable{G:List bp}{L:Tab}{Q:List QE}{a:Nat}
theorem DI.start{n:Nat}(hq:∀e∈Q,e.2.2=1/\∃b,G[e.1.1]? =some b/\e.1.2<=b.rs.length/\e.2.1∈dv b e.1.2)(hu:∀(p:Pt) b v,G[p.1]? =some b->p.2<=b.rs.length->v∈dv b p.2->(p,v,1)∈Q):DI G (aaF n []) Q 0:=by
 have nl:∀{k:Nat} {l:List (Int×W)} {v:Int} {w:W},(aaF n ([]:List (Int×W)))[k]? =some l->(v,w)∈l->False:=fun h h2=>by
  rw[adu (aap h)] at h2;exact nomatch h2
 have one:∀{i:Nat} {x:QE},Q[i]? =some x->x.2.2=1:=fun h=>(hq _ (aap h)).1
 refine⟨fun e he=>⟨0,(hq e he).1,(hq e he).2⟩,fun i j x y _ h1 h2=>by rw[one h1,one h2];exact Int.le_refl _,fun x hx e he=>?_,fun k p l v w _ h1 h2=>(nl h1 h2).elim,fun j p v s hj=>absurd hj (afv _),fun k p l v s q _ h1 h2=>(nl h1 h2).elim,hu⟩;rw[one hx,(hq e he).1];omega
variable{p:Pt}{v:Int}{k:Nat}{l:List (Int×W)}
theorem DI.skip{sz:Int}(d:DI G L Q a)(hx:Q[a]? =some (p,v,sz))(hk:(bC G)[k]? =some p)(hl:L[k]? =some l)(hv:v∈l.map (·.1)):DI G L Q (a+1):=by
 refine⟨d.so,d.mo,fun x h e he=>?_,fun k p l v w h1 h2 h3=>?_,fun j q u s hj h=>?_,d.ed,d.us⟩
 ·have h1:=d.mo a (a+1) _ _ (acB _) hx h;have h2:=d.wd _ hx e he;simp only at h1 h2;omega
 ·obtain⟨j,s,h4,h5⟩:=d.rc k p l v w h1 h2 h3;exact⟨j,s,by omega,h5⟩
 ·by_cases D4:j<a
  ·exact d.pr j q u s D4 h
  ·have:j=a:=by omega
   subst this;rw[hx] at h;cases h;obtain⟨⟨v',w⟩,hm,rfl⟩:=aaD.mp hv;obtain⟨j',s',h4,h5,rfl⟩:=d.rc k p l v' w hk hl hm;exact⟨k,l,s',hk,hl,hm,d.mo j' j _ _ (by omega) h5 hx⟩
theorem DI.add{sz:Int}{A:List Pt}(d:DI G L Q a)(hx:Q[a]? =some (p,v,sz))(hk:(bC G)[k]? =some p)(hl:L[k]? =some l)(hA:∀q,q∈A↔Ah G p v q):DI G (L.set k (l++[(v,.int sz)])) (Q++A.map fun q=>(q,v,sz+1)) (a+1):=by
 have hal:a<Q.length:=(aam.mp hx).1;have old:∀{j:Nat} {x:QE},Q[j]? =some x->(Q++A.map fun q=>(q,v,sz+1))[j]? =some x:=fun h=>by
  rw[aaM (aam.mp h).1];exact h
 have cut:∀{j:Nat} {x:QE},(Q++A.map fun q=>(q,v,sz+1))[j]? =some x->Q[j]? =some x\/(Q.length<=j/\x.2.2=sz+1):=fun{j x} h=>by
  by_cases hj:j<Q.length
  ·rw[aaM hj] at h;exact .inl h
  ·rw[acr (by omega)] at h;obtain⟨q,_,rfl⟩:=aaD.mp (aap h);exact .inr ⟨by omega,rfl⟩
 have lk:k<L.length:=(aam.mp hl).1;have ent:∀{k':Nat} {p':Pt} {l':List (Int×W)} {v':Int} {w:W},(bC G)[k']? =some p'->(L.set k (l++[(v,.int sz)]))[k']? =some l'->(v',w)∈l'->(∃l0,L[k']? =some l0/\(v',w)∈l0)\/(p'=p/\v'=v/\w=.int sz):=fun{k' p' l' v' w} h1 h2 h3=>by
  by_cases e:k=k'
  ·subst e;rw[aaQ lk] at h2;cases h2;rw[hk] at h1;cases h1
   rcases aaS.mp h3 with z | z
   ·exact .inl ⟨l,hl,z⟩
   ·have:=aav.mp z;cases this;exact .inr ⟨rfl,rfl,rfl⟩
  ·rw[abk e] at h2;exact .inl ⟨l',h2,h3⟩
 have keep:∀{k':Nat} {l0:List (Int×W)} {x:Int×W},L[k']? =some l0->x∈l0->∃l',(L.set k (l++[(v,.int sz)]))[k']? =some l'/\x∈l':=fun{k' l0 x} h1 h2=>by
  by_cases e:k=k'
  ·subst e;rw[hl] at h1;cases h1;exact⟨_,aaQ lk,abf _ h2⟩
  ·exact⟨l0,by rw[abk e];exact h1,h2⟩
 refine⟨fun e he=>?_,fun i j x y D5 h1 h2=>?_,fun x h e he=>?_,fun k' p' l' v' w h1 h2 h3=>?_,fun j q u s hj h=>?_,fun k' p' l' v' s q h1 h2 h3 h4=>?_,fun p b v h1 h2 h3=>abf _ (d.us p b v h1 h2 h3)⟩
 ·rcases aaS.mp he with z | z
  ·exact d.so e z
  ·obtain⟨q,hq,rfl⟩:=aaD.mp z;obtain⟨n,e1,e2⟩:=d.so _ (aap hx);simp only at e1 e2;exact⟨n+1,by simp only;omega,p,e2,(hA q).mp hq⟩
 ·rcases cut h1 with z1 | ⟨z1,e1⟩ <;> rcases cut h2 with z2 | ⟨z2,e2⟩
  ·exact d.mo i j x y D5 z1 z2
  ·rw[e2];exact d.wd _ hx x (aap z1)
  ·have:=(aam.mp z2).1;omega
  ·rw[e1,e2];exact Int.le_refl _
 ·have hs:sz<=x.2.2:=by
   rcases cut h with z | ⟨_,e⟩
   ·exact d.mo a (a+1) _ _ (acB _) hx z
   ·omega
  rcases aaS.mp he with z | z
  ·have:=d.wd _ hx e z;simp only at this;omega
  ·obtain⟨q,_,rfl⟩:=aaD.mp z;simp only;omega
 ·rcases ent h1 h2 h3 with⟨l0,h4,h5⟩ | ⟨rfl,rfl,rfl⟩
  ·obtain⟨j,s,h6,h7,h8⟩:=d.rc k' p' l0 v' w h1 h4 h5;exact⟨j,s,by omega,old h7,h8⟩
  ·exact⟨a,sz,by omega,old hx,rfl⟩
 ·have D6:Q[j]? =some (q,u,s):=by
   rcases cut h with z | ⟨z,_⟩
   ·exact z
   ·omega
  by_cases D4:j<a
  ·obtain⟨k',l0,s',h1,h2,h3,h4⟩:=d.pr j q u s D4 D6;obtain⟨l',h5,h6⟩:=keep h2 h3;exact⟨k',l',s',h1,h5,h6,h4⟩
  ·have:j=a:=by omega
   subst this;rw[hx] at D6;cases D6;exact⟨k,_,sz,hk,aaQ lk,aaT _ (by simp),Int.le_refl _⟩
 ·rcases ent h1 h2 h3 with⟨l0,h5,h6⟩ | ⟨rfl,rfl,e⟩
  ·exact abf _ (d.ed k' p' l0 v' s q h1 h5 h6 h4)
  ·cases e;exact aaT _ (aaD.mpr ⟨q,(hA q).mpr h4,rfl⟩)
theorem DI.least(d:DI G L Q Q.length)(nd:∀l∈L,(l.map (·.1)).Nodup){w:W}(hk:(bC G)[k]? =some p)(hl:L[k]? =some l)(hw:(v,w)∈l):∃n:Nat,w=.int ((n+1:Nat):Int)/\Ln G v n p/\∀m,Ln G v m p->n<=m:=by
 obtain⟨j,s,h1,h2,rfl⟩:=d.rc k p l v w hk hl hw;obtain⟨n,e1,e2⟩:=d.so _ (aap h2);simp only at e1 e2;have key:∀(m:Nat) (q:Pt),Ln G v m q->∃(k:Nat) (l:List (Int×W)) (s':Int),(bC G)[k]? =some q/\L[k]? =some l/\(v,.int s')∈l/\s'<=((m+1:Nat):Int):=by
  intro m
  induction m with
  | zero=>
   intro q ⟨b,b1,b2,b3⟩;obtain⟨j,hj⟩:=abo (d.us q b v b1 b2 b3);obtain⟨k,l,s',z1,z2,z3,z4⟩:=d.pr j q v 1 (aam.mp hj).1 hj;exact⟨k,l,s',z1,z2,z3,by omega⟩
  | succ m ih=>
   intro q ⟨p',b1,b2⟩;obtain⟨k,l,s',z1,z2,z3,z4⟩:=ih p' b1;obtain⟨j,hj⟩:=abo (d.ed k p' l v s' q z1 z2 z3 b2);obtain⟨k2,l2,s2,y1,y2,y3,y4⟩:=d.pr j q v (s'+1) (aam.mp hj).1 hj;exact⟨k2,l2,s2,y1,y2,y3,by omega⟩
 refine⟨n,by rw[e1],e2,fun m hm=>?_⟩;obtain⟨k2,l2,s2,y1,y2,y3,y4⟩:=key m p hm;have:k2=k:=y9 (nN G) y1 hk;subst this;rw[hl] at y2;cases y2;have same:s2=s:=by
  have ZW:=nd l (aap hl);have ZX:∀{l:List (Int×W)} {x y:W},(l.map (·.1)).Nodup->(v,x)∈l->(v,y)∈l->x=y:=by
   intro l x y hn h1 h2
   induction l with
   | nil=>exact nomatch h1
   | cons z l ih=>
    rw[aaX,acl] at hn
    rcases aaO.mp h1 with a1 | a1 <;> rcases aaO.mp h2 with a2 | a2
    ·rw[<- a1] at a2;exact(Prod.mk.inj a2).2.symm
    ·exact absurd (abx (f:=(·.1)) a2) (by rw[<- a1] at hn;exact hn.1)
    ·exact absurd (abx (f:=(·.1)) a1) (by rw[<- a2] at hn;exact hn.1)
    ·exact ih hn.2 a1 a2
  exact W.int.inj (ZX ZW y3 hw)
 rw[same,e1] at y4;omega
end
noncomputable def aw(p:Pt):W:=.tup [.int p.1,.int p.2]
noncomputable def inD(l:List (Int×W)):List (W×W):=l.map fun x=>(W.int x.1,x.2)
noncomputable def dD(ps:List Pt)(rs:List Nat):List (W×W):=List.zipWith (fun p r=>(aw p,W.ref r)) ps rs
theorem vQ(h:aw p=aw q):p=q:=by
 unfold aw at h;injection h with h
 injection h with h1 h2
 injection h1 with h1
 injection h2 with h2 _
 injection h2 with h2
 have e1:p.1=q.1:=by omega
 have e2:p.2=q.2:=by omega
 exact afU e1 e2
theorem Hm:∀(ps:List Pt) (rs:List Nat) (p:Pt),d0 (dD ps rs) (aw p)=true:=fun ps rs p=>by
 have ha:((dD ps rs).all fun q=>jo q.1)=true:=by
  rw[abJ];intro q hq;unfold dD at hq;rw[afw] at hq;obtain⟨i,hi⟩:=hq;rw[adP] at hi;split at hi
  ·cases hi;rfl
  ·cases hi
 unfold d0;rw[ha];simp[r9,aw,bH,mT]
theorem AK:∀{ps:List Pt} {rs:List Nat} {k r:Nat} {p:Pt},ps.Nodup->ps[k]? =some p->rs[k]? =some r->dg (dD ps rs) (aw p)=some (.ref r)
 | [],_,_,_,_,_,h,_=>by simp at h
 | _::_,[],_,_,_,_,_,h=>by simp at h
 | p0::ps,r0::rs,0,r,p,hn,h1,h2=>by
  simp at h1 h2
  subst h1 h2;simp[dg,dD]
 | p0::ps,r0::rs,k+1,r,p,hn,h1,h2=>by
  obtain⟨n1,n2⟩:=acl.mp hn;have ih:=AK (k:=k) n2 (by simpa using h1) (by simpa using h2);have dm:aw p0≠aw p:=fun e=>n1 (by rw[vQ e];exact aap (by simpa using h1))
  unfold dg dD at ih ⊢;rw[List.zipWith_cons_cons,abR];simp only[dm,decide_false];exact ih
theorem BJ(l:List (Int×W))(v:Int):d0 (inD l) (.int v)=true:=by
 unfold d0;have:(inD l).all (fun p=> !jo p.1)=true:=by
  rw[abJ];intro p hp;obtain⟨x,_,rfl⟩:=aaD.mp hp;rfl
 rw[this];rfl
theorem Hn(l:List (Int×W))(v:Int):(dg (inD l) (.int v)).isSome=decide (v∈l.map (·.1)):=by
 unfold dg inD;rw[acH,aco,aeL];simp only[decide_eq_true_eq];constructor
 ·rintro⟨p,hp,e⟩;obtain⟨x,hx,rfl⟩:=aaD.mp hp;injection e with e
  rw[<- e];exact abx hx
 ·intro h;obtain⟨x,hx,rfl⟩:=aaD.mp h;exact⟨_,abx hx,rfl⟩
theorem U0{x:W}(h:v∉l.map (·.1)):f7 (inD l) (.int v) x=inD (l++[(v,x)]):=by
 unfold f7;have e:((inD l).any fun p=>decide (p.1=.int v))=false:=by
  rw[List.any_eq_false];intro p hp;obtain⟨y,hy,rfl⟩:=aaD.mp hp;simp only[decide_eq_true_eq];intro e;injection e with e
  exact h (e▸abx hy)
 rw[if_neg (by rw[e];exact abe)];unfold inD;rw[abj];rfl
structure LT(H:PH)(d lo:Nat)(ps:List Pt)(rs:List Nat)(L:Tab):Prop where
 at_:H[d]? =some (.aG (dD ps rs))
 lr:rs.length=ps.length
 ll:L.length=ps.length
 con:∀(k r:Nat) l,rs[k]? =some r->L[k]? =some l->H[r]? =some (.aG (inD l))
 inj:rs.Nodup
 nd:d∉rs
 ld:lo<=d
 lo:∀r∈rs,lo<=r
variable{d:Nat}{ps:List Pt}
theorem LT.kp{lo:Nat}(t:LT H d lo ps rs L)(k:Kp M H H')(hd:d∉M)(hr:∀r∈rs,r∉M):LT H' d lo ps rs L:=
 ⟨k.2 _ _ hd t.at_,t.lr,t.ll,fun j r l a b=>k.2 _ _ (hr r (aap a)) (t.con j r l a b),t.inj,t.nd,t.ld,t.lo⟩
theorem LT.ex{H H':PH}{d lo:Nat}{ps:List Pt}{rs:List Nat}{L:Tab}(t:LT H d lo ps rs L)(x:Ex H H'):LT H' d lo ps rs L:=t.kp (M:=[]) (Kp.ex x) (fun h=>(nomatch h)) (fun _ _ h=>(nomatch h))
theorem LT.ix{lo:Nat}(t:LT H d lo ps rs L)(hn:ps.Nodup)(hp:ps[k]? =some p):∃r l,rs[k]? =some r/\L[k]? =some l/\lift (ah (.ref d) (aw p)) H=.ok (.ref r) H/\H[r]? =some (.aG (inD l)):=by
 have hk:=(aam.mp hp).1;obtain⟨r,hr⟩:∃r,rs[k]? =some r:=cW (by rw[t.lr];exact hk);obtain⟨l,hl⟩:∃l,L[k]? =some l:=cW (by rw[t.ll];exact hk);exact⟨r,l,hr,hl,Ge t.at_ (Hm _ _ _) (AK hn hp hr),t.con k r l hr hl⟩
theorem LT.J0(h:H[r]? =some (.aG (inD l)))(v:Int):lift (bY (.int v) (.ref r)) H=.ok (.bl (!decide (v∈l.map (·.1)))) H:=by
 rw[nS h (BJ _ _),Hn]
theorem LT.put{lo:Nat}{x:W}(t:LT H d lo ps rs L)(hr:rs[k]? =some r)(hl:L[k]? =some l)(hv:v∉l.map (·.1))(hz:l.length<=1000) :
  lift (lz (.ref r) (.int v) x) H=.ok () (H.set r (.aG (inD (l++[(v,x)]))))/\LT (H.set r (.aG (inD (l++[(v,x)])))) d lo ps rs (L.set k (l++[(v,x)])):=by
 have hc:=t.con k r l hr hl;have ip:=(aam.mp hl).1;refine⟨?_,?_,t.lr,by rw[abg];exact t.ll,fun j r' l' a b=>?_,t.inj,t.nd,t.ld,t.lo⟩
 ·rw[qK hc (BJ _ _) (by unfold inD;rw[aan];exact aay (by omega:_<2000) (by decide)),U0 hv]
 ·rw[cy (fun e=>t.nd (by rw[<- e];exact aap hr))];exact t.at_
 ·by_cases hj:j=k
  ·subst hj;rw[hr] at a;cases a;rw[aaQ ip] at b;cases b;exact da hc
  ·rw[abk (abD hj)] at b;rw[cy (fun e=>hj (y9 t.inj a (by rw[<- e];exact hr)))];exact t.con j r' l' a b
theorem d8.ix(h:d8 G p):∃k:Nat,(bC G)[k]? =some p:=abo (mr.mpr h)
theorem WI.pt{G:List bp}{L:Tab}{T:Pt->Int->Prop}(h:WI G L T){p:Pt}{v:Int}(t:T p v):∃k:Nat,(bC G)[k]? =some p:=(h.sT p v t).pt.ix
theorem kQ{lo:Nat}(g:cu lo H gi G)(hb:G[k]? =some b):∃p r,(∀H',Ex H H'->lift (ah (.ref gi) (.int k)) H'=.ok (.tup [.ref p,.ref r,b.en.w]) H')/\H[p]? =some (.lst (b.ps.map W.int))/\H[r]? =some (.lst (b.rs.map Row.w)):=by
 obtain⟨ws,h1,h2,h3⟩:=g;have hk:=(aam.mp hb).1;obtain⟨w,hw⟩:∃w,ws[k]? =some w:=cW (by omega);obtain⟨p,r,rfl,_,_,h4,h5⟩:=h3 k w b hw hb;exact⟨p,r,fun H' x=>cK (x.get h1) (by rw[gK _ _ (by omega)];exact hw),h4,h5⟩
theorem CO{lo:Nat}(g:cu lo H gi G)(x:Ex H H'):lift (bv [.ref gi]) H'=.ok (.int G.length) H':=by
 obtain⟨ws,h1,h2,_⟩:=g;rw[eF (x.get h1),h2]
theorem Fg(ws:List W)(ph:PH)(h:ws.length<=100000):lift (jH [.tup ws]) ph=.ok (.ref ph.length) (ph++[.lst ws]):=by
 unfold lift jH mH;simp only[eQ,cC]
theorem U1(r:Row)(ph:PH):j7 [r.w] ph=.ok (.ref ph.length) (ph++[.lst (r.use.map W.int)]):=by
 unfold j7 qz;rw[gf];cases r with
 | gz v w a b=>exact wT rfl
 | tell v=>exact wF rfl (fx (cw wO (retS rfl)))
 | _=>exact wF rfl (bq (bN wO rfl) (wF rfl rfl))
theorem U2(e:En)(he:e.use.length<=1000)(ph:PH):j7 [e.w] ph=.ok (.ref ph.length) (ph++[.lst (e.use.map W.int)]):=by
 unfold j7 qz;rw[gf];cases e with
 | go k as=>exact wF rfl (bq (bN wO rfl) (wT (Fg _ ph (by rw[aan];exact aaN he (by decide)))))
 | iff v a b=>exact wF rfl (fx (cw wO (retS rfl)))
 | fin=>exact wF rfl (bq (bN wO rfl) (wF rfl rfl))
theorem wI(ss:List String){m:AM}(h:aQ m (some (.tup (.str x::ws))::σ)=aA (.tup (ss.map fun s=>.str (aaC s)))):eT (ae dN (ae ah (aa 0) (eC (.int 0))) (aQ m)) (some (.tup (.str x::ws))::σ) ph=.ok (ss.any fun s=>decide (s=x)) ph:=by
 rw[mK,hX,h]
 push_cast [zX]
theorem R1(r:Row)(ph:PH):mF [r.w] ph=.ok (.ref ph.length) (ph++[.lst (r.use.map W.int)]):=by
 unfold mF rA;rw[gf];cases r with
 | gz v w a b=>exact wT rfl
 | tell v=>exact wF rfl (fx (cw (wI ["tell","if"] rfl) (retS rfl)))
 | _=>exact wF rfl (bq (bN (wI ["tell","if"] rfl) rfl) (wF rfl rfl))
theorem R5(e:En)(he:e.use.length<=1000)(ph:PH):mF [e.w] ph=.ok (.ref ph.length) (ph++[.lst (e.use.map W.int)]):=by
 unfold mF rA;rw[gf];cases e with
 | go k as=>exact wF rfl (bq (bN (wI ["tell","if"] rfl) rfl) (wT (Fg _ ph (by rw[aan];exact aaN he (by decide)))))
 | iff v a b=>exact wF rfl (fx (cw (wI ["tell","if"] rfl) (retS rfl)))
 | fin=>exact wF rfl (bq (bN (wI ["tell","if"] rfl) rfl) (wF rfl rfl))
theorem z0(e:En)(ph:PH):nE [e.w] ph=.ok (.ref ph.length) (ph++[.lst (iw e.to)]):=by
 unfold nE uX;rw[gf];cases e with
 | go k as=>exact wT rfl
 | iff v a b=>exact wF rfl (wT rfl)
 | fin=>exact wF rfl (wF rfl rfl)
theorem OJ(e:En)(ph:PH):yD [e.w] ph=.ok (.ref ph.length) (ph++[.lst (iw e.to)]):=z0 e ph
noncomputable def CP(r:Row):W:=match r.dP with
 | some v=>.int v
 | none=>.aJ
theorem R6(r:Row)(ph:PH):vN [r.w] ph=.ok (CP r) ph:=by
 unfold vN vM;rw[gf];cases r
 all_goals exact br (aB (wI ["set","do","take"] rfl) rfl)
theorem qN(x:String)(ss:List String)(h:ph[i]? =some (.lst (ss.map fun s=>.str (aaC s)))):lift (dN (.str (aaC x)) (.ref i)) ph=.ok (.bl (ss.any fun s=>decide (s=x))) ph:=by
 rw[Gf h (iC (dat ph 40) (fun s=>W.str (aaC s)) (fun s=>agj (aaC s)) (fun s=>rV ph s) ss) (rV ph x)];rw[afq]
 congr 2
 apply List.any_congr rfl
 intro s;simp only[afW,Bu];exact decide_eq_decide.mpr rq
theorem Gk(r:Row)(v:Int)(ph:PH):∃o,j0 [r.w,.int v] ph=.ok (.bl (decide (r.dP=some v))) (ph++[o]):=by
 refine⟨.lst (["set","do","take"].map fun s=>.str (aaC s)),?_⟩;have hn:=bc ph (.lst (["set","do","take"].map fun s=>.str (aaC s)));have q:∀u:Int,decide (u=v)=decide (some u=some v):=fun u=>decide_eq_decide.mpr (Option.some_inj.symm)
 unfold j0 qx;rw[gU];cases r with
 | set u n=>exact br (aB (qN _ _ hn) ((congrFun (lb u v) _).trans (congrArg (fun b=>Out.ok (W.bl b) _) (q u))))
 | gz u w a b=>exact br (aB (qN _ _ hn) ((congrFun (lb u v) _).trans (congrArg (fun b=>Out.ok (W.bl b) _) (q u))))
 | take u=>exact br (aB (qN _ _ hn) ((congrFun (lb u v) _).trans (congrArg (fun b=>Out.ok (W.bl b) _) (q u))))
 | _=>exact br (aB (qN _ _ hn) rfl)
theorem P8{b:SM}{w:W}(h:a σ ph=.ok (.rt w) ph1):av a b σ ph=.ok (.rt w) ph1:=by
 rw[kY,bg h];rfl
variable{ph0:PH}
theorem FL{lo:Nat}(g:cu lo ph0 gi G)(x:Ex ph0 ph)(hb:G[k]? =some b)(hl:b.rs.length<=1000):∃i ph',qo [.ref gi,.int k] ph=.ok (.ref i) ph'/\Ex ph ph'/\ph.length<=i/\ph'[i]? =some (.lst (b.rs.map Row.w++[b.en.w])):=by
 obtain⟨p,r,h1,h2,h3⟩:=kQ g hb;have x1:Ex ph (ph++[.lst [b.en.w]]):=Ex.one _ _;refine⟨_,ph++[.lst [b.en.w]]++[.lst (b.rs.map Row.w++[b.en.w])],?_,x1.trans (Ex.one _ _),x1.len,bc _ _⟩;unfold qo uM;rw[gU];refine br ?_;ac_nf;refine aB (h1 ph x) ?_;ac_nf;refine aB (h1 ph x) ?_;ac_nf;rw[gp _ _ _ (small (by simp))];exact qS (x1.get (x.get h3)) (bc _ _) (by rw[aan];exact aaN (by simp;omega:_<=100000) (by decide))
variable{A:List Pt}
theorem R7{lo fi:Nat}{o:Nat}(g:cu lo ph0 gi G)(x:Ex ph0 H)(hf:ph0.length<=fi)(hb:G[p.1]? =some b)(hbl:b.ps.length<=1000)(ho:o<G.length)(hA:H[fi]? =some (.lst (A.map aw)))(hz:A.length<=1000) :
  ∃(A':List Pt) (H':PH),pT [some (.ref gi),some (.int p.1),some (.int 0),some (.int v),some (.ref fi),some (.int o)] H=.ok (.nx [some (.ref gi),some (.int p.1),some (.int 0),some (.int v),some (.ref fi),some (.int o)]) H'/\Ex ph0 H'/\H'[fi]? =some (.lst (A'.map aw))/\A'.length<=A.length+1/\Kp [fi] H H' /\
   ∀q,q∈A'↔q∈A\/(v∉b.ps/\q.1=o/\∃bo,G[o]? =some bo/\p.1∈bo.en.to/\q.2=bo.rs.length):=by
 obtain⟨bo,eI⟩:∃bo,G[o]? =some bo:=cW ho;obtain⟨p1,r1,i1,c1,d1⟩:=kQ g hb;obtain⟨p2,r2,i2,c2,d2⟩:=kQ g eI;have x1:Ex H (H++[.lst (iw bo.en.to)]):=Ex.one _ _;have lW:=E5 (x.get c1) v;by_cases hv:v∈b.ps
 ·refine⟨A,H,?_,x,hA,by omega,Kp.refl _ _,fun q=>⟨.inl,fun h=>h.elim id fun z=>(z.1 hv).elim⟩⟩;unfold pT;refine bN (ph1:=H) ?_ rfl;ac_nf;refine aB (i1 H x) ?_;ac_nf;refine aB lW ?_;rw[decide_eq_true hv];ac_nf
 ·have et:(fq (eT (ae bY (aa 3) (ae ah (ae ah (aa 0) (aa 1)) (eC (.int (0)))))) (eT (ae dN (aa 1) (aC nE (ab (ae ah (ae ah (aa 0) (aa 5)) (eC (.int (2)))) af))))) [some (.ref gi),some (.int p.1),some (.int 0),some (.int v),some (.ref fi),some (.int o)] H=.ok (decide (p.1∈bo.en.to)) (H++[.lst (iw bo.en.to)]):=by
   ac_nf
   refine aB (i1 H x) ?_;ac_nf;refine aB lW ?_;rw[decide_eq_false hv];ac_nf;refine aB (i2 H x) ?_;ac_nf;refine aB (z0 bo.en H) (aB (zY (bc _ _) p.1) ?_);rfl
  unfold pT;by_cases hp:p.1∈bo.en.to
  ·rw[decide_eq_true hp] at et;have ea:=fh (o:=aa 4) (e:=aQ (ab (aa 5) (ab (aX bv (ab (ae ah (ae ah (aa 0) (aa 5)) (eC (.int (1)))) af)) af))) (σ:=[some (.ref gi),some (.int p.1),some (.int 0),some (.int v),some (.ref fi),some (.int o)]) (ph:=H++[.lst (iw bo.en.to)]) (ph1:=H++[.lst (iw bo.en.to)]) (w:=aw (o,bo.rs.length)) rfl ⟨_,x1.get hA⟩ (by
    ac_nf
    refine aB (i2 _ (x.trans x1)) ?_;ac_nf;refine aB (eF ((x.trans x1).get d2)) ?_;rw[aan];rfl) (x1.get hA) (by rw[aan];omega)
   refine⟨A++[(o,bo.rs.length)],_,cw et ea,Ex.set (x.trans x1) hf _,by rw[da (x1.get hA)];simp,by simp,(Kp.ex x1).trans (Kp.set (i:=fi) (by simp) _ _),fun q=>?_⟩;rw[aaS,aav];constructor
   ·rintro(h | rfl)
    ·exact .inl h
    ·exact .inr ⟨hv,rfl,bo,eI,hp,rfl⟩
   ·rintro(h | ⟨_,h1,ZY,h2,_,h3⟩)
    ·exact .inl h
    ·rw[eI] at h2;cases h2;exact .inr (afU h1 h3)
  ·rw[decide_eq_false hp] at et;refine⟨A,_,bN et rfl,x.trans x1,x1.get hA,by omega,Kp.ex x1,fun q=>⟨.inl,fun h=>h.elim id fun⟨_,_,ZY,h2,h3,_⟩=>?_⟩⟩;rw[eI] at h2;cases h2;exact(hp h3).elim
theorem R8{lo:Nat}(v:Int)(hG:cZ G)(g:cu lo ph0 gi G)(x:Ex ph0 ph)(hp:d8 G p):∃(i:Nat) (ph':PH) (A:List Pt),qc [.ref gi,.int p.1,.int p.2,.int v] ph=.ok (.ref i) ph'/\Ex ph ph'/\ph.length<=i/\ph'[i]? =some (.lst (A.map aw))/\A.length<=20/\∀q,q∈A↔Ah G p v q:=by
 obtain⟨b,hb,hl⟩:=hp;obtain⟨S,_,hS⟩:=hG.vs;have B:=hS b (aap hb);have tD:=B.rl;have hpl:=B.pl;have CN:=hG.top;obtain⟨p1,r1,i1,c1,d1⟩:=kQ g hb;unfold qc um;rw[xn];cases iR:p.2 with
 | succ i=>
  obtain⟨r,hr⟩:∃r,b.rs[i]? =some r:=cW (by omega);obtain⟨o,ho⟩:=Gk r v ph;have x1:Ex ph (ph++[o]):=Ex.one _ _;have J1:(eT (ae kH (aa 2) (eC (.int (0))))) [some (.ref gi),some (.int p.1),some (.int ((i+1:Nat):Int)),some (.int v),none,none] ph=.ok true ph:=by
   ac_nf
   rw[decide_eq_true (show(0:Int)<((i+1:Nat):Int) by omega)]
  have et:(eU (aC j0 (ab (ae ah (ae ah (ae ah (aa 0) (aa 1)) (eC (.int (1)))) (ae dj (aa 2) (eC (.int (1))))) (ab (aa 3) af)))) [some (.ref gi),some (.int p.1),some (.int ((i+1:Nat):Int)),some (.int v),none,none] ph=.ok (decide (r.dP=some v)) (ph++[o]):=by
   ac_nf
   refine aB (i1 ph x) ?_;ac_nf;rw[show((i+1:Nat):Int)-1=(i:Int) by omega,bg (cK (x.get d1) (show cA (b.rs.map Row.w) (i:Int)=some r.w by
    rw[gK _ _ (by rw[aan];exact(aam.mp hr).1),aau,hr];rfl)),bg ho]
   rfl
  by_cases c:r.dP=some v
  ·rw[decide_eq_true c] at et;refine⟨(ph++[o]).length,ph++[o]++[.lst []],[],fx (cw J1 (P8 (cw et rfl))),x1.trans (Ex.one _ _),x1.len,bc _ _,by simp,fun q=>⟨fun h=>(nomatch h),?_⟩⟩;rintro⟨b',df,⟨i',r',a1,a2,a3,_⟩ | ⟨a1,_⟩⟩
   ·rw[hb] at df;cases df;have:i'=i:=by omega
    subst this;rw[hr] at a2;cases a2;exact(a3 c).elim
   ·omega
  ·rw[decide_eq_false c] at et;refine⟨(ph++[o]).length,ph++[o]++[.lst [aw (p.1,i)]],[(p.1,i)],fx (cw J1 (sq (bN et rfl) (retS ?_))),x1.trans (Ex.one _ _),x1.len,bc _ _,by simp,fun q=>?_⟩
   ·ac_nf
    rw[show((i+1:Nat):Int)-1=(i:Int) by omega];rfl
   ·rw[aav];constructor
    ·rintro rfl;exact⟨b,hb,.inl ⟨i,r,iR,hr,c,rfl⟩⟩
    ·rintro⟨b',df,⟨i',r',a1,a2,a3,a4⟩ | ⟨a1,_⟩⟩
     ·have:i'=i:=by omega
      rw[a4,this]
     ·omega
 | zero=>
  have x1:Ex ph (ph++[.lst []]):=Ex.one _ _;have XD:=x.len;obtain⟨ao,H',e,o5,A,rfl,xH,k,hA,D7,hm⟩:=hU (chk:=fun _=>true) (g:=gN 5) (b:=pT)
   (fun j σ H=>∃(o5:Option W) (A:List Pt),σ=[some (.ref gi),some (.int p.1),some (.int 0),some (.int v),some (.ref ph.length),o5]/\Ex ph0 H/\Kp [ph.length] (ph++[.lst []]) H/\H[ph.length]? =some (.lst (A.map aw))/\A.length<=j/\∀q,q∈A↔(v∉b.ps/\q.1<j/\∃bo,G[q.1]? =some bo/\p.1∈bo.en.to/\q.2=bo.rs.length))
   (dc 0 G.length) [some (.ref gi),some (.int p.1),some (.int 0),some (.int v),some (.ref ph.length),none] (ph++[.lst []]) (fun _ _ _ _=>rfl)
   (fun j y σ H hj ck=>by
    obtain⟨o5,A,bK,xH,k,hA,D7,hm⟩:=ck;subst bK;obtain⟨gk,rfl⟩:=iB hj;rw[aci];obtain⟨A',H',e,ZZ,Z0,tE,k',C8⟩:=R7 (v:=v) g xH XD hb (by omega) gk hA (by omega);refine⟨_,_,rfl,_,H',e,_,.inl rfl,_,A',rfl,ZZ,k.trans k',Z0,by omega,fun q=>?_⟩;rw[C8,hm];constructor
    ·rintro(⟨h1,h2,h3⟩ | ⟨h1,h2,h3⟩)
     ·exact⟨h1,by omega,h3⟩
     ·exact⟨h1,by omega,by rw[h2];exact h3⟩
    ·rintro⟨h1,h2,h3⟩;by_cases c:q.1=j
     ·exact .inr ⟨h1,c,by rw[<- c];exact h3⟩
     ·exact .inl ⟨h1,by omega,h3⟩)
   ⟨none,[],rfl,x.trans x1,Kp.refl _ _,bc _ _,by simp,fun q=>⟨fun h=>(nomatch h),fun h=>by omega⟩⟩
  rw[j9] at D7 hm;refine⟨ph.length,H',A,?_,k.toEx x1 (fun m hm=>by simp at hm;omega),aat _,hA,by omega,fun q=>?_⟩
  ·refine bq (σ1:=[some (.ref gi),some (.int p.1),some (.int 0),some (.int v),none,none]) (ph1:=ph) (bN (ph1:=ph) rfl rfl) ?_;refine bq (σ1:=[some (.ref gi),some (.int p.1),some (.int 0),some (.int v),some (.ref ph.length),none]) (ph1:=ph++[.lst []]) rfl ?_;refine bq (eZ (fZ (j:=(G.length:Int)) (ph':=ph++[.lst []]) ?_ (by omega) (by omega)) (by rw[aba];exact e)) rfl;ac_nf;refine aB (CO g (x.trans x1)) ?_;rfl
  ·rw[hm];constructor
   ·rintro⟨h1,_,bo,h3,h4,h5⟩;exact⟨b,hb,.inr ⟨iR,h1,bo,h3,h4,h5⟩⟩
   ·rintro⟨b',df,⟨i',r',a1,_⟩ | ⟨_,a2,bo,a3,a4,a5⟩⟩
    ·omega
    ·rw[hb] at df;cases df;exact⟨a2,(aam.mp a3).1,bo,a3,a4,a5⟩
noncomputable def qW(x:QE):W:=.tup [.int x.1.1,.int x.1.2,.int x.2.1,.int x.2.2]
noncomputable def TQ(Q:List QE)(p:Pt)(v:Int):Prop:=∃s,(p,v,s)∈Q
theorem R9(p:Pt)(r:Nat)(h:rs.length=ps.length):dD (ps++[p]) (rs++[r])=dD ps rs++[(aw p,W.ref r)]:=by
 unfold dD;rw[List.zipWith_append h.symm];rfl
theorem U3{w:W}(hp:p∉ps):f7 (dD ps rs) (aw p) w=dD ps rs++[(aw p,w)]:=by
 unfold f7;rw[if_neg];intro h;rw[abK] at h;obtain⟨q,hq,e⟩:=h;simp only[decide_eq_true_eq] at e;unfold dD at hq;rw[afw] at hq;obtain⟨i,hi⟩:=hq;rw[adP] at hi;split at hi
 ·rename_i a b ha hb;cases hi;exact hp (by rw[<- vQ e];exact aap ha)
 ·cases hi
theorem LT.new{lo:Nat}(t:LT H d lo ps rs L)(hp:p∉ps)(hz:ps.length<=1000)(lI:lo<=H.length) :
  lift (lz (.ref d) (aw p) (.ref H.length)) (H++[.aG []])=.ok () ((H++[PO.aG []]).set d (.aG (dD (ps++[p]) (rs++[H.length]))))/\LT ((H++[PO.aG []]).set d (.aG (dD (ps++[p]) (rs++[H.length])))) d lo (ps++[p]) (rs++[H.length]) (L++[[]]):=by
 have x:Ex H (H++[PO.aG []]):=Ex.one _ _;have hd:=f9 t.at_;have tD:∀r∈rs,r<H.length:=fun r hr=>by
  obtain⟨k,hk⟩:=abo hr;obtain⟨l,hl⟩:∃l,L[k]? =some l:=cW (by rw[t.ll,<- t.lr];exact(aam.mp hk).1);exact f9 (t.con k r l hk hl)
 have hol:(dD ps rs).length<=ps.length:=by
  unfold dD;rw[afN];omega
 refine⟨?_,da (x.get t.at_),by simp[t.lr],by simp[t.ll],fun k r l a b=>?_,?_,?_,t.ld,fun r hr=>?_⟩
 ·rw[qK (x.get t.at_) (Hm _ _ _) (aay (by omega:_<2000) (by decide)),U3 hp,R9 p _ t.lr]
 ·rcases dZ a with⟨_,a⟩ | ⟨hk,rfl⟩
  ·rcases dZ b with⟨_,b⟩ | ⟨hk,_⟩
   ·have hr:=aap a;rw[cy (fun e=>t.nd (by rw[e];exact hr))];exact x.get (t.con k r l a b)
   ·have:=(aam.mp a).1;have:=t.lr;have:=t.ll;omega
  ·rcases dZ b with⟨sL,_⟩ | ⟨_,rfl⟩
   ·have:=t.lr;have:=t.ll;omega
   ·rw[cy (by omega)];exact bc _ _
 ·rw[adf];exact⟨t.inj,by simp,fun a ha b hb=>by
   rw[aav.mp hb];have:=tD a ha;omega⟩
 ·intro h
  rcases gn h with z | z
  ·exact t.nd z
  ·omega
 ·rcases gn hr with z | z
  ·exact t.lo r z
  ·rw[z];exact lI
theorem P9(n:Nat)(a:α):aaF n a++[a]=aaF (n+1) a:=by
 rw[List.replicate_succ']
structure P1(ph H:PH)(G:List bp)(P:List Pt)(rs:List Nat)(Q:List QE):Prop where
 t:LT H ph.length ph.length P rs (aaF P.length [])
 q:H[ph.length+1]? =some (.lst (Q.map qW))
 nq:ph.length+1∉rs
 ql:Q.length<=12*P.length
 q1:∀e∈Q,e.2.2=1
 qm:∀p v,TQ Q p v↔p∈P/\∃b,G[p.1]? =some b/\v∈dv b p.2
 ex:Ex ph H
variable{Q:List QE}{o6:Option W}
theorem Qa{P:List Pt}{w:W}{us:List Int}{o7:Option W}(s:P1 ph H G P rs Q)(hp:p∉P)(hb:G[p.1]? =some b)(hu:us=dv b p.2)(JZ:us.length<=12)(hP:P.length<=300)(hw:∀K,j7 [w] K=.ok (.ref K.length) (K++[.lst (us.map W.int)])) :
  ∃p6 H' g8 Q',t4 [s0,some (.ref ph.length),some (.ref (ph.length+1)),some (.int p.1),some (.int p.2),some w,o6,o7,o8,o9] H=.ok (.nx [s0,some (.ref ph.length),some (.ref (ph.length+1)),some (.int p.1),some (.int p.2),some w,p6,o7,o8,o9]) H'/\P1 ph H' G (P++[p]) g8 Q'/\∀j o,ph.length+2<=j->H[j]? =some o->H'[j]? =some o:=by
 have hl:=f9 s.q;have D8:=s.ql;obtain⟨e1,t1⟩:=s.t.new hp (by omega) (by omega);have a1:ax ly (h9 (aa 1) (aQ (ab (aa 3) (ab (aa 4) af)))) [s0,some (.ref ph.length),some (.ref (ph.length+1)),some (.int p.1),some (.int p.2),some w,o6,o7,o8,o9] H=.ok (.nx [s0,some (.ref ph.length),some (.ref (ph.length+1)),some (.int p.1),some (.int p.2),some w,o6,o7,o8,o9]) ((H++[PO.aG []]).set ph.length (.aG (dD (P++[p]) (rs++[H.length])))):=by
  rw[jw,vK,bg (Rz H)];ac_nf;refine aB (show lift (lz (.ref ph.length) (.tup [.int p.1,.int p.2]) (.ref H.length)) (H++[.aG []])=_ from e1) ?_;rfl
 rw[P9] at t1;have k1:Kp [ph.length] H ((H++[PO.aG []]).set ph.length (.aG (dD (P++[p]) (rs++[H.length])))):=(Kp.ex (Ex.one _ _)).trans (Kp.set (i:=ph.length) (by simp) _ _);have q1:((H++[PO.aG []]).set ph.length (.aG (dD (P++[p]) (rs++[H.length]))))[ph.length+1]? =some (.lst (Q.map qW)):=k1.2 _ _ (by simp) s.q;have x1:=k1.toEx s.ex (fun m hm=>by simp at hm;omega);have kO:((H++[PO.aG []]).set ph.length (.aG (dD (P++[p]) (rs++[H.length])))).length=H.length+1:=by simp
 generalize (H++[PO.aG []]).set ph.length (.aG (dD (P++[p]) (rs++[H.length])))=H1 at a1 t1 k1 q1 x1 kO;have jq:=hw H1;have x2:Ex H1 (H1++[.lst (us.map W.int)]):=Ex.one _ _;have J2:ph.length+1∉rs++[H.length]:=fun h=>by
  rcases gn h with z | z
  ·exact s.nq z
  ·omega
 obtain⟨ao,H',e,p6,rfl,rfl⟩:=hU (chk:=fun p=>decide (p[H1.length]? =some (.lst (us.map W.int)))) (g:=gN 6) (b:=Eh)
  (fun j σ K=>∃p6,σ=[s0,some (.ref ph.length),some (.ref (ph.length+1)),some (.int p.1),some (.int p.2),some w,p6,o7,o8,o9]/\K=(H1++[PO.lst (us.map W.int)]).set (ph.length+1) (.lst ((Q++(us.take j).map fun v=>(p,v,1)).map qW)))
  (us.map W.int) [s0,some (.ref ph.length),some (.ref (ph.length+1)),some (.int p.1),some (.int p.2),some w,o6,o7,o8,o9] (H1++[.lst (us.map W.int)])
  (fun j σ K ck=>by obtain⟨_,_,hK⟩:=ck;exact decide_eq_true (by rw[hK,cy (by omega)];exact bc _ _))
  (fun j y σ K hj fW=>by
   obtain⟨p6,bK,hK⟩:=fW;subst bK hK;rw[aau] at hj;obtain⟨v,hv,rfl⟩:=aaA.mp hj;have lV:=da (o':=.lst ((Q++(us.take j).map fun v=>(p,v,1)).map qW)) (x2.get q1);have kC:=(aam.mp hv).1;have ea:=fh (o:=aa 2) (e:=aQ (ab (aa 3) (ab (aa 4) (ab (aa 6) (ab (eC (.int (1))) af))))) (σ:=[s0,some (.ref ph.length),some (.ref (ph.length+1)),some (.int p.1),some (.int p.2),some w,some (.int v),o7,o8,o9]) (w:=qW (p,v,1)) rfl ⟨_,lV⟩ rfl lV (by simp;omega);refine⟨_,_,rfl,_,_,ea,_,.inl rfl,_,rfl,?_⟩;rw[aft,ju hv];simp)
  ⟨o6,rfl,(acj fun i=>by
   by_cases hi:ph.length+1=i
   ·subst hi;rw[da (x2.get q1),x2.get q1];simp
   ·rw[cy hi])⟩
 rw[aan,abV] at e;refine⟨p6,_,rs++[H.length],Q++us.map fun v=>(p,v,1),?_,⟨?_,da (x2.get q1),J2,?_,(fun e he=>(aaS.mp he).elim (s.q1 e) fun z=>by obtain⟨v,_,rfl⟩:=aaD.mp z;rfl),fun q v=>?_,Ex.set (x1.trans x2) (by omega) _⟩,fun j o hj ho=>?_⟩
 ·unfold t4;refine sq a1 (eZ (iz ?_ (bc _ _)) e);ac_nf;exact jq
 ·rw[aaU];exact t1.kp (M:=[ph.length+1]) ((Kp.ex x2).trans (Kp.set (i:=ph.length+1) (by simp) _ _)) (by simp) (fun r hr h=>J2 (by rw[<- aav.mp h];exact hr))
 ·simp
  omega
 ·have ht:TQ (Q++us.map fun v=>(p,v,1)) q v↔TQ Q q v\/(q=p/\v∈us):=by
   unfold TQ;constructor
   ·rintro⟨s',h⟩
    rcases aaS.mp h with z | z
    ·exact .inl ⟨s',z⟩
    ·obtain⟨y,hy,e⟩:=aaD.mp z;cases e;exact .inr ⟨rfl,hy⟩
   ·rintro(⟨s',h⟩ | ⟨rfl,h⟩)
    ·exact⟨s',abf _ h⟩
    ·exact⟨1,aaT _ (aaD.mpr ⟨v,h,rfl⟩)⟩
  rw[ht,s.qm,aaS,aav];constructor
  ·rintro(⟨h1,h2⟩ | ⟨rfl,h⟩)
   ·exact⟨.inl h1,h2⟩
   ·exact⟨.inr rfl,b,hb,by rw[<- hu];exact h⟩
  ·rintro⟨h1 | rfl,b',h2,h3⟩
   ·exact .inl ⟨h1,b',h2,h3⟩
   ·rw[hb] at h2;cases h2;exact .inr ⟨rfl,by rw[hu];exact h3⟩
 ·rw[cy (by omega)];exact x2.get (k1.2 _ _ (by simp;omega) ho)
theorem Fh(b:bp):∀(G:List bp) (k:Nat),d9 (G++[b]) k=d9 G k++lC (k+G.length) b.rs.length
 | [],k=>by simp[d9]
 | a::G,k=>by
  rw[List.cons_append];unfold d9;rw[Fh b G (k+1),adb,abb,show k+1+G.length=k+(G.length+1) by omega]
theorem P1.Ie{P:List Pt}(s:P1 ph H G P rs Q)(x:Ex H H'):P1 ph H' G P rs Q:=⟨s.t.ex x,x.get s.q,s.nq,s.ql,s.q1,s.qm,s.ex.trans x⟩
theorem U4(B:kP n (fun x=>x∈S) b)(i:Nat):(dv b i).length<=12:=by
 unfold dv;split
 ·rename_i r hr;cases r <;> simp[Row.use]
 ·exact B.el
theorem zA{w:W}(B:kP n (fun x=>x∈S) b)(h:(b.rs.map Row.w++[b.en.w])[j]? =some w):j<=b.rs.length/\(∀K,j7 [w] K=.ok (.ref K.length) (K++[.lst ((dv b j).map W.int)]))/\∀K,mF [w] K=.ok (.ref K.length) (K++[.lst ((dv b j).map W.int)]):=by
 have JY:=B.el
 rcases dZ h with⟨hj,h⟩ | ⟨hj,rfl⟩
 ·rw[aau] at h;obtain⟨r,hr,rfl⟩:=aaA.mp h;have:dv b j=r.use:=by unfold dv;rw[hr]
  rw[this];have:=(aam.mp hr).1;exact⟨by omega,U1 r,R1 r⟩
 ·rw[aan] at hj;have:dv b j=b.en.use:=by unfold dv;rw[acb (by omega)]
  rw[this];exact⟨by omega,U2 b.en (by omega),R5 b.en (by omega)⟩
theorem Qb{lo:Nat}{o7:Option W}(hG:cZ G)(g:cu lo ph gi G)(hb:G[k]? =some b)(s:P1 ph H G (d9 (G.take k) 0) rs Q) :
  ∃p4 p5 p6 H' g8 Q',t5 [some (.ref gi),some (.ref ph.length),some (.ref (ph.length+1)),some (.int k),o4,o5,o6,o7,o8,o9] H=.ok (.nx [some (.ref gi),some (.ref ph.length),some (.ref (ph.length+1)),some (.int k),p4,p5,p6,o7,o8,o9]) H'/\P1 ph H' G (d9 (G.take (k+1)) 0) g8 Q':=by
 obtain⟨S,_,hS⟩:=hG.vs;have B:=hS b (aap hb);have tD:=B.rl;have CN:=hG.top;have hk:=(aam.mp hb).1;obtain⟨ti,H1,e1,x1,l1,q1⟩:=FL g s.ex hb (by omega);have hl:=f9 s.q;have hPl:(d9 (G.take k) 0).length<=19*15:=by
  have h1:=zy (n:=14) (G:=G.take k) 0 fun b' df=>(hS b' (List.mem_of_mem_take df)).rl
  have h2:(G.take k).length<=19:=by rw[abI];omega
  have:=Nat.mul_le_mul_right 15 h2;omega
 have Wg:∀j,(k,j)∉d9 (G.take k) 0++(aaK j).map fun i=>(k,i):=fun j h=>by
  rcases aaS.mp h with z | z
  ·obtain⟨i,b',h1,h2,_⟩:=vE.mp z;have:=(aam.mp h2).1;rw[abI] at this;simp only at h1;omega
  ·obtain⟨i,hi,e⟩:=aaD.mp z;have:=abG.mp hi;injection e with _ e
   omega
 obtain⟨ao,H',e,p4,p5,p6,g8,Q',rfl,s',_⟩:=hU (chk:=fun p=>decide (p[ti]? =some (.lst (b.rs.map Row.w++[b.en.w])))) (g:=jd 2 [(gN 4),(gN 5)]) (b:=t4)
  (fun j σ K=>∃p4 p5 p6 g8 Q',σ=[some (.ref gi),some (.ref ph.length),some (.ref (ph.length+1)),some (.int k),p4,p5,p6,o7,o8,o9]/\P1 ph K G (d9 (G.take k) 0++(aaK j).map fun i=>(k,i)) g8 Q'/\K[ti]? =some (.lst (b.rs.map Row.w++[b.en.w])))
  (i6 (b.rs.map Row.w++[b.en.w])) [some (.ref gi),some (.ref ph.length),some (.ref (ph.length+1)),some (.int k),o4,o5,o6,o7,o8,o9] H1
  (fun j σ K ck=>by obtain⟨_,_,_,_,_,_,_,hK⟩:=ck;exact decide_eq_true hK)
  (fun j y σ K hj fW=>by
   obtain⟨p4,p5,p6,g8,Q',bK,s',hK⟩:=fW;subst bK;obtain⟨w,hw,rfl⟩:=Rw hj;obtain⟨hj2,hu,_⟩:=zA B hw;obtain⟨Z1,H',Z2,Q2,e,s2,fr⟩:=Qa (s0:=some (.ref gi)) (o6:=p6) (o7:=o7) (o8:=o8) (o9:=o9) (p:=(k,j)) (us:=dv b j) s' (Wg j) hb rfl (U4 B j) (by simp;omega) hu;refine⟨_,_,rfl,_,H',e,_,.inl rfl,_,_,Z1,Z2,Q2,rfl,?_,fr ti _ (by omega) hK⟩;rw[afu,abj,<- adb];exact s2)
  ⟨o4,o5,o6,rs,Q,rfl,by simpa using s.Ie x1,q1⟩
 rw[Rx,aaU,aan,adJ] at s';refine⟨p4,p5,p6,H',g8,Q',?_,?_⟩
 ·unfold t5;refine eZ (Ol (ph':=H1) ?_ q1) e;ac_nf;refine aB e1 ?_;rfl
 ·have ht:G.take (k+1)=G.take k++[b]:=ju hb;rw[ht,Fh];have dM:(G.take k).length=k:=by rw[abI];omega
  rw[dM,abi];exact s'
structure P2(ph H:PH)(G:List bp)(rs:List Nat)(L:Tab)(Q:List QE)(a:Nat):Prop where
 t:LT H ph.length ph.length (bC G) rs L
 q:H[ph.length+1]? =some (.lst (Q.map qW))
 nq:ph.length+1∉rs
 w:WI G L (TQ (Q.drop a))
 u:∀(p:Pt) b v,G[p.1]? =some b->p.2<=b.rs.length->v∈dv b p.2->iy (bC G) L p v\/TQ (Q.drop a) p v
 ql:Q.length<=3600+20*jV L
 al:a<=Q.length
 d:DI G L Q a
 ex:Ex ph H
theorem U5{H0:PH}{sz:Int}{ai:Nat}{s5 s7:Option W}(hq:H[ph.length+1]? =some (.lst (Q.map qW)))(ha:H[ai]? =some (.lst (A.map aw)))(dm:ai≠ph.length+1)(hz:Q.length+A.length<=900000)(e0:∀o9:Option W,(aC qc (ab (aa 0) (ab (aa 3) (ab (aa 4) (ab (aa 6) af))))) [s0,s1,some (.ref (ph.length+1)),some (.int p.1),some (.int p.2),s5,some (.int v),s7,some (.int sz),o9] H0=.ok (.ref ai) H) :
  ∃p9,cT (c8 (aC qc (ab (aa 0) (ab (aa 3) (ab (aa 4) (ab (aa 6) af)))))) (gN 9) yB [s0,s1,some (.ref (ph.length+1)),some (.int p.1),some (.int p.2),s5,some (.int v),s7,some (.int sz),o9] H0=.ok (.nx [s0,s1,some (.ref (ph.length+1)),some (.int p.1),some (.int p.2),s5,some (.int v),s7,some (.int sz),p9]) (H.set (ph.length+1) (.lst ((Q++A.map fun q=>(q,v,sz+1)).map qW))):=by
 obtain⟨ao,H',e,p9,rfl,rfl⟩:=hU (chk:=fun p=>decide (p[ai]? =some (.lst (A.map aw)))) (g:=gN 9) (b:=yB)
  (fun j σ K=>∃p9,σ=[s0,s1,some (.ref (ph.length+1)),some (.int p.1),some (.int p.2),s5,some (.int v),s7,some (.int sz),p9]/\K=H.set (ph.length+1) (.lst ((Q++(A.take j).map fun q=>(q,v,sz+1)).map qW)))
  (A.map aw) [s0,s1,some (.ref (ph.length+1)),some (.int p.1),some (.int p.2),s5,some (.int v),s7,some (.int sz),o9] H
  (fun j σ K nv=>by obtain⟨_,_,hK⟩:=nv;exact decide_eq_true (by rw[hK,cy (abD dm)];exact ha))
  (fun j y σ K hj D3=>by
   obtain⟨p9,bK,hK⟩:=D3;subst bK hK;rw[aau] at hj;obtain⟨q,J3,rfl⟩:=aaA.mp hj;have lV:=da (o':=.lst ((Q++(A.take j).map fun q=>(q,v,sz+1)).map qW)) hq;have kC:=(aam.mp J3).1;have ea:=fh (o:=aa 2) (e:=aQ (ab (ae ah (aa 9) (eC (.int (0)))) (ab (ae ah (aa 9) (eC (.int (1)))) (ab (aa 6) (ab (ae addW (aa 8) (eC (.int (1)))) af))))) (σ:=[s0,s1,some (.ref (ph.length+1)),some (.int p.1),some (.int p.2),s5,some (.int v),s7,some (.int sz),some (aw q)]) (w:=qW (q,v,sz+1)) rfl ⟨_,lV⟩ rfl lV (by simp;omega);refine⟨_,_,rfl,_,_,ea,_,.inl rfl,_,rfl,?_⟩;rw[aft,ju J3];simp)
  ⟨o9,rfl,(acj fun i=>by
   by_cases hi:ph.length+1=i
   ·subst hi;rw[da hq,hq];simp
   ·rw[cy hi])⟩
 rw[aan,abV] at e;exact⟨p9,eZ (iz (e0 o9) ha) e⟩
theorem Sa{a:Nat}(h:Q[a]? =some (p,v,s)):(∀q w,TQ (Q.drop a) q w->TQ (Q.drop (a+1)) q w\/(q=p/\w=v))/\(∀q w,TQ (Q.drop (a+1)) q w->TQ (Q.drop a) q w)/\TQ (Q.drop a) p v:=by
 obtain⟨hl,he⟩:=aam.mp h;have e:Q.drop a=(p,v,s)::Q.drop (a+1):=by rw[List.drop_eq_getElem_cons hl,he]
 rw[e];refine⟨fun q w ⟨s',hs⟩=>?_,fun q w ⟨s',hs⟩=>⟨s',aaY _ hs⟩,⟨s,abr⟩⟩
 rcases aaO.mp hs with z | z
 ·cases z;exact .inr ⟨rfl,rfl⟩
 ·exact .inl ⟨s',z⟩
theorem vY{R:List QE}{a:Nat}(ha:a<=Q.length):TQ ((Q++R).drop a) p v↔TQ (Q.drop a) p v\/TQ R p v:=by
 rw[List.drop_append_of_le_length ha];unfold TQ;simp only[aaS,exists_or]
theorem GS{w z:Int}:TQ (A.map fun q=>(q,v,z)) p w↔p∈A/\w=v:=by
 unfold TQ;constructor
 ·rintro⟨s,h⟩;obtain⟨q,hq,e⟩:=aaD.mp h;cases e;exact⟨hq,rfl⟩
 ·rintro⟨h,rfl⟩;exact⟨z,aaD.mpr ⟨p,h,rfl⟩⟩
noncomputable def mu(G:List bp)(L:Tab)(Q:List QE)(a:Nat):Nat:=21*(63*(bC G).length-jV L)+(Q.length-a)
theorem Sb{lo a:Nat}{o3:Option W}(hG:cZ G)(g:cu lo ph gi G)(s:P2 ph H G rs L Q a)(ha:a<Q.length) :
  ∃p3 p4 p6 p8 p9 H' L' Q',pW [some (.ref gi),some (.ref ph.length),some (.ref (ph.length+1)),o3,o4,o5,o6,some (.int a),o8,o9] H=.ok (.nx [some (.ref gi),some (.ref ph.length),some (.ref (ph.length+1)),p3,p4,o5,p6,some (.int ((a+1:Nat):Int)),p8,p9]) H'/\P2 ph H' G rs L' Q' (a+1)/\mu G L' Q' (a+1)<mu G L Q a:=by
 obtain⟨⟨p,v,sz⟩,hx⟩:∃x,Q[a]? =some x:=cW ha;obtain⟨t1,t2,t3⟩:=Sa hx;have D9:=(s.w.sT p v t3).pt;obtain⟨k,hk⟩:=s.w.pt t3;obtain⟨r,l,hr,hl,J4,hc⟩:=s.t.ix (nN G) hk;have a1:ax (ae ah (aa 2) (aa 7)) (jd 4 [(gN 3),(gN 4),(gN 6),(gN 8)]) [some (.ref gi),some (.ref ph.length),some (.ref (ph.length+1)),o3,o4,o5,o6,some (.int a),o8,o9] H=.ok (.nx [some (.ref gi),some (.ref ph.length),some (.ref (ph.length+1)),some (.int p.1),some (.int p.2),o5,some (.int v),some (.int a),some (.int sz),o9]) H:=by
  rw[jw];ac_nf;rw[bg (cK s.q (show cA (Q.map qW) (a:Int)=some (qW (p,v,sz)) by
   rw[gK _ _ (by rw[aan];exact ha),aau,hx];rfl))]
  rfl
 have a2:(eT (ae bY (aa 6) (ae ah (aa 1) (aQ (ab (aa 3) (ab (aa 4) af)))))) [some (.ref gi),some (.ref ph.length),some (.ref (ph.length+1)),some (.int p.1),some (.int p.2),o5,some (.int v),some (.int a),some (.int sz),o9] H=.ok (!decide (v∈l.map (·.1))) H:=by
  ac_nf
  refine aB (show lift (ah (.ref ph.length) (.tup [.int p.1,.int p.2])) H=_ from J4) (aB (LT.J0 hc v) ?_);rfl
 have a4:∀(o9:Option W) (H:PH),ax (ae addW (aa 7) (eC (.int (1)))) (gN 7) [some (.ref gi),some (.ref ph.length),some (.ref (ph.length+1)),some (.int p.1),some (.int p.2),o5,some (.int v),some (.int a),some (.int sz),o9] H=.ok (.nx [some (.ref gi),some (.ref ph.length),some (.ref (ph.length+1)),some (.int p.1),some (.int p.2),o5,some (.int v),some (.int ((a+1:Nat):Int)),some (.int sz),o9]) H:=fun o9 H=>rfl
 by_cases hv:v∈l.map (·.1)
 ·have hL:iy (bC G) L p v:=⟨k,l,hk,hl,hv⟩
  rw[decide_eq_true hv] at a2;refine⟨some (.int p.1),some (.int p.2),some (.int v),some (.int sz),o9,H,L,Q,?_,⟨s.t,s.q,s.nq,s.w.skip hL t1 t2,fun p' b v' h1 h2 h3=>?_,s.ql,ha,s.d.skip hx hk hl hv,s.ex⟩,?_⟩
  ·unfold pW;exact sq a1 (sq (bN a2 rfl) (a4 o9 H))
  ·rcases s.u p' b v' h1 h2 h3 with z | z
   ·exact .inl z
   ·rcases t1 _ _ z with z | ⟨rfl,rfl⟩
    ·exact .inr z
    ·exact .inl hL
  ·unfold mu;omega
 ·rw[decide_eq_false hv] at a2;have Jb:=s.w.small hG l (aap hl);obtain⟨e3,t'⟩:=s.t.put (x:=.int sz) hr hl hv (by omega);have J5:=aap hr;have a3:ax (aa 8) (h9 (ae ah (aa 1) (aQ (ab (aa 3) (ab (aa 4) af)))) (aa 6)) [some (.ref gi),some (.ref ph.length),some (.ref (ph.length+1)),some (.int p.1),some (.int p.2),o5,some (.int v),some (.int a),some (.int sz),o9] H=.ok (.nx [some (.ref gi),some (.ref ph.length),some (.ref (ph.length+1)),some (.int p.1),some (.int p.2),o5,some (.int v),some (.int a),some (.int sz),o9]) (H.set r (.aG (inD (l++[(v,.int sz)])))):=by
   rw[jw];ac_nf;refine aB (show lift (ah (.ref ph.length) (.tup [.int p.1,.int p.2])) H=_ from J4) (aB e3 ?_);rfl
  have x1:Ex ph (H.set r (.aG (inD (l++[(v,.int sz)])))):=Ex.set s.ex (s.t.lo r J5) _;have q1:(H.set r (.aG (inD (l++[(v,.int sz)]))))[ph.length+1]? =some (.lst (Q.map qW)):=by
   rw[cy (fun e=>s.nq (by rw[<- e];exact J5))];exact s.q
  generalize H.set r (.aG (inD (l++[(v,.int sz)])))=H1 at e3 t' a3 x1 q1;obtain⟨ai,H2,A,e4,x2,hai,hA,D7,Ea⟩:=R8 v hG g x1 D9;have kO:=f9 q1;have w':WI G (L.set k (l++[(v,.int sz)])) (TQ ((Q++A.map fun q=>(q,v,sz+1)).drop (a+1))):=by
   refine s.w.add (.int sz) hk hl hv t3 (fun q w h=>?_) (fun q h=>?_) (fun q w h=>?_)
   ·rcases t1 q w h with z | z
    ·exact .inl ((vY (by omega)).mpr (.inl z))
    ·exact .inr z
   ·exact(vY (by omega)).mpr (.inr (GS.mpr ⟨(Ea q).mpr h,rfl⟩))
   ·rcases(vY (by omega)).mp h with z | z
    ·exact .inl (t2 q w z)
    ·obtain⟨z1,z2⟩:=GS.mp z;exact .inr ⟨(Ea q).mp z1,z2⟩
  have hN:jV (L.set k (l++[(v,.int sz)]))<=63*(bC G).length:=by
   have:=GR (w'.small hG);rw[abg,s.w.len] at this;exact this
  have hpl:=vO hG;have D8:=s.ql;rw[vP hl] at hN;obtain⟨p9,e5⟩:=U5 (ph:=ph) (H:=H2) (H0:=H1) (p:=p) (v:=v) (sz:=sz) (A:=A) (Q:=Q) (ai:=ai) (s0:=some (.ref gi)) (s1:=some (.ref ph.length)) (s5:=o5) (s7:=some (.int a)) (o9:=o9) (x2.get q1) hA (by omega) (by omega) (fun o9=>by
   ac_nf
   exact e4)
  have kk:Kp [ph.length+1] H1 (H2.set (ph.length+1) (.lst ((Q++A.map fun q=>(q,v,sz+1)).map qW))):=(Kp.ex x2).trans (Kp.set (i:=ph.length+1) (by simp) _ _);refine⟨some (.int p.1),some (.int p.2),some (.int v),some (.int sz),p9,H2.set (ph.length+1) (.lst ((Q++A.map fun q=>(q,v,sz+1)).map qW)),L.set k (l++[(v,.int sz)]),Q++A.map fun q=>(q,v,sz+1),?_,⟨t'.kp kk (by simp) (fun r' iT h=>s.nq (by rw[<- aav.mp h];exact iT)),da (x2.get q1),s.nq,w',fun p' b v' h1 h2 h3=>?_,?_,?_,s.d.add hx hk hl Ea,kk.toEx x1 (fun m hm=>by simp at hm;omega)⟩,?_⟩
  ·unfold pW;exact sq a1 (sq (cw a2 (sq a3 e5)) (a4 p9 _))
  ·rcases s.u p' b v' h1 h2 h3 with z | z
   ·exact .inl ((qV hk hl).mpr (.inl z))
   ·rcases t1 _ _ z with z | ⟨rfl,rfl⟩
    ·exact .inr ((vY (by omega)).mpr (.inl z))
    ·exact .inl ((qV hk hl).mpr (.inr ⟨rfl,rfl⟩))
  ·rw[vP hl,aaU,aan];omega
  ·rw[aaU];omega
  ·unfold mu;rw[vP hl,aaU,aan];omega
theorem OL{lo:Nat}(hG:cZ G)(g:cu lo ph gi G):∃ph' rs L,yI [.ref gi] ph=.ok (.ref ph.length) ph'/\Ex ph ph'/\LT ph' ph.length ph.length (bC G) rs L/\(∀l∈L,l.length<=63)/\(∀l∈L,(l.map (·.1)).Nodup)/\(∀p v,iy (bC G) L p v↔LV G v p)/\∀(k:Nat) p l v w,(bC G)[k]? =some p->L[k]? =some l->(v,w)∈l->∃n:Nat,w=.int ((n+1:Nat):Int)/\Ln G v n p/\∀m,Ln G v m p->n<=m:=by
 have x1:Ex ph (ph++[.aG []]++[.lst []]):=(Ex.one _ _).trans (Ex.one _ _);have hd:(ph++[PO.aG []]++[PO.lst []])[ph.length]? =some (.aG []):=by simp
 have hq:(ph++[PO.aG []]++[PO.lst []])[ph.length+1]? =some (.lst []):=by simp
 have CN:=hG.top;obtain⟨ao,H',e,o3,o4,o5,o6,rs,Q,rfl,s⟩:=hU (chk:=fun _=>true) (g:=gN 3) (b:=t5)
  (fun j σ K=>∃o3 o4 o5 o6 rs Q,σ=[some (.ref gi),some (.ref ph.length),some (.ref (ph.length+1)),o3,o4,o5,o6,none,none,none]/\P1 ph K G (d9 (G.take j) 0) rs Q)
  (dc 0 G.length) [some (.ref gi),some (.ref ph.length),some (.ref (ph.length+1)),none,none,none,none,none,none,none] (ph++[.aG []]++[.lst []]) (fun _ _ _ _=>rfl)
  (fun j y σ K hj ck=>by
   obtain⟨o3,o4,o5,o6,rs,Q,bK,s⟩:=ck;subst bK;obtain⟨gk,rfl⟩:=iB hj;rw[aci];obtain⟨b,hb⟩:∃b,G[j]? =some b:=cW gk;obtain⟨p4,p5,p6,H',g8,Q',e,s'⟩:=Qb (o4:=o4) (o5:=o5) (o6:=o6) (o7:=none) (o8:=none) (o9:=none) hG g hb s;exact⟨_,_,rfl,_,H',e,_,.inl rfl,_,p4,p5,p6,g8,Q',rfl,s'⟩)
  ⟨none,none,none,none,[],[],rfl,⟨hd,rfl,rfl,fun k r l h=>by simp at h,adI,by simp,aat _,fun r h=>(nomatch h)⟩,hq,by simp,by simp,(fun e he=>nomatch he),fun p v=>⟨fun⟨_,h⟩=>(nomatch h),fun h=>by simp[d9] at h⟩,x1⟩
 rw[j9,abV] at s;have hpl:=vO hG;have D8:=s.ql;have e0:d9 G 0=bC G:=rfl;rw[e0] at s D8;have st:P2 ph H' G rs (aaF (bC G).length []) Q 0:=by
  have nl:∀p v,¬iy (bC G) (aaF (bC G).length []) p v:=fun p v fW=>by
   obtain⟨k,l,_,h2,h3⟩:=fW;have:=adu (aap h2);subst this;simp at h3
  refine⟨s.t,s.q,s.nq,⟨by simp,fun l hl=>?_,fun p v h=>(nl p v h).elim,fun p v h=>?_,fun p v q h=>(nl p v h).elim⟩,fun p b v h1 h2 h3=>?_,by omega,abA _,DI.start (fun e he=>⟨s.q1 e he,by
   obtain⟨h1,b,h2,h3⟩:=(s.qm e.1 e.2.1).mp ⟨e.2.2,he⟩;obtain⟨b',h4,h5⟩:=mr.mp h1;rw[h2] at h4;cases h4;exact⟨b,h2,h5,h3⟩⟩) (fun p b v h1 h2 h3=>by
   obtain⟨z,hz⟩:=(s.qm p v).mpr ⟨mr.mpr ⟨b,h1,h2⟩,b,h1,h3⟩;have:=s.q1 _ hz;simp only at this;rw[<- this];exact hz),s.ex⟩
  ·rw[adu hl];exact adI
  ·rw[List.drop_zero] at h;obtain⟨h1,b,h2,h3⟩:=(s.qm p v).mp h;obtain⟨b',h4,h5⟩:=mr.mp h1;rw[h2] at h4;cases h4;exact .use h2 h5 h3
  ·rw[List.drop_zero];exact .inr ((s.qm p v).mpr ⟨mr.mpr ⟨b,h1,h2⟩,b,h1,h3⟩)
 obtain⟨bw,H2,e2,yp,yq,o6',Eb,yr,o9',g8,L,Q',rfl,s'⟩:=yV (t:=eT (ae dB (aa 7) (aX bv (ab (aa 2) af)))) (b:=pW)
  (fun n σ K=>∃o3 o4 o6 o8 o9 rs L Q,∃a:Nat,σ=[some (.ref gi),some (.ref ph.length),some (.ref (ph.length+1)),o3,o4,o5,o6,some (.int a),o8,o9]/\P2 ph K G rs L Q a/\n=mu G L Q a)
  (fun σ K=>∃o3 o4 o6 o7 o8 o9 rs L Q,σ=[some (.ref gi),some (.ref ph.length),some (.ref (ph.length+1)),o3,o4,o5,o6,o7,o8,o9]/\P2 ph K G rs L Q Q.length)
  (fun n σ K nv=>by
   obtain⟨o3,o4,o6,o8,o9,rs,L,Q,a,bK,s,hn⟩:=nv;subst bK hn;have ht:(eT (ae dB (aa 7) (aX bv (ab (aa 2) af)))) [some (.ref gi),some (.ref ph.length),some (.ref (ph.length+1)),o3,o4,o5,o6,some (.int a),o8,o9] K=.ok (decide (a<Q.length)) K:=by
    ac_nf
    refine aB (eF s.q) ?_;rw[aan];ac_nf;simp
   by_cases ha:a<Q.length
   ·rw[decide_eq_true ha] at ht;obtain⟨p3,p4,p6,p8,p9,H',L',Q',e,s',m⟩:=Sb (o3:=o3) (o4:=o4) (o5:=o5) (o6:=o6) (o8:=o8) (o9:=o9) hG g s ha;exact .inr ⟨K,ht,_,H',e,_,.inl rfl,_,m,p3,p4,p6,p8,p9,rs,L',Q',a+1,rfl,s',rfl⟩
   ·rw[decide_eq_false ha] at ht;have:a=Q.length:=by have:=s.al;omega
    subst this;exact .inl ⟨K,ht,o3,o4,o6,_,o8,o9,rs,L,Q,rfl,s⟩)
  _ [some (.ref gi),some (.ref ph.length),some (.ref (ph.length+1)),o3,o4,o5,o6,some (.int ((0:Nat):Int)),none,none] H' ⟨o3,o4,o6,none,none,rs,_,Q,0,rfl,st,rfl⟩
 have w':=s'.w;have u':=s'.u;rw[List.drop_length] at w' u';have n':∀p v,¬TQ [] p v:=fun p v ⟨_,h⟩=>(nomatch h)
 refine⟨H2,g8,L,?_,s'.ex,s'.t,w'.small hG,w'.nd,w'.all n' (fun p b v h1 h2 h3=>(u' p b v h1 h2 h3).elim id fun z=>(n' _ _ z).elim),fun k p l v w h1 h2 h3=>s'.d.least w'.nd h1 h2 h3⟩;unfold yI uy;rw[gf];refine bq (σ1:=[some (.ref gi),some (.ref ph.length),none,none,none,none,none,none,none,none]) (ph1:=ph++[.aG []]) rfl ?_;refine bq (σ1:=[some (.ref gi),some (.ref ph.length),some (.ref (ph.length+1)),none,none,none,none,none,none,none]) (ph1:=ph++[.aG []]++[.lst []]) ?_ ?_
 ·have:=asg (i:=2) (σ:=[some (.ref gi),some (.ref ph.length),none,none,none,none,none,none,none,none]) (show(aR af) [some (.ref gi),some (.ref ph.length),none,none,none,none,none,none,none,none] (ph++[PO.aG []])=.ok (.ref (ph++[PO.aG []]).length) (ph++[PO.aG []]++[PO.lst []]) from rfl);rw[this];simp
 refine bq (eZ (fZ (j:=(G.length:Int)) (ph':=ph++[.aG []]++[.lst []]) ?_ (by omega) (by omega)) (by rw[aba];exact e)) ?_
 ·ac_nf
  refine aB (CO g x1) ?_;rfl
 exact bq rfl (bq e2 rfl)
structure Nd where
 k:Pt
 p:Option Pt
 d:Nat
noncomputable def ks(L:List Nd):List Pt:=L.map (·.k)
structure Ba(N:Pt->List Pt)(z:Pt)(L:List Nd):Prop where
 zero:L[0]? =some ⟨z,none,0⟩
 nd:(ks L).Nodup
 ji:∀(i:Nat) (x:Nd),L[i]? =some x->i≠0->∃j y,j<i/\L[j]? =some y/\x.p=some y.k/\x.d=y.d+1/\x.k∈N y.k
 mono:∀(i j:Nat) (x y:Nd),i<=j->L[i]? =some x->L[j]? =some y->x.d<=y.d
structure Bf(N:Pt->List Pt)(z:Pt)(L:List Nd)(c:Nat):Prop extends Ba N z L where
 bound:∀t,L[c]? =some t->∀x∈L,x.d<=t.d+1
 closed:∀j y,j<c->L[j]? =some y->∀o∈N y.k,∃x∈L,x.k=o/\x.d<=y.d+1
structure Bi(N:Pt->List Pt)(z:Pt)(L:List Nd)(c:Nat)(t:Nd)(m:Nat):Prop extends Ba N z L where
 at_:L[c]? =some t
 bound:∀x∈L,x.d<=t.d+1
 closed:∀j y,j<c->L[j]? =some y->∀o∈N y.k,∃x∈L,x.k=o/\x.d<=y.d+1
 part:∀o∈(N t.k).take m,o∈ks L
section
variable{N:Pt->List Pt}{z:Pt}{L:List Nd}{c m:Nat}{t:Nd}{o:Pt}
theorem Bf.start:Bf N z [⟨z,none,0⟩] 0:=by
 have one:∀{i:Nat} {x:Nd},[(⟨z,none,0⟩:Nd)][i]? =some x->i=0/\x=⟨z,none,0⟩:=fun{i x} e=>by
  cases i with
  | zero=>cases e;exact⟨rfl,rfl⟩
  | succ i=>cases e
 refine⟨⟨rfl,by simp[ks],fun i x e n=>absurd (one e).1 n,fun i j x y _ e1 e2=>?_⟩,fun t _ x hx=>?_,fun j y hj=>absurd hj (afv _)⟩
 ·rw[(one e1).2,(one e2).2];exact aat _
 ·rw[aav.mp hx];exact abA _
theorem Bf.enter(b:Bf N z L c)(h:L[c]? =some t):Bi N z L c t 0:=⟨b.toBa,h,b.bound t h,b.closed,fun o ho=>by simp at ho⟩
theorem Bi.leave(b:Bi N z L c t (N t.k).length):Bf N z L (c+1):=by
 refine⟨b.toBa,fun t' e x hx=>?_,fun j y hj e o ho=>?_⟩
 ·have:=b.mono c (c+1) t t' (acB _) b.at_ e;have:=b.bound x hx;omega
 ·by_cases Z3:j<c
  ·exact b.closed j y Z3 e o ho
  ·have:j=c:=by omega
   subst this;rw[b.at_] at e;cases e;obtain⟨x,hx,rfl⟩:=aaD.mp (b.part o (by rw[abV];exact ho));exact⟨x,hx,rfl,b.bound x hx⟩
theorem FN{α:Type}{g:List α}{m:Nat}{o o':α}(e:g[m]? =some o)(h:o'∈g.take (m+1)):o'∈g.take m\/o'=o:=by
 rw[List.take_succ,e] at h
 rcases aaS.mp h with z | z
 ·exact .inl z
 ·exact .inr (by simpa using z)
theorem Bi.skip(b:Bi N z L c t m)(e:(N t.k)[m]? =some o)(h:o∈ks L):Bi N z L c t (m+1):=⟨b.toBa,b.at_,b.bound,b.closed,fun o' ho=>(FN e ho).elim (b.part o') fun z=>z▸h⟩
theorem vR{L:List Nd}{x y:Nd}{i:Nat}(h:L[i]? =some y):(L++[x])[i]? =some y:=by
 rw[aaM (aam.mp h).1];exact h
theorem Bi.add(b:Bi N z L c t m)(e:(N t.k)[m]? =some o)(h:o∉ks L):Bi N z (L++[⟨o,some t.k,t.d+1⟩]) c t (m+1):=by
 have gh:c<L.length:=(aam.mp b.at_).1;refine⟨⟨vR b.zero,?_,fun i x ei ni=>?_,fun i j x y D5 e1 e2=>?_⟩,vR b.at_,fun x hx=>?_,fun j y hj ej o' fG=>?_,fun o' fG=>?_⟩
 ·unfold ks;rw[abj,adf];refine⟨b.nd,by simp,fun a ha c hc=>?_⟩;have:c=o:=by simpa using hc
  rintro rfl;exact h (this▸ha)
 ·rcases dZ ei with⟨_,z⟩ | ⟨rfl,rfl⟩
  ·obtain⟨j,y,h1,h2,h3⟩:=b.ji i x z ni;exact⟨j,y,h1,vR h2,h3⟩
  ·exact⟨c,t,gh,vR b.at_,rfl,rfl,aap e⟩
 ·rcases dZ e1 with⟨_,z1⟩ | ⟨rfl,rfl⟩
  ·rcases dZ e2 with⟨_,z2⟩ | ⟨rfl,rfl⟩
   ·exact b.mono i j x y D5 z1 z2
   ·exact b.bound x (aap z1)
  ·rcases dZ e2 with⟨z2,_⟩ | ⟨rfl,rfl⟩
   ·omega
   ·exact aat _
 ·rcases aaS.mp hx with z | z
  ·exact b.bound x z
  ·rw[aav.mp z];exact aat _
 ·have Z4:L[j]? =some y:=by
   rcases dZ ej with⟨_,z⟩ | ⟨z,_⟩
   ·exact z
   ·omega
  obtain⟨x,hx,h3⟩:=b.closed j y hj Z4 o' fG;exact⟨x,abf _ hx,h3⟩
 ·unfold ks;rw[abj]
  rcases FN e fG with z | rfl
  ·exact abf _ (b.part o' z)
  ·exact aaT _ (by simp)
noncomputable def pO(L:List Nd):List Pt->Prop
 | []=>True
 | [x]=>∃n∈L,n.k=x/\n.p=none
 | x::y::r=>(∃n∈L,n.k=x/\n.p=some y)/\pO L (y::r)
theorem Ba.chain(b:Ba N z L):∀(i:Nat) (x:Nd),L[i]? =some x->∃c:List Pt,pO L (x.k::c)/\c.length=x.d/\(x.k::c).getLast? =some z/\(∀(j:Nat) y y',(x.k::c)[j]? =some y'->(x.k::c)[j+1]? =some y->y'∈N y)/\∀(j:Nat) y,(x.k::c)[j]? =some y->∃(i':Nat) (n:Nd),i'<=i/\(0<j->i'<i)/\L[i']? =some n/\n.k=y:=by
 intro i
 induction i using adz with
 | _ i ih=>
  intro x hx;by_cases h0:i=0
  ·subst h0;rw[b.zero] at hx;cases hx;refine⟨[],⟨_,aap b.zero,rfl,rfl⟩,rfl,rfl,fun j y y' _ h=>by simp at h,fun j y h=>?_⟩;cases j with
   | zero=>simp at h;exact⟨0,_,aat _,fun z=>absurd z (abP _),b.zero,h⟩
   | succ j=>simp at h
  ·obtain⟨j,y,h1,h2,h3,h4,h5⟩:=b.ji i x hx h0;obtain⟨c,c1,c2,c3,c4,c5⟩:=ih j h1 y h2;refine⟨y.k::c,⟨⟨x,aap hx,rfl,h3⟩,c1⟩,by rw[abb,c2,h4],by rw[aeV];exact c3,fun m u u' e1 e2=>?_,fun m u e=>?_⟩
   ·cases m with
    | zero=>
     simp at e1 e2
     subst e1 e2;exact h5
    | succ m=>exact c4 m u u' (by simpa using e1) (by simpa using e2)
   ·cases m with
    | zero=>simp at e;exact⟨i,x,aat _,fun z=>absurd z (abP _),hx,e⟩
    | succ m=>
     obtain⟨i',n,g1,_,g3,g4⟩:=c5 m u (by simpa using e);exact⟨i',n,by omega,fun _=>by omega,g3,g4⟩
end
section
variable{G:List bp}{v:Int}{N:Pt->List Pt}{z:Pt}{L:List Nd}
noncomputable def Us(G:List bp)(v:Int)(p:Pt):Prop:=∃b,G[p.1]? =some b/\p.2<=b.rs.length/\v∈dv b p.2
theorem near(b:Bf N z L L.length)(hN:∀p q,q∈N p↔Ah G q v p):∀(m:Nat) (x:Nd),x∈L->Ln G v m x.k->∃y∈L,Us G v y.k/\y.d<=x.d+m
 | 0,x,hx,h=>⟨x,hx,h,by omega⟩
 | m+1,x,hx,⟨q,h1,h2⟩=>by
  obtain⟨j,hj⟩:=abo hx;obtain⟨y,hy,rfl,e⟩:=b.closed j x (aam.mp hj).1 hj q ((hN _ _).mpr h2);obtain⟨u,hu,h3,h4⟩:=near b hN m y hy h1;exact⟨u,hu,h3,by omega⟩
theorem U6(hN:∀p q,q∈N p↔Ah G q v p):∀(c:List Pt) (x:Pt),Us G v x->(∀(j:Nat) y y',(x::c)[j]? =some y'->(x::c)[j+1]? =some y->y'∈N y)->∀w,(x::c).getLast? =some w->Ln G v c.length w:=by
 have key:∀(c:List Pt) (x:Pt) (n:Nat),Ln G v n x->(∀(j:Nat) y y',(x::c)[j]? =some y'->(x::c)[j+1]? =some y->y'∈N y)->∀w,(x::c).getLast? =some w->Ln G v (n+c.length) w:=by
  intro c
  induction c with
  | nil=>intro x n h _ w hw;simp at hw;subst hw;exact h
  | cons y c ih=>
   intro x n h hc w hw;rw[aeV] at hw;have h1:=hc 0 y x rfl rfl;have:=ih y (n+1) ⟨x,h,(hN _ _).mp h1⟩ (fun j a a' e1 e2=>hc (j+1) a a' (by simpa using e1) (by simpa using e2)) w hw;rw[abb,show n+(c.length+1)=n+1+c.length by omega];exact this
 intro c x hx hc w hw;have:=key c x 0 hx hc w hw
 rwa [abi] at this
end
theorem FO{lo:Nat}(g:cu lo ph gi G)(hb:G[p.1]? =some b)(hl:p.2<=b.rs.length):∃w,(b.rs.map Row.w++[b.en.w])[p.2]? =some w/\∀H,Ex ph H->nT [.ref gi,aw p] H=.ok w H:=by
 obtain⟨p1,r1,i1,c1,d1⟩:=kQ g hb;unfold nT vD;have pre:∀(H:PH) (w:W),Ex ph H->(lL (eT (ae dB (ae ah (aa 1) (eC (.int (1)))) (aX bv (ab (ae ah (aa 2) (eC (.int (1)))) af)))) (ae ah (ae ah (aa 2) (eC (.int (1)))) (ae ah (aa 1) (eC (.int (1))))) (ae ah (aa 2) (eC (.int (2))))) [some (.ref gi),some (aw p),some (.tup [.ref p1,.ref r1,b.en.w])] H=.ok w H->fM (av (ax (ae ah (aa 0) (ae ah (aa 1) (eC (.int (0))))) (gN 2)) (aW (lL (eT (ae dB (ae ah (aa 1) (eC (.int (1)))) (aX bv (ab (ae ah (aa 2) (eC (.int (1)))) af)))) (ae ah (ae ah (aa 2) (eC (.int (1)))) (ae ah (aa 1) (eC (.int (1))))) (ae ah (aa 2) (eC (.int (2))))))) 3 2 [.ref gi,aw p] H=.ok w H:=fun H w x h=>by
  rw[gU];refine bq (σ1:=[some (.ref gi),some (aw p),some (.tup [.ref p1,.ref r1,b.en.w])]) (ph1:=H) ?_ (br h);rw[jw];unfold aw;ac_nf;refine aB (i1 H x) ?_;rfl
 by_cases h:p.2<b.rs.length
 ·obtain⟨r,hr⟩:∃r,b.rs[p.2]? =some r:=cW h;refine⟨r.w,by rw[aaM (by rw[aan];exact h),aau,hr];rfl,fun H x=>pre H _ x ?_⟩;unfold aw;ac_nf;refine aB (eF (x.get d1)) ?_;rw[aan];ac_nf;rw[decide_eq_true (show((p.2:Nat):Int)<(b.rs.length:Int) by omega)];ac_nf;rw[cK (x.get d1) (show cA (b.rs.map Row.w) (p.2:Int)=some r.w by
   rw[gK _ _ (by rw[aan];exact h),aau,hr];rfl)]
 ·refine⟨b.en.w,by rw[acr (by rw[aan];omega),aan,show p.2-b.rs.length=0 by omega];rfl,fun H x=>pre H _ x ?_⟩;unfold aw;ac_nf;refine aB (eF (x.get d1)) ?_;rw[aan];ac_nf;rw[decide_eq_false (show ¬((p.2:Nat):Int)<(b.rs.length:Int) by omega)];ac_nf
  all_goals rfl
theorem U7(r:Row)(v:Int)(H:PH):lift (aY (CP r) (.int v)) H=.ok (.bl (decide (r.dP=some v))) H:=by
 unfold CP;cases h:r.dP with
 | none=>rfl
 | some u=>
  simp only;rw[lb];simp;rfl
noncomputable def jr(G:List bp)(o:Nat):List Int:=match G[o]? with
 | some b=>b.ps
 | none=>[]
noncomputable def Nb(G:List bp)(v:Int)(p:Pt):List Pt:=match G[p.1]? with
 | none=>[]
 | some b=>match b.rs[p.2]? with
  | some r=>if r.dP=some v then[] else[(p.1,p.2+1)]
  | none=>if p.2=b.rs.length then(b.en.to.filter fun o=> !decide (v∈jr G o)).map fun o=>(o,0) else[]
theorem vZ{r:Row}(hb:G[p.1]? =some b)(hr:b.rs[p.2]? =some r):Nb G v p=if r.dP=some v then[] else[(p.1,p.2+1)]:=by
 unfold Nb;simp only[hb,hr]
theorem AL(hb:G[p.1]? =some b)(hl:p.2=b.rs.length):Nb G v p=(b.en.to.filter fun o=> !decide (v∈jr G o)).map fun o=>(o,0):=by
 unfold Nb;have:b.rs[p.2]? =none:=acb (by omega);simp only[hb,this];rw[if_pos hl]
theorem BK(hG:cZ G)(p q:Pt):q∈Nb G v p↔Ah G q v p:=by
 obtain⟨S,_,hS⟩:=hG.vs;cases hb:G[p.1]? with
 | none=>
  have:Nb G v p=[]:=by unfold Nb;simp only[hb]
  rw[this];constructor
  ·intro h;cases h
  ·rintro⟨b,df,⟨i,r,_,_,_,rfl⟩ | ⟨_,_,bo,h3,_⟩⟩
   ·rw[hb] at df;cases df
   ·rw[hb] at h3;cases h3
 | some b=>
  cases hr:b.rs[p.2]? with
  | some r=>
   have dM:=(aam.mp hr).1;rw[vZ hb hr];constructor
   ·intro h;by_cases c:r.dP=some v
    ·rw[if_pos c] at h;cases h
    ·rw[if_neg c,aav] at h;subst h;exact⟨b,hb,.inl ⟨p.2,r,rfl,hr,c,rfl⟩⟩
   ·rintro⟨b',df,⟨i,r',h1,h2,h3,rfl⟩ | ⟨_,_,bo,h3,_,h5⟩⟩
    ·rw[hb] at df;cases df;rw[hr] at h2;cases h2;rw[if_neg h3,aav];exact afU rfl h1
    ·rw[hb] at h3;cases h3;omega
  | none=>
   have pA:=aeC.mp hr;by_cases hl:p.2=b.rs.length
   ·rw[AL hb hl];constructor
    ·intro h;obtain⟨o,ho,rfl⟩:=aaD.mp h;obtain⟨h1,h2⟩:=aeb.mp ho;obtain⟨bo,eI⟩:∃bo,G[o]? =some bo:=cW ((hS b (aap hb)).to o h1);have h3:v∉bo.ps:=by
      unfold jr at h2;simp only[eI] at h2
      simpa using h2
     exact⟨bo,eI,.inr ⟨rfl,h3,b,hb,h1,hl⟩⟩
    ·rintro⟨b',df,⟨i,r',h1,h2,h3,rfl⟩ | ⟨h1,h2,bo,h3,h4,h5⟩⟩
     ·rw[hb] at df;cases df;rw[hr] at h2;cases h2
     ·rw[hb] at h3;cases h3;refine aaD.mpr ⟨q.1,aeb.mpr ⟨h4,?_⟩,afU rfl h1.symm⟩;unfold jr;simp only[df]
      simpa using h2
   ·have:Nb G v p=[]:=by
     unfold Nb;simp only[hb,hr];rw[if_neg hl]
    rw[this];constructor
    ·intro h;cases h
    ·rintro⟨b',df,⟨i,r',h1,h2,h3,rfl⟩ | ⟨h1,h2,bo,h3,h4,h5⟩⟩
     ·rw[hb] at df;cases df;rw[hr] at h2;cases h2
     ·rw[hb] at h3;cases h3;exact absurd h5 hl
theorem GU{lo:Nat}{im:IM}(hG:cZ G)(g:cu lo ph gi G)(hb:b∈G)(y:Ex ph H)(h1:fF [none,some 2,some 0] σ=[none,some (.int v),some (.ref gi)])(hi:H[i]? =some (.lst (iw b.en.to))){H0:PH}(td:im σ H0=.ok (iw b.en.to,fun p=>decide (p[i]? =some (.lst (iw b.en.to)))) H) :
  ∃H',dW im [none,some 2,some 0] (gN 0) (eT (ae bY (aa 1) (ae ah (ae ah (aa 2) (aa 0)) (eC (.int (0)))))) (aQ (ab (aa 0) (ab (eC (.int (0))) af))) σ H0=.ok (.ref H.length) H'/\Ex (H++[.lst (((b.en.to.filter fun o=> !decide (v∈jr G o)).map fun o:Nat=>((o,0):Pt)).map aw)]) H':=by
 obtain⟨S,_,hS⟩:=hG.vs;obtain⟨H',e,x⟩:=j8 b.en.to (fun k:Nat=>W.int k) (cap:=[none,some 2,some 0]) (g:=gN 0) (c:=eT (ae bY (aa 1) (ae ah (ae ah (aa 2) (aa 0)) (eC (.int (0)))))) (e:=aQ (ab (aa 0) (ab (eC (.int (0))) af))) td (fun _ z=>decide_eq_true (z.get hi)) (by
   cases b.en <;> simp[En.to] <;> decide)
  (fun o=>if v∈jr G o then none else some (aw (o,0))) (fun σ=>∃o,σ=[o,some (.int v),some (.ref gi)]) (by rw[h1];exact⟨_,rfl⟩)
  (fun o ho σ K ck hx=>by
   obtain⟨q,bK⟩:=ck;subst bK;obtain⟨bo,eI⟩:∃bo,G[o]? =some bo:=cW ((hS b hb).to o ho);obtain⟨p2,r2,i2,c2,d2⟩:=kQ g eI;have z:=y.trans hx;have et:eT (ae bY (aa 1) (ae ah (ae ah (aa 2) (aa 0)) (eC (.int (0))))) [some (.int o),some (.int v),some (.ref gi)] K=.ok (!decide (v∈bo.ps)) K:=by
    ac_nf
    refine aB (i2 K z) ?_;ac_nf;refine aB (E5 (z.get c2) v) ?_;rfl
   have tq:jr G o=bo.ps:=by unfold jr;rw[eI]
   refine⟨_,rfl,⟨_,rfl⟩,_,K,et,Ex.refl _,?_⟩;rw[tq];by_cases c:v∈bo.ps
   ·exact .inl ⟨by rw[decide_eq_true c];rfl,by rw[if_pos c]⟩
   ·exact .inr ⟨by rw[decide_eq_false c];rfl,_,K,rfl,Ex.refl _,by rw[if_neg c];rfl⟩)
 refine⟨H',e,?_⟩;have:b.en.to.filterMap (fun o=>if v∈jr G o then none else some (aw (o,0)))=((b.en.to.filter fun o=> !decide (v∈jr G o)).map fun o:Nat=>((o,0):Pt)).map aw:=by
  generalize b.en.to=l
  induction l with
  | nil=>rfl
  | cons o l ih=>
   rw[acI,List.filter_cons];by_cases c:v∈jr G o
   ·simp only[if_pos c,decide_eq_true c];exact ih
   ·simp only[if_neg c,decide_eq_false c];rw[ih];rfl
 rw[this] at x;exact x
theorem LJ{lo:Nat}(v:Int)(hG:cZ G)(g:cu lo ph gi G)(x:Ex ph H)(hp:d8 G p):∃(i:Nat) (H':PH),yF [.ref gi,aw p,.int v] H=.ok (.ref i) H'/\Ex H H'/\H.length<=i/\H'[i]? =some (.lst ((Nb G v p).map aw)):=by
 obtain⟨b,hb,hl⟩:=hp;obtain⟨p1,r1,i1,c1,d1⟩:=kQ g hb;obtain⟨w,hw,ew⟩:=FO g hb hl;unfold yF t9;rw[ia];have e0:ax (aC nT (ab (aa 0) (ab (aa 1) af))) (gN 3) [some (.ref gi),some (aw p),some (.int v),none] H=.ok (.nx [some (.ref gi),some (aw p),some (.int v),some w]) H:=by
  refine asg ?_;ac_nf;exact ew H x
 have et:(eT (ae dB (ae ah (aa 1) (eC (.int (1)))) (aX bv (ab (ae ah (ae ah (aa 0) (ae ah (aa 1) (eC (.int (0))))) (eC (.int (1)))) af)))) [some (.ref gi),some (aw p),some (.int v),some w] H=.ok (decide (p.2<b.rs.length)) H:=by
  unfold aw;ac_nf;refine aB (i1 H x) ?_;ac_nf;refine aB (eF (x.get d1)) ?_;rw[aan];ac_nf
  congr 1
  simp
 by_cases h:p.2<b.rs.length
 ·obtain⟨r,hr⟩:∃r,b.rs[p.2]? =some r:=cW h;have Ec:w=r.w:=by
   rw[aaM (by rw[aan];exact h),aau,hr] at hw;cases hw;rfl
  subst Ec;rw[decide_eq_true h] at et;rw[vZ hb hr];have eg:(eT (ae aY (aC vN (ab (aa 3) af)) (aa 2))) [some (.ref gi),some (aw p),some (.int v),some r.w] H=.ok (decide (r.dP=some v)) H:=by
   ac_nf
   refine aB (R6 r H) (aB (U7 r v H) ?_);rfl
  by_cases c:r.dP=some v
  ·rw[decide_eq_true c] at eg;rw[if_pos c];refine⟨H.length,H++[.lst []],bq e0 (fx (cw et (retS ?_))),Ex.one _ _,aat _,bc _ _⟩;rw[rm,bg eg];rfl
  ·rw[decide_eq_false c] at eg;rw[if_neg c];refine⟨H.length,H++[.lst [aw (p.1,p.2+1)]],bq e0 (fx (cw et (retS ?_))),Ex.one _ _,aat _,bc _ _⟩;rw[rm,bg eg];rfl
 ·have Ec:w=b.en.w:=by
   rw[acr (by rw[aan];omega),aan,show p.2-b.rs.length=0 by omega] at hw;cases hw;rfl
  subst Ec;rw[decide_eq_false h] at et;rw[AL hb (by omega)];obtain⟨H1,ay⟩:∃H1,H1=H++[PO.lst (iw b.en.to)]:=⟨_,rfl⟩
  have x1:Ex H H1:=by rw[ay];exact Ex.one _ _
  have q1:H1[H.length]? =some (.lst (iw b.en.to)):=by rw[ay];exact bc _ _
  obtain⟨H',e,x2⟩:=GU (v:=v) (im:=c8 (aC yD (ab (aa 3) af))) (i:=H.length) (σ:=[some (.ref gi),some (aw p),some (.int v),some b.en.w]) (H0:=H) hG g (aap hb) (x.trans x1) rfl q1 (iz (by
   ac_nf
   rw[ay];exact OJ b.en H) q1)
  exact⟨H1.length,H',bq e0 (bq (bN et rfl) (br e)),x1.trans ((Ex.one _ _).trans x2),x1.len,x2.get (bc _ _)⟩
theorem NH{lo:Nat}(g:cu lo ph gi G)(x:Ex ph H)(hp:d8 G p):u9 [.ref gi,.int p.1,.int p.2] H=.ok (.bl true) H:=by
 obtain⟨b,hb,hl⟩:=hp;obtain⟨p1,r1,i1,c1,d1⟩:=kQ g hb;have hk:=(aam.mp hb).1;unfold u9 u7;rw[ia];refine br ?_;rw[nX];refine aB (a:=.bl true) (ph':=H) ?_ ?_
 ·unfold k5;refine aB rfl (aB rfl (aB (a:=.bl true) (ph':=H) ?_ ?_))
  ·ac_nf
   rw[decide_eq_true (show(0:Int)<=(p.1:Int) by omega)]
  ·simp only[if_true];refine aB (by ac_nf;exact CO g x) ?_;ac_nf;rw[decide_eq_true (show(p.1:Int)<(G.length:Int) by omega)]
 ·simp only[if_true];unfold k5;refine aB rfl (aB rfl (aB (a:=.bl true) (ph':=H) ?_ ?_))
  ·ac_nf
   rw[decide_eq_true (show(0:Int)<=(p.2:Int) by omega)]
  ·simp only[if_true];refine aB (a:=.int b.rs.length) (ph':=H) ?_ ?_
   ·ac_nf
    refine aB (i1 H x) ?_;ac_nf;refine(eF (x.get d1)).trans ?_;rw[aan]
   ·ac_nf
    rw[decide_eq_true (show(p.2:Int)<=(b.rs.length:Int) by omega)]
noncomputable def tF:Option Pt->W
 | none=>.aJ
 | some q=>aw q
noncomputable def dw(L:List Nd):List (W×W):=L.map fun x=>(aw x.k,tF x.p)
noncomputable def lY(L:List Nd):List W:=(ks L).map aw
theorem BL(L:List Nd)(k:Pt):d0 (dw L) (aw k)=true:=by
 have ha:((dw L).all fun q=>jo q.1)=true:=by
  rw[abJ];intro q hq;obtain⟨x,_,rfl⟩:=aaD.mp hq;rfl
 unfold d0;rw[ha];simp[r9,aw,bH,mT]
theorem GV:∀{L:List Nd} {x:Nd},(ks L).Nodup->x∈L->dg (dw L) (aw x.k)=some (tF x.p)
 | y::L,x,h,hx=>by
  obtain⟨h1,h2⟩:=acl.mp h;unfold dg dw;rw[aaX,abR]
  rcases aaO.mp hx with rfl | hx
  ·simp
  ·have:¬aw y.k=aw x.k:=fun z=>h1 (aaD.mpr ⟨x,hx,(vQ z).symm⟩)
   simp only[this,decide_false];exact GV h2 hx
theorem GW(L:List Nd)(k:Pt):((dw L).any fun q=>decide (q.1=aw k))=decide (k∈ks L):=by
 rw[aco,abK];simp only[decide_eq_true_eq];constructor
 ·rintro⟨q,hq,e⟩;obtain⟨x,hx,rfl⟩:=aaD.mp hq;exact aaD.mpr ⟨x,hx,vQ e⟩
 ·intro h;obtain⟨x,hx,rfl⟩:=aaD.mp h;exact⟨_,aaD.mpr ⟨x,hx,rfl⟩,rfl⟩
theorem Wh(L:List Nd)(k:Pt):(dg (dw L) (aw k)).isSome=decide (k∈ks L):=by
 rw[<- GW];unfold dg;rw[acH,aco,aeL,abK]
theorem U8(L:List Nd)(x:Nd)(h:x.k∉ks L):f7 (dw L) (aw x.k) (tF x.p)=dw (L++[x]):=by
 unfold f7;rw[GW,if_neg (by rw[decide_eq_false h];exact abe)];unfold dw;rw[abj];rfl
theorem Wi(hG:cZ G)(h:q∈Nb G v p):d8 G q:=by
 obtain⟨b,hb,⟨i,r,h1,h2,_,rfl⟩ | ⟨h1,_⟩⟩:=(BK hG p q).mp h
 ·have:=(aam.mp h2).1;exact⟨b,hb,by omega⟩
 ·exact⟨b,hb,by omega⟩
section
variable{G:List bp}{v:Int}{z:Pt}{L:List Nd}
theorem Ba.pt(b:Ba (Nb G v) z L)(hG:cZ G)(hz:d8 G z){x:Nd}(hx:x∈L):d8 G x.k:=by
 obtain⟨i,hi⟩:=abo hx;by_cases h0:i=0
 ·subst h0;rw[b.zero] at hi;cases hi;exact hz
 ·obtain⟨j,y,_,_,_,_,h⟩:=b.ji i x hi h0;exact Wi hG h
theorem Ba.len(b:Ba (Nb G v) z L)(hG:cZ G)(hz:d8 G z):L.length<=300:=by
 have:=y8 b.nd (S:=bC G) fun x hx=>by
  obtain⟨y,hy,rfl⟩:=aaD.mp hx;exact mr.mpr (b.pt hG hz hy)
 have:=vO hG;unfold ks at *;rw[aan] at *;omega
structure Fd(ph H:PH)(di qi:Nat)(L:List Nd):Prop where
 ex:Ex ph H
 ld:ph.length<=di
 lq:ph.length<=qi
 ne:di≠qi
 d:H[di]? =some (.aG (dw L))
 q:H[qi]? =some (.lst (lY L))
variable{ph H:PH}{qi:Nat}
theorem Fd.mono{H':PH}{di:Nat}(f:Fd ph H di qi L)(x:Ex H H'):Fd ph H' di qi L:=⟨f.ex.trans x,f.ld,f.lq,f.ne,x.get f.d,x.get f.q⟩
noncomputable def oV(H:PH)(di qi:Nat)(L:List Nd):PH:=(H.set di (.aG (dw L))).set qi (.lst (lY L))
theorem Fd.add{di:Nat}(f:Fd ph H di qi L)(x:Nd):Fd ph (oV H di qi (L++[x])) di qi (L++[x]):=
 ⟨Ex.set (Ex.set f.ex f.ld _) f.lq _,f.ld,f.lq,f.ne,by unfold oV;rw[cy (abD f.ne)];exact da f.d,da (by rw[cy f.ne];exact f.q)⟩
theorem GX{di:Nat}(f:Fd ph H di qi L)(k:Pt):lift (bY (aw k) (.ref di)) H=.ok (.bl (!decide (k∈ks L))) H:=by
 rw[nS f.d (BL L _),Wh]
theorem Ia{di:Nat}{σ:aS}{e k:EM}{x:Nd}(f:Fd ph H di qi L)(hx:x.k∉ks L)(hl:L.length<=300)(he:e σ=aA (tF x.p))(hk:k σ=aA (aw x.k))(h2:aa 2 σ=aA (.ref di))(h3:aa 3 σ=aA (.ref qi)) :
  av (ax e (h9 (aa 2) k)) (cO (cz bU cB (aa 3) (ab k af))) σ H=.ok (.nx σ) (oV H di qi (L++[x])):=by
 have q2:(H.set di (.aG (dw (L++[x]))))[qi]? =some (.lst (lY L)):=by rw[cy f.ne];exact f.q
 refine sq (σ1:=σ) (ph1:=H.set di (.aG (dw (L++[x])))) ?_ ?_
 ·rw[jw,he];rw[fD];unfold h9;rw[h2,hk];ac_nf;rw[bg (qK f.d (BL L _) (by unfold dw;rw[aan];exact aeu hl (by decide)) _),U8 L x hx];rfl
 ·have:=fh (e:=k) (o:=aa 3) (σ:=σ) (ph:=H.set di (.aG (dw (L++[x])))) (ph1:=H.set di (.aG (dw (L++[x])))) (i:=qi) (w:=aw x.k) h3 ⟨_,q2⟩ (by rw[hk];rfl) q2 (by unfold lY ks;rw[aan,aan];omega);rw[this];unfold oV lY ks;rw[abj,abj];rfl
variable{s0 s4:Option W}
theorem U9{s1 s5:Option W}{di c m:Nat}{o:Pt}{t:Nd}(hG:cZ G)(hz:d8 G z)(f:Fd ph H di qi L)(b:Bi (Nb G v) z L c t m)(e:(Nb G v t.k)[m]? =some o) :
  ∃H' L',ub [s0,s1,some (.ref di),some (.ref qi),s4,s5,some (aw t.k),some (aw o)] H=.ok (.nx [s0,s1,some (.ref di),some (.ref qi),s4,s5,some (aw t.k),some (aw o)]) H'/\Fd ph H' di qi L'/\Bi (Nb G v) z L' c t (m+1)/\∀j,j≠di->j≠qi->H'[j]? =H[j]? :=by
 have hl:=b.len hG hz;have et:eT (ae bY (aa 7) (aa 2)) [s0,s1,some (.ref di),some (.ref qi),s4,s5,some (aw t.k),some (aw o)] H=.ok (!decide (o∈ks L)) H:=by
  ac_nf
  rw[bg (GX f o)];rfl
 unfold ub;by_cases h:o∈ks L
 ·rw[decide_eq_true h] at et;exact⟨H,L,bN et rfl,f,b.skip e h,fun _ _ _=>rfl⟩
 ·rw[decide_eq_false h] at et;refine⟨_,_,cw et (Ia (x:=⟨o,some t.k,t.d+1⟩) f h hl rfl rfl rfl rfl),f.add ⟨o,some t.k,t.d+1⟩,b.add e h,fun j h1 h2=>?_⟩;unfold oV;rw[cy (abD h2),cy (abD h1)]
variable{gi:Nat}
theorem ON{lo:Nat}{p:Pt}{s2 s3 s5 s7:Option W}(hG:cZ G)(g:cu lo ph gi G)(x:Ex ph H)(hp:d8 G p):∃(i:Nat) (H':PH),ox "way_to" l_way_to 1 (ab (aa 6) af) [s0,some (.fn "way_to" [.int v,.ref gi]),s2,s3,s4,s5,some (aw p),s7] H=.ok (.ref i) H'/\Ex H H'/\H.length<=i/\H'[i]? =some (.lst ((Nb G v p).map aw)):=by
 obtain⟨i,H',e,h⟩:=LJ v hG g x hp;refine⟨i,H',?_,h⟩;have e2:l_way_to [some (aw p),some (.int v),some (.ref gi)] H=.ok (.ref i) H':=by
  unfold l_way_to;ac_nf;exact e
 unfold ox;simp only[aeU,List.getElem?_cons_zero,B4,if_true];ac_nf;unfold xo eV;simp only[e2]
theorem Va{lo:Nat}{s6 s7:Option W}{di c:Nat}{t:Nd}(hG:cZ G)(hz:d8 G z)(g:cu lo ph gi G)(f:Fd ph H di qi L)(b:Bf (Nb G v) z L c)(hc:L[c]? =some t) :
  ∃H' L' Ed lZ,ue [s0,some (.fn "way_to" [.int v,.ref gi]),some (.ref di),some (.ref qi),s4,some (.int c),s6,s7] H =
   .ok (.nx [s0,some (.fn "way_to" [.int v,.ref gi]),some (.ref di),some (.ref qi),s4,some (.int ((c+1:Nat):Int)),Ed,lZ]) H'/\Fd ph H' di qi L'/\Bf (Nb G v) z L' (c+1)/\c<L'.length:=by
 obtain⟨i,H1,e1,x1,li,q1⟩:=ON (v:=v) (s0:=s0) (s2:=some (.ref di)) (s3:=some (.ref qi)) (s4:=s4) (s5:=some (.int ((c:Int)+1))) (s7:=s7) hG g f.ex (b.pt hG hz (aap hc));have hd:=f9 f.d;have hq:=f9 f.q;have m9:cA (lY L) (c:Int)=some (aw t.k):=by
  have gh:=(aam.mp hc).1;unfold lY ks;rw[gK _ _ (by rw[aan,aan];exact gh),aau,aau,hc];rfl
 obtain⟨ao,H',e,L',lZ,rfl,f',b',_⟩:=hU (chk:=fun p=>decide (p[i]? =some (.lst ((Nb G v t.k).map aw)))) (g:=gN 7) (b:=ub)
  (fun m σ H=>∃L' lZ,σ=[s0,some (.fn "way_to" [.int v,.ref gi]),some (.ref di),some (.ref qi),s4,some (.int ((c:Int)+1)),some (aw t.k),lZ]/\Fd ph H di qi L'/\Bi (Nb G v) z L' c t m/\H[i]? =some (.lst ((Nb G v t.k).map aw)))
  ((Nb G v t.k).map aw) [s0,some (.fn "way_to" [.int v,.ref gi]),some (.ref di),some (.ref qi),s4,some (.int ((c:Int)+1)),some (aw t.k),s7] H1
  (fun m σ H ck=>by obtain⟨_,_,_,_,_,h⟩:=ck;exact decide_eq_true h)
  (fun m x σ H hm fW=>by
   obtain⟨L',lZ,e,f,b,h⟩:=fW;subst e;rw[aau] at hm;obtain⟨o,ho,rfl⟩:=aaA.mp hm;obtain⟨H',L2,e1,f1,b1,k⟩:=U9 (s0:=s0) (s1:=some (.fn "way_to" [.int v,.ref gi])) (s4:=s4) (s5:=some (.int ((c:Int)+1))) hG hz f b ho;exact⟨_,_,rfl,_,_,e1,_,.inl rfl,L2,_,rfl,f1,b1,by rw[k i (by omega) (by omega)];exact h⟩)
  ⟨L,s7,rfl,f.mono x1,b.enter hc,q1⟩
 rw[aan] at b';refine⟨H',L',some (aw t.k),lZ,?_,f',b'.leave,(aam.mp b'.at_).1⟩;unfold ue;refine sq (σ1:=[s0,some (.fn "way_to" [.int v,.ref gi]),some (.ref di),some (.ref qi),s4,some (.int c),some (aw t.k),s7]) (ph1:=H) (asg (by ac_nf;exact cK f.q m9)) ?_;refine sq (σ1:=[s0,some (.fn "way_to" [.int v,.ref gi]),some (.ref di),some (.ref qi),s4,some (.int ((c:Int)+1)),some (aw t.k),s7]) (ph1:=H) rfl ?_;rw[eZ (iz e1 q1) e];rfl
theorem Sd{lo si:Nat}(hG:cZ G)(hz:d8 G z)(g:cu lo ph gi G)(hs:ph[si]? =some (.lst [aw z])):∃ph' L,uO [.ref si,.fn "way_to" [.int v,.ref gi]] ph=.ok (.ref ph.length) ph'/\Ex ph ph'/\ph'[ph.length]? =some (.aG (dw L))/\Bf (Nb G v) z L L.length:=by
 obtain⟨H0,J6⟩:∃H0,H0=ph++[.aG []]++[.lst []]:=⟨_,rfl⟩
 obtain⟨qi,J7⟩:∃qi,qi=(ph++[PO.aG []]).length:=⟨_,rfl⟩
 have f0:Fd ph H0 ph.length qi []:=by
  rw[J6,J7];exact⟨(Ex.one _ _).trans (Ex.one _ _),aat _,by simp,by simp,(Ex.one _ _).get (bc _ _),bc _ _⟩
 have f1:=f0.add ⟨z,none,0⟩;have J8:H0[si]? =some (.lst [aw z]):=f0.ex.get hs;obtain⟨H1,ay⟩:∃H1,H1=oV H0 ph.length qi ([]++[⟨z,none,0⟩]):=⟨_,rfl⟩
 rw[<- ay] at f1;have e1:cH (fun p=>decide (p[si]? =some (.lst [aw z]))) (gN 4) ua [aw z] [some (.ref si),some (.fn "way_to" [.int v,.ref gi]),some (.ref ph.length),some (.ref qi),none,none,none,none] H0 =
   .ok (.nx [some (.ref si),some (.fn "way_to" [.int v,.ref gi]),some (.ref ph.length),some (.ref qi),some (aw z),none,none,none]) H1:=by
  have et:eT (ae bY (aa 4) (aa 2)) [some (.ref si),some (.fn "way_to" [.int v,.ref gi]),some (.ref ph.length),some (.ref qi),some (aw z),none,none,none] H0=.ok true H0:=by
   ac_nf
   rw[bg (GX f0 z)];rfl
  have eb:ua [some (.ref si),some (.fn "way_to" [.int v,.ref gi]),some (.ref ph.length),some (.ref qi),some (aw z),none,none,none] H0=.ok (.nx [some (.ref si),some (.fn "way_to" [.int v,.ref gi]),some (.ref ph.length),some (.ref qi),some (aw z),none,none,none]) H1:=by
   unfold ua;rw[ay];exact cw et (Ia (x:=⟨z,none,0⟩) f0 (by intro h;cases h) (by simp) rfl rfl rfl rfl)
  unfold cH;rw[if_pos (decide_eq_true J8)];refine aB (a:=[some (.ref si),some (.fn "way_to" [.int v,.ref gi]),some (.ref ph.length),some (.ref qi),some (aw z),none,none,none]) (ph':=H0) rfl (aB eb ?_);unfold cH;exact if_pos (decide_eq_true (f1.ex.get hs))
 obtain⟨ao,H',e,L,s6,s7,c,rfl,f,b,gh⟩:=yV (t:=eT (ae dB (aa 5) (aX bv (ab (aa 3) af)))) (b:=ue)
  (fun k σ H=>∃L s6 s7 c,σ=[some (.ref si),some (.fn "way_to" [.int v,.ref gi]),some (.ref ph.length),some (.ref qi),some (aw z),some (.int ((c:Nat):Int)),s6,s7]/\Fd ph H ph.length qi L/\Bf (Nb G v) z L c/\k+c=300/\c<=L.length)
  (fun σ H=>∃L s6 s7 c,σ=[some (.ref si),some (.fn "way_to" [.int v,.ref gi]),some (.ref ph.length),some (.ref qi),some (aw z),some (.int ((c:Nat):Int)),s6,s7]/\Fd ph H ph.length qi L/\Bf (Nb G v) z L c/\c=L.length)
  (fun k σ H nv=>by
   obtain⟨L,s6,s7,c,e,f,b,hk,gh⟩:=nv;subst e;have et:eT (ae dB (aa 5) (aX bv (ab (aa 3) af))) [some (.ref si),some (.fn "way_to" [.int v,.ref gi]),some (.ref ph.length),some (.ref qi),some (aw z),some (.int ((c:Nat):Int)),s6,s7] H=.ok (decide (c<L.length)) H:=by
    ac_nf
    rw[bg (eF f.q)];ac_nf;unfold lY ks;rw[aan,aan]
    congr 1
    simp
   by_cases h:c<L.length
   ·right
    obtain⟨t,ht⟩:∃t,L[c]? =some t:=cW h;obtain⟨H',L',Ed,lZ,e1,f1,b1,DF⟩:=Va (s0:=some (.ref si)) (s4:=some (aw z)) (s6:=s6) (s7:=s7) hG hz g f b ht;have:=b.len hG hz;refine⟨H,by rw[et,decide_eq_true h],_,H',e1,_,.inl rfl,k-1,by omega,L',Ed,lZ,c+1,rfl,f1,b1,by omega,DF⟩
   ·left
    exact⟨H,by rw[et,decide_eq_false h],L,s6,s7,c,rfl,f,b,by omega⟩)
  300 _ H1 ⟨[]++[⟨z,none,0⟩],none,none,0,rfl,f1,Bf.start,by omega,abA _⟩
 refine⟨H',L,?_,f.ex,f.d,gh▸b⟩;unfold uO uN;rw[gU];refine bq (σ1:=[some (.ref si),some (.fn "way_to" [.int v,.ref gi]),some (.ref ph.length),none,none,none,none,none]) (ph1:=ph++[.aG []]) rfl ?_;refine bq (σ1:=[some (.ref si),some (.fn "way_to" [.int v,.ref gi]),some (.ref ph.length),some (.ref qi),none,none,none,none]) (ph1:=H0) (by rw[J6,J7];rfl) ?_;refine bq (eZ (iz rfl J8) e1) ?_;refine bq (σ1:=[some (.ref si),some (.fn "way_to" [.int v,.ref gi]),some (.ref ph.length),some (.ref qi),some (aw z),some (.int 0),none,none]) (ph1:=H1) rfl ?_;exact bq e rfl
end
theorem XF{kws:List (W×W)}{k w:W}(h:H[d]? =some (.cF kws))(hk:d0 kws k=true)(hw:dg kws k=some w):lift (jK (.ref d) k) H=.ok w H:=by
 have:jK (.ref d) k H=some (w,H):=by
  unfold jK wG;simp only[h,hk,if_true,hw,abh]
 unfold lift;rw[this]
theorem pO.at{L:List Nd}:∀{c:List Pt} {j:Nat} {y:Pt},pO L c->c[j]? =some y->∃n∈L,n.k=y/\n.p=c[j+1]?
 | [],_,_,_,h=>by simp at h
 | [x],j,y,⟨n,h1,h2,h3⟩,h=>by
  cases j with
  | zero=>simp at h;exact⟨n,h1,h2.trans h,h3⟩
  | succ j=>simp at h
 | x::y'::r,j,y,⟨⟨n,h1,h2,h3⟩,h4⟩,h=>by
  cases j with
  | zero=>simp at h;exact⟨n,h1,h2.trans h,h3⟩
  | succ j=>
   obtain⟨n,g1,g2,g3⟩:=pO.at (j:=j) h4 (by simpa using h);exact⟨n,g1,g2,by simpa using g3⟩
section
variable{G:List bp}{v:Int}{z:Pt}{L:List Nd}
variable{c:List Pt}
theorem Vb{H:PH}{di:Nat}{x:Pt}(nd:(ks L).Nodup)(hd:H[di]? =some (.cF (dw L)))(hc:pO L (x::c))(hl:c.length<=300):∃H',yL [.ref di,aw x] H=.ok (.ref H.length) H'/\Ex H H'/\H'[H.length]? =some (.lst ((x::c).map aw)):=by
 have asks:∀{σ0:Option W} {H':PH} {j:Nat} {y:Pt},(x::c)[j]? =some y->Ex H H'->H'[H.length]? =some (.lst (((x::c).take (j+1)).map aw))->(ae jK (aa 0) (ae ah (aa 2) (jO jc (eC (.int (1)))))) [some (.ref di),σ0,some (.ref H.length)] H'=.ok (tF (x::c)[j+1]?) H':=fun{σ0 H' j y} hy x1 hq=>by
  obtain⟨n,h1,rfl,h3⟩:=hc.at hy;ac_nf;rw[bg (cK hq (by rw[ju hy,abj];exact GQ _ _))];rw[<- h3];exact XF (x1.get hd) (BL L _) (GV nd h1)
 obtain⟨ao,H',e,rfl,x1,x2⟩:=yV (t:=eT (ae kh (ae jK (aa 0) (ae ah (aa 2) (jO jc (eC (.int (1)))))) (eC .aJ))) (b:=Ek)
  (fun k σ H'=>∃j y,k+j=c.length/\(x::c)[j]? =some y/\σ=[some (.ref di),some (aw x),some (.ref H.length)]/\Ex H H'/\H'[H.length]? =some (.lst (((x::c).take (j+1)).map aw)))
  (fun σ H'=>σ=[some (.ref di),some (aw x),some (.ref H.length)]/\Ex H H'/\H'[H.length]? =some (.lst ((x::c).map aw)))
  (fun k σ H' ck=>by
   obtain⟨j,y,hk,hy,e,x1,hq⟩:=ck;subst e;have ha:=asks (σ0:=some (aw x)) hy x1 hq;cases hn:(x::c)[j+1]? with
   | none=>
    left
    rw[hn] at ha;have hj:=aeC.mp hn;refine⟨H',?_,rfl,x1,?_⟩
    ·rw[mK,hX,dS,bg ha];rfl
    ·rw[hq,aeZ hj]
   | some q=>
    right
    rw[hn] at ha;have hj:=(aam.mp hn).1;rw[abb] at hj;refine⟨H',?_,_,_,fh (o:=aa 2) rfl ⟨_,hq⟩ ha hq (by rw[aan,abI];omega),_,.inl rfl,k-1,by omega,j+1,q,by omega,hn,rfl,Ex.set x1 (aat _) _,?_⟩
    ·rw[mK,hX,dS,bg ha];rfl
    ·rw[da hq,ju hn,abj];rfl)
  c.length [some (.ref di),some (aw x),some (.ref H.length)] (H++[.lst [aw x]]) ⟨0,x,rfl,rfl,rfl,Ex.one _ _,bc _ _⟩
 refine⟨H',?_,x1,x2⟩;unfold yL uY;rw[gU];exact bq (σ1:=[some (.ref di),some (aw x),some (.ref H.length)]) (ph1:=H++[.lst [aw x]]) rfl (bq e rfl)
theorem Ba.di(b:Ba (Nb G v) z L):∀(i:Nat) (x:Nd),L[i]? =some x->x.d<=i:=by
 intro i
 induction i using adz with
 | ind i ih=>
  intro x hx;by_cases h0:i=0
  ·subst h0;rw[b.zero] at hx;cases hx;exact aat _
  ·obtain⟨j,w,g1,g2,g3,g4,_⟩:=b.ji i x hx h0;have:=ih j g1 w g2;omega
structure Wt(G:List bp)(v:Int)(p:Pt)(n:Nat)(c:List Pt):Prop where
 zero:c[0]? =some p
 len:c.length=n+1
 pt:∀x∈c,d8 G x
 nx:∀(j:Nat) y y',c[j]? =some y->c[j+1]? =some y'->y'∈Nb G v y
 us:∀(j:Nat) y,c[j]? =some y->(Us G v y↔j=n)
 ln:Ln G v n p
 least:∀m,Ln G v m p->n<=m
 sm:n<=300
theorem AN{j:Nat}{y:Pt}(h:c.reverse[j]? =some y):j<c.length/\c[c.length-1-j]? =some y:=by
 have hj:=(aam.mp h).1;rw[ado] at hj;rw[adM hj] at h;exact⟨hj,h⟩
theorem Wj{x:Nd}{i:Nat}(hG:cZ G)(hz:d8 G z)(b:Bf (Nb G v) z L L.length)(hx:L[i]? =some x)(hu:Us G v x.k)(hn:∀(j:Nat) y,j<i->L[j]? =some y->¬Us G v y.k)(h2:c.length=x.d)(h3:(x.k::c).getLast? =some z)(h4:∀(j:Nat) y y',(x.k::c)[j]? =some y'->(x.k::c)[j+1]? =some y->y'∈Nb G v y)(h5:∀(j:Nat) y,(x.k::c)[j]? =some y->∃(i':Nat) (n:Nd),i'<=i/\(0<j->i'<i)/\L[i']? =some n/\n.k=y):Wt G v z x.d (x.k::c).reverse:=by
 have hl:(x.k::c).length=x.d+1:=by rw[abb,h2]
 have hN:=fun p q=>BK (v:=v) hG p q
 refine⟨?_,by rw[ado,hl],fun y hy=>?_,fun j y y' e1 e2=>?_,fun j y e=>?_,?_,fun m hm=>?_,?_⟩
 ·rw[adM (by rw[hl];omega),Nat.sub_zero,<- List.getLast?_eq_getElem?];exact h3
 ·obtain⟨j,hj⟩:=abo (List.mem_reverse.mp hy);obtain⟨i',n,_,_,h,rfl⟩:=h5 j y hj;exact b.pt hG hz (aap h)
 ·obtain⟨g1,g2⟩:=AN e1;obtain⟨g3,g4⟩:=AN e2;have:=h4 ((x.k::c).length-1-(j+1)) y y' g4 (by rw[show(x.k::c).length-1-(j+1)+1=(x.k::c).length-1-j by omega];exact g2);exact this
 ·obtain⟨g1,g2⟩:=AN e;rw[hl] at g1 g2;constructor
  ·intro u;refine Nat.le_antisymm (by omega) (acN fun dM=>?_);obtain⟨i',n,_,k2,k3,k4⟩:=h5 _ y g2;exact hn i' n (k2 (by omega)) k3 (k4▸u)
  ·rintro rfl;rw[show x.d+1-1-x.d=0 by omega] at g2;simp at g2;exact g2▸hu
 ·rw[<- h2];exact U6 hN c x.k hu h4 z h3
 ·obtain⟨y,hy,u,hd⟩:=near b hN m ⟨z,none,0⟩ (aap b.zero) hm;obtain⟨j,hj⟩:=abo hy;have:i<=j:=acN fun h=>hn j y h hj u
  have:=b.mono i j x y this hx hj;simp only at hd;omega
 ·have:=b.di i x hx;have:=b.len hG hz;have:=(aam.mp hx).1;omega
end
theorem Gm{m:Mo α}{a:α}(h:m ph=.ok a ph'):eV m ph=.ok a ph':=by
 unfold eV;rw[h]
theorem Gn{m:EM}{g:GM}{b:SM}{K:PH}{kws:List (W×W)}{f:Fl}(hm:m σ ph0=.ok (.ref i) ph)(hd:ph[i]? =some (.aG kws))(h:cH (fun _=>true) g b (gx kws) σ (ph.set i (.cF kws))=.ok f K)(hK:K[i]? =some (.cF kws))(hf:(∃s,f=.nx s)\/∃w,f=.rt w):rR m g b σ ph0=.ok f (K.set i (.aG kws)):=by
 unfold rR;refine aB hm ?_;simp only[ou hd];refine aB (Gm h) ?_;unfold A6
 rcases hf with⟨s,rfl⟩ | ⟨w,rfl⟩
 ·simp only;rw[if_pos hK]
 ·simp only;rw[if_pos hK]
theorem Se(h:ph[i]? =some (.lst ws)):lift (se (.ref i)) ph=.ok (.ref ph.length) (ph++[.lst ws.reverse]):=by
 have:se (.ref i) ph=some (.ref ph.length,ph++[.lst ws.reverse]):=by
  unfold se;have es:cC (.ref i) ph=some ws:=by unfold cC;simp only[h]
  simp only[es];rw[if_pos (zW h)]
 unfold lift;rw[this]
section
variable{G:List bp}{v:Int}{z:Pt}{L:List Nd}
theorem Ho{p:Pt}{b:bp}(hb:G[p.1]? =some b)(hl:p.2<=b.rs.length):Us G v p↔v∈dv b p.2:=by
 constructor
 ·rintro⟨b',h1,_,h3⟩;rw[hb] at h1;cases h1;exact h3
 ·intro h;exact⟨b,hb,hl,h⟩
theorem Vc{lo gi:Nat}{ph H:PH}{p:Pt}{s1 s2 s4:Option W}(hG:cZ G)(g:cu lo ph gi G)(x:Ex ph H)(hp:d8 G p):∃t H',eT (ae dN (aa 3) (aC mF (ab (aC nT (ab (aa 0) (ab (aa 5) af))) af))) [some (.ref gi),s1,s2,some (.int v),s4,some (aw p)] H=.ok t H'/\Ex H H'/\(t=true↔Us G v p):=by
 obtain⟨b,hb,hl⟩:=hp;obtain⟨S,_,hS⟩:=hG.vs;obtain⟨w,hw,ew⟩:=FO g hb hl;obtain⟨_,_,hu⟩:=zA (hS b (aap hb)) hw;refine⟨decide (v∈dv b p.2),_,?_,Ex.one H (.lst ((dv b p.2).map W.int)),by rw[decide_eq_true_eq,Ho hb hl]⟩;ac_nf;refine aB (ew H x) (aB (hu H) (aB (zt (bc _ _) v) ?_));rfl
theorem FP{lo gi:Nat}{ph H:PH}(hG:cZ G)(g:cu lo ph gi G)(x:Ex ph H)(hz:d8 G z):∃w H',qL [.ref gi,.int z.1,.int z.2,.int v] H=.ok w H'/\Ex H H'/\((w=.aJ/\∀n,¬Ln G v n z)\/∃i c n,w=.ref i/\H'[i]? =some (.lst (c.map aw))/\Wt G v z n c):=by
 obtain⟨H1,ay⟩:∃H1,H1=H++[PO.lst [aw z]]:=⟨_,rfl⟩
 have x1:Ex H H1:=by rw[ay];exact Ex.one _ _
 have q1:H1[H.length]? =some (.lst [aw z]):=by rw[ay];exact bc _ _
 obtain⟨H2,L,e2,x2,d2,b⟩:=Sd (v:=v) hG hz (g.ex (x.trans x1)) q1;obtain⟨di,DJ⟩:∃di,di=H1.length:=⟨_,rfl⟩
 rw[<- DJ] at e2 d2;have Ee:H.length<=di:=by rw[DJ];exact x1.len
 have hd2:=f9 d2;obtain⟨F,hF⟩:∃F,F=H2.set di (.cF (dw L)):=⟨_,rfl⟩
 have dF:F[di]? =some (.cF (dw L)):=by rw[hF];exact aaQ hd2
 have Jw:di<F.length:=f9 dF;have xF:Ex H F:=by rw[hF];exact Ex.set (x1.trans x2) Ee _
 have loop:=zm (chk:=fun _=>true) (g:=gN 5) (b:=yM)
  (fun w K=>Ex F K/\∃i c n,w=.ref i/\di<i/\K[i]? =some (.lst (c.map aw))/\Wt G v z n c)
  (fun j σ K=>(∃o5,σ=[some (.ref gi),some (.int z.1),some (.int z.2),some (.int v),some (.ref di),o5])/\Ex F K/\∀(j':Nat) y,j'<j->L[j']? =some y->¬Us G v y.k)
  (gx (dw L)) 0 [some (.ref gi),some (.int z.1),some (.int z.2),some (.int v),some (.ref di),none] F (fun _ _ _ _=>rfl)
  (fun j w σ K hj ck=>by
   obtain⟨⟨o5,bK⟩,xK,hn⟩:=ck;subst bK;rw[abi] at hn;unfold gx dw at hj;rw[abF,aau] at hj;obtain⟨y,hy,rfl⟩:=aaA.mp hj;obtain⟨t,K1,et,yt,ht⟩:=Vc (v:=v) (s1:=some (.int z.1)) (s2:=some (.int z.2)) (s4:=some (.ref di)) hG g (x.trans (xF.trans xK)) (b.pt hG hz (aap hy));refine⟨_,_,rfl,?_⟩;unfold yM;cases t with
   | false=>
    refine⟨_,_,bN et rfl,.inl ⟨_,.inl rfl,⟨_,rfl⟩,xK.trans yt,fun j' y' nj mZ=>?_⟩⟩;rw[abi] at nj;by_cases h:j'<j
    ·exact hn j' y' h mZ
    ·have:j'=j:=by omega
     subst this;rw[hy] at mZ;cases mZ;exact fun u=>abe (ht.mpr u)
   | true=>
    obtain⟨c,c1,c2,c3,c4,c5⟩:=b.chain j y hy;have bP:=b.len hG hz;have hyd:=b.di j y hy;have kC:=(aam.mp hy).1;obtain⟨K2,e3,x3,q3⟩:=Vb b.nd ((xK.trans yt).get dF) c1 (by omega);have yu:=(xK.trans yt).len;have hK2:=x3.len;refine⟨_,K2++[.lst ((y.k::c).map aw).reverse],cw et (retS ?_),.inr ⟨_,rfl,(xK.trans yt).trans (x3.trans (Ex.one _ _)),K2.length,(y.k::c).reverse,y.d,rfl,by omega,?_,Wj hG hz b hy (ht.mp rfl) hn c2 c3 c4 c5⟩⟩
    ·unfold wB;ac_nf;refine aB e3 ?_;exact Se q3
    ·rw[List.map_reverse];exact bc _ _)
  ⟨⟨none,rfl⟩,Ex.refl _,fun j' y h=>absurd h (afv _)⟩
 have e0:aV (gw (eU (aC u9 (ab (aa 0) (ab (aa 1) (ab (aa 2) af)))))) (aW (eC .aJ)) aZ [some (.ref gi),some (.int z.1),some (.int z.2),some (.int v),none,none] H=.ok (.nx [some (.ref gi),some (.int z.1),some (.int z.2),some (.int v),none,none]) H:=by
  refine bN (ph1:=H) ?_ rfl;rw[nQ,mn];ac_nf;refine aB (NH g x hz) ?_;rfl
 have e1:ax (aC uO (ab (aR (ab (aQ (ab (aa 1) (ab (aa 2) af))) af)) (ab (ke "way_to" 3 0) af))) (gN 4) [some (.ref gi),some (.int z.1),some (.int z.2),some (.int v),none,none] H=.ok (.nx [some (.ref gi),some (.int z.1),some (.int z.2),some (.int v),some (.ref di),none]) H2:=by
  refine asg ?_;rw[ay] at e2;exact e2
 rw[hF] at loop;obtain⟨w,H',e,xx,hw⟩:∃w H',vj [some (.ref gi),some (.int z.1),some (.int z.2),some (.int v),none,none] H=.ok (.rt w) H'/\Ex H H'/\((w=.aJ/\∀n,¬Ln G v n z)\/∃i c n,w=.ref i/\H'[i]? =some (.lst (c.map aw))/\Wt G v z n c):=by
  unfold vj
  rcases loop with⟨ao,K,eK,⟨o5,bK⟩,xK,hn⟩ | ⟨w,K,eK,xK,i,c,n,rfl,hi,hc,wt⟩
  ·have kd:K[di]? =some (.cF (dw L)):=by rw[<- hF] at xK;exact xK.get dF
   have ef:=Gn (m:=aa 4) (ph0:=H2) rfl d2 eK kd (.inl ⟨_,rfl⟩);refine⟨.aJ,K.set di (.aG (dw L)),sq e0 (sq e1 (sq ef rfl)),Ex.set (xF.trans (by rw[hF];exact xK)) Ee _,.inl ⟨rfl,fun m hm=>?_⟩⟩;obtain⟨y,hy,u,_⟩:=near b (fun p q=>BK hG p q) m ⟨z,none,0⟩ (aap b.zero) hm;obtain⟨j,hj⟩:=abo hy;refine hn j y ?_ hj u;have:=(aam.mp hj).1;unfold gx dw;rw[aan,aan];omega
  ·have kd:K[di]? =some (.cF (dw L)):=by rw[<- hF] at xK;exact xK.get dF
   have ef:=Gn (m:=aa 4) (ph0:=H2) rfl d2 eK kd (.inr ⟨_,rfl⟩);refine⟨.ref i,K.set di (.aG (dw L)),sq e0 (sq e1 ?_),Ex.set (xF.trans (by rw[hF];exact xK)) Ee _,.inr ⟨i,c,n,rfl,by rw[cy (by omega)];exact hc,wt⟩⟩;rw[kY,bg ef];rfl
 refine⟨w,H',?_,xx,hw⟩;unfold qL kU;refine aB (a:=.rt w) (ph':=H') ?_ rfl;unfold BC;exact Gm e
end
theorem AO(ph:PH)(p:Pt):dat ph 40 (aw p)=some (.tuple [.int p.1,.int p.2]):=by
 simp[aw,dat,bH]
theorem GY(p q:Pt):abd (.tuple [.int p.1,.int p.2]) (.tuple [.int q.1,.int q.2])=decide (p=q):=by
 rw[UB,wH,wH,aco];simp only[aaG,decide_eq_true_eq];constructor
 ·rintro⟨h1,h2⟩;exact afU (by omega) (by omega)
 ·rintro rfl;exact⟨rfl,rfl⟩
theorem Vd(h:ph[i]? =some (.lst (A.map aw)))(q:Pt)(hq:q∈A):lift (bY (aw q) (.ref i)) ph=.ok (.bl false) ph:=by
 rw[zp h (iC (dat ph 40) aw (fun p:Pt=>afi [.int p.1,.int p.2]) (fun p=>AO ph p) A) (AO ph q)];have:((A.map fun p:Pt=>afi [.int p.1,.int p.2]).any fun e=>abd e (.tuple [.int q.1,.int q.2]))=true:=by
  rw[abK];exact⟨_,abx hq,by rw[GY];simp⟩
 rw[this];rfl
theorem Sf(e:En)(v:Int)(ph:PH):∃o,j0 [e.w,.int v] ph=.ok (.bl false) (ph++[o]):=by
 refine⟨.lst (["set","do","take"].map fun s=>.str (aaC s)),?_⟩;have hn:=bc ph (.lst (["set","do","take"].map fun s=>.str (aaC s)));unfold j0 qx;rw[gU];cases e with
 | _=>exact br (aB (qN _ _ hn) rfl)
section
variable{G:List bp}{v:Int}
variable{gi:Nat}{ph H:PH}{p:Pt}
theorem Ve{lo:Nat}(hG:cZ G)(g:cu lo ph gi G)(x:Ex ph H)(hp:d8 G p):∃(i:Nat) (H':PH) (A:List Pt),tU [.ref gi,aw p,.int v] H=.ok (.ref i) H'/\Ex H H'/\H'[i]? =some (.lst (A.map aw))/\∀q∈Nb G v p,q∈A:=by
 obtain⟨b,hb,hl⟩:=hp;obtain⟨p1,r1,i1,c1,d1⟩:=kQ g hb;unfold tU tR;rw[ia];have e0:ax (ae ah (aa 1) (eC (.int (0)))) (gN 3) [some (.ref gi),some (aw p),some (.int v),none,none] H=.ok (.nx [some (.ref gi),some (aw p),some (.int v),some (.int p.1),none]) H:=rfl;have e1:ax (ae ah (ae ah (aa 0) (aa 3)) (eC (.int (1)))) (gN 4) [some (.ref gi),some (aw p),some (.int v),some (.int p.1),none] H=.ok (.nx [some (.ref gi),some (aw p),some (.int v),some (.int p.1),some (.ref r1)]) H:=by
  refine asg ?_;ac_nf;refine aB (i1 H x) ?_;rfl
 have et:(eT (ae dB (ae ah (aa 1) (eC (.int (1)))) (aX bv (ab (aa 4) af)))) [some (.ref gi),some (aw p),some (.int v),some (.int p.1),some (.ref r1)] H=.ok (decide (p.2<b.rs.length)) H:=by
  unfold aw;ac_nf;refine aB (eF (x.get d1)) ?_;rw[aan];ac_nf
  congr 1
  simp
 by_cases h:p.2<b.rs.length
 ·obtain⟨r,hr⟩:∃r,b.rs[p.2]? =some r:=cW h;rw[decide_eq_true h] at et;refine⟨H.length,H++[.lst [aw (p.1,p.2+1)]],[(p.1,p.2+1)],bq e0 (bq e1 (fx (cw et (retS rfl)))),Ex.one _ _,bc _ _,fun q hq=>?_⟩;rw[vZ hb hr] at hq;split at hq
  ·cases hq
  ·exact hq
 ·rw[decide_eq_false h] at et;obtain⟨H1,ay⟩:∃H1,H1=H++[PO.lst (iw b.en.to)]:=⟨_,rfl⟩
  have x1:Ex H H1:=by rw[ay];exact Ex.one _ _
  have q1:H1[H.length]? =some (.lst (iw b.en.to)):=by rw[ay];exact bc _ _
  obtain⟨H',e,x2⟩:=GU (v:=v) (im:=c8 (aC nE (ab (ae ah (ae ah (aa 0) (aa 3)) (eC (.int (2)))) af))) (i:=H.length) (σ:=[some (.ref gi),some (aw p),some (.int v),some (.int p.1),some (.ref r1)]) (H0:=H) hG g (aap hb) (x.trans x1) rfl q1 (iz (by
   ac_nf
   refine aB (i1 H x) ?_;rw[ay];exact z0 b.en H) q1)
  exact⟨H1.length,H',_,bq e0 (bq e1 (bq (bN et rfl) (br e))),x1.trans ((Ex.one _ _).trans x2),x2.get (bc _ _),fun q hq=>by rw[AL hb (by omega)] at hq;exact hq⟩
theorem Wk{lo i n k:Nat}{y:Pt}{c:List Pt}{o6 o7:Option W}(hG:cZ G)(g:cu lo ph gi G)(x:Ex ph H)(hi:H[i]? =some (.lst (c.map aw)))(wt:Wt G v p n c)(hy:c[k]? =some y) :
  ∃Eb H',ug [some (.ref i),some (.ref gi),some (aw p),some (.int v),some (.int ((n+1:Nat):Int)),some (.int k),o6,o7] H=.ok (.nx [some (.ref i),some (.ref gi),some (aw p),some (.int v),some (.int ((n+1:Nat):Int)),some (.int k),some (aw y),Eb]) H'/\Ex H H':=by
 obtain⟨b,hb,hl⟩:=wt.pt y (aap hy);obtain⟨S,_,hS⟩:=hG.vs;have B:=hS b (aap hb);have ip:=(aam.mp hy).1;have bP:=wt.len;have J9:∀{j:Nat} {q:Pt},c[j]? =some q->cA (c.map aw) (j:Int)=some (aw q):=fun{j q} hq=>by
  rw[gK _ _ (by rw[aan];exact(aam.mp hq).1),aau,hq];rfl
 have e0:ax (ae ah (aa 0) (aa 5)) (gN 6) [some (.ref i),some (.ref gi),some (aw p),some (.int v),some (.int ((n+1:Nat):Int)),some (.int k),o6,o7] H=.ok (.nx [some (.ref i),some (.ref gi),some (aw p),some (.int v),some (.int ((n+1:Nat):Int)),some (.int k),some (aw y),o7]) H:=by
  refine asg ?_;ac_nf;exact cK hi (J9 hy)
 have e1:(dX (gw (eU (kI "tuple" (aa 6)))) (dX (eT (ae dJ (aX bv (ab (aa 6) af)) (eC (.int (2))))) (dX (gw (eU (aC uZ (ab (ae ah (aa 6) (eC (.int (0)))) af)))) (gw (eU (aC uZ (ab (ae ah (aa 6) (eC (.int (1)))) af))))))) [some (.ref i),some (.ref gi),some (aw p),some (.int v),some (.int ((n+1:Nat):Int)),some (.int k),some (aw y),o7] H=.ok false H:=by
  unfold aw;rfl
 obtain⟨H1,x1,e2⟩:∃H1,Ex H H1/\(fq (eT (ae kH (aa 5) (eC (.int (0))))) (eT (ae bY (aa 6) (aC tU (ab (aa 1) (ab (ae ah (aa 0) (ae dj (aa 5) (eC (.int (1))))) (ab (aa 3) af))))))) [some (.ref i),some (.ref gi),some (aw p),some (.int v),some (.int ((n+1:Nat):Int)),some (.int k),some (aw y),o7] H=.ok false H1:=by
  cases k with
  | zero=>exact⟨H,Ex.refl _,rfl⟩
  | succ j=>
   obtain⟨q,hq⟩:∃q,c[j]? =some q:=cW (by omega);obtain⟨ni,H1,A,en,x1,q1,hA⟩:=Ve (v:=v) hG g x (wt.pt q (aap hq));refine⟨H1,x1,?_⟩;rw[kT];refine aB (a:=true) (ph':=H) ?_ ?_
   ·ac_nf
    rw[decide_eq_true (show(0:Int)<((j+1:Nat):Int) by omega)]
   ·simp only[if_true];ac_nf;rw[show((j+1:Nat):Int)-1=(j:Int) by omega];refine aB (cK hi (J9 hq)) ?_;refine aB en (aB (Vd q1 y (hA y (wt.nx j q y hq hy))) ?_);rfl
 obtain⟨ti,H2,et,x2,_,q2⟩:=FL g (x.trans x1) hb (by have:=B.rl;omega);obtain⟨w,hw⟩:∃w,(b.rs.map Row.w++[b.en.w])[y.2]? =some w:=cW (by simp;omega);obtain⟨_,hu,_⟩:=zA B hw;have e3:ax (ae ah (aC qo (ab (aa 1) (ab (ae ah (aa 6) (eC (.int (0)))) af))) (ae ah (aa 6) (eC (.int (1))))) (gN 7) [some (.ref i),some (.ref gi),some (aw p),some (.int v),some (.int ((n+1:Nat):Int)),some (.int k),some (aw y),o7] H1=.ok (.nx [some (.ref i),some (.ref gi),some (aw p),some (.int v),some (.int ((n+1:Nat):Int)),some (.int k),some (aw y),some w]) H2:=by
  refine asg ?_;unfold aw;ac_nf;refine aB et ?_;exact cK q2 (by rw[gK _ _ (by simp;omega)];exact hw)
 have xO:=wt.us k y hy;rw[Ho hb hl] at xO;have h1:((n+1:Nat):Int)-1=(n:Int):=by omega
 obtain⟨H3,cX⟩:∃H3,H3=H2++[PO.lst ((dv b y.2).map W.int)]:=⟨_,rfl⟩
 have x3:Ex H2 H3:=by rw[cX];exact Ex.one _ _
 have e4:(eT (ae dJ (ae dN (aa 3) (aC j7 (ab (aa 7) af))) (ae aY (aa 5) (ae dj (aa 4) (eC (.int (1))))))) [some (.ref i),some (.ref gi),some (aw p),some (.int v),some (.int ((n+1:Nat):Int)),some (.int k),some (aw y),some w] H2=.ok false H3:=by
  ac_nf
  refine aB (hu H2) ?_;rw[<- cX];refine aB (zt (by rw[cX];exact bc _ _) v) ?_;ac_nf;rw[h1];have:(decide (v∈dv b y.2)==decide ((k:Int)=(n:Int)))=true:=by
   rw[beq_iff_eq];exact decide_eq_decide.mpr (xO.trans ⟨fun h=>by omega,fun h=>by omega⟩)
  rw[this];rfl
 obtain⟨H4,x4,e5⟩:∃H4,Ex H3 H4/\(fq (eT (ae dB (aa 5) (ae dj (aa 4) (eC (.int (1)))))) (eU (aC j0 (ab (aa 7) (ab (aa 3) af))))) [some (.ref i),some (.ref gi),some (aw p),some (.int v),some (.int ((n+1:Nat):Int)),some (.int k),some (aw y),some w] H3=.ok false H4:=by
  by_cases hk:k<n
  ·obtain⟨y',mZ⟩:∃y',c[k+1]? =some y':=cW (by omega);have hn:=wt.nx k y y' hy mZ;obtain⟨o,eg⟩:∃o,j0 [w,.int v] H3=.ok (.bl false) (H3++[o]):=by
    rcases dZ hw with⟨hj,h⟩ | ⟨_,rfl⟩
    ·rw[aau] at h;obtain⟨r,hr,rfl⟩:=aaA.mp h;obtain⟨o,eg⟩:=Gk r v H3;refine⟨o,?_⟩;rw[eg,decide_eq_false];intro hc;rw[vZ hb hr,if_pos hc] at hn;cases hn
    ·exact Sf b.en v H3
   refine⟨_,Ex.one _ o,?_⟩;rw[kT];refine aB (a:=true) (ph':=H3) ?_ ?_
   ·ac_nf
    rw[h1,decide_eq_true (show(k:Int)<(n:Int) by omega)]
   ·simp only[if_true];rw[mn];ac_nf;refine aB eg ?_;rfl
  ·refine⟨H3,Ex.refl _,?_⟩;rw[kT];refine aB (a:=false) (ph':=H3) ?_ rfl;ac_nf;rw[h1,decide_eq_false (show ¬(k:Int)<(n:Int) by omega)]
 unfold ug;refine⟨some w,H4,sq e0 (sq (bN e1 rfl) (sq (bN e2 rfl) (sq e3 (bN ?_ rfl)))),x1.trans (x2.trans (x3.trans x4))⟩;rw[mq];exact aB e4 e5
theorem Qc{lo i n:Nat}{c:List Pt}(hG:cZ G)(g:cu lo ph gi G)(x:Ex ph H)(hi:H[i]? =some (.lst (c.map aw)))(wt:Wt G v p n c):∃H',uQ [.ref i,.ref gi,aw p,.int v,.int ((n+1:Nat):Int)] H=.ok (.bl true) H'/\Ex H H':=by
 have bP:=wt.len;have Ka:=wt.sm;obtain⟨ao,H',e,⟨o5,o6,o7,rfl⟩,x'⟩:=hU (chk:=fun _=>true) (g:=gN 5) (b:=ug)
  (fun j σ K=>(∃o5 o6 o7,σ=[some (.ref i),some (.ref gi),some (aw p),some (.int v),some (.int ((n+1:Nat):Int)),o5,o6,o7])/\Ex H K)
  (dc 0 (n+1)) [some (.ref i),some (.ref gi),some (aw p),some (.int v),some (.int ((n+1:Nat):Int)),none,none,none] H (fun _ _ _ _=>rfl)
  (fun j w σ K hj ck=>by
   obtain⟨⟨o5,o6,o7,bK⟩,xK⟩:=ck;subst bK;obtain⟨gk,rfl⟩:=iB hj;rw[aci];obtain⟨y,hy⟩:∃y,c[j]? =some y:=cW (by omega);obtain⟨Eb,K',e,x'⟩:=Wk (o6:=o6) (o7:=o7) hG g (x.trans xK) (xK.get hi) wt hy;exact⟨_,_,rfl,_,K',e,_,.inl rfl,⟨_,_,_,rfl⟩,xK.trans x'⟩)
  ⟨⟨none,none,none,rfl⟩,Ex.refl _⟩
 refine⟨H',?_,x'⟩;have h0:cA (c.map aw) 0=some (aw p):=by
  have:=gK (c.map aw) 0 (by rw[aan];omega);rw[aau,wt.zero] at this;exact this
 have et:(dX (gw (eU (kI "list" (aa 0)))) (dX (eT (ae dJ (aX bv (ab (aa 0) af)) (aa 4))) (eT (ae dJ (ae ah (aa 0) (eC (.int (0)))) (aa 2))))) [some (.ref i),some (.ref gi),some (aw p),some (.int v),some (.int ((n+1:Nat):Int)),none,none,none] H=.ok false H:=by
  rw[mq];refine aB (a:=false) (ph':=H) ?_ ?_
  ·rw[nQ,mn];have:lift (iV "list" (.ref i)) H=.ok (.bl true) H:=by
    unfold lift iV rJ;simp only[hi];rfl
   ac_nf
   refine aB this ?_;rfl
  ·simp only[abS,if_false];rw[mq];refine aB (a:=false) (ph':=H) ?_ ?_
   ·ac_nf
    refine aB (eF hi) ?_;ac_nf;rw[aan,bP];simp
   ·simp only[abS,if_false];ac_nf;refine aB (cK hi h0) ?_;have:fw H (aw p) (aw p)=some true:=by
     unfold fw;simp only[AO,GY];simp
    refine aB (Hh this) ?_;rfl
 have er:cY (ab (aa 4) af) [some (.ref i),some (.ref gi),some (aw p),some (.int v),some (.int ((n+1:Nat):Int)),none,none,none] H=.ok (dc 0 (n+1),fun _=>true) H:=by
  have:=fZ (m:=ab (aa 4) af) (σ:=[some (.ref i),some (.ref gi),some (aw p),some (.int v),some (.int ((n+1:Nat):Int)),none,none,none]) (ph:=H) (j:=((n+1:Nat):Int)) (ph':=H) rfl (by omega) (by omega);rw[this,aba]
 unfold uQ uP;exact bq (bN et rfl) (bq (eZ er e) rfl)
end
theorem Sg(l:List (Int×W)):oq (inD l)=some (l.map fun x=>W.int x.1):=by
 unfold oq;have:((inD l).all fun p=> !jo p.1)=true:=by
  rw[abJ];intro p hp;obtain⟨x,_,rfl⟩:=aaD.mp hp;rfl
 rw[if_pos this];unfold inD;rw[abF];rfl
theorem Sh(h:H[r]? =some (.aG (inD l)))(hz:l.length<=63):lift (mJ [.ref r]) H=.ok (.ref H.length) (H++[.lst ((je (l.map (·.1))).map W.int)]):=by
 have h2:bH oQ (l.map fun x=>W.int x.1)=some (l.map (·.1)):=iC oQ (fun x:Int×W=>W.int x.1) (fun x:Int×W=>x.1) (fun _=>rfl) l;have h3:mJ [.ref r] H=some (.ref H.length,H++[.lst ((je (l.map (·.1))).map W.int)]):=by
  unfold mJ;simp only[ou h,Sg,aby,h2];rw[if_pos (by rw[aan];omega)]
 unfold lift;rw[h3]
theorem Gp{α β:Type}{f:α->Option β}:∀{l:List α} {m:List β},l.length=m.length->(∀(i:Nat) a b,l[i]? =some a->m[i]? =some b->f a=some b)->bH f l=some m
 | [],[],_,_=>rfl
 | [],_::_,h,_=>by cases h
 | _::_,[],h,_=>by cases h
 | a::l,b::m,h,k=>by
  unfold bH;rw[k 0 a b rfl rfl,Gp (adt h) fun i x y h1 h2=>k (i+1) x y (by simpa using h1) (by simpa using h2)]
theorem kf(H:PH)(n:Nat)(s:String):dat H n (.str (aaC s))=some (.str (aaC s)):=by
 have:=rV H s;cases n <;> exact this
noncomputable def CQ:Row->acR
 | .set v n=>.tuple [.str (aaC "set"),.int v,.int n]
 | .gz v w a b=>.tuple [.str (aaC "do"),.int v,.str (aaC w),.int a,.int b]
 | .take v=>.tuple [.str (aaC "take"),.int v]
 | .tell v=>.tuple [.str (aaC "tell"),.int v]
 | .turn=>.tuple [.str (aaC "turn")]
noncomputable def Kb:En->acR
 | .go k as=>.tuple [.str (aaC "go"),.int k,.tuple (as.map ads)]
 | .iff v a b=>.tuple [.str (aaC "if"),.int v,.int a,.int b]
 | .fin=>.tuple [.str (aaC "end")]
theorem jy{ds:List acR}(h:bH (dat H n) ws=some ds):dat H (n+1) (.tup ws)=some (.tuple ds):=by
 show(bH (dat H n) ws).map afi=_;rw[h];rfl
theorem z5{ds:List acR}(hi:H[i]? =some (.lst ws))(h:bH (dat H n) ws=some ds):dat H (n+1) (.ref i)=some (.list ds):=by
 unfold dat;simp only[hi,h];rfl
theorem mc{β:Type}{f:α->Option β}{a:α}{l:List α}{b:β}{m:List β}(h:f a=some b)(h2:bH f l=some m):bH f (a::l)=some (b::m):=by
 unfold bH;rw[h,h2]
theorem Si(H:PH)(n:Nat)(r:Row):dat H (n+1) r.w=some (CQ r):=by
 cases r with
 | set v m=>exact jy (mc (kf H n "set") (mc (fN ..) (mc (fN ..) rfl)))
 | gz v w a b=>exact jy (mc (kf H n "do") (mc (fN ..) (mc (kf H n w) (mc (fN ..) (mc (fN ..) rfl)))))
 | take v=>exact jy (mc (kf H n "take") (mc (fN ..) rfl))
 | tell v=>exact jy (mc (kf H n "tell") (mc (fN ..) rfl))
 | turn=>exact jy (mc (kf H n "turn") rfl)
theorem AQ(H:PH)(n:Nat)(l:List Int):bH (dat H n) (l.map W.int)=some (l.map ads):=iC (dat H n) W.int ads (fun x=>fN H n x) l
theorem Vf(H:PH)(n:Nat)(e:En):dat H (n+2) e.w=some (Kb e):=by
 cases e with
 | go k as=>exact jy (mc (kf H (n+1) "go") (mc (fN ..) (mc (jy (AQ H n as)) rfl)))
 | iff v a b=>exact jy (mc (kf H (n+1) "if") (mc (fN ..) (mc (fN ..) (mc (fN ..) rfl))))
 | fin=>exact jy (mc (kf H (n+1) "end") rfl)
noncomputable def Ib(b:bp):PyData:=.tuple [.list (b.ps.map ads),.list (b.rs.map CQ),Kb b.en]
theorem Sj{lo:Nat}{w:W}(h:gH lo H w b):dat H (n+3) w=some (Ib b):=by
 obtain⟨p,r,rfl,_,_,h1,h2⟩:=h;exact jy (mc (z5 h1 (AQ H (n+1) b.ps)) (mc (z5 h2 (iC (dat H (n+1)) Row.w CQ (fun r=>Si H n r) b.rs)) (mc (Vf H n b.en) rfl)))
noncomputable def dG(G:List bp):PyData:=.list (G.map Ib)
theorem Hq{lo:Nat}(g:cu lo H gi G):dat H 40 (.ref gi)=some (dG G):=by
 obtain⟨ws,h1,h2,h3⟩:=g;refine z5 h1 (Gp (by rw[aan];exact h2) fun i w d hw hd=>?_);rw[aau] at hd;obtain⟨b,hb,rfl⟩:=aaA.mp hd;exact Sj (n:=36) (h3 i w b hw hb)
theorem OO(as:List α)(h:α->W×W)(F:α->Option W){m:EM}{cap:List (Option Nat)}{g:GM}{c:TM}{e:EM}(hm:m σ ph0=.ok (.ref i) ph)(hd:ph[i]? =some (.aG (as.map h)))(hz:as.length<=100000)
  (S:aS->Prop) (h0:S (fF cap σ)) (step:∀x∈as,∀σ H,S σ->H[i]? =some (.cF (as.map h))->(∀j,j≠i->j<ph.length->H[j]? =ph[j]?)->∃σ1,g (h x).1 σ H=.ok σ1 H/\S σ1/\((c σ1 H=.ok false H/\F x=none)\/(c σ1 H=.ok true H/\∃w,e σ1 H=.ok w H/\F x=some w))) :
  rk m cap g c e σ ph0=.ok (.ref ph.length) (ph++[.lst (as.filterMap F)]):=by
 have hi:i<ph.length:=(aam.mp hd).1;unfold rk;refine aB hm ?_;simp only[ou hd];have hl:(ph.set i (.cF (as.map h))).length=ph.length:=abg ..;have key:=vh (chk:=fun _=>true) (g:=g) (c:=c) (e:=e) ph.length (fun k acc σ H=>S σ/\acc=(as.take k).filterMap F/\H=ph.set i (.cF (as.map h))++[.lst acc]) (gx (as.map h)) 0 [] (fF cap σ) (ph.set i (.cF (as.map h))++[.lst []])
  (fun _ _ _ _ _=>rfl)
  (fun j y acc σ H hj hI=>by
   rw[abi] at hI ⊢;obtain⟨hS,ha,rfl⟩:=hI;unfold gx at hj;rw[abF,aau] at hj;obtain⟨x,hx,rfl⟩:=aaA.mp hj;have kC:=(aam.mp hx).1;obtain⟨σ1,e1,ij,e3⟩:=step x (aap hx) σ (ph.set i (.cF (as.map h))++[.lst acc]) hS (by
    rw[aaM (by rw[hl];exact hi),aaQ hi]) (fun k hk ip=>by
    rw[aaM (by rw[hl];exact ip),abk (abD hk)])
   have fu:acc.length<=j:=by
    rw[ha];have:=aeI F (as.take j);rw[abI] at this;omega
   refine⟨σ1,_,e1,?_⟩
   rcases e3 with⟨c1,f1⟩ | ⟨c1,w,c2,f1⟩
   ·refine⟨false,_,c1,.inl ⟨rfl,ij,?_,rfl⟩⟩;rw[ju hx,adO,<- ha];simp[f1]
   ·refine⟨true,_,c1,.inr ⟨rfl,w,_,c2,by rw[<- hl];exact bc _ _,aeu fu (aay (by omega:j<100000) (by decide)),ij,?_,?_⟩⟩
    ·rw[ju hx,adO,<- ha];simp[f1]
    ·rw[<- hl];simp) ⟨h0,by simp,rfl⟩
 obtain⟨acc,ao,ph',e1,_,ha,rfl⟩:=key;have hit:(gx (as.map h)).length=as.length:=by unfold gx;simp
 rw[hit,abi,abV] at ha;refine aB e1 ?_;unfold A4;have hg:(ph.set i (.cF (as.map h))++[PO.lst acc])[i]? =some (.cF (as.map h)):=by
  rw[aaM (by rw[hl];exact hi),aaQ hi]
 rw[if_pos hg,List.set_append_left _ _ (by rw[hl];exact hi),aft,ha];have:ph.set i (PO.aG (as.map h))=ph:=by
  apply acj
  intro j;by_cases hj:i=j
  ·subst hj;rw[aaQ hi,hd]
  ·rw[abk hj]
 rw[this]
noncomputable def xr(ps:List Pt)(rs:List Nat)(p:Pt):Nat:=match dg (dD ps rs) (aw p) with
 | some (.ref r)=>r
 | _=>0
theorem Vg(hn:ps.Nodup)(h1:ps[k]? =some p)(h2:rs[k]? =some r):xr ps rs p=r:=by
 unfold xr;rw[AK hn h1 h2]
theorem Vh(hn:ps.Nodup)(hl:rs.length=ps.length):dD ps rs=ps.map fun p=>(aw p,W.ref (xr ps rs p)):=by
 apply acj
 intro k;rw[aau];by_cases hk:k<ps.length
 ·obtain⟨p,hp⟩:∃p,ps[k]? =some p:=cW hk;obtain⟨r,hr⟩:∃r,rs[k]? =some r:=cW (by omega);unfold dD;rw[adP,hp,hr];simp only[abh,Vg hn hp hr]
 ·rw[acb (by unfold dD;rw[afN];omega),acb (by omega)];rfl
theorem Qd(h:0<G.length):∃rest,bC G=(0,0)::rest:=by
 cases G with
 | nil=>simp at h
 | cons b G=>
  unfold bC d9 lC;rw[List.range_succ_eq_map];exact⟨_,rfl⟩
theorem Wl(h:Lw G)(l:LV G v p):v<1009:=by
 induction l with
 | use hb _ u=>
  obtain⟨h1,h2⟩:=h _ (aap hb);unfold dv at u;split at u
  ·rename_i r hr;exact h1 r (aap hr) v u
  ·exact h2 v u
 | step _ _ ih=>exact ih
theorem Vi(h:v∈l.map (·.1)):∃w,dg (inD l) (.int v)=some w/\(v,w)∈l:=by
 have hs:=Hn l v;rw[decide_eq_true h] at hs;obtain⟨w,hw⟩:=abt.mp hs;refine⟨w,hw,?_⟩;unfold dg at hw;obtain⟨q,hq,rfl⟩:=aaA.mp hw;have h1:=List.find?_some hq;obtain⟨x,hx,rfl⟩:=aaD.mp (List.mem_of_find?_eq_some hq);simp only[decide_eq_true_eq] at h1;injection h1 with h1
 rw[<- h1];exact hx
structure LS(ns:List Int)(gi d sp lo:Nat)(K0:PH)(G:List bp)(rs:List Nat)(L:Tab):Prop where
 ok:cZ G
 g:cu lo K0 gi G
 t:LT K0 d lo (bC G) rs L
 sp:K0[sp]? =some (.lst ((bC G).map aw))
 sm:∀l∈L,l.length<=63
 lv:∀p v,iy (bC G) L p v↔LV G v p
 ln:∀(k:Nat) p l v w,(bC G)[k]? =some p->L[k]? =some l->(v,w)∈l->∃n:Nat,w=.int ((n+1:Nat):Int)/\Ln G v n p/\∀m,Ln G v m p->n<=m
section
variable{ns:List Int}{gi d sp lo:Nat}{K0:PH}{G:List bp}{rs:List Nat}{L:Tab}
theorem Wm{K:PH}{si:Nat}{ks:List Int}{nb v0:Int}{s0 s1 s2 s3 s4 s6 s9:Option W}(hs:K[si]? =some (.lst (ks.map W.int)))(hz:ks.length<=1000) :
  ∃v K',aV (fq (eT (ae aY (ae aN (aa 5) (eC (.int (2)))) (eC (.int (1))))) (eT (ae dJ (aa 8) (aR af)))) (ax (ae ah (aa 8) (ae aN (ae bS (aa 5) (eC (.int (200)))) (aX bv (ab (aa 8) af)))) (gN 7)) aZ [s0,s1,s2,s3,s4,some (.int nb),s6,some (.int v0),some (.ref si),s9] K=.ok (.nx [s0,s1,s2,s3,s4,some (.int nb),s6,some (.int v),some (.ref si),s9]) K'/\Ex K K':=by
 have e1:eT (ae aY (ae aN (aa 5) (eC (.int (2)))) (eC (.int (1)))) [s0,s1,s2,s3,s4,some (.int nb),s6,some (.int v0),some (.ref si),s9] K=.ok (decide (nb.fmod 2=1)) K:=by
  push_cast [bZ (show(2:Int)≠0 by decide)]
 have e2:eT (ae dJ (aa 8) (aR af)) [s0,s1,s2,s3,s4,some (.int nb),s6,some (.int v0),some (.ref si),s9] K=.ok (!ks.isEmpty) (K++[.lst []]):=by
  ac_nf
  rw[gp _ _ _ (small (by simp)),bg (Hh (eq_nil ((Ex.one _ _).get hs) (bc _ _) (AQ _ 39 ks)))];ac_nf;cases ks <;> rfl
 by_cases c:nb.fmod 2=1
 ·rw[decide_eq_true c] at e1;have x1:Ex K (K++[.lst []]):=Ex.one _ _;have et:fq (eT (ae aY (ae aN (aa 5) (eC (.int (2)))) (eC (.int (1))))) (eT (ae dJ (aa 8) (aR af))) [s0,s1,s2,s3,s4,some (.int nb),s6,some (.int v0),some (.ref si),s9] K=.ok (!ks.isEmpty) (K++[.lst []]):=by
   rw[kT];exact aB e1 e2
  cases hk:ks with
  | nil=>
   rw[hk] at et;exact⟨v0,_,bN et rfl,x1⟩
  | cons a as=>
   have sh:0<(ks.length:Int):=by rw[hk];simp
   have q:=fA (nb.fdiv 200) (ks.length:Int) sh;obtain⟨v,_,hv⟩:=qU q.1 q.2;have Kc:=et;rw[hk] at Kc;refine⟨v,_,cw Kc (asg (w:=.int v) (ph1:=K++[.lst []]) ?_),x1⟩
   push_cast [dI (show(200:Int)≠0 by decide) (by decide)]
   refine aB (eF (x1.get hs)) ?_;rw[aan]
   push_cast [bZ (show(ks.length:Int)≠0 by omega)]
   exact cK (x1.get hs) hv
 ·rw[decide_eq_false c] at e1;refine⟨v0,K,bN ?_ rfl,Ex.refl _⟩;rw[kT];exact aB e1 rfl
theorem Wn{k:Nat}{K:PH}{o5 o6 o7 o8 o9:Option W}(s:LS ns gi d sp lo K0 G rs L)(xK:Ex K0 K) :
  ∃q5 q6 q7 q8 q9 K',qM [some (.fl (ns.map W.int)),some (.ref gi),some (.ref d),some (.ref sp),some (.int k),o5,o6,o7,o8,o9] K=.ok (.nx [some (.fl (ns.map W.int)),some (.ref gi),some (.ref d),some (.ref sp),some (.int k),q5,q6,q7,q8,q9]) K'/\Ex K K':=by
 obtain⟨nb,Z5⟩:∃nb,nb=mx (ns.getD (50+(k:Int).fmod 3).toNat 0) (k:Int):=⟨_,rfl⟩
 have h3:=fA (k:Int) 3 (by decide);have e5:ax (aC fK (ab (aC cG (ab (aa 0) (ab (ae addW (eC (.int (50))) (ae aN (aa 4) (eC (.int (3))))) af))) (ab (aa 4) af))) (gN 5) [some (.fl (ns.map W.int)),some (.ref gi),some (.ref d),some (.ref sp),some (.int k),o5,o6,o7,o8,o9] K=.ok (.nx [some (.fl (ns.map W.int)),some (.ref gi),some (.ref d),some (.ref sp),some (.int k),some (.int nb),o6,o7,o8,o9]) K:=by
  refine asg ?_
  push_cast [bZ (show(3:Int)≠0 by decide),ku,i7 ns (50+(k:Int).fmod 3) (by omega)]
  rw[Z5]
  all_goals rfl
 have sh:0<((bC G).length:Int):=by
  obtain⟨rest,hr⟩:=Qd s.ok.pos;rw[hr];simp
 have q:=fA (nb.fdiv 2) ((bC G).length:Int) sh;obtain⟨j,hj⟩:∃j:Nat,(nb.fdiv 2).fmod ((bC G).length:Int)=(j:Int):=⟨_,(ael q.1).symm⟩
 rw[hj] at q;have kC:j<(bC G).length:=by omega
 obtain⟨p,hp⟩:∃p,(bC G)[j]? =some p:=cW kC;have D9:d8 G p:=mr.mp (aap hp);have e6:ax (ae ah (aa 3) (ae aN (ae bS (aa 5) (eC (.int (2)))) (aX bv (ab (aa 3) af)))) (gN 6) [some (.fl (ns.map W.int)),some (.ref gi),some (.ref d),some (.ref sp),some (.int k),some (.int nb),o6,o7,o8,o9] K=.ok (.nx [some (.fl (ns.map W.int)),some (.ref gi),some (.ref d),some (.ref sp),some (.int k),some (.int nb),some (aw p),o7,o8,o9]) K:=by
  refine asg ?_
  push_cast [dI (show(2:Int)≠0 by decide) (by decide)]
  refine aB (eF (xK.get s.sp)) ?_;rw[aan]
  push_cast [bZ (show((bC G).length:Int)≠0 by omega)]
  rw[hj];refine cK (xK.get s.sp) ?_;rw[gK _ _ (by rw[aan];exact kC),aau,hp];rfl
 obtain⟨v0,e7⟩:∃v0,ax (ae aN (ae bS (aa 5) (eC (.int (200)))) (eC (.int (40)))) (gN 7) [some (.fl (ns.map W.int)),some (.ref gi),some (.ref d),some (.ref sp),some (.int k),some (.int nb),some (aw p),o7,o8,o9] K=.ok (.nx [some (.fl (ns.map W.int)),some (.ref gi),some (.ref d),some (.ref sp),some (.int k),some (.int nb),some (aw p),some (.int v0),o8,o9]) K:=by
  refine⟨(nb.fdiv 200).fmod 40,asg ?_⟩
  push_cast [dI (show(200:Int)≠0 by decide) (by decide),bZ (show(40:Int)≠0 by decide)]
  all_goals rfl
 obtain⟨r,l,hr,hl,ir,hd⟩:=(s.t.ex xK).ix (nN G) hp;have Z6:=aap hl;have Ka:=s.sm l Z6;obtain⟨K1,yu⟩:∃K1,K1=K++[PO.lst ((je (l.map (·.1))).map W.int)]:=⟨_,rfl⟩
 have x1:Ex K K1:=by rw[yu];exact Ex.one _ _
 have q1:K1[K.length]? =some (.lst ((je (l.map (·.1))).map W.int)):=by rw[yu];exact bc _ _
 have e8:ax (aX mJ (ab (ae ah (aa 2) (aa 6)) af)) (gN 8) [some (.fl (ns.map W.int)),some (.ref gi),some (.ref d),some (.ref sp),some (.int k),some (.int nb),some (aw p),some (.int v0),o8,o9] K=.ok (.nx [some (.fl (ns.map W.int)),some (.ref gi),some (.ref d),some (.ref sp),some (.int k),some (.int nb),some (aw p),some (.int v0),some (.ref K.length),o9]) K1:=by
  refine asg ?_;ac_nf;refine aB ir ?_;rw[yu];exact Sh hd Ka
 obtain⟨v,K2,e9,x2⟩:=Wm (s0:=some (.fl (ns.map W.int))) (s1:=some (.ref gi)) (s2:=some (.ref d)) (s3:=some (.ref sp)) (s4:=some (.int k)) (s6:=some (aw p)) (s9:=o9) (nb:=nb) (v0:=v0) q1 (by rw[yT.length_eq,aan];omega);have Kd:=(xK.trans x1).trans x2;obtain⟨w,K3,ew,x3,hw⟩:=FP (v:=v) s.ok s.g Kd D9;have Z7:ax (aC qL (ab (aa 1) (ab (ae ah (aa 6) (eC (.int (0)))) (ab (ae ah (aa 6) (eC (.int (1)))) (ab (aa 7) af))))) (gN 9) [some (.fl (ns.map W.int)),some (.ref gi),some (.ref d),some (.ref sp),some (.int k),some (.int nb),some (aw p),some (.int v),some (.ref K.length),o9] K2=.ok (.nx [some (.fl (ns.map W.int)),some (.ref gi),some (.ref d),some (.ref sp),some (.int k),some (.int nb),some (aw p),some (.int v),some (.ref K.length),some w]) K3:=by
  refine asg ?_;unfold aw;ac_nf;exact ew
 have Ke:=Kd.trans x3;obtain⟨r',l',iT,tE,Kf,DP⟩:=(s.t.ex Ke).ix (nN G) hp;rw[hr] at iT;cases iT;rw[hl] at tE;cases tE;have et:eT (ae bY (aa 7) (ae ah (aa 2) (aa 6))) [some (.fl (ns.map W.int)),some (.ref gi),some (.ref d),some (.ref sp),some (.int k),some (.int nb),some (aw p),some (.int v),some (.ref K.length),some w] K3=.ok (!decide (v∈l.map (·.1))) K3:=by
  ac_nf
  refine aB Kf (aB (LT.J0 DP v) ?_);rfl
 have live:v∈l.map (·.1)↔LV G v p:=by
  rw[<- s.lv];constructor
  ·intro h;exact⟨j,l,hp,hl,h⟩
  ·rintro⟨j',l',h1,h2,h3⟩;have:=y9 (nN G) h1 hp;subst this;rw[hl] at h2;cases h2;exact h3
 have go:∀{K':PH},(aV (eT (ae bY (aa 7) (ae ah (aa 2) (aa 6)))) (aV (eT (ae kh (aa 9) (eC .aJ))) (aW (eC (.bl false))) aZ) (aV (gw (eU (aC uQ (ab (aa 9) (ab (aa 1) (ab (aa 6) (ab (aa 7) (ab (ae ah (ae ah (aa 2) (aa 6)) (aa 7)) af)))))))) (aW (eC (.bl false))) aZ)) [some (.fl (ns.map W.int)),some (.ref gi),some (.ref d),some (.ref sp),some (.int k),some (.int nb),some (aw p),some (.int v),some (.ref K.length),some w] K3=.ok (.nx [some (.fl (ns.map W.int)),some (.ref gi),some (.ref d),some (.ref sp),some (.int k),some (.int nb),some (aw p),some (.int v),some (.ref K.length),some w]) K'->qM [some (.fl (ns.map W.int)),some (.ref gi),some (.ref d),some (.ref sp),some (.int k),o5,o6,o7,o8,o9] K=.ok (.nx [some (.fl (ns.map W.int)),some (.ref gi),some (.ref d),some (.ref sp),some (.int k),some (.int nb),some (aw p),some (.int v),some (.ref K.length),some w]) K':=fun{K'} h=>by
  unfold qM;exact sq e5 (sq e6 (sq e7 (sq e8 (sq e9 (sq Z7 h)))))
 by_cases hv:v∈l.map (·.1)
 ·rw[decide_eq_true hv] at et;obtain⟨w0,g1,g2⟩:=Vi hv;obtain⟨n,rfl,n1,n2⟩:=s.ln j p l v w0 hp hl g2
  rcases hw with⟨_,no⟩ | ⟨i,c,n',rfl,hc,wt⟩
  ·exact absurd n1 (no n)
  ·have:n'=n:=Nat.le_antisymm (wt.least n n1) (n2 n' wt.ln);subst this;obtain⟨K4,Z8,x4⟩:=Qc s.ok s.g Ke hc wt;refine⟨_,_,_,_,_,K4,go (bN et (bN ?_ rfl)),x1.trans (x2.trans (x3.trans x4))⟩;rw[nQ,mn];ac_nf;refine aB Kf (aB (Ge DP (BJ _ _) g1) (aB Z8 ?_));rfl
 ·rw[decide_eq_false hv] at et
  rcases hw with⟨rfl,_⟩ | ⟨i,c,n',_,_,wt⟩
  ·exact⟨_,_,_,_,_,K3,go (cw et (bN rfl rfl)),x1.trans (x2.trans x3)⟩
  ·exact absurd (live.mpr wt.ln.lv) hv
end
theorem good(ns:List Int)(h:ns.length<=63):∃ph',rS [.fl (ns.map W.int)] []=.ok (.bl true) ph':=by
 obtain⟨G,hG,lw,gs⟩:=P6 ns;obtain⟨gi,H1,e1,_,g1,_⟩:=gs [];obtain⟨H2,rs,L,e2,x2,t2,r1,r2,r3,r4⟩:=OL hG g1;have hpl:=vO hG;have hd:=t2.at_;rw[Vh (nN G) t2.lr] at hd;have e3:=OO (bC G) (fun p=>(aw p,W.ref (xr (bC G) rs p))) (fun p=>some (aw p)) (m:=aa 2) (cap:=[none]) (g:=gN 0) (c:=dH) (e:=aa 0) (σ:=[some (.fl (ns.map W.int)),some (.ref gi),some (.ref H1.length),none,none,none,none,none,none,none]) (ph:=H2) (ph0:=H2) rfl hd (by omega) (fun σ=>∃o,σ=[o]) ⟨none,rfl⟩
  (fun p hp σ H ck hf hk=>by
   obtain⟨o,bK⟩:=ck;subst bK;exact⟨_,rfl,⟨_,rfl⟩,.inr ⟨rfl,aw p,rfl,rfl⟩⟩)
 rw[jx] at e3;obtain⟨H3,cX⟩:∃H3,H3=H2++[PO.lst ((bC G).map aw)]:=⟨_,rfl⟩
 have x3:Ex H2 H3:=by rw[cX];exact Ex.one _ _
 have q3:H3[H2.length]? =some (.lst ((bC G).map aw)):=by rw[cX];exact bc _ _
 rw[<- cX] at e3;have s:LS ns gi H1.length H2.length 0 H3 G rs L:=⟨hG,(g1.ex (x2.trans x3)).lo (abA _),by
  have t3:=t2.ex x3;exact⟨t3.at_,t3.lr,t3.ll,t3.con,t3.inj,t3.nd,abA _,fun _ _=>abA _⟩,q3,r1,r3,r4⟩
 obtain⟨ao,H4,e4,⟨o4,o5,o6,o7,o8,o9,rfl⟩,x4⟩:=hU (chk:=fun _=>true) (g:=gN 4) (b:=qM)
  (fun j σ K=>(∃o4 o5 o6 o7 o8 o9,σ=[some (.fl (ns.map W.int)),some (.ref gi),some (.ref H1.length),some (.ref H2.length),o4,o5,o6,o7,o8,o9])/\Ex H3 K)
  (dc 0 12) [some (.fl (ns.map W.int)),some (.ref gi),some (.ref H1.length),some (.ref H2.length),none,none,none,none,none,none] H3 (fun _ _ _ _=>rfl)
  (fun j w σ K hj fW=>by
   obtain⟨⟨o4,o5,o6,o7,o8,o9,bK⟩,xK⟩:=fW;subst bK;obtain⟨_,rfl⟩:=iB hj;rw[aci];obtain⟨q5,q6,q7,q8,q9,K',e,x⟩:=Wn (k:=j) (o5:=o5) (o6:=o6) (o7:=o7) (o8:=o8) (o9:=o9) s xK;exact⟨_,_,rfl,_,K',e,_,.inl rfl,⟨_,_,_,_,_,_,rfl⟩,xK.trans x⟩)
  ⟨⟨_,_,_,_,_,_,rfl⟩,Ex.refl _⟩
 obtain⟨b0,Z9⟩:∃b0,G[0]? =some b0:=cW hG.pos;obtain⟨w,H5,e5,x5,hw⟩:=FP (v:=1000000000) (z:=(0,0)) hG s.g x4 ⟨b0,Z9,abA _⟩;have DW:w=.aJ:=by
  rcases hw with⟨h,_⟩ | ⟨i,c,n,_,_,wt⟩
  ·exact h
  ·exact absurd (Wl lw wt.ln.lv) (by decide)
 subst DW;obtain⟨g2,H6,e6,x6,gg,_⟩:=gs H5;have z2:fw H6 (.ref gi) (.ref g2)=some true:=UC (Hq (s.g.ex ((x4.trans x5).trans x6))) (Hq gg);refine⟨H6,?_⟩;unfold rS oz;rw[gf];refine bq (σ1:=[some (.fl (ns.map W.int)),some (.ref gi),none,none,none,none,none,none,none,none]) (ph1:=H1) (asg ?_) ?_
 ·ac_nf
  exact e1
 refine bq (σ1:=[some (.fl (ns.map W.int)),some (.ref gi),some (.ref H1.length),none,none,none,none,none,none,none]) (ph1:=H2) (asg ?_) ?_
 ·ac_nf
  exact e2
 refine bq (σ1:=[some (.fl (ns.map W.int)),some (.ref gi),some (.ref H1.length),some (.ref H2.length),none,none,none,none,none,none]) (ph1:=H3) (asg e3) ?_;refine bq (eZ (fZ (m:=ab (eC (.int (12))) af) (j:=12) (ph':=H3) rfl (by decide) (by decide)) e4) ?_;refine br ?_;rw[nX];refine aB (a:=.bl true) (ph':=H5) ?_ ?_
 ·ac_nf
  refine aB (a:=.int 1000000000) (ph':=H4) rfl ?_;refine aB e5 ?_;rfl
 ·simp only[if_true];ac_nf;refine aB e6 ?_;exact Hg z2
end IL.K14
open PySem PySem.W PyProof.Rows
namespace PySem.W.Fast
def tw16926743042952033154:=0
def tw17349688660186300343:=0
def tw6254406114953805132:=0
def tw11961834126696485381:=0
def tw9795074205816064499:=0
def tw5171930500585168669:=0
def tw131419357421146169:=0
def tw6759812388669426633:=0
def tw11534937858006952834:=0
def tw7861429924738771866:=0
def tw11173863665543499808:=0
def tw891109091929837639:=0
def tw13368249981449774972:=0
def tw7169439806520205694:=0
def tw12222563753592366246:=0
def tw7571462296376256867:=0
def tw2995768265122410624:=0
def tw4491012168507915591:=0
def tw5777284428401780536:=0
def tw18188496895805568751:=0
def tw3241037308210847795:=0
def tw13783540037643428345:=0
def tw8040062925134227602:=0
def tw14212573275799654689:=0
def tw13061803361899307728:=0
def tw14875192941465741250:=0
def tw13357656978968022144:=0
def tw14910861998525421070:=0
def tw15013684986050624736:=0
def tw6441624928020874167:=0
def tw3537087354360941173:=0
def tw7319561813725994220:=0
def tw1270474653830806563:=0
def tw6686511246849816233:=0
def tw9331543337252446067:=0
def tw14072421871036553440:=0
def tw15637652778742601836:=0
def tw15851230014023508103:=0
def tw2045966836628660912:=0
def tw2217266217113076813:=0
def tw10827808998392252897:=0
def tw12068406723076279936:=0
def tw6119642434390062569:=0
def tw988777540480320337:=0
def tw3257034898541785906:=0
def tw1161411801586933959:=0
def tw16139883021826094338:=0
def tw1127830445193860353:=0
def tw16622768477027520207:=0
def tw550788254391480344:=0
def tw7388724828239708842:=0
def tw14801940160370743579:=0
def tw5791905533774318516:=0
def tw459028625606759869:=0
def tw1876563321022688376:=0
def tw13369283538907796083:=0
def tw549280540952610889:=0
def tw9049907977461633156:=0
def tw7126228433571928444:=0
def tw13417488625024729406:=0
def tw12903274643924164134:=0
def tw1192017793114719904:=0
def tw15661408289560892817:=0
def tw4783695245313591606:=0
def tw8318280601530230686:=0
def tw4458207839931119800:=0
def tw2375443221852983778:=0
def tw8711939182465404086:=0
def tw8722101490945378177:=0
def tw5570596804053653613:=0
def tw17944148866351600530:=0
def tw13986974533126816039:=0
def tw2629095587619180074:=0
def tw4322592791737636464:=0
def tw7507769627426919776:=0
def tw15441010372633674192:=0
def tw646855669851419527:=0
def tw8785704494570960887:=0
def tw12691361670306760275:=0
def tw1774930482907002785:=0
def tw11431491422089048465:=0
def tw8000740709979149820:=0
def tw13629247198753031414:=0
def tw10598668094908921614:=0
def tw776567463121925367:=0
def tw658565782954554451:=0
def tw1738294819417768376:=0
def tw248777776469574793:=0
def tw12972961033039712227:=0
def tw13370503023548130266:=0
def tw14567600558684284572:=0
def tw15012404711021214666:=0
def tw8848774489518228811:=0
def tw5694780777157871014:=0
def tw11383206495986443852:=0
def tw5531897593839237341:=0
def tw18241451373503601352:=0
def tw17730216696462126938:=0
def tw16041675802850325343:=0
def tw4845061021612037334:=0
def tw1940608591482742458:=0
def tw13560769006686194134:=0
def tw15334526140399189428:=0
def tw5750575694497837788:=0
def tw12361433978758368387:=0
def tw10434182011593065380:=0
def tw9226077504661901230:=0
def tw689931615245751928:=0
def tw3818116884631978147:=0
def tw5607080371826451715:=0
def tw16451654561660071831:=0
def tw8451891292087038747:=0
def tw4679089760598935092:=0
def tw15750577823929039370:=0
def tw8144915238189879384:=0
def tw14351103943424798601:=0
def tw7526837188441449726:=0
def tw13058363158172797479:=0
def tw2830293744406625092:=0
def tw17725135486548452167:=0
def tw13538531999564329310:=0
def tw12909494724448432482:=0
def tw11808203976198608398:=0
def tw17996331489506490025:=0
def tw14762711421911353711:=0
def tw7666116876542373823:=0
def tw15706763527100320045:=0
def tw1435705318262547412:=0
def tw16627276965809582027:=0
def tw10108605542995801914:=0
def tw6278101248732778894:=0
def tw13230864699204984236:=0
def tw15189743646376904218:=0
def tw17236777562670140307:=0
def tw7948768165525198768:=0
def tw9530337426556882235:=0
def tw9218557743524258790:=0
def tw13708367052643444417:=0
def tw13159172323566141762:=0
def tw13613460998067454550:=0
def tw17337255475352523951:=0
def tw11350535450372255777:=0
def tw8254708133989486648:=0
def tw14144611816016480397:=0
def tw1440243658434734599:=0
def tw892171677861847524:=0
def tw3266889426930982785:=0
def tw17306777956447853558:=0
def tw7779391845080230579:=0
def tw15357862048102318673:=0
def tw17965969428253586178:=0
def tw16998064927461237087:=0
def tw16037450791563110657:=0
def tw12649847722993814984:=0
def tw18124800659069536379:=0
def tw3099107309687185529:=0
def tw12039810011588912876:=0
def tw12185394920174416764:=0
def tw17673244281925754771:=0
def tw11779063408150829751:=0
def tw1734055182994134113:=0
def tw5879954445980880695:=0
def tw12278771418226735304:=0
def tw5141906788336555719:=0
def tw1763911172010492579:=0
def tw7085327163603683418:=0
def tw11598159124814003404:=0
def tw13159998080289004019:=0
def tw11565520438387157473:=0
def tw12407023813663313826:=0
def tw14068386758812250153:=0
def tw2130596977761456548:=0
def tw10977484931708653919:=0
def tw12730388057282352435:=0
def tw9870223037809993066:=0
def tw15025730857830497280:=0
def tw9976093862771791226:=0
def tw10863149674553936922:=0
def tw13590297009808014901:=0
def tw6687422357445431117:=0
def tw11743681659536991730:=0
def tw7778094064591232518:=0
def tw756647134014960043:=0
def tw1944828370706376539:=0
def tw9272018874512763225:=0
def tw2501231406220190888:=0
def tw9355970183992479221:=0
def tw10301158267020778756:=0
def tw15448501681303635970:=0
def tw5627901512749155956:=0
def tw4987630708375618689:=0
def tw1553878966019606157:=0
def tw10502156119994645028:=0
def tw15162267967123705811:=0
def tw14288022806574779756:=0
def tw15076480958262456541:=0
def tw16343348246062675782:=0
def tw17399415920957902301:=0
def tw7915115065206438041:=0
def tw13525742431154370733:=0
def tw16721435775966768766:=0
def tw2127792329388826640:=0
def tw2355790549701359484:=0
def tw1432446370974075078:=0
def tw795241796088386772:=0
def tw1317863111912052870:=0
def tw17384129341519008388:=0
def tw18223219533354104057:=0
end PySem.W.Fast
set_option maxHeartbeats 0 in
theorem PySem.Challenge.cw_boxwright_k14_ways_to_uses_holds : PySem.Challenge.rw_boxwright_k14_ways_to_uses.Holds := by
 w_on
 o_law
 k_head
 (case hw=>w_witness2)
 k_fill
 refine IL.K14.PR (l:=PySem.Challenge.rw_boxwright_k14_ways_to_uses) (fun ns hn=>IL.K14.good ns hn) rfl rfl (fun w h Y=>agf Y) ?K ?T ?F
 case K=>intro w;kernel_rfl
 case T=>
  intro w h Y;refine IL.Ra ?_ (agf Y) (PySem.W.km_tabs_of Y)
  kernel_rfl
 case F=>
  intro w mg fa h KX G hmg;refine' IL.K14.all_mk KX G hmg ?h_law_cell_at ?h_law_back_chain ?h_law_mixed ?h_law_set_by ?h_law_wide_ring ?h_law_ends_by ?h_law_sizes_by ?h_law_come_without ?h_law_row_of ?h_law_rows_of ?h_law_end_of ?h_law_plain_graph_by ?h_law_end_as ?h_law_row_as ?h_law_graph_by ?h_law_things ?h_law_used ?h_law_gives ?h_law_goals ?h_law_ahead_of ?h_law_live_by ?h_is_point ?h_row_at ?h_given ?h_further_blocks ?h_points_behind ?h_found_from ?h_used ?h_back_from ?a_way_to ?l_way_to ?c_way_to ?k_way_to ?h_law_whole ?h_law_next_points ?h_law_is_way ?a_law ?l_law ?c_law ?k_law ?w1_way_to ?w2_way_to ?w3_way_to ?w4_way_to ?w5_way_to ?z_any ?z_bool ?z_enumerate ?z_int ?z_isinstance ?z_len ?z_list ?z_max ?z_min ?z_range ?z_reversed ?z_sorted ?z_tuple
  (case a_way_to=>k_is)
  (case l_way_to=>k_is)
  (case c_way_to=>k_is)
  (case k_way_to=>k_is)
  (case a_law=>k_is)
  (case l_law=>k_is)
  (case c_law=>k_is)
  (case k_law=>k_is)
  (case w1_way_to=>exact rfl)
  (case w2_way_to=>k_is)
  (case w3_way_to=>exact rfl)
  (case w4_way_to=>exact rfl)
  (case w5_way_to=>kernel_rfl)
  (case h_law_cell_at | h_law_back_chain | h_law_mixed | h_law_set_by | h_law_wide_ring | h_law_ends_by | h_law_sizes_by | h_law_come_without | h_law_row_of | h_law_rows_of | h_law_end_of | h_law_plain_graph_by=>refine' IL.K14.AE ?a ?l ?c ?k;(case a=>k_is);(case l=>k_is);(case c=>k_is);(case k=>k_is))
  (case h_law_end_as | h_law_row_as | h_law_graph_by | h_law_things | h_law_used | h_law_gives | h_law_goals | h_law_ahead_of | h_law_live_by | h_is_point | h_row_at | h_given=>refine' IL.K14.AE ?a ?l ?c ?k;(case a=>k_is);(case l=>k_is);(case c=>k_is);(case k=>k_is))
  (case h_further_blocks | h_points_behind | h_found_from | h_used | h_back_from | h_law_whole | h_law_next_points | h_law_is_way=>refine' IL.K14.AE ?a ?l ?c ?k;(case a=>k_is);(case l=>k_is);(case c=>k_is);(case k=>k_is))
  (case z_any | z_bool | z_enumerate | z_int | z_isinstance | z_len | z_list | z_max | z_min | z_range | z_reversed | z_sorted=>k_is)
  (case z_tuple=>k_is)
