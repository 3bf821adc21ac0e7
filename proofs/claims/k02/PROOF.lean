import PyProof.Rows.All
import Wide.All
import OpenK.AllK
import Wide.FinOn
import Lean
import PyProof.EqAt
import PyProof.EqKinds
import PyProof.TupleCall
import PyProof.StationsW
import KE.KLam
import PyProof.P3Eq
import PyProof.NeData
import PyProof.AttrMissHeap
import KE.KDictOf
import PyProof.DictItems
import PyProof.Rows.Range3
import KE.KEqDict
import PyProof.FactsAll.NoneType_1
import PyProof.FactsAll.bool_1
import KE.KDictSum
import KE.KSorted
import PyProof.ListRange
import PyProof.DictTruth
import PyProof.DictWalks
import PyProof.NeKinds
import KE.KTab
import KE.KTabLook
import PyProof.ExcClass3
import PyProof.FString2
import PyProof.SliceStr2
import PyProof.StrBlock
import PyProof.StrLaws
import PyProof.StrOps2
import PySem.Challenge.RW_boxwright_k02_programs_refused
set_option Elab.async false
set_option linter.all false
set_option maxRecDepth 100000
set_option maxHeartbeats 8000000
noncomputable section
local macro_rules | `(tactic| omega) => `(tactic| lia)
open Array renaming getElem?_eq_some_iff->amk,length_toList->anI,getElem?_setIfInBounds_ne->aoG,append_assoc->aqY,toList->arA
open Bool renaming and_eq_true->alo,false_ne_true->alK,or_eq_true->aoy,false_eq_true->apq,false_and->aqG,and_false->aqK,or_false->arc,and_self->arf
open Decidable renaming isFalse->alr,isTrue->alQ
open False renaming elim->anc
open ForInStep renaming yield->anh
open Function renaming comp_def->arx
open Int renaming toNat_natCast->apK
open List renaming getElem?_eq_some_iff->alf,length_map->alg,replicate->alj,getElem?_map->aln,size_toArray->alq,mem_singleton->aly,length_cons->alA,lookup_cons->alC,mem_cons->alD,mem_cons_of_mem->alE,mem_of_getElem?->alF,length_append->alH,map_cons->alO,getElem?_append_left->alR,length_take->alX,mem_cons_self->amc,mem_append_right->amd,lookup->aml,mem_of_mem_take->amq,any_cons->amt,all_eq_true->amw,replicate_succ->amx,mem_append->amC,length_set->amG,all_cons->amH,forall_mem_append->amN,getElem?_eq_getElem->amV,getElem?_set_ne->amW,find?_cons->ang,range->anj,map_map->ans,append_nil->anC,flatten_cons->anF,filterMap_cons->anH,take_length->anL,getElem?_set_self->anO,sum_replicate_nat->anR,nodup_cons->anV,forIn_cons->anW,getElem?_concat_length->aod,append_assoc->aoh,getElem?_append_right->aol,mem_append_left->aom,mem_nil_iff->aor,length_flatten->aot,mem_map->aow,mem_filterMap->aox,map_replicate->aoA,take_add_one->aoH,all_toArray->aoQ,map_take->aoX,map_append->apg,length_pos_iff->aph,getElem_range->app,getElem?_take->aps,mem_range->apt,forIn_nil->apy,nodup_nil->apA,length_range->apJ,length_drop->apZ,any_eq_true->aqa,drop_eq_nil_of_le->aqf,of_mem_zip->aqn,foldl_cons->aqo,map_nil->aqp,length_nil->aqq,set_append_right->aqt,map_id_fun->aqu,mem_of_mem_drop->aqE,getElem?_range->aqR,getElem_of_mem->aqS,map_drop->ark,all_map->arE
open List.cons renaming inj->ard
open Nat renaming le_refl->ali,le_of_ble_eq_true->alx,lt_of_lt_of_le->alB,le_trans->alT,ne_of_lt->alV,lt_succ_self->amK,lt_irrefl->amX,ne_of_gt->ana,zero_le->ant,zero_add->anY,le_succ->aoD,le_of_eq->apm,le_of_lt->aqj,min_eq_left->aqv,add_comm->arD
open Nat.succ renaming inj->aqx
open Ne renaming symm->amT
open Option renaming map_eq_some_iff->alv,map_some->alS,bind_some->amv,isSome_iff_exists->amB,some->anv,isSome_map->apG,getD_some->aqb,none->aqQ
open Option.some renaming inj->amm
open PyProof.Rows renaming callWith_type1->amD,boot_list->amM,slot_tuple_getitem->anD,boot_str->aoc,callWith_builtin1->aoL,boot_all->aoN,boot_int->aoO,boot_isinstance->aoU,AllBare->apN,subscriptTail->apQ,boot_tuple->apX,boot_bool->aqg,envOfC->aqJ
open PySem renaming wpAny_bind->abB,mainGlobals->alc,Shared->ald,wpAny_pure->alh,sizeLine->alz,starEach->alI,FuncData->alM,boot_len->alU,wpAny_field->alY,Program->amb,compareOp->ami,foldedSetIterable->amn,bootBuiltins->amo,wpAny_mono->amr,wpAny_newObj_type->ams,wpAny_holding->amu,Around->amz,wpAny_truthy_bool->amA,wpAny_callSpecial?_slot->amF,assignEach->amO,behindInMarks->amQ,attributeBase->amY,wpAny_setField->anb,wpAny_call_entry->ank,swapsWith->anl,tupleKind_room_in1->anm,wpAny_setField_rec->anr,wpAny_seqItems->anw,codeAny_call_builtin->anx,sysModules->anz,wpAny_passesOwn->anA,mem_of_lookup->anJ,wpAny_Call_Name_kw->anS,wpAny_execs_nil->anU,binaryOp->aoe,NameKind->aog,wpAny_loadPart_at->aoj,rawInt->aok,noteFrame->aoo,IsPair->aop,backTo->aou,PyData->aoz,plainObj_wpAny_Assign_Attribute->aoC,wpAny_call->aoE,sliceBounds->aoF,codeAny_mono->aoK,lookup_relabel_local->aoR,wpAny_updateSeq_pair->aoS,wpAny_standAt->aoT,wpAny_attempt->aoV,builtinsNs->aoY,letOwnedTupleGo->aoZ,sizeLine_eq->apa,getAttrByItsOwn->apc,wpAny_pyIter_tuple->apl,slot_dict_contains->apr,holding->apu,codeAny->apv,Builtin->apx,tupleKind->apB,typeLookup->apF,setFlight->apH,slot_dict_getitem->apL,leaving->apO,keywordEach->apR,excClassObj->apV,wpAny_onRaise->apW,Paired->aqi,PassesOwn->aqk,lastMarks->aql,call_meetsIn->aqr,ExcBaseFacts->aqw,isInstance->aqz,assign->aqF,wpAny_loadPart->aqI,boundAndCalled->aqM,getItem->aqO,subscripted->aqP,wpAny_letGo->aqU,Operator->aqZ,ZipApart->arj,PlainAttrs->ars,call_meets->art,valueAt->aru,Within->arz,IsPart->arH
open PySem.Around renaming under->arB
open PySem.Builtin.BaseException renaming bexcPut->arF
open PySem.Builtin.List renaming listTooLong->anG
open PySem.Builtin.Slice renaming slicePlaces->anu,sliceAdjust->aon,sliceApplied->apj
open PySem.Builtin.SmallTypes renaming nextOf->amg,ownedTupleIsFree->amy,ownedTupleHandOut->aoq
open PySem.Builtin.Str renaming occurrences->amE,strSliceIndices->apf
open PySem.Builtin.Tuple renaming tupleExact->anE
open PySem.Calls renaming Name_function_global->api,evalArgs_plain->aqD
open PySem.Code renaming quiet_builtin->apo,isFrame->arC
open PySem.EntryCells renaming newEntry->aos
open PySem.F renaming slot_list_append->alZ,type_list_append->ama,plainAttrs_list->ame,excBase_ValueError->amL,slot_tuple_iterator_next->ani,slot_dict_get->ano,entry_dict_get->anP,plainAttrs_str->anQ,slot_str_join->aoa,type_str_join->aob,args_tuple_iterator_next_1->aoW,entry_tuple_iterator_next->apd,slot_zip_next->ape,args_tuple_add_2->apE,attr_ValueError->apI,entry_tuple_add->apP,args_dict_get_2->apS,args_dict_get_3->apT,slot_tuple_add->aqd
open PySem.Heap renaming get?_push_of_some->alb,lt_size->alp,get?_push_size->alG,get?_update_other->alP,get?_update_self->amj,size_push->amR,IsTuple->anZ,SameBut->aoJ,get?_none_of_le->aqB,get?_update_ne->aqV
open PySem.Heap.Ns1 renaming of_empty->arp
open PySem.Heap.SameBut renaming update->aqT
open PySem.NameKind renaming free->alL,cell->amZ,globalImplicit->apU
open PySem.Obj renaming mapFields->amI,data_mapFields->amJ,isFreed_of_fields->anp,mapSeq->aqy
open PySem.Paired renaming length->apM
open PySem.PyData renaming eqv->amh,strOk->anq,eqvAll->aoi,canLay0->apw,str->aqA,canLayAll0->arw
open PySem.SeqAt renaming EqAt->arq
open PySem.SeqAt.EqAt renaming int_str->aqW,str_int->aqX
open PySem.Str renaming ofString->ala,ofString_eq_toList->aoB,empty->arb
open PySem.Txt renaming join->arG
open PySem.Value renaming ref->alJ,none->alW,int->aoI,str->aqh,bool->aro
open PySem.W renaming Frag->acs,nsIn->ale,mg_of->alk,keepIn->alm,codeIn->als,kitOne->alu,fnOf->alw,findIn->alN,mg_none_of->amf,emptyDict->amP,subIn->amS,kia_one->amU,instObj->ane,hideAll_get->anf,hasDictIn->anB,excIn->anK,typeIn->anM,tabObj->anN,hideAll->anT,isFn->aov,looks_findIn->aoM,plainGet->aoP,takerIn->apb,of_hideAll->apk,callWith_K->apn,CodeHd->apz,methodObj->apC,plainOver->apD,handedIn->apY,cellsFrom_some->aqc,funFrames_hide->aqe,makesIn->aqm,OpenLaw->aqs,looks_findIn->aqC,lookIn->aqH,notCls->aqL,noTabs->aqN,findIn->arh,tail_of_in->ari,kitx_dict->arv,specialIn->ary
open PySem.W.Looks renaming here->ara
open Sum renaming inl->arl,inr->arn
open True renaming intro->aof
namespace L2
open PySem PySem.Spec PyProof.Rows
abbrev Key:=Sum Int Str
noncomputable def sy:Key->Value->Bool
 | .inl k,v=>Value.isInt k v
 | .inr x,v=>Value.isStrOf x v
noncomputable def DQ(w:World):Key->Int
 | .inl k=>hashInt k
 | .inr x=>hashStr w x
theorem kK:∀{k:Key} {v:Value},sy k v=true->(∃i t,k=arl i/\v=aoI i t)\/(∃x t,k=arn x/\v=aqh x t)
 | .inl i,v,h=>by
  obtain⟨t,e⟩:=Value.isInt_shape (k:=i) (v:=v) h;exact .inl ⟨i,t,rfl,e⟩
 | .inr x,v,h=>by
  obtain⟨t,e⟩:=Value.isStrOf_shape (x:=x) (v:=v) h;exact .inr ⟨x,t,rfl,e⟩
theorem aa1(i:Int)(t:Tok):sy (.inl i) (.int i t)=true:=by simp[sy,Value.isInt]
theorem aa2(x:Str)(t:Tok):sy (.inr x) (.str x t)=true:=by simp[sy,Value.isStrOf]
theorem afJ(a b:Int):decide ((arl a:Key)=arl b)=(a==b):=by
 by_cases e:a=b
 ·subst e;simp
 ·have h:¬(arl a:Key)=arl b:=fun q=>e (Sum.inl.inj q)
  rw[decide_eq_false h];exact(beq_eq_false_iff_ne.mpr e).symm
theorem afK(a b:Str):decide ((arn a:Key)=arn b)=decide (a=b):=by
 by_cases e:a=b
 ·subst e;simp
 ·have h:¬(arn a:Key)=arn b:=fun q=>e (Sum.inr.inj q)
  rw[decide_eq_false h,decide_eq_false e]
theorem afL(a:Int)(b:Str):decide ((arl a:Key)=arn b)=false:=decide_eq_false (fun q=>nomatch q)
theorem afM(a:Str)(b:Int):decide ((arn a:Key)=arl b)=false:=decide_eq_false (fun q=>nomatch q)
noncomputable def dC(prog:amb)(w:World):PySem.KeyKind prog w Key where
 is:=sy
 hash:=DQ w
 inj:=fun v a b ha hb=>by
  rcases kK ha with⟨i,t,rfl,rfl⟩ | ⟨x,t,rfl,rfl⟩
  ·rcases kK hb with⟨j,u,rfl,e⟩ | ⟨y,u,rfl,e⟩
   ·injection e with e1 _;rw[e1]
   ·exact nomatch e
  ·rcases kK hb with⟨j,u,rfl,e⟩ | ⟨y,u,rfl,e⟩
   ·exact nomatch e
   ·injection e with e1 _;rw[e1]
 byValue:=fun k v h=>by
  rcases kK h with⟨i,t,rfl,rfl⟩ | ⟨x,t,rfl,rfl⟩ <;> rfl
 pyHash:=fun hv h=>by
  rcases kK hv with⟨i,t,rfl,rfl⟩ | ⟨x,t,rfl,rfl⟩
  ·exact wpAny_pyHash_int h
  ·exact wpAny_pyHash_str h
 eqBool:=fun hu hv h=>by
  rcases kK hu with⟨i,t,rfl,rfl⟩ | ⟨x,t,rfl,rfl⟩
  ·rcases kK hv with⟨j,u,rfl,rfl⟩ | ⟨y,u,rfl,rfl⟩
   ·rw[afJ] at h;exact wpAny_eqBool_int h
   ·rw[afL] at h;exact aqW i t y u _ _ _ _ h
  ·rcases kK hv with⟨j,u,rfl,rfl⟩ | ⟨y,u,rfl,rfl⟩
   ·rw[afM] at h;exact aqX x t j u _ _ _ _ h
   ·rw[afK] at h;exact wpAny_eqBool_str h
 «strs»:=fun k x t v h=>by
  rcases kK h with⟨i,u,rfl,e⟩ | ⟨y,u,rfl,e⟩
  ·exact nomatch e
  ·injection e with e1 _
   subst e1;cases v <;> rfl
theorem Yz(prog:amb)(w:World)(i:Int)(t:Tok):(dC prog w).is (.inl i) (.int i t)=true:=aa1 i t
theorem YA(prog:amb)(w:World)(x:Str)(t:Tok):(dC prog w).is (.inr x) (.str x t)=true:=aa2 x t
inductive V where
 | aE | bl (b:Bool) | int (i:Int) | str (x:Str) | tu (b:Array UInt8) | Au (b:UInt64) | ref (a:Addr) | ty (n:String)
 deriving DecidableEq
noncomputable def RelV:V->Value->Prop
 | .aE,u=>u=alW
 | .bl b,u=>u=aro b
 | .int i,u=>∃t,u=aoI i t
 | .str x,u=>∃t,u=aqh x t
 | .tu b,u=>∃t,u=Value.bytes b t
 | .Au b,u=>∃t,u=Value.float b t
 | .ref a,u=>u=alJ a
 | .ty n,u=>u=Value.type n
abbrev Vals:List V->List Value->Prop:=aqi RelV
theorem Vals.length{xs:List V}{us:List Value}(r:Vals xs us):xs.length=us.length:=apM r
theorem Vals.get:∀{xs:List V} {us:List Value} {i:Nat} {x:V},Vals xs us->xs[i]? =some x->∃u,us[i]? =some u/\RelV x u
 | _,_,_,_,.nil,e=>by simp at e
 | _,_,0,_,.cons r _,e=>by simp at e;subst e;exact⟨_,rfl,r⟩
 | _,_,i+1,x,.cons _ t,e=>by
  obtain⟨u,h1,h2⟩:=Vals.get (i:=i) (x:=x) t (by simpa using e);exact⟨u,by simpa using h1,h2⟩
theorem Vals.set{x:V}{u:Value}(r:RelV x u):∀{xs:List V} {us:List Value} (i:Nat),Vals xs us->Vals (xs.set i x) (us.set i u)
 | _,_,_,.nil=>.nil
 | _,_,0,.cons _ t=>.cons r t
 | _,_,i+1,.cons q t=>.cons q (Vals.set r i t)
theorem Vals.append:∀{xs ys:List V} {us ws:List Value},Vals xs us->Vals ys ws->Vals (xs++ys) (us++ws)
 | _,_,_,_,.nil,s=>s
 | _,_,_,_,.cons r t,s=>.cons r (Vals.append t s)
theorem Vals.take:∀{xs:List V} {us:List Value} (n:Nat),Vals xs us->Vals (xs.take n) (us.take n)
 | _,_,0,_=>.nil
 | _,_,_+1,.nil=>.nil
 | _,_,n+1,.cons r t=>.cons r (Vals.take n t)
theorem Vals.drop:∀{xs:List V} {us:List Value} (n:Nat),Vals xs us->Vals (xs.drop n) (us.drop n)
 | _,_,0,r=>r
 | _,_,_+1,.nil=>.nil
 | _,_,n+1,.cons _ t=>Vals.drop n t
noncomputable def fP:Option V->Option Value->Prop
 | some v,some u=>RelV v u
 | none,none=>True
 | _,_=>False
noncomputable def KV{κ:Type}:List (κ×V)->List (κ×Value)->Prop:=aqi fun(p:κ×V) (q:κ×Value)=>p.1=q.1/\RelV p.2 q.2
noncomputable def kV:Key->V
 | .inl i=>.int i
 | .inr x=>.str x
noncomputable def uA:V->Option Key
 | .int i=>some (.inl i)
 | .bl b=>some (.inl (if b then 1 else 0))
 | .str x=>some (.inr x)
 | _=>none
noncomputable def OT:List V->Option (List Key)
 | []=>some []
 | v::vs=>match uA v,OT vs with
  | some k,some ks=>some (k::ks)
  | _,_=>none
inductive HO where
  | lst (xs:List V)
  | tup (xs:List V)
  | dK (kvs:List (Key×V)) | dT (kvs:List (List Key×V))
  | dU (kvs:List (V×V))
  | set (S:Int->Bool) (n:Nat)
  | ins (C dx:Addr) (fs:List (Str×V))
  | own (x:Addr)
  | xd (fs:List (Str×V))
  | met (f x:Addr)
  | Av (lo hi:Int)
  | bE (o:Obj) (u:HO)
  | iP (ps:Array Value)
  | ext (φ:Heap->Prop)
abbrev Hp:=Addr->Option HO
noncomputable def upd(H:Hp)(a:Addr)(o:HO):Hp:=fun b=>if b=a then some o else H b
variable{H:Hp}{a:Addr}{o:HO}
theorem bP:upd H a o a=some o:=by unfold upd;rw[if_pos rfl]
variable{b:Addr}
theorem bw(h:b≠a):upd H a o b=H b:=by unfold upd;rw[if_neg h]
variable{u:HO}
theorem Ct:upd (upd H a o) a u=upd H a u:=by
 funext b;unfold upd;split <;> rfl
theorem nC(h:H a=some o)(h':H b=some u)(d:o≠u):a≠b:=by
 intro e;subst e;rw[h] at h';exact d (amm h')
theorem fY(h:H a=some o)(h':H b=none):a≠b:=by
 intro e;subst e;rw[h] at h';cases h'
section
variable(P:amb)(w:World)
noncomputable def de(H:Hp)(h:Heap)(a:Addr):HO->Prop
 | .lst xs=>xs.length<=alz/\∃(its:List Value) (n:Nat),Vals xs its/\h.get? a=some { cls:=.type "list",data:=.seq its.toArray n }
 | .tup xs=>xs.length<=alz/\∃its:List Value,Vals xs its/\IsTup h a its.toArray
 | .dK kvs=>kvs.length<=alz/\(a==anz)=false/\∃vs,KV kvs vs/\h.DictOf (dC P w) a vs
 | .dT kvs=>kvs.length<=alz/\(a==anz)=false/\∃xs:List (List Key×Addr×Value),
   aqi (fun(p:List Key×V) (q:List Key×Addr×Value)=>p.1=q.1/\H q.2.1=some (.tup (p.1.map kV))/\RelV p.2 q.2.2) kvs xs /\
   ∃o es ep,h.get? a=some o/\o.ExactDict/\o.data=.dict es ep/\es.toList=xs.map (entryOfKey (apB (dC P w)))/\(xs.map (·.1)).Nodup
 | .dU kvs=>kvs.length<=alz/\(a==anz)=false/\∃o es ep,h.get? a=some o/\o.ExactDict/\o.data=.dict es ep/\aqi (fun(p:V×V) (e:DictEntry)=>RelV p.1 e.key/\RelV p.2 e.val /\
   ((∃k,uA p.1=some k/\e.hash=DQ w k)\/∃b ts ks,p.1=.ref b/\H b=some (.tup ts)/\OT ts=some ks/\e.hash=tupleKeyHash (dC P w) ks)) kvs es.toList
 | .set S n=>h.SetOf (intKind P w) a S n
 | .ins C dx fs=>H dx=some (.own a)/\fs.length<=1000/\dx≠a/\h.get? a=some (ane C dx) /\
   ∃mA,h.Ns1 dx mA/\(∀f,fP (fs.lookup f) (mA f))/\arz mA (fs.map (·.1))
 | .own _=>∃o,h.get? a=some o
 | .xd fs=>∃mA,h.Ns1 a mA/\∀f,fP (fs.lookup f) (mA f)
 | .Av lo hi=>∃t u v,h.get? a=some { cls:=.type "range",data:=.fields #[.int lo t,.int hi u,.int 1 v] }
 | .bE o u=>h.get? a=some o/\de H h a u
 | .iP ps=>h.get? a=some { cls:=.none,data:=.fields ps }
 | .met f x=>h.get? a=some (apC (.ref f) (.ref x))
 | .ext φ=>φ h/\(∃o,h.get? a=some o)/\∀h1 h2:Heap,φ h1->(∀o,h1.get? a=some o->h2.get? a=some o)->φ h2
noncomputable def cC(H:Hp)(h:Heap):Prop:=∀a o,H a=some o->de P w H h a o
end
section
variable{P:amb}{w:World}{H H':Hp}{h h':Heap}{a:Addr}{o:HO}
theorem de.lt(x:de P w H h a o):a<h.objs.size:=by
 cases o with
 | lst xs=>obtain⟨_,_,_,_,e⟩:=x;exact alp e
 | tup xs=>obtain⟨_,_,_,p⟩:=x;exact p.lt
 | dK kvs=>obtain⟨_,_,_,_,o,_,_,e,_⟩:=x;exact alp e
 | dT kvs=>obtain⟨_,_,_,_,o,_,_,e,_⟩:=x;exact alp e
 | dU kvs=>obtain⟨_,_,o,_,_,e,_⟩:=x;exact alp e
 | set S n=>obtain⟨o,_,_,_,e,_⟩:=x;exact alp e
 | ins C dx fs=>obtain⟨_,_,_,e,_⟩:=x;exact alp e
 | own y=>obtain⟨_,e⟩:=x;exact alp e
 | xd fs=>obtain⟨_,⟨_,_,_,e,_⟩,_⟩:=x;exact alp e
 | Av lo hi=>obtain⟨_,_,_,e⟩:=x;exact alp e
 | bE ob u=>obtain⟨e,_⟩:=x;exact alp e
 | iP ps=>exact alp (show h.get? a=some _ from x)
 | met f y=>exact alp (show h.get? a=some _ from x)
 | ext φ=>obtain⟨_,⟨_,e⟩,_⟩:=x;exact alp e
theorem aqi.zV{α β:Type}{F G:α->β->Prop}:∀{Qw:List α} {Qx:List β},aqi F Qw Qx->(∀a b,F a b->G a b)->aqi G Qw Qx
 | _,_,.nil,_=>.nil
 | _,_,.cons r t,f=>.cons (f _ _ r) (aqi.zV t f)
theorem de.jP(x:de P w H h a o)(k:∀b u,(b=a\/H b=some (.own a))->h.get? b=some u->h'.get? b=some u)
  (ho:∀b,H b=some (.own a)->H' b=some (.own a)) (ht:∀b xs,H b=some (.tup xs)->H' b=some (.tup xs)):de P w H' h' a o:=by
 induction o with
 | lst xs=>obtain⟨z,its,n,r,e⟩:=x;exact⟨z,its,n,r,k _ _ (.inl rfl) e⟩
 | tup xs=>obtain⟨z,its,r,ob,e,c⟩:=x;exact⟨z,its,r,ob,k _ _ (.inl rfl) e,c⟩
 | dK kvs=>obtain⟨z,y,vs,r,ob,es,ep,e,c⟩:=x;exact⟨z,y,vs,r,ob,es,ep,k _ _ (.inl rfl) e,c⟩
 | dT kvs=>
  obtain⟨z,y,xs,r,ob,es,ep,e,c⟩:=x;exact⟨z,y,xs,aqi.zV r fun p q z=>⟨z.1,ht _ _ z.2.1,z.2.2⟩,ob,es,ep,k _ _ (.inl rfl) e,c⟩
 | dU kvs=>
  obtain⟨z,y,ob,es,ep,e,c1,c2,r⟩:=x;exact⟨z,y,ob,es,ep,k _ _ (.inl rfl) e,c1,c2,aqi.zV r fun p q z=>⟨z.1,z.2.1,z.2.2.imp_right fun⟨b,ts,ks,h1,h2,h3⟩=>⟨b,ts,ks,h1,ht _ _ h2,h3⟩⟩⟩
 | set S n=>obtain⟨ob,es,ep,t,e,c⟩:=x;exact⟨ob,es,ep,t,k _ _ (.inl rfl) e,c⟩
 | ins C dx fs=>
  obtain⟨d,z,ne,e,mA,⟨od,es,ep,e2,c⟩,r⟩:=x;exact⟨ho _ d,z,ne,k _ _ (.inl rfl) e,mA,⟨od,es,ep,k _ _ (.inr d) e2,c⟩,r⟩
 | own y=>obtain⟨ob,e⟩:=x;exact⟨ob,k _ _ (.inl rfl) e⟩
 | xd fs=>obtain⟨mA,⟨od,es,ep,e,c⟩,r⟩:=x;exact⟨mA,⟨od,es,ep,k _ _ (.inl rfl) e,c⟩,r⟩
 | Av lo hi=>obtain⟨t,u,v,e⟩:=x;exact⟨t,u,v,k _ _ (.inl rfl) e⟩
 | bE ob u ih=>obtain⟨e,q⟩:=x;exact⟨k _ _ (.inl rfl) e,ih q⟩
 | iP ps=>
  have e:h.get? a=some { cls:=.none,data:=.fields ps }:=x;show h'.get? a=some { cls:=.none,data:=.fields ps };exact k a _ (.inl rfl) e
 | met f y=>
  have e:h.get? a=some (apC (.ref f) (.ref y)):=x;show h'.get? a=some (apC (.ref f) (.ref y));exact k a _ (.inl rfl) e
 | ext φ=>obtain⟨p,⟨o,e⟩,st⟩:=x;exact⟨st _ _ p fun o q=>k _ _ (.inl rfl) q,⟨o,k _ _ (.inl rfl) e⟩,st⟩
theorem cC.lt(x:cC P w H h)(e:H a=some o):a<h.objs.size:=(x a o e).lt
theorem cC.fresh(x:cC P w H h)(e:h.objs.size<=a):H a=none:=by
 cases q:H a with
 | none=>rfl
 | some u=>exact absurd (alB (x.lt q) e) (amX _)
theorem cC.kept(x:cC P w H h)(k:∀b u,h.get? b=some u->h'.get? b=some u):cC P w H h':=fun a o e=>
 (x a o e).jP (fun b u _ q=>k b u q) (fun _ q=>q) fun _ _ q=>q
theorem cC.laid(x:cC P w H h)(k:∀b u,h.get? b=some u->h'.get? b=some u)(hp:h.objs.size<=a)(new:de P w (upd H a o) h' a o):cC P w (upd H a o) h':=fun b u e=>by
 have hn:=x.fresh hp;by_cases hb:b=a
 ·subst hb;rw[bP] at e;cases e;exact new
 ·rw[bw hb] at e;exact(x b u e).jP (fun c v _ q=>k c v q) (fun c q=>by rw[bw (fY q hn)];exact q) fun c xs q=>by rw[bw (fY q hn)];exact q
end
noncomputable def Rd(H:Hp)(a:Addr)(u:HO):Prop:=H a=some u\/∃o,H a=some (.bE o u)
variable{P:amb}{h:Heap}
theorem Rd.ok{w:World}(r:Rd H a u)(x:cC P w H h):de P w H h a u:=by
 rcases r with r | ⟨o,r⟩
 ·exact x a u r
 ·obtain⟨_,q⟩:=x a _ r;exact q
noncomputable def mE:Option HO->Prop
 | some (.lst _)=>True
 | some (.dK _)=>True
 | some (.dT _)=>True
 | some (.dU _)=>True
 | some (.set _ _)=>True
 | some (.ins _ _ _)=>True
 | some (.ext _)=>True
 | _=>False
section
variable{P:amb}{w:World}{H:Hp}{h h':Heap}{x e:Addr}{o':HO}
theorem cC.write(ok:cC P w H h)(mu:mE (H x))(he:e=x\/H e=some (.own x))(k:∀b u,b≠e->h.get? b=some u->h'.get? b=some u)(tw:∃u,h'.get? e=some u)
  (new:de P w (upd H x o') h' x o'):cC P w (upd H x o') h':=fun b u q=>by
 have N3:∀c y,H c=some (.own y)->c≠x:=fun c y r z=>by subst z;rw[r] at mu;exact mu
 have ajH:∀c xs,H c=some (.tup xs)->c≠x:=fun c xs r z=>by subst z;rw[r] at mu;exact mu
 by_cases hb:b=x
 ·subst hb;rw[bP] at q;cases q;exact new
 ·rw[bw hb] at q;by_cases kr:b=e
  ·have q':H b=some (.own x):=by
    rcases he with z | z
    ·exact absurd (kr.trans z) hb
    ·rw[kr];exact z
   rw[q] at q';cases q';obtain⟨v,hv⟩:=tw;exact⟨v,by rw[kr];exact hv⟩
  ·refine(ok b u q).jP (fun c v hc r=>k c v ?_ r) (fun c r=>by rw[bw (N3 c b r)];exact r) fun c xs r=>by rw[bw (ajH c xs r)];exact r
   rcases hc with rfl | hc
   ·exact kr
   ·rintro rfl
    rcases he with z | z
    ·exact N3 c b hc z
    ·rw[hc] at z;cases z;exact hb rfl
end
structure Un(fs ex:List Addr)(H H':Hp)(h h':Heap):Prop where
 keep:∀b o,h.get? b=some o->H b=none->b∉fs->b∉ex->h'.get? b=some o
 slot:∀b o,h.get? b=some o->H b=none->b∈fs->b∉ex->∃sl,h'.get? b=some { o with slots:=sl }
 free:∀b o,h.get? b=some o->H b=none->b∉ex->H' b=none
 there:∀b o,h.get? b=some o->b∉ex->∃o',h'.get? b=some o'
 gU:∀b xs,H b=some (.tup xs)->H' b=some (.tup xs)
 fD:∀b o u,H b=some (.bE o u)->H' b=some (.bE o u)
 gi:∀b ps,H b=some (.iP ps)->∃more,H' b=some (.iP (ps++more))
section
variable{fs tD ex ex':List Addr}{H H1 H2:Hp}{h h1 h2 h':Heap}{a x e:Addr}{o:HO}
theorem Un.any(u:Un fs ex H H1 h h1){b:Addr}{ob:Obj}(q:h.get? b=some ob)(n:H b=none)(hx:b∉ex):∃sl,h1.get? b=some { ob with slots:=sl }:=by
 by_cases hb:b∈fs
 ·exact u.slot b ob q n hb hx
 ·exact⟨ob.slots,u.keep b ob q n hb hx⟩
theorem Un.kept(k:∀b u,h.get? b=some u->h'.get? b=some u):Un fs ex H H h h':=
 ⟨fun b ob q _ _ _=>k b ob q,fun b ob q _ _ _=>⟨ob.slots,k b ob q⟩,fun _ _ _ n _=>n,fun b ob q _=>⟨ob,k b ob q⟩,fun _ _ q=>q,fun _ _ _ q=>q,fun _ ps q=>⟨#[],by rw[q];simp⟩⟩
theorem Un.refl:Un fs ex H H h h:=Un.kept fun _ _ q=>q
theorem Un.laid(k:∀b u,h.get? b=some u->h'.get? b=some u)(hp:h.objs.size<=a)(hn:H a=none):Un fs ex H (upd H a o) h h' where
 keep:=fun b u q _ _ _=>k b u q
 slot:=fun b u q _ _ _=>⟨u.slots,k b u q⟩
 free:=fun b u q n _=>by rw[bw (alV (alB (alp q) hp))];exact n
 there:=fun b u q _=>⟨u,k b u q⟩
 gU:=fun b xs q=>by rw[bw (fY q hn)];exact q
 fD:=fun b u xs q=>by rw[bw (fY q hn)];exact q
 gi:=fun b ps q=>⟨#[],by rw[bw (fY q hn),q];simp⟩
theorem Un.write(mu:mE (H x))(he:e=x\/H e=some (.own x))(k:∀b u,b≠e->h.get? b=some u->h'.get? b=some u)(tw:∃u,h'.get? e=some u):Un fs ex H (upd H x o) h h':=by
 have hx:∀b,H b=none->b≠x:=fun b n z=>by subst z;rw[n] at mu;exact mu
 have hb:∀b,H b=none->b≠e:=fun b n z=>by
  subst z
  rcases he with r | r
  ·exact hx b n r
  ·rw[n] at r;cases r
 have hm:∀b u,H b=some u->¬mE (some u)->b≠x:=fun b u q nm z=>by subst z;rw[q] at mu;exact nm mu
 refine⟨fun b u q n _ _=>k b u (hb b n) q,fun b u q n _ _=>⟨u.slots,k b u (hb b n) q⟩,fun b u q n _=>by rw[bw (hx b n)];exact n,fun b u q _=>?_,
  fun b xs q=>by rw[bw (hm b _ q fun z=>z)];exact q,fun b u xs q=>by rw[bw (hm b _ q fun z=>z)];exact q,fun b ps q=>⟨#[],by rw[bw (hm b _ q fun z=>z),q];simp⟩⟩
 by_cases kr:b=e
 ·subst kr;exact tw
 ·exact⟨u,k b u kr q⟩
end
noncomputable def Aw(h:Heap)(H:Hp):List Addr:=(anj h.objs.size).filter fun a=>(H a).isSome
noncomputable def mf(h:Heap)(H:Hp):Heap:=anT h (Aw h H)
theorem aa3(h:Heap)(H:Hp):(mf h H).objs.size=h.objs.size:=PySem.W.hideAll_size _ _
theorem acG{o:Obj}(e:h.get? b=some o)(n:H b=none):(mf h H).get? b=some o:=
 anf _ e fun hm=>by
  have q:(H b).isSome=true:=(List.mem_filter.mp hm).2;rw[n] at q;simp at q
theorem adM{o:Obj}(e:(mf h H).get? b=some o):h.get? b=some o/\H b=none:=by
 have e':h.get? b=some o:=apk (Aw h H) e;refine⟨e',?_⟩;cases q:H b with
 | none=>rfl
 | some x=>
  have hm:b∈Aw h H:=List.mem_filter.mpr ⟨apt.mpr (alp e'),by simp[q]⟩;have z:(mf h H).get? b=none:=PySem.W.hideAll_none (Aw h H) hm;rw[z] at e;cases e
noncomputable def adN(g h:Heap)(L:Addr):List (Addr×Obj):=(anj h.objs.size).filterMap fun a=>if a=L\/(g.get? a).isSome=true then none else(h.get? a).map fun o=>(a,o)
noncomputable def rest(g h:Heap)(L d:Addr):List (Addr×Obj):=(adN g h L).filter fun p=>decide (p.1≠d)
structure Mod(K:acs)(mg:Str->Option Value)(base:Heap):Prop where
 dF:K.In base
 glob:base.Ns alc mg
 blt:∃mb,base.Ns aoY mb/\∀x:Str,x≠"__name__"->mb x=amo x
 nolimit:base.NoLimit
 bm:∃bm ob,mg "__builtins__"=some (.ref bm)/\bm≠aoY/\base.get? bm=some ob/\ob.cls=.type "module"/\ob.dict=some aoY/\ob.data=.plain
structure Cx where
 prog:amb
 w:World
 K:acs
 mg:Str->Option Value
 base:Heap
 A:amz
 N:List Str
 aQ:ald
 ba:Hp
 env:Env
 outer:List Env
 stack:List Env
 ex:List Addr
 fn:Str->Bool
 calm:Bool
 pn:List (Addr×Obj)
 xe:Value->ald->Prop
 kp:List (Option V)->Prop
noncomputable def df(l:List Env):List Addr:=l.filterMap (·.frame)
abbrev Cx.fs(X:Cx):List Addr:=df X.outer
noncomputable def aJ(sc:Scope)(x:Str):Prop:=sc.names.lookup x=some .local\/sc.names.lookup x=some .cell\/sc.names.lookup x=some .free
noncomputable def Loc(sc:Scope)(x:Str):Prop:=sc.names.lookup x=some .local\/sc.names.lookup x=some .cell
noncomputable def Look(env:Env)(h:Heap)(m:Str->Option Value)(x:Str)(u:Value):Prop:=
 (env.kindOf x=some .local/\m x=some u)\/((env.kindOf x=some .cell\/env.kindOf x=some .free)/\∃c,env.cells.lookup x=some c/\h.IsCell c (some u))
structure Cx.Ok(X:Cx):Prop where
 mod:Mod X.K X.mg X.base
 kind:X.env.scope.kind=.function
 glob:X.env.globals=alc
 blt:X.env.builtins=aoY
 above:X.aQ.heap.objs.size<=X.env.locals
 inj:∀x y c,X.env.cells.lookup x=some c->X.env.cells.lookup y=some c->x=y
 has:∀x,(X.env.kindOf x=some .cell\/X.env.kindOf x=some .free)->∃c,X.env.cells.lookup x=some c
 n4:∀x c,X.fn x=true->X.env.cells.lookup x=some c->X.aQ.heap.objs.size<=c
 hd:X.calm=true->X.A.handled=none
 frames:X.A.frames=some X.stack
 qi:X.stack=X.outer\/(X.stack=X.env::X.outer/\X.env.frame=some X.env.locals)
 vO:∀b∈X.ex,b≠X.env.locals/\∀x c,X.env.cells.lookup x=some c->c≠b
 bs:∀b o,X.base.get? b=some o->X.aQ.heap.get? b=some o/\X.ba b=none
 ku:X.base.objs.size<=X.aQ.heap.objs.size
 nI:∀b o,X.base.get? b=some o->b∉X.ex
 nJ:∀b∈X.ex,b∉X.fs
 fQ:X.aQ.heap.FunFrames X.base X.outer
 lr:∀b∈X.fs,X.ba b=none
structure Inv(X:Cx)(pins:List (Addr×Obj))(σ:List (Option V))(H:Hp)(s:ald):Prop where
 ok:X.Ok
 os:s.os=X.aQ.os
 bare:apN s.gens
 base:Un X.fs X.ex X.ba H X.aQ.heap s.heap
 loc:∃m,s.heap.Ns X.env.locals m/\∀(i:Nat) (x:Str) (v:V),X.N[i]? =some x->σ[i]? =some (some v)->aJ X.env.scope x->∃u,RelV v u/\Look X.env s.heap m x u
 cell:∀x c,X.env.cells.lookup x=some c->∃v,s.heap.IsCell c v
 free:H X.env.locals=none
 iE:∀x c,X.env.cells.lookup x=some c->(X.fn x=true->H c=none)/\(H c=none\/∃o,H c=some (.bE o (.ext fun _=>True)))
 pin:∀p∈X.pn++pins,s.heap.get? p.1=some p.2/\H p.1=none/\p.1≠X.env.locals/\p.1∉X.fs/\∀v,p.2.data≠.cell v
 aM:cC X.prog X.w H s.heap
 lk:σ.length=X.N.length/\X.kp σ
variable{X:Cx}
theorem Inv.len{pins:List (Addr×Obj)}{σ:List (Option V)}{s:ald}(I:Inv X pins σ H s):σ.length=X.N.length:=I.lk.1
noncomputable def jQ(X:Cx)(x:Str):Prop:=∀i,X.N[i]? =some x->∀(σ:List (Option V)) (o:Option V),X.kp σ->X.kp (σ.set i o)
section
variable{X:Cx}{pins:List (Addr×Obj)}{σ:List (Option V)}{H H':Hp}{s:ald}{h':Heap}
theorem Cx.Ok.ajI(ok:X.Ok){b:Addr}{o:Obj}(e:X.base.get? b=some o):b∉X.fs:=fun hb=>by
 have:=(ok.fQ.mem hb).1;rw[e] at this;cases this
theorem Inv.bs(I:Inv X pins σ H s):∀b o,X.base.get? b=some o->s.heap.get? b=some o/\H b=none:=fun b o e=>
 ⟨I.base.keep b o (I.ok.bs b o e).1 (I.ok.bs b o e).2 (I.ok.ajI e) (I.ok.nI b o e),I.base.free b o (I.ok.bs b o e).1 (I.ok.bs b o e).2 (I.ok.nI b o e)⟩
theorem Inv.bk(I:Inv X pins σ H s):∀b o,X.base.get? b=some o->s.heap.get? b=some o:=fun b o e=>(I.bs b o e).1
theorem Inv.mod(I:Inv X pins σ H s):Mod X.K X.mg X.base:=I.ok.mod
theorem Inv.cD(I:Inv X pins σ H s):X.K.In s.heap:=I.ok.mod.dF.keeps I.bk
theorem Inv.lt(I:Inv X pins σ H s):X.env.locals<s.heap.objs.size:=let ⟨_,hn,_⟩:=I.loc;hn.lt
theorem Inv.sz(I:Inv X pins σ H s):X.aQ.heap.objs.size<=s.heap.objs.size:=alT I.ok.above (aqj I.lt)
theorem Inv.ajJ(I:Inv X pins σ H s){a:Addr}(h:s.heap.objs.size<=a):a∉X.fs:=fun hb=>by
 obtain⟨_,o,ho,_⟩:=I.ok.fQ.mem hb;exact absurd (alB (alp ho) (alT I.sz h)) (amX _)
theorem Inv.mF(I:Inv X pins σ H s):∀x c,X.env.cells.lookup x=some c->c≠X.env.locals:=fun x c e z=>by
 obtain⟨v,o,ho,hd⟩:=I.cell x c e;obtain⟨m,⟨o',es,ep,eJ,mG,_⟩,_⟩:=I.loc;rw[z,eJ] at ho;cases ho;rw[mG] at hd;cases hd
theorem Inv.fQ(I:Inv X pins σ H s):s.heap.FunFrames X.base X.outer:=by
 have all:∀(l:List Env),(∀b∈df l,b∈X.fs)->X.aQ.heap.FunFrames X.base l->s.heap.FunFrames X.base l:=by
  intro l
  induction l with
  | nil=>intro _ _;trivial
  | cons env r ih=>
   intro hs hl;obtain⟨hk,⟨L,o,hf,hn,ho,hd⟩,hr⟩:=hl;have hL:L∈X.fs:=hs L (by unfold df;rw[anH,hf];exact amc);obtain⟨sl,e⟩:=I.base.slot L o ho (I.ok.lr L hL) hL fun z=>I.ok.nJ L z hL
   exact⟨hk,⟨L,_,hf,hn,e,hd⟩,ih (fun b hb=>hs b (by unfold df;rw[anH,hf];exact alE _ hb)) hr⟩
 exact all X.outer (fun _ hb=>hb) I.ok.fQ
theorem Inv.stack(I:Inv X pins σ H s):s.heap.FunFrames X.base X.stack:=by
 rcases I.ok.qi with e | ⟨e,hf⟩
 ·rw[e];exact I.fQ
 ·rw[e];obtain⟨m,hn,_⟩:=I.loc;refine .cons (by rw[I.ok.kind];decide) hf hn ?_ I.fQ;exact aqB (alT I.ok.ku I.ok.above)
theorem Inv.CV(I:Inv X pins σ H s):∀b∈df X.stack,b∈X.env.locals::X.fs:=fun b hb=>by
 rcases I.ok.qi with e | ⟨e,hf⟩
 ·rw[e] at hb;exact alE _ hb
 ·rw[e] at hb;unfold df at hb;rw[anH,hf] at hb;exact hb
theorem Inv.uD(I:Inv X pins σ H s):∀b∈df X.stack,H b=none:=fun b hb=>by
 rcases alD.mp (I.CV b hb) with e | hb
 ·rw[e];exact I.free
 ·obtain⟨_,o,ho,_⟩:=I.ok.fQ.mem hb;exact I.base.free b o ho (I.ok.lr b hb) fun z=>I.ok.nJ b z hb
variable{t':Nat}{ch:List Addr}
theorem Inv.step{g':Array GenState}{d':Drawn}(I:Inv X pins σ H s)
  (ls:∀b∈ch,(b∈X.ex\/X.aQ.heap.objs.size<=b)/\b≠X.env.locals/\(∀x c,X.env.cells.lookup x=some c->c≠b)/\∀p∈X.pn++pins,p.1≠b)
  (keep:∀b o,b≠X.env.locals->b∉X.fs->b∉ch->s.heap.get? b=some o->H b=none->h'.get? b=some o)
  (slot:∀b o,b≠X.env.locals->b∈X.fs->b∉ch->s.heap.get? b=some o->H b=none->∃sl,h'.get? b=some { o with slots:=sl }) (free:∀b o,b∉ch->s.heap.get? b=some o->H b=none->H' b=none)
  (there:∀b o,b∉ch->s.heap.get? b=some o->∃o',h'.get? b=some o')
  (gU:∀b xs,H b=some (.tup xs)->H' b=some (.tup xs)) (fD:∀b o u,H b=some (.bE o u)->H' b=some (.bE o u)) (gi:∀b ps,H b=some (.iP ps)->∃more,H' b=some (.iP (ps++more)))
  (ns:∀m,s.heap.Ns X.env.locals m->h'.Ns X.env.locals m) (aM:cC X.prog X.w H' h') (hg:apN g') :
  Inv X pins σ H' { s with heap:=h',gens:=g',drawn:=d',toks:=t' }:=by
 have mH:∀b o,X.aQ.heap.get? b=some o->b≠X.env.locals:=fun b o e=>alV (alB (alp e) I.ok.above)
 have qj:∀b o,X.aQ.heap.get? b=some o->b∉X.ex->b∉ch:=fun b o e hx hb=>by
  rcases(ls b hb).1 with z | z
  ·exact hx z
  ·exact absurd (alB (alp e) z) (amX _)
 have cellK:∀x c,X.env.cells.lookup x=some c->∀v,s.heap.IsCell c v->h'.IsCell c v:=fun x c e v ⟨o,ho,hd⟩=>by
  have n5:c∉ch:=fun z=>(ls c z).2.2.1 x c e rfl
  rcases(I.iE x c e).2 with fr | ⟨ob,fr⟩
  ·by_cases hc:c∈X.fs
   ·obtain⟨sl,q⟩:=slot c o (I.mF x c e) hc n5 ho fr;exact⟨_,q,hd⟩
   ·exact⟨o,keep c o (I.mF x c e) hc n5 ho fr,hd⟩
  ·have e1:s.heap.get? c=some ob:=(I.aM c _ fr).1;have e2:h'.get? c=some ob:=(aM c _ (fD c _ _ fr)).1;rw[ho] at e1;cases e1;exact⟨o,e2,hd⟩
 refine⟨I.ok,I.os,hg,⟨fun b o e n hb hx=>?_,fun b o e n hb hx=>?_,fun b o e n hx=>?_,fun b o e hx=>?_,fun b xs e=>gU b xs (I.base.gU b xs e),fun b o xs e=>fD b o xs (I.base.fD b o xs e),fun b ps e=>?_⟩,?_,fun x c e=>?_,?_,fun x c e=>?_,fun p hp=>?_,aM,I.lk⟩
 ·exact keep b o (mH b o e) hb (qj b o e hx) (I.base.keep b o e n hb hx) (I.base.free b o e n hx)
 ·obtain⟨sl,e1⟩:=I.base.slot b o e n hb hx;obtain⟨EC,e2⟩:=slot b _ (mH b o e) hb (qj b o e hx) e1 (I.base.free b o e n hx);exact⟨EC,e2⟩
 ·obtain⟨o',e1⟩:=I.base.there b o e hx;exact free b o' (qj b o e hx) e1 (I.base.free b o e n hx)
 ·obtain⟨o',e1⟩:=I.base.there b o e hx;exact there b o' (qj b o e hx) e1
 ·obtain⟨m1,e1⟩:=I.base.gi b ps e;obtain⟨m2,e2⟩:=gi b _ e1;exact⟨m1++m2,by rw[e2,aqY]⟩
 ·obtain⟨m,hn,hl⟩:=I.loc;refine⟨m,ns m hn,fun i x v e1 e2 e3=>?_⟩;obtain⟨u,r,l⟩:=hl i x v e1 e2 e3;refine⟨u,r,?_⟩
  rcases l with l | ⟨k,c,e,z⟩
  ·exact .inl l
  ·exact .inr ⟨k,c,e,cellK x c e _ z⟩
 ·obtain⟨v,z⟩:=I.cell x c e;exact⟨v,cellK x c e v z⟩
 ·obtain⟨m,⟨o,_,_,ho,_⟩,_⟩:=I.loc;exact free _ o (fun z=>(ls _ z).2.1 rfl) ho I.free
 ·obtain⟨v,o,ho,hd⟩:=I.cell x c e;have n5:c∉ch:=fun z=>(ls c z).2.2.1 x c e rfl
  exact⟨fun hf=>free c o n5 ho ((I.iE x c e).1 hf),(I.iE x c e).2.imp (fun fr=>free c o n5 ho fr) fun⟨ob,fr⟩=>⟨ob,fD c _ _ fr⟩⟩
 ·obtain⟨e,n,ne,nf,d⟩:=I.pin p hp;have n5:p.1∉ch:=fun z=>(ls p.1 z).2.2.2 p hp rfl
  exact⟨keep p.1 p.2 ne nf n5 e n,free p.1 p.2 n5 e n,ne,nf,d⟩
theorem Inv.un(I:Inv X pins σ H s)(u:Un X.fs [] H H' s.heap h')(aM:cC X.prog X.w H' h'):Inv X pins σ H' { s with heap:=h',toks:=t' }:=by
 obtain⟨m,⟨o,es,ep,ho,r⟩,_⟩:=id I.loc;obtain⟨sl,hL⟩:=u.any ho I.free (by simp);exact I.step (g':=s.gens) (d':=s.drawn) (ch:=[]) (fun _ z=>nomatch z) (fun b o _ hb _ e n=>u.keep b o e n hb (by simp)) (fun b o _ hb _ e n=>u.slot b o e n hb (by simp)) (fun b o _ e n=>u.free b o e n (by simp)) (fun b o _ e=>u.there b o e (by simp)) u.gU u.fD u.gi (fun m' hm=>by
  obtain⟨o',ED,EE,eJ,r'⟩:=hm;rw[ho] at eJ;cases eJ;exact⟨_,ED,EE,hL,r'⟩) aM I.bare
theorem Inv.call{g':Array GenState}{d':Drawn}(I:Inv X pins σ H s)(u:Un (df X.stack) ch H H' s.heap h')(aM:cC X.prog X.w H' h')(hg:apN g')
  (ls:∀b∈ch,(b∈X.ex\/X.aQ.heap.objs.size<=b)/\b≠X.env.locals/\(∀x c,X.env.cells.lookup x=some c->c≠b)/\∀p∈X.pn++pins,p.1≠b) :
  Inv X pins σ H' { s with heap:=h',gens:=g',drawn:=d',toks:=t' }:=by
 obtain⟨m,⟨o,es,ep,ho,r⟩,_⟩:=id I.loc;obtain⟨sl,hL⟩:=u.any ho I.free fun z=>(ls _ z).2.1 rfl
 exact I.step (ch:=ch) ls (fun b o hL hb hc e n=>u.keep b o e n (fun z=>(alD.mp (I.CV b z)).elim hL hb) hc) (fun b o _ _ hc e n=>u.any e n hc) (fun b o hc e n=>u.free b o e n hc) (fun b o hc e=>u.there b o e hc) u.gU u.fD u.gi (fun m' hm=>by
  obtain⟨o',ED,EE,eJ,r'⟩:=hm;rw[ho] at eJ;cases eJ;exact⟨_,ED,EE,hL,r'⟩) aM hg
theorem Inv.turned{it:Addr}(I:Inv X pins σ H s)(k:∀b o,b≠it->s.heap.get? b=some o->h'.get? b=some o)(hn:H it=none)(hL:it≠X.env.locals)
  (h1:it∈X.ex\/X.aQ.heap.objs.size<=it) (h2:∀x c,X.env.cells.lookup x=some c->c≠it) (h3:∀p∈X.pn++pins,p.1≠it):Inv X pins σ H { s with heap:=h',toks:=t' }:=by
 have n6:∀b u,H b=some u->b≠it:=fun b u e z=>by rw[z,hn] at e;cases e
 refine I.step (g':=s.gens) (d':=s.drawn) (ch:=[it]) (fun b hb=>?_) (fun b o _ _ hc e _=>k b o (fun z=>hc (by simp[z])) e) (fun b o _ _ hc e _=>⟨o.slots,k b o (fun z=>hc (by simp[z])) e⟩) (fun _ _ _ _ n=>n)
  (fun b o hc e=>⟨o,k b o (fun z=>hc (by simp[z])) e⟩) (fun _ _ e=>e) (fun _ _ _ e=>e) (fun b ps e=>⟨#[],by rw[e];simp⟩) (fun m hm=>?_) (fun b u e=>?_) I.bare
 ·have e:b=it:=by simpa using hb
  subst e;exact⟨h1,hL,h2,h3⟩
 ·obtain⟨o,es,ep,ho,r⟩:=hm;exact⟨o,es,ep,k _ o (amT hL) ho,r⟩
 ·refine(I.aM b u e).jP (fun c v hc q=>k c v ?_ q) (fun _ q=>q) fun _ _ q=>q
  rcases hc with z | z
  ·rw[z];exact n6 b u e
  ·exact n6 c _ z
theorem Inv.tok(I:Inv X pins σ H s)(t:Nat):Inv X pins σ H { s with toks:=t }:=I.un (h':=s.heap) (t':=t) Un.refl I.aM
theorem Inv.kept{t':Nat}(I:Inv X pins σ H s)(k:∀b u,s.heap.get? b=some u->h'.get? b=some u):Inv X pins σ H { s with heap:=h',toks:=t' }:=I.un (Un.kept k) (I.aM.kept k)
theorem Inv.laid{a:Addr}{o:HO}{t':Nat}(I:Inv X pins σ H s)(k:∀b u,s.heap.get? b=some u->h'.get? b=some u)(hp:s.heap.objs.size<=a)(new:de X.prog X.w (upd H a o) h' a o) :
  Inv X pins σ (upd H a o) { s with heap:=h',toks:=t' }:=I.un (Un.laid k hp (I.aM.fresh hp)) (I.aM.laid k hp new)
theorem Inv.write{x e:Addr}{o:HO}{t':Nat}(I:Inv X pins σ H s)(mu:mE (H x))(he:e=x\/H e=some (.own x))(k:∀b u,b≠e->s.heap.get? b=some u->h'.get? b=some u)(tw:∃u,h'.get? e=some u)
  (new:de X.prog X.w (upd H x o) h' x o):Inv X pins σ (upd H x o) { s with heap:=h',toks:=t' }:=I.un (Un.write mu he k tw) (I.aM.write mu he k tw new)
theorem Inv.KI{jh:List (Addr×Obj)}(I:Inv X pins σ H s)(h:∀p∈jh,s.heap.get? p.1=some p.2/\H p.1=none/\p.1≠X.env.locals/\p.1∉X.fs/\∀v,p.2.data≠.cell v):Inv X jh σ H s:=
 ⟨I.ok,I.os,I.bare,I.base,I.loc,I.cell,I.free,I.iE,fun p hp=>(amC.mp hp).elim (fun z=>I.pin p (aom _ z)) (h p),I.aM,I.lk⟩
variable{i:Nat}
theorem B7{N:List Str}(hN:N.Nodup){j:Nat}{x:Str}(a:N[i]? =some x)(b:N[j]? =some x):i=j:=by
 obtain⟨h1,e1⟩:=alf.mp a;obtain⟨h2,e2⟩:=alf.mp b;exact(List.getElem_inj hN).mp (e1.trans e2.symm)
theorem IR{M:Model}{A:amz}{E:Value->ald->Prop}{x:Str}{v:V}{u:Value}{Q:Unit->ald->Prop}(I:Inv X pins σ H s)(hN:X.N.Nodup)(hi:X.N[i]? =some x)(hx:Loc X.env.scope x)(r:RelV v u)
  (h:∀s',Inv X pins (σ.set i (some v)) H s'->(∃a,aoJ a s.heap s'.heap/\(a=X.env.locals\/X.env.cells.lookup x=some a))->Q () s') (hf:(X.fn x=true\/X.env.scope.names.lookup x=some .local)/\jQ X x):wpAny M A (storeName X.env x u) Q E s:=by
 obtain⟨m,hn,hl⟩:=id I.loc;have mj:(X.env.scope.kind==.class||(X.env.scope.kind==.module&&X.env.locals != X.env.globals))=false:=by rw[I.ok.kind];rfl
 have OU:i<σ.length:=by rw[I.len];exact(alf.mp hi).1
 have mF:=I.mF;have tracked:∀{a:Addr} {h':Heap},(∃o,s.heap.get? a=some o/\H a=none)->aoJ a s.heap h'->cC X.prog X.w H h':=fun{a h'} ha hs b ob e=>by
  obtain⟨_,_,Na⟩:=ha;refine(I.aM b ob e).jP (fun c w' hc q=>(hs.2 c ?_).trans q) (fun _ q=>q) fun _ _ q=>q
  rintro rfl
  rcases hc with rfl | hc
  ·rw[Na] at e;cases e
  ·rw[Na] at hc;cases hc
 rcases hx with hk | hk
 ·refine wpAny_storeName_local hk hn (fun h' jq hs=>?_) mj;obtain⟨oL,_,_,hoL,_⟩:=id hn;refine h _ ⟨I.ok,I.os,I.bare,⟨fun b o e n hb hx=>?_,fun b o e n hb hx=>?_,I.base.free,fun b o e hx=>?_,I.base.gU,I.base.fD,I.base.gi⟩,⟨_,jq,fun j y v' e1 e2 e3=>?_⟩,fun y c e=>?_,I.free,I.iE,fun p hp=>?_,tracked ⟨oL,hoL,I.free⟩ hs,⟨by simpa using I.len,hf.2 i hi σ (some v) I.lk.2⟩⟩ ⟨_,hs,.inl rfl⟩
  ·exact(hs.2 b (alV (alB (alp e) I.ok.above))).trans (I.base.keep b o e n hb hx)
  ·obtain⟨sl,e1⟩:=I.base.slot b o e n hb hx;exact⟨sl,(hs.2 b (alV (alB (alp e) I.ok.above))).trans e1⟩
  ·obtain⟨o',e1⟩:=I.base.there b o e hx;exact⟨o',(hs.2 b (alV (alB (alp e) I.ok.above))).trans e1⟩
  ·by_cases hj:j=i
   ·subst hj;rw[hi] at e1;cases e1;rw[anO OU] at e2;cases e2;exact⟨u,r,.inl ⟨hk,by simp⟩⟩
   ·rw[amW (amT hj)] at e2;obtain⟨u',r',q⟩:=hl j y v' e1 e2 e3;refine⟨u',r',?_⟩
    rcases q with⟨k,e⟩ | ⟨k,c,e,z⟩
    ·refine .inl ⟨k,?_⟩;have:y≠x:=fun e=>hj (B7 hN e1 (e▸hi))
     simp[this,e]
    ·exact .inr ⟨k,c,e,z.sameBut hs (mF y c e)⟩
  ·obtain⟨w',z⟩:=I.cell y c e;exact⟨w',z.sameBut hs (mF y c e)⟩
  ·obtain⟨e,n,ne,nf,d⟩:=I.pin p hp;exact⟨(hs.2 p.1 ne).trans e,n,ne,nf,d⟩
 ·have Ax:X.fn x=true:=by
   rcases hf.1 with z | z
   ·exact z
   ·rw[z] at hk;cases hk
  obtain⟨c,hc⟩:=I.ok.has x (.inl hk);obtain⟨w',z⟩:=I.cell x c hc;refine wpAny_storeName_cell I.ok.kind hk hc z (fun h' n8 hs=>?_);obtain⟨oc,OV,ajK⟩:=id z;refine h { s with heap:=h' } ⟨I.ok,I.os,I.bare,⟨fun b o e n hb hx=>?_,fun b o e n hb hx=>?_,I.base.free,fun b o e hx=>?_,I.base.gU,I.base.fD,I.base.gi⟩,⟨m,hn.sameBut hs (amT (mF x c hc)),fun j y v' e1 e2 e3=>?_⟩,fun y c' e=>?_,I.free,I.iE,fun p hp=>?_,tracked ⟨oc,OV,(I.iE x c hc).1 Ax⟩ hs,⟨by simpa using I.len,hf.2 i hi σ (some v) I.lk.2⟩⟩ ⟨c,hs,.inr hc⟩
  ·exact(hs.2 b (alV (alB (alp e) (I.ok.n4 x c Ax hc)))).trans (I.base.keep b o e n hb hx)
  ·obtain⟨sl,e1⟩:=I.base.slot b o e n hb hx;exact⟨sl,(hs.2 b (alV (alB (alp e) (I.ok.n4 x c Ax hc)))).trans e1⟩
  ·obtain⟨o',e1⟩:=I.base.there b o e hx;exact⟨o',(hs.2 b (alV (alB (alp e) (I.ok.n4 x c Ax hc)))).trans e1⟩
  ·by_cases hj:j=i
   ·subst hj;rw[hi] at e1;cases e1;rw[anO OU] at e2;cases e2;exact⟨u,r,.inr ⟨.inl hk,c,hc,n8⟩⟩
   ·rw[amW (amT hj)] at e2;obtain⟨u',r',q⟩:=hl j y v' e1 e2 e3;refine⟨u',r',?_⟩
    rcases q with q | ⟨k,c',e,z'⟩
    ·exact .inl q
    ·refine .inr ⟨k,c',e,z'.sameBut hs ?_⟩;rintro rfl;exact hj (B7 hN e1 (I.ok.inj _ _ _ e hc▸hi))
  ·by_cases n9:c'=c
   ·subst n9;exact⟨_,n8⟩
   ·obtain⟨w2,z2⟩:=I.cell y c' e;exact⟨w2,z2.sameBut hs n9⟩
  ·obtain⟨e,n,ne,nf,d⟩:=I.pin p hp;refine⟨(hs.2 p.1 ?_).trans e,n,ne,nf,d⟩;intro q;rw[q,OV] at e;have q':oc=p.2:=amm e;exact d w' (by rw[<- q'];exact ajK)
theorem B8{M:Model}{A:amz}{E:Value->ald->Prop}{x:Str}{v:V}{u:Value}{Q:Unit->ald->Prop}(I:Inv X pins σ H s)(hN:X.N.Nodup)(hi:X.N[i]? =some x)(hx:Loc X.env.scope x)(r:RelV v u)
  (h:∀s',Inv X pins (σ.set i (some v)) H s'->Q () s') (hf:(X.fn x=true\/X.env.scope.names.lookup x=some .local)/\jQ X x):wpAny M A (storeName X.env x u) Q E s:=
 IR I hN hi hx r (fun s' I' _=>h s' I') hf
theorem Inv.Nb{s':ald}(I:Inv X pins σ H s)(ho:s'.os=s.os)(u:Un (df X.stack) ch H H' s.heap s'.heap)(aM:cC X.prog X.w H' s'.heap)(hg:apN s'.gens)
  (ls:∀b∈ch,(b∈X.ex\/X.aQ.heap.objs.size<=b)/\b≠X.env.locals/\(∀x c,X.env.cells.lookup x=some c->c≠b)/\∀p∈X.pn++pins,p.1≠b):Inv X pins σ H' s':=by
 obtain⟨h',g',d',t',o'⟩:=s';have e:o'=s.os:=ho;subst e;exact I.call (g':=g') (t':=t') (d':=d') u aM hg ls
end
abbrev XK:=Value->Option Addr->Hp->Prop
abbrev St:=List (Option V)
abbrev VK:=V->Hp->Prop
abbrev TE:=St->Hp->VK->Prop
abbrev TT:=St->Hp->(Bool->Hp->Prop)->Prop
abbrev TA:=St->Hp->(List V->Hp->Prop)->Prop
structure Ends where
 nx:St->Hp->Prop
 rt:VK
 bk:St->Hp->Prop:=fun _ _=>False
 ct:St->Hp->Prop:=fun _ _=>False
abbrev TS:=Ends->St->Hp->Prop
noncomputable def EP(X:Cx)(pins:List (Addr×Obj))(σ:St)(Q:VK)(u:Value)(s':ald):Prop:=∃v H',Inv X pins σ H' s'/\RelV v u/\Q v H'
noncomputable def TP(X:Cx)(pins:List (Addr×Obj))(σ:St)(Q:Bool->Hp->Prop)(b:Bool)(s':ald):Prop:=∃H',Inv X pins σ H' s'/\Q b H'
noncomputable def AP(X:Cx)(pins:List (Addr×Obj))(σ:St)(Q:List V->Hp->Prop)(us:List Value)(s':ald):Prop:=∃vs H',Inv X pins σ H' s'/\Vals vs us/\Q vs H'
noncomputable def SP(X:Cx)(pins:List (Addr×Obj))(D:Ends)(f:Flow)(s':ald):Prop:=
 match f with
 | .next=>∃az H',Inv X pins az H' s'/\D.nx az H'
 | .brk=>∃az H',Inv X pins az H' s'/\D.bk az H'
 | .cont=>∃az H',Inv X pins az H' s'/\D.ct az H'
 | .ret u=>∃v az H',Inv X pins az H' s'/\RelV v u/\D.rt v H'
noncomputable def PE(X:Cx)(e:Expr)(t:TE):Prop:=
 ∀(pins:List (Addr×Obj)) (s:ald) (σ:St) (H:Hp) (Q:VK),Inv X pins σ H s->t σ H Q->wpAny (model X.prog X.w) X.A (eval e X.env) (EP X pins σ Q) X.xe s
noncomputable def PT(X:Cx)(e:Expr)(t:TT):Prop:=
 ∀(pins:List (Addr×Obj)) (s:ald) (σ:St) (H:Hp) (Q:Bool->Hp->Prop),Inv X pins σ H s->t σ H Q->wpAny (model X.prog X.w) X.A (isTrue e X.env (eval e X.env)) (TP X pins σ Q) X.xe s
noncomputable def PW(X:Cx)(e:Expr)(t:TT):Prop:=
 ∀(whole:Sem Value) (pins:List (Addr×Obj)) (s:ald) (σ:St) (H:Hp) (Q:Bool->Hp->Prop),Inv X pins σ H s->t σ H Q->wpAny (model X.prog X.w) X.A (isTrue e X.env whole) (TP X pins σ Q) X.xe s
theorem PW.pt{e:Expr}{t:TT}(h:PW X e t):PT X e t:=h _
noncomputable def PA(X:Cx)(es:List Expr)(t:TA):Prop:=
 ∀(pos:Pos) (pins:List (Addr×Obj)) (s:ald) (σ:St) (H:Hp) (Q:List V->Hp->Prop),Inv X pins σ H s->t σ H Q->wpAny (model X.prog X.w) X.A (spliced (aou pos (alI es X.env))) (AP X pins σ Q) X.xe s
noncomputable def PS(X:Cx)(st:Stmt)(t:TS):Prop:=
 ∀(pins:List (Addr×Obj)) (s:ald) (σ:St) (H:Hp) (D:Ends),Inv X pins σ H s->t D σ H->wpAny (model X.prog X.w) X.A (exec st X.env) (SP X pins D) X.xe s
noncomputable def hG(X:Cx)(st:List Stmt)(t:TS):Prop:=
 ∀(pins:List (Addr×Obj)) (s:ald) (σ:St) (H:Hp) (D:Ends),Inv X pins σ H s->t D σ H->wpAny (model X.prog X.w) X.A (execs st X.env) (SP X pins D) X.xe s
variable{A:amz}
theorem a8{α:Type}{t:Sem α}{Q Q':α->ald->Prop}{M:Model}{E:Value->ald->Prop}{s:ald}(h:wpAny M A t Q E s)(hQ:∀a s,Q a s->Q' a s):wpAny M A t Q' E s:=amr h hQ fun _ _ x=>x
section
variable{X:Cx}
variable{σ:St}{H:Hp}
theorem bin{a b:Expr}{ta tb:TE}(ha:PE X a ta)(hb:PE X b tb){pins:List (Addr×Obj)}{s:ald}{R:V->V->Hp->Prop}(I:Inv X pins σ H s)(h:ta σ H fun x H1=>tb σ H1 fun y H2=>R x y H2)
  {α:Type} {Q:α->ald->Prop} {f:Value->Value->Sem α}
  (hf:∀v u s2 x y H2,Inv X pins σ H2 s2->RelV x v->RelV y u->R x y H2->wpAny (model X.prog X.w) X.A (f v u) Q X.xe s2) :
  wpAny (model X.prog X.w) X.A (eval a X.env) (fun v bO=>wpAny (model X.prog X.w) X.A (eval b X.env) (fun u wR=>wpAny (model X.prog X.w) X.A (f v u) Q X.xe wR) X.xe bO) X.xe s:=by
 refine a8 (ha pins s σ H _ I h) fun v s1 ⟨x,H1,I1,r1,q1⟩=>?_
 refine a8 (hb pins s1 σ H1 _ I1 q1) fun u s2 ⟨y,H2,I2,r2,q2⟩=>?_
 exact hf v u s2 x y H2 I2 r1 r2 q2
noncomputable def DR(i:Nat):TE:=fun σ H Q=>∃v,σ[i]? =some (some v)/\Q v H
noncomputable def tC(v:V):TE:=fun _ H Q=>Q v H
theorem CW{i:Nat}{x:Str}{pos:Pos}(hN:X.N[i]? =some x)(hv:aJ X.env.scope x)(hd:(x==("__debug__":Str))=false:=by decide)(hcd:(x==("__classdict__":Str))=false:=by decide):PE X (.Name x pos) (DR i):=by
 intro pins s σ H Q I h;obtain⟨v,e,h⟩:=h;obtain⟨m,hn,hl⟩:=I.loc;obtain⟨u,r,l⟩:=hl i x v hN e hv;have fin:EP X pins σ Q u s:=⟨v,H,I,r,h⟩
 rcases l with⟨hk,hm⟩ | ⟨hk,c,hc,zA⟩
 ·exact wpAny_Name (wpAny_loadName_local I.ok.kind hk hn hm fin) hd
 ·rcases hk with hk | hk
  ·exact wpAny_Name (wpAny_loadName_cell I.ok.kind hk hc zA fin) hd
  ·exact wpAny_Name (wpAny_loadName_free I.ok.kind hk hc zA fin hcd) hd
theorem afN{i j pos}:PE X (.Constant (.int i) j pos) (tC (.int i)):=fun _ _ _ H _ I h=>wpAny_Constant_int ⟨.int i,H,I.tok _,⟨_,rfl⟩,h⟩
theorem ail{b j pos}:PE X (.Constant (.bool b) j pos) (tC (.bl b)):=fun _ _ _ H _ I h=>Constant_bool ⟨.bl b,H,I,rfl,h⟩
theorem afO{j pos}:PE X (.Constant .none j pos) (tC .aE):=fun _ _ _ H _ I h=>Constant_none ⟨.aE,H,I,rfl,h⟩
theorem LY{x j pos}:PE X (.Constant (.str x) j pos) (tC (.str x)):=fun _ _ _ H _ I h=>Calls.Constant_str ⟨.str x,H,I.tok _,⟨_,rfl⟩,h⟩
noncomputable def Gl(X:Cx)(x:Str):Prop:=X.env.kindOf x=some .globalImplicit
variable{u:Value}
theorem pj{E:Value->ald->Prop}{pins:List (Addr×Obj)}{s:ald}{x:Str}{pos:Pos}{Q:Value->ald->Prop}(I:Inv X pins σ H s)(hg:Gl X x)(hm:X.mg x=some u)(h:Q u s)
  (hd:(x==("__debug__":Str))=false:=by decide):wpAny (model X.prog X.w) X.A (eval (.Name x pos) X.env) Q E s:=
 api I.ok.kind hg (Calls.loadGlobal_global (by rw[I.ok.glob];exact I.mod.glob.keeps I.bk) hm h) hd
theorem pA{E:Value->ald->Prop}{pins:List (Addr×Obj)}{s:ald}{x:Str}{pos:Pos}{Q:Value->ald->Prop}(I:Inv X pins σ H s)(hg:Gl X x)(hm:X.mg x=none)(hv:amo x=some u)(h:Q u s)
  (hn:x≠"__name__":=by decide) (hd:(x==("__debug__":Str))=false:=by decide):wpAny (model X.prog X.w) X.A (eval (.Name x pos) X.env) Q E s:=by
 obtain⟨mb,h1,h2⟩:=I.mod.blt;exact api I.ok.kind hg (Calls.loadGlobal_builtin (by rw[I.ok.glob];exact I.mod.glob.keeps I.bk) hm (by rw[I.ok.blt];exact h1.keeps I.bk) ((h2 x hn).trans hv) h) hd
theorem pk{x:Str}{v:V}{pos:Pos}(hg:Gl X x)(hm:X.mg x=some u)(r:RelV v u)(hd:(x==("__debug__":Str))=false:=by decide):PE X (.Name x pos) (tC v):=
 fun _ _ _ H _ I h=>pj I hg hm ⟨v,H,I,r,h⟩ hd
theorem KJ{x:Str}{v:V}{pos:Pos}(hg:Gl X x)(hm:X.mg x=none)(hv:amo x=some u)(r:RelV v u)(hn:x≠"__name__":=by decide)(hd:(x==("__debug__":Str))=false:=by decide):PE X (.Name x pos) (tC v):=
 fun _ _ _ H _ I h=>pA I hg hm hv ⟨v,H,I,r,h⟩ hn hd
variable{a b:Expr}{ta tb:TE}{pos:Pos}
noncomputable def tB(t:TE):TT:=fun σ H Q=>t σ H fun x H1=>∃c,x=.bl c/\Q c H1
variable{tA Ay:TT}{rest:List Expr}
noncomputable def zW(t u:TT):TT:=fun σ H Q=>t σ H fun c H1=>if c=true then u σ H1 Q else Q false H1
noncomputable def OW(t u:TT):TT:=fun σ H Q=>t σ H fun c H1=>if c=true then Q true H1 else u σ H1 Q
noncomputable def ajL(t:TT):TT:=fun σ H Q=>t σ H fun c H1=>Q (!c) H1
theorem adO(ha:PT X a tA):PW X (.BoolOp .And [a] pos) tA:=by
 intro wh pins s σ H Q I h;refine isTrue_and (a8 (ha pins s σ H Q I h) fun c s1 e=>?_);cases c with
 | true=>exact isTrue_and_nil e
 | false=>exact e
theorem afP(ha:PT X a tA):PW X (.BoolOp .Or [a] pos) tA:=by
 intro wh pins s σ H Q I h;refine isTrue_or (a8 (ha pins s σ H Q I h) fun c s1 e=>?_);cases c with
 | false=>exact isTrue_or_nil e
 | true=>exact e
theorem afQ(ha:PT X a tA)(hb:PW X (.BoolOp .And (b::rest) pos) Ay):PW X (.BoolOp .And (a::b::rest) pos) (zW tA Ay):=by
 intro wh pins s σ H Q I h;refine isTrue_and (a8 (ha pins s σ H _ I h) fun c s1 ⟨H1,I1,q1⟩=>?_);cases c with
 | true=>exact hb wh pins s1 σ H1 Q I1 q1
 | false=>exact⟨H1,I1,q1⟩
theorem aim(ha:PT X a tA)(hb:PW X (.BoolOp .Or (b::rest) pos) Ay):PW X (.BoolOp .Or (a::b::rest) pos) (OW tA Ay):=by
 intro wh pins s σ H Q I h;refine isTrue_or (a8 (ha pins s σ H _ I h) fun c s1 ⟨H1,I1,q1⟩=>?_);cases c with
 | true=>exact⟨H1,I1,q1⟩
 | false=>exact hb wh pins s1 σ H1 Q I1 q1
theorem afR(ha:PT X a tA):PT X (.UnaryOp .Not a pos) (ajL tA):=by
 intro pins s σ H Q I h;exact isTrue_not (ha pins s σ H (fun c H1=>Q (!c) H1) I h)
noncomputable def ain(ta tb:TE):TE:=fun σ H Q=>ta σ H fun x H1=>∃c,x=.bl c/\if c=true then tb σ H1 Q else Q (.bl false) H1
theorem afS{op}{t:TE}(h:PE X a t):PE X (.BoolOp op [a] pos) t:=fun pins s σ H Q I hw=>BoolOp_one (h pins s σ H Q I hw)
theorem afT(ha:PE X a ta)(hb:PE X (.BoolOp .And (b::rest) pos) tb):PE X (.BoolOp .And (a::b::rest) pos) (ain ta tb):=by
 intro pins s σ H Q I h;refine BoolOp_and (a8 (ha pins s σ H _ I h) fun v s1 ⟨x,H1,I1,r1,q1⟩=>?_);obtain⟨c,rfl,q1⟩:=q1;cases r1;refine amA ?_;cases c with
 | true=>exact hb pins s1 σ H1 Q I1 q1
 | false=>exact⟨.bl false,H1,I1,rfl,q1⟩
noncomputable def tIf(t:TT)(ta tb:TE):TE:=fun σ H Q=>t σ H fun c H1=>if c=true then ta σ H1 Q else tb σ H1 Q
theorem acH{c:Expr}(hc:PT X c tA)(ha:PE X a ta)(hb:PE X b tb):PE X (.IfExp c a b pos) (tIf tA ta tb):=by
 intro pins s σ H Q I h;refine wpAny_IfExp (a8 (hc pins s σ H _ I h) fun d s1 ⟨H1,I1,q1⟩=>?_);cases d with
 | true=>exact ha pins s1 σ H1 Q I1 q1
 | false=>exact hb pins s1 σ H1 Q I1 q1
end
noncomputable def bL(K:acs)(H:Hp)(a:Addr)(xs:List V):Prop:=
 Rd H a (.lst xs) \/
  ∃(o:Obj) (its:Array Value) (n:Nat),K.lookup a=some o/\o.cls=.type "list"/\o.dict=none/\o.data=.seq its n/\its.size<=alz/\Vals xs its.toList
noncomputable def bT(K:acs)(H:Hp)(a:Addr)(xs:List V):Prop:=
 Rd H a (.tup xs) \/
  ∃(o:Obj) (its:Array Value) (n:Nat),K.lookup a=some o/\o.cls=.type "tuple"/\o.data=.seq its n/\its.size<=alz/\Vals xs its.toList
noncomputable def ajM:Value->Option V
 | .none=>some .aE
 | .bool b=>some (.bl b)
 | .int i _=>some (.int i)
 | .str x _=>some (.str x)
 | .bytes b _=>some (.tu b)
 | .float b _=>some (.Au b)
 | .ref a=>some (.ref a)
 | .type n=>some (.ty n)
 | _=>none
theorem RelV.abs{x:V}{u:Value}(r:RelV x u):ajM u=some x:=by
 cases x with
 | aE=>cases r;rfl
 | bl _=>cases r;rfl
 | int _=>obtain⟨t,rfl⟩:=r;rfl
 | str _=>obtain⟨t,rfl⟩:=r;rfl
 | tu _=>obtain⟨t,rfl⟩:=r;rfl
 | Au _=>obtain⟨t,rfl⟩:=r;rfl
 | ref _=>cases r;rfl
 | ty _=>cases r;rfl
theorem RelV.inj{x y:V}{u:Value}(r:RelV x u)(q:RelV y u):x=y:=amm (r.abs.symm.trans q.abs)
theorem Vals.inj:∀{xs ys:List V} {us:List Value},Vals xs us->Vals ys us->xs=ys
 | _,_,_,.nil,.nil=>rfl
 | _,_,_,.cons r t,.cons r' t'=>by rw[r.inj r',Vals.inj t t']
section
variable{X:Cx}{pins:List (Addr×Obj)}{σ:St}{H:Hp}{s:ald}{a:Addr}{xs ys:List V}
theorem bL.of{K:acs}(h:H a=some (.lst xs)):bL K H a xs:=.inl (.inl h)
theorem bT.of{K:acs}(h:H a=some (.tup xs)):bT K H a xs:=.inl (.inl h)
theorem Inv.list(I:Inv X pins σ H s)(h:bL X.K H a xs):∃its:List Value,Vals xs its/\PlainL s.heap a its.toArray/\xs.length<=sizeLine:=by
 rcases h with h | ⟨o,its,n,hk,hc,hd,hs,hz,r⟩
 ·obtain⟨z,its,n,r,e⟩:=h.ok I.aM;exact⟨its,r,⟨_,n,e,rfl,rfl,rfl⟩,z⟩
 ·refine⟨its.toList,r,⟨o,n,I.cD a o hk,hc,hd,by simpa using hs⟩,?_⟩;have e:=r.length;simp only[anI] at e;omega
theorem Inv.tuple(I:Inv X pins σ H s)(h:bT X.K H a xs):∃its:List Value,Vals xs its/\IsTup s.heap a its.toArray/\xs.length<=sizeLine:=by
 rcases h with h | ⟨o,its,n,hk,hc,hs,hz,r⟩
 ·obtain⟨z,its,r,p⟩:=h.ok I.aM;exact⟨its,r,p,z⟩
 ·refine⟨its.toList,r,⟨o,I.cD a o hk,hc,n,by simpa using hs⟩,?_⟩;have e:=r.length;simp only[anI] at e;omega
theorem Inv.JM(I:Inv X pins σ H s)(h:bL X.K H a xs)(h':bL X.K H a ys):xs=ys:=by
 obtain⟨its,r,⟨o,n,e,_,_,d⟩,_⟩:=I.list h;obtain⟨its',r',⟨o',n',e',_,_,d'⟩,_⟩:=I.list h';rw[e] at e';cases e';rw[d] at d';injection d' with d1 _
 have:its=its':=by simpa using congrArg arA d1
 subst this;exact r.inj r'
theorem Inv.BU(I:Inv X pins σ H s)(h:bT X.K H a xs)(h':bT X.K H a ys):xs=ys:=by
 obtain⟨its,r,⟨o,e,_,n,d⟩,_⟩:=I.tuple h;obtain⟨its',r',⟨o',e',_,n',d'⟩,_⟩:=I.tuple h';rw[e] at e';cases e';rw[d] at d';injection d' with d1 _
 have:its=its':=by simpa using congrArg arA d1
 subst this;exact r.inj r'
end
section
variable{X:Cx}{st:Stmt}{rest:List Stmt}{t u:TS}{e:Expr}{te:TE}{pos:Pos}
noncomputable def aio:TS:=fun D σ H=>D.nx σ H
noncomputable def N4(t u:TS):TS:=fun D σ H=>t { D with nx:=u D } σ H
theorem adP:hG X [] aio:=fun _ _ σ H _ I h=>anU ⟨σ,H,I,h⟩
theorem JN(h1:PS X st t)(h2:hG X rest u):hG X (st::rest) (N4 t u):=by
 intro pins s σ H D I h;refine wpAny_execs_cons (a8 (h1 pins s σ H { D with nx:=u D } I h) fun f s1 q=>?_);cases f with
 | next=>
  obtain⟨az,H',I',q⟩:=q;exact h2 pins s1 az H' D I' q
 | ret v=>exact q
 | brk=>exact q
 | cont=>exact q
theorem KN(h1:PS X st t):hG X [st] t:=by
 intro pins s σ H D I h;refine wpAny_execs_cons (a8 (h1 pins s σ H D I h) fun f s1 q=>?_);cases f with
 | next=>exact anU q
 | ret v=>exact q
 | brk=>exact q
 | cont=>exact q
theorem Inv.quiet{pins:List (Addr×Obj)}{σ:St}{H:Hp}{s:ald}(I:Inv X pins σ H s):interactive X.env=false:=by simp[interactive,I.ok.kind]
noncomputable def aip(te:TE):TS:=fun D σ H=>te σ H fun _ H1=>D.nx σ H1
theorem KO(he:PE X e te)(hs:anl e none pos.line X.env=pure false:=by rfl):PS X (.Expr e pos) (aip te):=by
 intro pins s σ H D I h;exact wpAny_Expr_any (a8 (he pins s σ H _ I h) fun v s1 ⟨x,H1,I1,r1,q1⟩=>⟨σ,H1,I1,q1⟩) I.quiet hs
noncomputable def ajN(te:TE):TS:=fun D σ H=>te σ H D.rt
theorem afU(he:PE X e te):PS X (.Return (some e) pos) (ajN te):=by
 intro pins s σ H D I h;exact wpAny_Return_some (a8 (he pins s σ H _ I h) fun v s1 ⟨x,H1,I1,r1,q1⟩=>⟨x,σ,H1,I1,r1,q1⟩)
noncomputable def ajO(c:TT)(t u:TS):TS:=fun D σ H=>c σ H fun b H1=>if b=true then t D σ H1 else u D σ H1
theorem aiq{c:Expr}{a b:List Stmt}{tc:TT}(hc:PT X c tc)(ha:hG X a t)(hb:hG X b u):PS X (.If c a b pos) (ajO tc t u):=by
 intro pins s σ H D I h;refine wpAny_If (a8 (hc pins s σ H _ I h) fun d s1 ⟨H1,I1,q1⟩=>?_);cases d with
 | true=>exact ha pins s1 σ H1 D I1 q1
 | false=>exact hb pins s1 σ H1 D I1 q1
end
abbrev TG:=V->St->Hp->(St->Hp->Prop)->Prop
abbrev mI:=List V->St->Hp->(St->Hp->Prop)->Prop
noncomputable def PG(X:Cx)(target:Expr)(t:TG):Prop:=
 ∀(pins:List (Addr×Obj)) (s:ald) (σ:St) (H:Hp) (v:V) (u:Value) (Q:St->Hp->Prop),Inv X pins σ H s->RelV v u->t v σ H Q →
  wpAny (model X.prog X.w) X.A (aqF target X.env u) (fun _ s'=>∃az H',Inv X pins az H' s'/\Q az H') X.xe s
noncomputable def iQ(X:Cx)(ts:List Expr)(t:mI):Prop:=
 ∀(pins:List (Addr×Obj)) (s:ald) (σ:St) (H:Hp) (vs:List V) (us:List Value) (Q:St->Hp->Prop),Inv X pins σ H s->Vals vs us->t vs σ H Q →
  wpAny (model X.prog X.w) X.A (assignInOrder ((amO ts X.env).map (·.2)) us) (fun _ s'=>∃az H',Inv X pins az H' s'/\Q az H') X.xe s
abbrev zX:=V->V->V->Hp->(Hp->Prop)->Prop
noncomputable def nK(X:Cx)(t:zX):Prop:=
 ∀(pins:List (Addr×Obj)) (s:ald) (σ:St) (H:Hp) (o i v:V) (ov iv u:Value) (Q:Hp->Prop),Inv X pins σ H s->RelV o ov->RelV i iv->RelV v u->t o i v H Q →
  wpAny (model X.prog X.w) X.A (setItem ov iv u) (fun _ s'=>∃H',Inv X pins σ H' s'/\Q H') X.xe s
section
variable{X:Cx}{pos:Pos}
noncomputable def Ds(i:Nat):TG:=fun v σ H Q=>Q (σ.set i (some v)) H
theorem adQ{i:Nat}{x:Str}(hN:X.N.Nodup)(hi:X.N[i]? =some x)(hx:Loc X.env.scope x)(hf:(X.fn x=true\/X.env.scope.names.lookup x=some .local)/\jQ X x):PG X (.Name x pos) (Ds i):=by
 intro pins s σ H v u Q I r h;exact wpAny_assign_Name (B8 I hN hi hx r (fun s' I'=>⟨_,H,I',h⟩) hf)
noncomputable def ajP:mI:=fun vs σ H Q=>vs=[]/\Q σ H
noncomputable def air(t:TG)(u:mI):mI:=fun vs σ H Q=>∃v r,vs=v::r/\t v σ H fun az H'=>u r az H' Q
theorem adR:iQ X [] ajP:=by
 intro pins s σ H vs us Q I r h;obtain⟨e,h⟩:=h;subst e;cases r;exact assignInOrder_nil ⟨σ,H,I,h⟩
theorem acI{e:Expr}{es:List Expr}{t:TG}{u:mI}(h1:PG X e t)(h2:iQ X es u)
  (hs:(amO (e::es) X.env).map (·.2)=aqF e X.env::(amO es X.env).map (·.2):=by rfl):iQ X (e::es) (air t u):=by
 intro pins s σ H vs us Q I r h;obtain⟨v,vr,e1,h⟩:=h;subst e1;cases r with
 | cons r rr=>
  rw[hs];refine assignInOrder_cons (a8 (h1 pins s σ H _ _ _ I r h) fun _ s1 ⟨σ1,H1,I1,q1⟩=>?_);exact h2 pins s1 σ1 H1 _ _ Q I1 rr q1
noncomputable def ajQ(K:acs)(n:Nat)(t:mI):TG:=fun v σ H Q=>∃a xs,v=.ref a/\bT K H a xs/\xs.length=n/\t xs σ H Q
theorem afV{es:List Expr}{k:Nat}{t:mI}{n:Nat}(hc:X.calm=true)(h:iQ X es t)
  (hn:(amO es X.env).length=n:=by rfl) (dg:(amO es X.env).findIdx? (·.1)=none:=by rfl):PG X (.Tuple es k pos) (ajQ X.K n t):=by
 intro pins s σ H v u Q I r hw;obtain⟨a,xs,e1,hq,hl,hw⟩:=hw;subst e1;cases r;obtain⟨its,rv,ht,hz⟩:=I.tuple hq;refine assign_Tuple_tuple (I.ok.hd hc) ht (by simp[hn,<- hl,rv.length]) dg fun h' hx=>?_
 have I1:Inv X pins σ H { s with heap:=h' }:=I.kept (t':=s.toks) fun b o e=>hx b o (alV (alp e)) e
 exact h pins _ σ H xs _ Q I1 (by simpa using rv) hw
noncomputable def ajR(to ti:TE)(t:zX):TG:=fun v σ H Q=>to σ H fun o H1=>ti σ H1 fun i H2=>t o i v H2 fun H3=>Q σ H3
theorem afW{o i:Expr}{to ti:TE}{t:zX}(ho:PE X o to)(hi:PE X i ti)(hs:nK X t)
  (ha:∀v,aqF (.Subscript o i pos) X.env v=(do
   let ov <- apu [v] (eval o X.env)
   let iv <- apu [v,ov] (eval i X.env)
   standAt pos
   apu [v,ov,iv] (setItem ov iv v)
   release [v,ov,iv] []):=by intro _;rfl):PG X (.Subscript o i pos) (ajR to ti t):=by
 intro pins s σ H v u Q I r h;rw[ha];refine abB (amu (a8 (ho pins s σ H _ I h) fun ov s1 ⟨x,H1,I1,r1,q1⟩=>?_));refine abB (amu (a8 (hi pins s1 σ H1 _ I1 q1) fun iv s2 ⟨y,H2,I2,r2,q2⟩=>?_));refine abB (aoT (abB (amu (a8 (hs pins s2 σ H2 x y v ov iv u _ I2 r1 r2 r q2) fun _ s3 ⟨H3,I3,q3⟩=>?_))));exact wpAny_release ⟨σ,H3,I3,q3⟩
noncomputable def zY(te:TE)(g:TG):TS:=fun D σ H=>te σ H fun x H1=>g x σ H1 D.nx
theorem afX{tg e:Expr}{te:TE}{g:TG}(he:PE X e te)(hg:PG X tg g)(hs:swapsWithSole [tg] e pos.line X.env=pure false:=by rfl)(hw:swappedStores [tg] e X.env=pure none:=by rfl)
  (h1:(amO [tg] X.env).map (·.2)=[aqF tg X.env]:=by rfl):PS X (.Assign [tg] e pos) (zY te g):=by
 intro pins s σ H D I h;refine wpAny_Assign_stores (a8 (he pins s σ H _ I h) fun v s1 ⟨x,H1,I1,r1,q1⟩=>?_) hs hw;rw[h1];exact a8 (hg pins s1 σ H1 x v _ I1 r1 q1) fun _ s2 q=>q
theorem afY{i:Nat}{x:Str}{e:Expr}{te:TE}{pos':Pos}(hN:X.N.Nodup)(hi:X.N[i]? =some x)(hx:Loc X.env.scope x)(he:PE X e te)(hs:anl e (some (.Name x pos')) pos.line X.env=pure false:=by rfl)(hf:(X.fn x=true\/X.env.scope.names.lookup x=some .local)/\jQ X x) :
  PS X (.Assign [.Name x pos'] e pos) (zY te (Ds i)):=by
 intro pins s σ H D I h;refine wpAny_Assign_Name (a8 (he pins s σ H _ I h) fun v s1 ⟨y,H1,I1,r1,q1⟩=>?_) hs;exact B8 I1 hN hi hx r1 (fun s2 I2=>⟨_,H1,I2,q1⟩) hf
end
section
variable{X:Cx}{pos:Pos}
noncomputable def LZ(c:TT)(tb:TS):TS:=fun D σ H=>∃W:Nat->St->Hp->Prop,(∃m,W m σ H)/\∀m σ H,W m σ H →
 c σ H fun b H1=>if b=true then ∃N:St->Hp->Prop,(∀az H',N az H'->∃m',m'<m/\W m' az H')/\tb { D with nx:=N,ct:=N,bk:=D.nx } σ H1 else D.nx σ H1
theorem acJ{c:Expr}{body:List Stmt}{tc:TT}{tb:TS}(hp:aqk (model X.prog X.w) X.A X.env X.xe)(hc:PT X c tc)(hb:hG X body tb):PS X (.While c body [] pos) (LZ tc tb):=by
 intro pins s σ H D I h;obtain⟨W,⟨m0,w0⟩,turn⟩:=h;refine wpAny_While (codeAny_whileLoop (fun n s'=>∃az H',Inv X pins az H' s'/\W n az H') ?_ m0 ⟨σ,H,I,w0⟩);rintro n s1 ⟨σ1,H1,I1,w1⟩;refine anA hp (a8 (hc pins s1 σ1 H1 _ I1 (turn n σ1 H1 w1)) fun b s2 ⟨H2,I2,q2⟩=>?_);cases b with
 | true=>
  obtain⟨N,hN,q2⟩:=q2;rw[if_pos rfl];refine anA hp (a8 (hb pins s2 σ1 H2 _ I2 q2) fun f s3 q3=>?_);cases f with
  | next=>
   obtain⟨fX,H3,I3,n3⟩:=q3;obtain⟨m',hm,w3⟩:=hN fX H3 n3;exact⟨m',hm,fX,H3,I3,w3⟩
  | cont=>
   obtain⟨fX,H3,I3,n3⟩:=q3;obtain⟨m',hm,w3⟩:=hN fX H3 n3;exact⟨m',hm,fX,H3,I3,w3⟩
  | brk=>exact q3
  | ret v=>exact q3
 | false=>
  rw[if_neg alK];exact anU ⟨σ1,H2,I2,q2⟩
end
structure It where
 go:Nat->Hp->Prop
 vP:Nat->Hp->V->Hp->Prop
 stop:Nat->Hp->Prop
noncomputable def jR(X:Cx)(pins:List (Addr×Obj))(H:Hp)(b:Addr):Prop:=
 H b=none/\b≠X.env.locals/\b∉X.fs/\(b∈X.ex\/X.aQ.heap.objs.size<=b)/\(∀x c,X.env.cells.lookup x=some c->c≠b)/\∀p∈X.pn++pins,p.1≠b
theorem Inv.sQ{pins:List (Addr×Obj)}{σ:St}{H':Hp}{s:ald}(I:Inv X pins σ H s)(hb:s.heap.objs.size<=b)(hn:H' b=none):jR X pins H' b:=by
 refine⟨hn,ana (alB I.lt hb),I.ajJ hb,.inr (alT I.sz hb),fun x c e z=>?_,fun p hp z=>?_⟩
 ·obtain⟨v,q⟩:=I.cell x c e;exact absurd (alB q.lt (by rw[z];exact hb)) (amX _)
 ·exact absurd (alB (alp (I.pin p hp).1) (by rw[z];exact hb)) (amX _)
structure Turn(P:amb)(w:World)(K:acs)(tg:Expr)(J:It)(fp:List Addr)(it:Addr)(tn:Nat->Heap->Prop):Prop where
 mem:it∈fp
 obj:∀i h,tn i h->∀b∈fp,∃o,h.get? b=some o/\∀v,o.data≠.cell v
 keep:∀i h h',tn i h->(∀b∈fp,∀o,h.get? b=some o->h'.get? b=some o)->tn i h'
 item:∀(X:Cx),X.prog=P->X.w=w->X.K=K->X.calm=true->∀(i:Nat) (pins:List (Addr×Obj)) (s:ald) (σ:St) (H:Hp) (E:Value->ald->Prop),Inv X pins σ H s->(∀b∈fp,jR X pins H b)->tn i s.heap->J.go i H →
  wpAny (model P w) X.A (pyNext (.ref it)) (fun r s1=>∃u,r=some u /\
   wpAny (model P w) X.A (aoZ tg (.ref it) u) (fun _ s2=>∃x H',Inv X pins σ H' s2/\RelV x u/\J.vP i H x H'/\tn (i+1) s2.heap/\∀b∈fp,H' b=none) E s1) E s
 done:∀(X:Cx),X.prog=P->X.w=w->X.K=K->X.calm=true->∀(i:Nat) (pins:List (Addr×Obj)) (s:ald) (σ:St) (H:Hp) (E:Value->ald->Prop),Inv X pins σ H s->(∀b∈fp,jR X pins H b)->tn i s.heap->J.stop i H →
  wpAny (model P w) X.A (pyNext (.ref it)) (fun r s1=>r=none/\Inv X pins σ H s1) E s
 self:∀(A:amz) (i:Nat) (s:ald) (Q:Value->ald->Prop) (E:Value->ald->Prop),tn i s.heap->Q (.ref it) s->wpAny (model P w) A (pyIter (.ref it)) Q E s
abbrev TI:=St->Hp->(It->Hp->Prop)->Prop
noncomputable def OX(X:Cx)(pins:List (Addr×Obj))(σ:St)(tg:Expr)(R:It->Hp->Prop)(EF:Value)(s2:ald):Prop:=
 ∃(it:Addr) (fp:List Addr) (tn:Nat->Heap->Prop) (J:It) (H':Hp),EF=.ref it/\Inv X pins σ H' s2/\Turn X.prog X.w X.K tg J fp it tn/\tn 0 s2.heap/\(∀b∈fp,jR X pins H' b)/\R J H'
noncomputable def PI(X:Cx)(tg iter:Expr)(wi:TI):Prop:=
 ∀(pins:List (Addr×Obj)) (s:ald) (σ:St) (H:Hp) (R:It->Hp->Prop),Inv X pins σ H s->wi σ H R →
  wpAny (model X.prog X.w) X.A (eval iter X.env) (fun v s1=>wpAny (model X.prog X.w) X.A (pyIter v) (OX X pins σ tg R) X.xe s1) X.xe s
variable{tg:Expr}
theorem zB {M : Model} {E : Value -> ald -> Prop} {s : ald} {it : Addr} {u : Value} {o : Obj} {n : String} {vs : Array Value} {Q : Unit -> ald -> Prop} (ho : s.heap.get? it = some o) (hc : o.cls = .type n) (hd : o.data = .fields vs)
    (hn : ["enumerate", "zip", "dict_itemiterator", "dict_reverseitemiterator", "odict_iterator", "itertools.zip_longest", "itertools.pairwise"].contains n = false) (hQ : Q () s) : wpAny M A (aoZ tg (.ref it) u) Q E s := by
  unfold aoZ;cases tg <;> first
    | exact alh hQ
    | (cases u <;> first
        | exact alh hQ
        | (refine abB (wpAny_load ho ?_)
           rw [hc, hd];show wpAny M A (if (["enumerate", "zip", "dict_itemiterator", "dict_reverseitemiterator", "odict_iterator", "itertools.zip_longest", "itertools.pairwise"].contains n && vs[0]? == some (aok _)) = true then _ else _) Q E s;rw [if_neg (by intro h; rw [hn, aqG] at h; cases h)];exact alh hQ))
noncomputable def OY(K:acs)(a:Addr):It:=
 ⟨fun i H=>∃xs x,bL K H a xs/\xs[i]? =some x,fun i H x H'=>H'=H/\∀xs,bL K H a xs->xs[i]? =some x,fun i H=>∃xs,bL K H a xs/\xs.length<=i⟩
noncomputable def OZ(K:acs)(a:Addr):It:=
 ⟨fun i H=>∃xs x,bT K H a xs/\xs[i]? =some x,fun i H x H'=>H'=H/\∀xs,bT K H a xs->xs[i]? =some x,fun i H=>∃xs,bT K H a xs/\xs.length<=i⟩
noncomputable def vQ(lo:Int)(n:Nat):It:=⟨fun i _=>i<n,fun i H x H'=>H'=H/\x=.int (lo+i),fun i _=>n<=i⟩
variable{K:acs}
theorem aa4{w:World}(a it:Addr):Turn P w K tg (OY K a) [it] it (fun i h=>h.IsListIter it a i) where
 mem:=by simp
 obj:=fun i h st b hb=>by
  have e:b=it:=by simpa using hb
  subst e;obtain⟨o,e,c,d⟩:=st;exact⟨o,e,fun v z=>by rw[d] at z;cases z⟩
 keep:=fun i h h' st k=>st.at fun o e=>k it (by simp) o e
 item:=by
  intro X hP hw hK hc i pins s σ H E I hf st hg;subst hP hw hK;obtain⟨xs,x,hq,hx⟩:=hg;obtain⟨its,rv,p,hz⟩:=I.list hq;obtain⟨u,hu,ru⟩:=rv.get hx;obtain⟨f0,f1,f2,f3,f4,f5⟩:=hf it (by simp);refine wpAny_pyNext_list_item st p.isList (x:=u) (by simpa using hu) fun h' d0 sb=>?_
  have I1:Inv X pins σ H { s with heap:=h' }:=I.turned (t':=s.toks) (fun b o hb e=>(sb.2 b hb).trans e) f0 f1 f3 f4 f5;obtain⟨o,e,c,d⟩:=id d0;exact⟨u,rfl,zB (s:={ s with heap:=h' }) e c d (by decide) ⟨x,H,I1,ru,⟨rfl,fun ys hy=>by rw[I.JM hy hq];exact hx⟩,d0,fun b hb=>(hf b hb).1⟩⟩
 done:=by
  intro X hP hw hK hc i pins s σ H E I hf st hg;subst hP hw hK;obtain⟨xs,hq,hx⟩:=hg;obtain⟨its,rv,p,hz⟩:=I.list hq;obtain⟨f0,f1,f2,f3,f4,f5⟩:=hf it (by simp);have hl:=rv.length;exact wpAny_pyNext_list_end (I.ok.hd hc) st p.isList (by simp;omega) fun h' eb=>⟨rfl,I.turned (t':=s.toks) (fun b o hb e=>eb b o hb e) f0 f1 f3 f4 f5⟩
 self:=fun _ _ _ _ _ st h=>wpAny_pyIter_listiter st h
theorem ZM{w:World}(a it:Addr):Turn P w K tg (OZ K a) [it] it (fun i h=>h.IsTupleIter it a i) where
 mem:=by simp
 obj:=fun i h st b hb=>by
  have e:b=it:=by simpa using hb
  subst e;obtain⟨o,e,c,d⟩:=st;exact⟨o,e,fun v z=>by rw[d] at z;cases z⟩
 keep:=fun i h h' st k=>st.at fun o e=>k it (by simp) o e
 item:=by
  intro X hP hw hK hc i pins s σ H E I hf st hg;subst hP hw hK;obtain⟨xs,x,hq,hx⟩:=hg;obtain⟨its,rv,p,hz⟩:=I.tuple hq;obtain⟨u,hu,ru⟩:=rv.get hx;obtain⟨f0,f1,f2,f3,f4,f5⟩:=hf it (by simp);refine wpAny_pyNext_tuple_item st (show s.heap.IsTuple a its.toArray from p) (x:=u) (by simpa using hu) fun h' d0 sb=>?_
  have I1:Inv X pins σ H { s with heap:=h' }:=I.turned (t':=s.toks) (fun b o hb e=>(sb.2 b hb).trans e) f0 f1 f3 f4 f5;obtain⟨o,e,c,d⟩:=id d0;exact⟨u,rfl,zB (s:={ s with heap:=h' }) e c d (by decide) ⟨x,H,I1,ru,⟨rfl,fun ys hy=>by rw[I.BU hy hq];exact hx⟩,d0,fun b hb=>(hf b hb).1⟩⟩
 done:=by
  intro X hP hw hK hc i pins s σ H E I hf st hg;subst hP hw hK;obtain⟨xs,hq,hx⟩:=hg;obtain⟨its,rv,p,hz⟩:=I.tuple hq;obtain⟨f0,f1,f2,f3,f4,f5⟩:=hf it (by simp);have hl:=rv.length;exact wpAny_pyNext_tuple_end (I.ok.hd hc) st (show s.heap.IsTuple a its.toArray from p) (by simp;omega) fun h' eb=>⟨rfl,I.turned (t':=s.toks) (fun b o hb e=>eb b o hb e) f0 f1 f3 f4 f5⟩
 self:=fun _ _ _ _ _ st h=>wpAny_pyIter_tupleiter st h
theorem ZN{w:World}(it:Addr)(lo:Int)(n:Nat):Turn P w K tg (vQ lo n) [it] it (fun i h=>IsRangeIter h it (lo+(i:Nat)*1) ((n:Int)-(i:Nat)) 1) where
 mem:=by simp
 obj:=fun i h st b hb=>by
  have e:b=it:=by simpa using hb
  subst e;exact⟨_,st,fun v z=>by
   have z':Data.fields _=Data.cell v:=z;cases z'⟩
 keep:=fun i h h' st k=>k it (by simp) _ st
 item:=by
  intro X hP hw hK hc i pins s σ H E I hf st hg;subst hP hw hK;obtain⟨f0,f1,f2,f3,f4,f5⟩:=hf it (by simp);have W:=Walks.range (prog:=X.prog) (w:=X.w) (I.ok.hd hc) it lo 1 n;refine W.item i s _ _ hg st fun v h' tk hv d0 kk=>?_
  obtain⟨t,rfl⟩:=hv;have I1:Inv X pins σ H { s with heap:=h',toks:=tk }:=I.turned (fun b o hb e=>kk b o (by simpa using hb) e) f0 f1 f3 f4 f5;refine⟨_,rfl,zB (s:={ s with heap:=h',toks:=tk }) (n:="range_iterator") d0 rfl rfl (by decide) ⟨.int (lo+i),H,I1,⟨t,?_⟩,⟨rfl,rfl⟩,d0,fun b hb=>(hf b hb).1⟩⟩;rw[Int.mul_one]
 done:=by
  intro X hP hw hK hc i pins s σ H E I hf st hg;subst hP hw hK;obtain⟨f0,f1,f2,f3,f4,f5⟩:=hf it (by simp);exact wpAny_pyNext_range_end (I.ok.hd hc) st (by have:n<=i:=hg;omega) fun h' eb=>⟨rfl,I.turned (t':=s.toks) (fun b o hb e=>eb b o hb e) f0 f1 f3 f4 f5⟩
 self:=fun _ _ _ _ _ st h=>wpAny_pyIter_rangeiter st h
section
variable{X:Cx}{tg:Expr}
noncomputable def ais(K:acs)(tl:TE):TI:=fun σ H R=>tl σ H fun x H1=>∃a,x=.ref a/\(∃xs,bL K H1 a xs)/\R (OY K a) H1
noncomputable def ajS(K:acs)(tl:TE):TI:=fun σ H R=>tl σ H fun x H1=>∃a,x=.ref a/\(∃xs,bT K H1 a xs)/\R (OZ K a) H1
theorem adS{l:Expr}{tl:TE}(hl:PE X l tl):PI X tg l (ais X.K tl):=by
 intro pins s σ H R I h;refine a8 (hl pins s σ H _ I h) fun v s1 ⟨x,H1,I1,r1,q1⟩=>?_
 obtain⟨a,e,⟨xs,hq⟩,q⟩:=q1;subst e;cases r1;obtain⟨its,rv,p,hz⟩:=I1.list hq;refine wpAny_pyIter_list p.isList ?_;refine⟨s1.heap.objs.size,[s1.heap.objs.size],_,_,H1,rfl,I1.kept (t':=s1.toks) fun b o e=>alb _ e,aa4 a _,⟨_,alG _ rfl,rfl,rfl⟩,fun b hb=>?_,q⟩;have e:b=s1.heap.objs.size:=by simpa using hb
 subst e;exact I1.sQ (ali _) (I1.aM.fresh (ali _))
theorem afZ{l:Expr}{tl:TE}(hl:PE X l tl):PI X tg l (ajS X.K tl):=by
 intro pins s σ H R I h;refine a8 (hl pins s σ H _ I h) fun v s1 ⟨x,H1,I1,r1,q1⟩=>?_
 obtain⟨a,e,⟨xs,hq⟩,q⟩:=q1;subst e;cases r1;obtain⟨its,rv,p,hz⟩:=I1.tuple hq;refine apl (show s1.heap.IsTuple a its.toArray from p) ?_;refine⟨s1.heap.objs.size,[s1.heap.objs.size],_,_,H1,rfl,I1.kept (t':=s1.toks) fun b o e=>alb _ e,ZM a _,⟨_,alG _ rfl,rfl,rfl⟩,fun b hb=>?_,q⟩;have e:b=s1.heap.objs.size:=by simpa using hb
 subst e;exact I1.sQ (ali _) (I1.aM.fresh (ali _))
variable{σ:St}{H:Hp}
theorem JP{pins:List (Addr×Obj)}{s:ald}{R:It->Hp->Prop}{E:Value->ald->Prop}{lo hi:Int}{t u v:Tok}{tk:Nat}(I:Inv X pins σ H s)(h1: -(2 ^ 62)<=lo)(h2:lo<2 ^ 62)(h3: -(2 ^ 62)<=hi)(h4:hi<2 ^ 62)
  (q:R (vQ lo (hi-lo).toNat) H):wpAny (model X.prog X.w) X.A (pyIter (.ref s.heap.objs.size)) (OX X pins σ tg R) E { s with heap:=s.heap.push { cls:=.type "range",data:=.fields #[.int lo t,.int hi u,.int 1 v] },toks:=tk }:=by
 refine wpAny_pyIter_range (IsRange.new ..) (small_one h1 h2 h3 h4) ?_;have I1:Inv X pins σ H { s with heap:=s.heap.push { cls:=.type "range",data:=.fields #[.int lo t,.int hi u,.int 1 v] },toks:=tk }:=I.kept fun b o e=>alb _ e
 refine⟨(s.heap.push { cls:=.type "range",data:=.fields #[.int lo t,.int hi u,.int 1 v] }).objs.size,[(s.heap.push { cls:=.type "range",data:=.fields #[.int lo t,.int hi u,.int 1 v] }).objs.size],_,_,H,rfl,
  I1.kept (t':=tk) fun b o e=>alb _ e,ZN _ lo (hi-lo).toNat,?_,fun b hb=>?_,q⟩
 ·have e1:lo+((0:Nat):Int)*1=lo:=by simp
  have e2:(((hi-lo).toNat:Nat):Int)-((0:Nat):Int)=Builtin.Range.rangeSize lo hi 1:=by rw[rangeSize_one];split <;> omega
  show IsRangeIter _ _ (lo+((0:Nat):Int)*1) ((((hi-lo).toNat:Nat):Int)-((0:Nat):Int)) 1;rw[e1,e2];exact alG _ rfl
 ·have e:b=(s.heap.push { cls:=.type "range",data:=.fields #[.int lo t,.int hi u,.int 1 v] }).objs.size:=by simpa using hb
  subst e;exact I1.sQ (ali _) (I1.aM.fresh (ali _))
noncomputable def ait(ta:TA):TI:=fun σ H R=>ta σ H fun vs H1=>∃j:Int,vs=[.int j]/\ -(2 ^ 62)<=j/\j<2 ^ 62/\R (vQ 0 j.toNat) H1
noncomputable def aiu(ta:TA):TI:=fun σ H R=>ta σ H fun vs H1=>∃i j:Int,vs=[.int i,.int j]/\(-(2 ^ 62)<=i/\i<2 ^ 62/\ -(2 ^ 62)<=j/\j<2 ^ 62)/\R (vQ i (j-i).toNat) H1
variable{pos:Pos}
theorem aa5{a:Expr}{ta:TA}{p:Pos}(hg:Gl X "range")(hm:X.mg "range"=none)(ha:PA X [a] ta)(hs:alI [a] X.env=[(false,eval a X.env)]:=by rfl):PI X tg (.Call (.Name "range" p) [a] [] pos) (ait ta):=by
 intro pins s σ H R I h;refine Call_ (pA I hg hm boot_range (amD (a8 (ha pos pins s σ H _ I h) fun us s1 ⟨vs,H1,I1,r1,q1⟩=>?_) hs rfl));obtain⟨j,e,q1,q2,q⟩:=q1;subst e;cases r1 with
 | cons r rr=>
  cases rr;obtain⟨t,rfl⟩:=r;exact call_range_1 (JP I1 (by omega) (by omega) q1 q2 (by simpa using q))
theorem aa6{a b:Expr}{ta:TA}{p:Pos}(hg:Gl X "range")(hm:X.mg "range"=none)(ha:PA X [a,b] ta)(hs:alI [a,b] X.env=[(false,eval a X.env),(false,eval b X.env)]:=by rfl)(cY:alI [b] X.env=[(false,eval b X.env)]:=by rfl) :
  PI X tg (.Call (.Name "range" p) [a,b] [] pos) (aiu ta):=by
 intro pins s σ H R I h;refine Call_ (pA I hg hm boot_range (amD (a8 (ha pos pins s σ H _ I h) fun us s1 ⟨vs,H1,I1,r1,q1⟩=>?_) (by rw[hs,cY]) (by rw[cY];rfl)));obtain⟨i,j,e,⟨q1,q2,q3,q4⟩,q⟩:=q1;subst e;cases r1 with
 | cons r rr=>
  cases rr with
  | cons r' rr=>
   cases rr;obtain⟨t,rfl⟩:=r;obtain⟨t',rfl⟩:=r';exact call_range_2 (JP I1 q1 q2 q3 q4 q)
noncomputable def N5(wi:TI)(g:TG)(tb:TS):TS:=fun D σ H=>wi σ H fun J H1=>∃W:Nat->Nat->St->Hp->Prop,(∃m,W 0 m σ H1)/\∀i m σ H,W i m σ H →
 (J.stop i H/\D.nx σ H)\/(J.go i H/\∃N:St->Hp->Prop,(∀az H',N az H'->∃m',m'<m/\W (i+1) m' az H')/\∀x H',J.vP i H x H'->g x σ H' fun bo H2=>tb { D with nx:=N,ct:=N,bk:=D.nx } bo H2)
noncomputable def uL(fp:List Addr)(h:Heap):List (Addr×Obj):=fp.filterMap fun b=>(h.get? b).map fun o=>(b,o)
variable{fp:List Addr}
theorem yj{h:Heap}{b:Addr}{o:Obj}(hb:b∈fp)(e:h.get? b=some o):(b,o)∈uL fp h:=aox.mpr ⟨b,hb,by rw[e];rfl⟩
theorem aa7{h:Heap}{p:Addr×Obj}(hp:p∈uL fp h):p.1∈fp/\h.get? p.1=some p.2:=by
 obtain⟨b,hb,e⟩:=aox.mp hp;cases q:h.get? b with
 | none=>rw[q] at e;cases e
 | some o=>
  rw[q] at e;have e':(b,o)=p:=amm e;subst e';exact⟨hb,q⟩
theorem Inv.pinned{pins:List (Addr×Obj)}{s:ald}(I:Inv X pins σ H s)(hf:∀b∈fp,jR X pins H b)(ho:∀b∈fp,∃o,s.heap.get? b=some o/\∀v,o.data≠.cell v):Inv X (pins++uL fp s.heap) σ H s:=
 I.KI fun p hp=>(amC.mp hp).elim (fun z=>I.pin p (amd _ z)) fun z=>by
  obtain⟨hb,e⟩:=aa7 z;obtain⟨f0,f1,f2,_⟩:=hf p.1 hb;obtain⟨o,e',d⟩:=ho p.1 hb;rw[e] at e';cases e';exact⟨e,f0,f1,f2,d⟩
theorem Inv.yK{pins pl:List (Addr×Obj)}{s:ald}(I:Inv X (pins++pl) σ H s):Inv X pins σ H s:=I.KI fun p hp=>I.pin p (amd _ (aom _ hp))
theorem af0{iter:Expr}{body:List Stmt}{wi:TI}{g:TG}{tb:TS}(hp:aqk (model X.prog X.w) X.A X.env X.xe)(hc:X.calm=true)(hi:PI X tg iter wi)(hg:PG X tg g)(hb:hG X body tb)
  (hs:∀x,amn iter X.env x=pure x:=by intro _;rfl):PS X (.For tg iter body [] pos) (N5 wi g tb):=by
 intro pins s σ H D I h;refine wpAny_For (a8 (hi pins s σ H _ I h) fun v s1 h1=>a8 h1 fun EF s2 h2=>?_) hs;obtain⟨it,fp,tn,J,H2,e,I2,T,jW,f2,W,⟨m0,w0⟩,turn⟩:=h2;subst e;have DS:∀{H':Hp},(∀b∈fp,H' b=none)->∀b∈fp,jR X pins H' b:=fun hn b hb=>⟨hn b hb,(f2 b hb).2⟩
 refine codeAny_forLoop_any (fun n s'=>∃i az H',Inv X pins az H' s'/\tn i s'.heap/\(∀b∈fp,H' b=none)/\W i n az H') ?_ m0 ⟨0,σ,H2,I2,jW,fun b hb=>(f2 b hb).1,w0⟩;rintro n s3 ⟨i,fX,H3,I3,O0,O1,w3⟩
 rcases turn i n fX H3 w3 with⟨stop,qn⟩ | ⟨go,N,hN,step⟩
 ·refine anA hp (a8 (T.done X rfl rfl rfl hc i pins s3 fX H3 X.xe I3 (DS O1) O0 stop) fun r s4 ⟨hr,I4⟩=>?_);subst hr;exact anU ⟨fX,H3,I4,qn⟩
 ·refine anA hp (a8 (T.item X rfl rfl rfl hc i pins s3 fX H3 X.xe I3 (DS O1) O0 go) fun r s4 ⟨u,hr,h4⟩=>?_);subst hr;refine anA hp (a8 h4 fun _ s5 ⟨x,H5,I5,r5,y5,tE,Az⟩=>?_);have I5':=I5.pinned (DS Az) (T.obj _ _ tE);refine anA hp (a8 (hg _ s5 fX H5 x u _ I5' r5 (step x H5 y5)) fun _ s6 ⟨ij,H6,I6,q6⟩=>?_);refine anA hp (a8 (hb _ s6 ij H6 _ I6 q6) fun f s7 q7=>?_);have again:∀{kG:St} {H7:Hp},Inv X (pins++uL fp s5.heap) kG H7 s7->N kG H7->∃m,m<n/\∃i az H',Inv X pins az H' s7/\tn i s7.heap/\(∀b∈fp,H' b=none)/\W i m az H':=fun{kG H7} I7 n7=>by
   obtain⟨m',hm,w7⟩:=hN kG H7 n7;refine⟨m',hm,i+1,kG,H7,I7.yK,T.keep _ _ _ tE fun b hb o e=>(I7.pin (b,o) (amd _ (amd _ (yj hb e)))).1,fun b hb=>?_,w7⟩;obtain⟨o,e,d⟩:=T.obj _ _ tE b hb;exact(I7.pin (b,o) (amd _ (amd _ (yj hb e)))).2.1
  cases f with
  | next=>obtain⟨kG,H7,I7,n7⟩:=q7;exact again I7 n7
  | cont=>obtain⟨kG,H7,I7,n7⟩:=q7;exact again I7 n7
  | brk=>obtain⟨kG,H7,I7,q7⟩:=q7;exact⟨kG,H7,I7.yK,q7⟩
  | ret v=>obtain⟨x7,kG,H7,I7,r7,q7⟩:=q7;exact⟨x7,kG,H7,I7.yK,r7,q7⟩
end
abbrev R2:=V->V->Hp->VK->Prop
noncomputable def bI(X:Cx)(f:Value->Value->Sem Value)(r:R2):Prop:=
 ∀(pins:List (Addr×Obj)) (s:ald) (σ:St) (H:Hp) (x y:V) (v u:Value) (Q:VK),Inv X pins σ H s->RelV x v->RelV y u->r x y H Q →
  wpAny (model X.prog X.w) X.A (f v u) (EP X pins σ Q) X.xe s
noncomputable def AA(X:Cx)(f:Value->Sem Value)(r:V->Hp->VK->Prop):Prop:=
 ∀(pins:List (Addr×Obj)) (s:ald) (σ:St) (H:Hp) (x:V) (v:Value) (Q:VK),Inv X pins σ H s->RelV x v->r x H Q →
  wpAny (model X.prog X.w) X.A (f v) (EP X pins σ Q) X.xe s
noncomputable def cW(X:Cx)(f:Value)(r:List V->Hp->VK->Prop):Prop:=
 ∀(pins:List (Addr×Obj)) (s:ald) (σ:St) (H:Hp) (xs:List V) (us:List Value) (Q:VK),Inv X pins σ H s->Vals xs us->r xs H Q →
  wpAny (model X.prog X.w) X.A (call f us) (EP X pins σ Q) X.xe s
noncomputable def ajT(X:Cx)(r:V->Hp->(Bool->Hp->Prop)->Prop):Prop:=
 ∀(pins:List (Addr×Obj)) (s:ald) (σ:St) (H:Hp) (x:V) (v:Value) (Q:Bool->Hp->Prop),Inv X pins σ H s->RelV x v->r x H Q →
  wpAny (model X.prog X.w) X.A (truthy v) (TP X pins σ Q) X.xe s
noncomputable def qm(r:R2)(ta tb:TE):TE:=fun σ H Q=>ta σ H fun x H1=>tb σ H1 fun y H2=>r x y H2 Q
noncomputable def tUn(r:V->Hp->VK->Prop)(ta:TE):TE:=fun σ H Q=>ta σ H fun x H1=>r x H1 Q
noncomputable def rI(C:Int->Int->Prop)(g:Int->Int->V):R2:=fun x y H Q=>∃i j,x=.int i/\y=.int j/\C i j/\Q (g i j) H
noncomputable def jX(g:Int->Int->V):R2:=fun x y H Q=>∃i j,x=.int i/\y=.int j/\Q (g i j) H
noncomputable def rU(g:Int->V):V->Hp->VK->Prop:=fun x H Q=>∃i,x=.int i/\Q (g i) H
section
variable{X:Cx}{a b c:Expr}{ta tb tc:TE}{pos:Pos}
theorem zZ(ha:PE X a ta)(hb:PE X b tb){pins:List (Addr×Obj)}{s:ald}{σ:St}{H:Hp}{R:V->V->Hp->Prop}(I:Inv X pins σ H s)
  (h:ta σ H fun x H1=>tb σ H1 fun y H2=>R x y H2) {Q:Value->ald->Prop} {f:Value->Value->Sem Value}
  (hf:∀v u s2 x y H2,Inv X pins σ H2 s2->RelV x v->RelV y u->R x y H2->wpAny (model X.prog X.w) X.A (f v u) Q X.xe s2) :
  wpAny (model X.prog X.w) X.A (eval a X.env) (fun v bO=>wpAny (model X.prog X.w) X.A (eval b X.env) (fun u wR=>wpAny (model X.prog X.w) X.A (f v u) Q X.xe wR) X.xe bO) X.xe s:=by
 refine a8 (ha pins s σ H _ I h) fun v s1 ⟨x,H1,I1,r1,q1⟩=>?_
 refine a8 (hb pins s1 σ H1 _ I1 q1) fun u s2 ⟨y,H2,I2,r2,q2⟩=>?_
 exact hf v u s2 x y H2 I2 r1 r2 q2
theorem aiv{op:aqZ}{r:R2}(ho:bI X (aoe op) r)(ha:PE X a ta)(hb:PE X b tb):PE X (.BinOp a op b pos) (qm r ta tb):=by
 intro pins s σ H Q I h;exact wpAny_BinOp (zZ ha hb I h fun v u s2 x y H2 I2 rx ry q=>ho pins s2 σ H2 x y v u Q I2 rx ry q)
theorem aiw{op:UnaryOp}{r:V->Hp->VK->Prop}(ho:AA X (unaryOp op) r)(ha:PE X a ta):PE X (.UnaryOp op a pos) (tUn r ta):=by
 intro pins s σ H Q I h;exact UnaryOp_ (a8 (ha pins s σ H _ I h) fun v s1 ⟨x,H1,I1,r1,q1⟩=>ho pins s1 σ H1 x v Q I1 r1 q1)
variable{f:Value->Value->Sem Value}
theorem EG{C:Int->Int->Prop}{g:Int->Int->Int}
  (rule:∀(i j:Int) (t u:Tok) (s:ald) (Q:Value->ald->Prop) (E:Value->ald->Prop),C i j->Q (.int (g i j) s.toks) { s with toks:=s.toks+1 }->wpAny (model X.prog X.w) X.A (f (.int i t) (.int j u)) Q E s) :
  bI X f (rI C fun i j=>.int (g i j)):=by
 intro pins s σ H x y v u Q I rx ry h;obtain⟨i,j,rfl,rfl,hc,q⟩:=h;obtain⟨t,rfl⟩:=rx;obtain⟨t',rfl⟩:=ry;exact rule i j t t' s _ _ hc ⟨.int (g i j),H,I.tok _,⟨_,rfl⟩,q⟩
theorem N6{g:Int->Int->Int}
  (rule:∀(i j:Int) (t u:Tok) (s:ald) (Q:Value->ald->Prop) (E:Value->ald->Prop),Q (.int (g i j) s.toks) { s with toks:=s.toks+1 }->wpAny (model X.prog X.w) X.A (f (.int i t) (.int j u)) Q E s) :
  bI X f (jX fun i j=>.int (g i j)):=by
 intro pins s σ H x y v u Q I rx ry h;obtain⟨i,j,rfl,rfl,q⟩:=h;obtain⟨t,rfl⟩:=rx;obtain⟨t',rfl⟩:=ry;exact rule i j t t' s _ _ ⟨.int (g i j),H,I.tok _,⟨_,rfl⟩,q⟩
theorem z6{g:Int->Int->Bool}
  (rule:∀(i j:Int) (t u:Tok) (s:ald) (Q:Value->ald->Prop) (E:Value->ald->Prop),Q (.bool (g i j)) s->wpAny (model X.prog X.w) X.A (f (.int i t) (.int j u)) Q E s) :
  bI X f (jX fun i j=>.bl (g i j)):=by
 intro pins s σ H x y v u Q I rx ry h;obtain⟨i,j,rfl,rfl,q⟩:=h;obtain⟨t,rfl⟩:=rx;obtain⟨t',rfl⟩:=ry;exact rule i j t t' s _ _ ⟨.bl (g i j),H,I,rfl,q⟩
noncomputable def vq(i j:Int):Prop:=(-(2 ^ 64)<i/\i<2 ^ 64)\/(-(2 ^ 64)<j/\j<2 ^ 64)
theorem vq.ok{i j:Int}(h:vq i j):IntMulOk i j:=by
 rcases h with⟨h1,h2⟩ | ⟨h1,h2⟩
 ·exact .of_left (intBits_le_64 h1 h2)
 ·exact .of_right (intBits_le_64 h1 h2)
theorem af1:bI X (aoe .Add) (jX fun i j=>.int (i+j)):=N6 fun _ _ _ _ _ _ _ q=>add_int q
theorem af2:bI X (aoe .Sub) (jX fun i j=>.int (i-j)):=N6 fun _ _ _ _ _ _ _ q=>sub_int q
theorem af3:bI X (aoe .Mult) (rI vq fun i j=>.int (i*j)):=EG fun _ _ _ _ _ _ _ hc q=>mul_int q hc.ok
theorem adT:bI X (aoe .Mod) (rI (fun _ j=>j≠0) fun i j=>.int (i.fmod j)):=EG fun _ _ _ _ _ _ _ hc q=>mod_int' hc q
theorem unI{f:Value->Sem Value}{g:Int->Int}
  (rule:∀(i:Int) (t:Tok) (s:ald) (Q:Value->ald->Prop) (E:Value->ald->Prop),Q (.int (g i) s.toks) { s with toks:=s.toks+1 }->wpAny (model X.prog X.w) X.A (f (.int i t)) Q E s) :
  AA X f (rU fun i=>.int (g i)):=by
 intro pins s σ H x v Q I rx h;obtain⟨i,rfl,q⟩:=h;obtain⟨t,rfl⟩:=rx;exact rule i t s _ _ ⟨.int (g i),H,I.tok _,⟨_,rfl⟩,q⟩
theorem af4:AA X (unaryOp .USub) (rU fun i=>.int (-i)):=unI fun _ _ _ _ _ q=>neg_int q
end
section
variable{X:Cx}{a b c:Expr}{ta tb tc:TE}{pos:Pos}
theorem L7{pins:List (Addr×Obj)}{σ:St}{H:Hp}{s:ald}{Q:VK}{k k':Bool}(I:Inv X pins σ H s)(q:Q (.bl k) H)(e:k=k'):EP X pins σ Q (.bool k') s:=by
 subst e;exact⟨.bl k,H,I,rfl,q⟩
theorem aix:bI X (ami .Lt) (jX fun i j=>.bl (decide (i<j))):=z6 fun _ _ _ _ _ _ _ q=>lt_int q
theorem aiy:bI X (ami .LtE) (jX fun i j=>.bl (decide (i<=j))):=z6 fun _ _ _ _ _ _ _ q=>le_int q
theorem aiz:bI X (ami .Gt) (jX fun i j=>.bl (decide (j<i))):=z6 fun _ _ _ _ _ _ _ q=>gt_int q
theorem aiA:bI X (ami .GtE) (jX fun i j=>.bl (decide (j<=i))):=z6 fun _ _ _ _ _ _ _ q=>ge_int q
theorem aa8:bI X (ami .In) (fun x y H Q=>∃i j,x=.str i/\y=.str j/\Q (.bl (!(amE j i 0 j.length 1).isEmpty)) H):=by
 intro pins s σ H x y v u Q I rx ry h;obtain⟨i,j,rfl,rfl,q⟩:=h;obtain⟨t,rfl⟩:=rx;obtain⟨t',rfl⟩:=ry;exact in_str (L7 I q rfl)
theorem af5:bI X (ami .Is) (fun x y H Q=>y=.aE/\Q (.bl (decide (x=.aE))) H):=by
 intro pins s σ H x y v u Q I rx ry h;obtain⟨rfl,q⟩:=h;cases ry;refine is_none_gen (L7 I q ?_);cases x <;> first
  | (cases rx;rfl)
  | (obtain⟨t,rfl⟩:=rx;rfl)
variable{r r':R2}
theorem bI.or{f:Value->Value->Sem Value}(h:bI X f r)(h':bI X f r'):bI X f (fun x y H Q=>r x y H Q\/r' x y H Q):=by
 intro pins s σ H x y v u Q I rx ry q
 rcases q with q | q
 ·exact h pins s σ H x y v u Q I rx ry q
 ·exact h' pins s σ H x y v u Q I rx ry q
theorem pB(b:Expr){op:CmpOp}(h:op≠.In:=by decide)(h2:op≠.NotIn:=by decide):amQ op b=false:=by
 have e1:(op==CmpOp.In)=false:=by cases op <;> first | rfl | exact absurd rfl h
 have e2:(op==CmpOp.NotIn)=false:=by cases op <;> first | rfl | exact absurd rfl h2
 cases b <;> simp[amQ,e1,e2]
theorem adU{op:CmpOp}(ho:bI X (ami op) r)(ha:PE X a ta)(hb:PE X b tb)(hm:amQ op b=false):PE X (.Compare a [op] [b] pos) (qm r ta tb):=by
 intro pins s σ H Q I h;exact wpAny_Compare1 (zZ ha hb I h fun v u s2 x y H2 I2 rx ry q=>ho pins s2 σ H2 x y v u Q I2 rx ry q) hm
noncomputable def Dt(t:TE):TT:=fun σ H Q=>t σ H fun x H'=>∃k,x=.bl k/\Q k H'
theorem KP{op:CmpOp}(ho:bI X (ami op) r)(ha:PE X a ta)(hb:PE X b tb)(hm:amQ op b=false):PT X (.Compare a [op] [b] pos) (Dt (qm r ta tb)):=by
 intro pins s σ H Q I h;refine wpAny_isTrue_Compare1 (a8 (ha pins s σ H _ I h) fun v s1 ⟨x,H1,I1,r1,q1⟩=>a8 (hb pins s1 σ H1 _ I1 q1) fun u s2 ⟨y,H2,I2,r2,q2⟩=>
  a8 (ho pins s2 σ H2 x y v u _ I2 r1 r2 q2) fun c s3 ⟨z,H3,I3,r3,k,e,q3⟩=>?_) hm
 subst e;cases r3;exact amA ⟨H3,I3,q3⟩
noncomputable def CY(r r':R2)(ta tb tc:TE):TE:=fun σ H Q=>ta σ H fun x H1=>tb σ H1 fun y H2=>r x y H2 fun z H3=>∃k,z=.bl k /\
 (if k=true then tc σ H3 fun w' H4=>r' y w' H4 Q else Q (.bl false) H3)
theorem acK{op d3:CmpOp}(ho:bI X (ami op) r)(eJ:bI X (ami d3) r')(ha:PE X a ta)(hb:PE X b tb)(hc:PE X c tc)
  (hm:aql [op,d3] [b,c]=false:=by with_unfolding_all rfl):PE X (.Compare a [op,d3] [b,c] pos) (CY r r' ta tb tc):=by
 intro pins s σ H Q I h;refine Compare_chain (a8 (ha pins s σ H _ I h) fun v s1 ⟨x,H1,I1,r1,q1⟩=>chain_link (a8 (hb pins s1 σ H1 _ I1 q1) fun u s2 ⟨y,H2,I2,r2,q2⟩=>
  a8 (ho pins s2 σ H2 x y v u _ I2 r1 r2 q2) fun d s3 ⟨z,H3,I3,r3,k,e,q3⟩=>?_)) hm
 subst e;cases r3;refine amA ?_;cases k with
 | false=>exact ite_ff ⟨.bl false,H3,I3,rfl,q3⟩
 | true=>exact ite_tt (chain_last (a8 (hc pins s3 σ H3 _ I3 q3) fun w' s4 ⟨z',H4,I4,r4,q4⟩=>eJ pins s4 σ H4 y z' u w' Q I4 r2 r4 q4))
theorem acL{op d3:CmpOp}(ho:bI X (ami op) r)(eJ:bI X (ami d3) r')(ha:PE X a ta)(hb:PE X b tb)(hc:PE X c tc)
  (hm:aql [op,d3] [b,c]=false:=by with_unfolding_all rfl):PT X (.Compare a [op,d3] [b,c] pos) (Dt (CY r r' ta tb tc)):=by
 intro pins s σ H Q I h;refine isTrue_chain (a8 (ha pins s σ H _ I h) fun v s1 ⟨x,H1,I1,r1,q1⟩=>test_link (a8 (hb pins s1 σ H1 _ I1 q1) fun u s2 ⟨y,H2,I2,r2,q2⟩=>
  a8 (ho pins s2 σ H2 x y v u _ I2 r1 r2 q2) fun d s3 ⟨z,H3,I3,r3,k,e,q3⟩=>?_)) hm
 subst e;cases r3;refine amA ?_;cases k with
 | false=>
  obtain⟨k',e',q'⟩:=q3;cases e';exact ite_ff ⟨H3,I3,q'⟩
 | true=>
  refine ite_tt (test_last (a8 (hc pins s3 σ H3 _ I3 q3) fun w' s4 ⟨z',H4,I4,r4,q4⟩=>a8 (eJ pins s4 σ H4 y z' u w' _ I4 r2 r4 q4) fun d' s5 ⟨z2,H5,I5,r5,k2,e2,q5⟩=>?_));subst e2;cases r5;exact amA ⟨H5,I5,q5⟩
noncomputable def N7(K:acs)(x:V)(H:Hp)(k:Bool):Prop:=
 match x with
 | .aE=>k=false
 | .bl b=>k=b
 | .int i=>k=(i != 0)
 | .str y=>y.length<=alz/\k=((y.length:Int) != 0)
 | .tu y=>y.size<=alz/\k=((y.size:Int) != 0)
 | .ref p=>(∃xs,bL K H p xs/\k= !xs.isEmpty)\/(∃xs,bT K H p xs/\k= !xs.isEmpty)\/∃kvs,H p=some (.dK kvs)/\k= !kvs.isEmpty
 | _=>False
theorem ZO{κ:Type}{kvs:List (κ×V)}{vs:List (κ×Value)}(r:KV kvs vs):(!vs.isEmpty)= !kvs.isEmpty:=by
 cases r <;> rfl
theorem Io{xs:List V}{its:List Value}(r:Vals xs its):(!its.toArray.isEmpty)= !xs.isEmpty:=by
 cases r <;> simp
theorem pC:(alz:Nat)<2 ^ 63:=by rw[apa];decide
theorem af6:ajT X (fun x H Q=>∃k,N7 X.K x H k/\Q k H):=by
 intro pins s σ H x v Q I rx h;obtain⟨k,e,q⟩:=h;have hl:=pC;have hs:alz=16777216:=apa;cases x with
 | aE=>
  cases rx;have e':k=false:=e;subst e';exact truthy_none ⟨H,I,q⟩
 | bl b=>
  cases rx;have e':k=b:=e;subst e';exact amA ⟨H,I,q⟩
 | int i=>
  obtain⟨t,rfl⟩:=rx;have e':k=(i != 0):=e;subst e';exact PySem.P.truthy_int ⟨H,I,q⟩
 | str y=>
  obtain⟨t,rfl⟩:=rx;obtain⟨hy,e'⟩:y.length<=alz/\k=((y.length:Int) != 0):=e;subst e';exact PySem.P.truthy_str (by omega) ⟨H,I.tok _,q⟩
 | tu y=>
  obtain⟨t,rfl⟩:=rx;obtain⟨hy,e'⟩:y.size<=alz/\k=((y.size:Int) != 0):=e;subst e';exact PySem.W.truthy_bytes (by omega) ⟨H,I.tok _,q⟩
 | ref p=>
  cases rx;have e':(∃xs,bL X.K H p xs/\k= !xs.isEmpty)\/(∃xs,bT X.K H p xs/\k= !xs.isEmpty)\/∃kvs,H p=some (.dK kvs)/\k= !kvs.isEmpty:=e
  rcases e' with⟨xs,hx,e'⟩ | ⟨xs,hx,e'⟩ | ⟨kvs,hx,e'⟩
  ·subst e';obtain⟨its,r,pl,hz⟩:=I.list hx;have b7:=r.length;exact wpAny_truthy_list pl.isList (by simp only[alq];omega) ⟨H,I.tok _,by rw[Io r];exact q⟩
  ·subst e';obtain⟨its,r,pl,hz⟩:=I.tuple hx;have b7:=r.length;exact truthy_tuple pl (by simp only[alq];omega) ⟨H,I.tok _,by rw[Io r];exact q⟩
  ·subst e';obtain⟨hz,hS,vs,r,m⟩:kvs.length<=alz/\(p==anz)=false/\∃vs,KV kvs vs/\s.heap.DictOf (dC X.prog X.w) p vs:=I.aM p _ hx;have b7:kvs.length=vs.length:=apM r;exact wpAny_truthy_dict hS m (by omega) ⟨H,I.tok _,by rw[ZO r];exact q⟩
 | _=>exact(show False from e).elim
theorem acM(ha:PE X a ta)(he:∀whole,isTrue a X.env whole=(do let v <- whole;standAt a.pos;apu [v] (truthy v))) :
  PT X a (fun σ H Q=>ta σ H fun x H'=>∃k,N7 X.K x H' k/\Q k H'):=by
 intro pins s σ H Q I h;exact isTrue_plain (a8 (ha pins s σ H _ I h) fun v s1 ⟨x,H1,I1,r1,q1⟩=>af6 pins s1 σ H1 x v Q I1 r1 q1) (he _)
theorem ZP:bI X (aoe .Add) (fun x y H Q=>∃i j,x=.str i/\y=.str j/\i.length+j.length<=alz/\Q (.str (i++j)) H):=by
 intro pins s σ H x y v u Q I rx ry h;obtain⟨i,j,rfl,rfl,hz,q⟩:=h;obtain⟨t,rfl⟩:=rx;obtain⟨t',rfl⟩:=ry;exact add_str (fun t' tk=>⟨.str (i++j),H,I.tok _,⟨_,rfl⟩,q⟩) hz
theorem vals1{x:V}{us:List Value}(r:Vals [x] us):∃u,us=[u]/\RelV x u:=by
 cases r with
 | cons r1 r2=>cases r2;exact⟨_,rfl,r1⟩
theorem IU:cW X (.type "int") (fun xs H Q=>(∃i,xs=[.int i]/\Q (.int i) H)\/∃k,xs=[.bl k]/\Q (.int (if k then 1 else 0)) H):=by
 intro pins s σ H xs us Q I r h
 rcases h with⟨i,rfl,q⟩ | ⟨k,rfl,q⟩
 ·obtain⟨u,rfl,t,rfl⟩:=vals1 r;exact call_int_int ⟨.int i,H,I,⟨_,rfl⟩,q⟩
 ·obtain⟨u,rfl,r1⟩:=vals1 r;cases r1;exact call_int_bool ⟨.int (if k then 1 else 0),H,I.tok _,⟨_,rfl⟩,q⟩
end
structure sR(h:Heap)(x dx C:Addr)(mA:Str->Option Value):Prop where
 obj:h.get? x=some (ane C dx)
 ns:h.Ns1 dx mA
 ne:dx≠x
theorem IV{dx:Addr}{mA:Str->Option Value}(n:h.Ns1 dx mA):∃od,h.get? dx=some od/\∀name,aqH name od=some (mA name):=by
 obtain⟨o,es,ep,ho,hd,hk,_,hm⟩:=n;refine⟨o,ho,fun name=>?_⟩;have e:=hm name;unfold nsFind findBy at e;rw[<- Array.find?_toList] at e;unfold aqH;rw[hd]
 dsimp only
 split
 ·rename_i y q;rw[q] at e;exact congrArg some e
 ·rename_i q;rw[q] at e;have a:es.toList.any (·.refKey)=false:=by
   rw[List.any_eq_false];intro y hy;obtain⟨z,t,ajU⟩:=hk y (Array.mem_toList_iff.mp hy);simp[DictEntry.refKey,ajU]
  have a':¬es.toList.any (·.refKey)=true:=by rw[a];exact alK
  rw[if_neg a'];exact congrArg some e
variable{C:Addr}
theorem sR.look{x dx:Addr}{mA:Str->Option Value}(I:sR h x dx C mA):∃od,PySem.W.InstAt h x (ane C dx) C (some od)/\∀name,aqH name od=some (mA name):=
 let ⟨od,ho,hl⟩:=IV I.ns
 ⟨od,⟨I.obj,rfl,rfl,ho⟩,hl⟩
section
variable{prog:amb}{w:World}{A:amz}{E:Value->ald->Prop}{s:ald}{K:acs}{x dx C f:Addr}{mA:Str->Option Value}{name:Str}{v:Value}
theorem get_map{expr:Bool}{Q:Value->ald->Prop}(X:K.In s.heap)(I:sR s.heap x dx C mA)(hg:aoP K C name=true)(hh:anB K C=true)
  (ha:alN K (.ref C) name=some none) (hv:mA name=some v) (hv':apY v=true) (h:Q v { s with toks:=s.toks+1 }) :
  wpAny (model prog w) A (getAttr (.ref x) name expr) Q E s:=by
 obtain⟨od,J,hl⟩:=I.look;exact PySem.W.get_value X J (PySem.W.plainGet_of hg).1 (PySem.W.findObj_own hh ha rfl (by rw[hl,hv])) hv' h
theorem adV{ns:List Str}{Q:Unit->ald->Prop}(X:K.In s.heap)(I:sR s.heap x dx C mA)
  (hs:alN K (.ref C) "__setattr__"=some (some (.builtin "object.__setattr__"))) (hp:apD K C=true) (ht:apb K C name=some none) (hh:anB K C=true)
  (hw:arz mA ns) (hsz:ns.length<=alz)
  (h:∀h',sR h' x dx C (fun y=>if y=name then some v else mA y)->aoJ dx s.heap h'->Q () { s with heap:=h',toks:=s.toks+2 }) :
  wpAny (model prog w) A (setAttr (.ref x) name v) Q E s:=by
 obtain⟨od,J,hl⟩:=I.look;refine PySem.W.set_plain X J hs (PySem.W.osa_open (s:={ s with toks:=s.toks+1 }) (r:=none) X J hp ht fun b=>?_);obtain⟨cd,hc,mG⟩:=PySem.W.any_some hh;have hx:s.heap.get? x=some ⟨.ref C,some dx,.plain,#[]⟩:=I.obj;refine abB (alh (abB (abB (aqI hx (abB (ara (s:={ s with toks:=s.toks+1 }) (PySem.W.looks_clsIn X hc) ?_))))));rw[mG];refine alh (a:=some dx) (abB (alh (abB ?_)));refine wpAny_nsSet1 (s:={ s with toks:=s.toks+1 }) I.ns fun h' oa cY=>?_
 obtain⟨oD,esD,epD,EH,EI,EJ⟩:=oa.count (PySem.Within.cons name v hw);refine abB (wpAny_lookBehind EH (by rw[EI];exact pastItsLine_dict (alT EJ (by rw[alA];omega))) ?_);exact alh (h _ ⟨(cY.2 _ (amT I.ne)).trans I.obj,oa,I.ne⟩ cY)
theorem acN{R:Result->ald->Prop}{vs:List Value}{kw:List (Str×Value)}(X:K.In s.heap)(hm:aqm K C=true)
  (hi:alN K (.ref C) "__init__"=some (some (.ref f))) (hf:anM K (.ref f)=some (.type "function"))
  (h:apv (model prog w) (A.under (.builtin "type.__call__" ⟨.ref C::vs,kw⟩)) (.call (.ref f) ⟨.ref (s.heap.objs.size+1)::vs,kw⟩) (PySem.W.InitBack (s.heap.objs.size+1) R)
   { s with heap:=(s.heap.push amP).push (ane C s.heap.objs.size) }) :
  apv (model prog w) A (.call (.ref C) ⟨vs,kw⟩) R s:=by
 obtain⟨hh,g,d,t,os⟩:=s;exact PySem.W.make_core (PySem.W.makes_of X hm) (aqC X hi) (fun self=>PySem.W.bind_fn X self hf) (.inl rfl) h
end
noncomputable def dM(f:Str)(v:V):List (Str×V)->List (Str×V)
 | []=>[(f,v)]
 | (g,x)::r=>if g=f then(g,v)::r else(g,x)::dM f v r
theorem HL(f g:Str)(v:V):∀fs:List (Str×V),(dM f v fs).lookup g=if g=f then some v else fs.lookup g
 | []=>by
  show aml g [(f,v)]=_;by_cases h:g=f
  ·have hb:(g==f)=true:=beq_iff_eq.mpr h;simp only[aml,hb,if_pos h]
  ·have hb:(g==f)=false:=beq_eq_false_iff_ne.mpr h;simp only[aml,hb,if_neg h]
 | (k,x)::r=>by
  have ih:=HL f g v r;rw[show dM f v ((k,x)::r)=(if k=f then(k,v)::r else(k,x)::dM f v r) from rfl];by_cases hk:k=f
  ·rw[if_pos hk];by_cases h:g=k
   ·have hb:(g==k)=true:=beq_iff_eq.mpr h;simp only[aml,hb,if_pos (h.trans hk)]
   ·have hb:(g==k)=false:=beq_eq_false_iff_ne.mpr h;simp only[aml,hb,if_neg (fun e:g=f=>h (e.trans hk.symm))]
  ·rw[if_neg hk];by_cases h:g=k
   ·have hb:(g==k)=true:=beq_iff_eq.mpr h;simp only[aml,hb,if_neg (fun e:g=f=>hk (h.symm.trans e))]
   ·have hb:(g==k)=false:=beq_eq_false_iff_ne.mpr h;simp only[aml,hb];exact ih
theorem BV(f:Str)(v:V):∀fs:List (Str×V),f∈(dM f v fs).map (·.1)/\∀g,g∈fs.map (·.1)->g∈(dM f v fs).map (·.1)
 | []=>⟨by simp[dM],fun g h=>by simp at h⟩
 | (k,x)::r=>by
  obtain⟨i1,i2⟩:=BV f v r;rw[show dM f v ((k,x)::r)=(if k=f then(k,v)::r else(k,x)::dM f v r) from rfl];by_cases hk:k=f
  ·rw[if_pos hk];subst hk;exact⟨by simp,fun g h=>by simpa using h⟩
  ·rw[if_neg hk];refine⟨?_,fun g h=>?_⟩
   ·rw[alO];exact alE _ i1
   ·rw[alO] at h ⊢
    rcases alD.mp h with e | e
    ·exact alD.mpr (.inl e)
    ·exact alE _ (i2 g e)
theorem HM(f:Str)(v:V):∀fs:List (Str×V),(dM f v fs).length<=fs.length+1
 | []=>by simp[dM]
 | (k,x)::r=>by
  have ih:=HM f v r;rw[show dM f v ((k,x)::r)=(if k=f then(k,v)::r else(k,x)::dM f v r) from rfl];by_cases hk:k=f
  ·rw[if_pos hk,alA,alA];omega
  ·rw[if_neg hk,alA,alA];omega
theorem fP.some_of{v:V}{o:Option Value}(r:fP (some v) o):∃u,o=some u/\RelV v u:=by
 cases o with
 | none=>exact(show False from r).elim
 | some u=>exact⟨u,rfl,r⟩
theorem IW{v:V}{u:Value}(r:RelV v u):apY u=true:=by
 cases v with
 | aE=>cases(show u=alW from r);rfl
 | bl b=>cases(show u=aro b from r);rfl
 | int i=>obtain⟨t,e⟩:=(show ∃t,u=aoI i t from r);cases e;rfl
 | str x=>obtain⟨t,e⟩:=(show ∃t,u=aqh x t from r);cases e;rfl
 | tu b=>obtain⟨t,e⟩:=(show ∃t,u=Value.bytes b t from r);cases e;rfl
 | Au b=>obtain⟨t,e⟩:=(show ∃t,u=Value.float b t from r);cases e;rfl
 | ref a=>cases(show u=alJ a from r);rfl
 | ty n=>cases(show u=Value.type n from r);rfl
section
variable{P:amb}{w:World}{H H':Hp}{h h':Heap}{a C dx:Addr}{fs tD:List (Str×V)}
theorem KQ(aM:cC P w H h)(e:H a=some (.ins C dx fs)):∃mA,sR h a dx C mA/\(∀f,fP (fs.lookup f) (mA f))/\arz mA (fs.map (·.1))/\fs.length<=1000/\H dx=some (.own a):=by
 obtain⟨d,z,ne,ob,mA,n,r,q⟩:=(show de P w H h a (.ins C dx fs) from aM a _ e)
 exact⟨mA,⟨ob,n,ne⟩,r,q,z,d⟩
end
structure iR(K:acs)(C:Addr):Prop where
 pg:aoP K C arb=true
 hd:anB K C=true
 po:apD K C=true
 sa:alN K (.ref C) "__setattr__"=some (some (.builtin "object.__setattr__"))
theorem iR.get(c:iR K C)(f:Str):aoP K C f=true:=c.pg
noncomputable def eU(K:acs)(C:Addr)(f:Str):Prop:=alN K (.ref C) f=some none
theorem eU.aiB{f:Str}(n:eU K C f):apb K C f=some none:=by
 unfold apb;rw[show alN K (.ref C) f=some none from n];rfl
section
variable{X:Cx}{pins:List (Addr×Obj)}{σ:St}{H:Hp}{s:ald}{a C dx:Addr}{fs:List (Str×V)}{f:Str}{v:V}{A:amz}{E:Value->ald->Prop}
theorem Ip{b:Bool}{Q:Value->ald->Prop}(I:Inv X pins σ H s)(e:H a=some (.ins C dx fs))(c:iR X.K C)(n:eU X.K C f)(l:fs.lookup f=some v)
  (h:∀u s',Inv X pins σ H s'->RelV v u->Q u s'):wpAny (model X.prog X.w) A (getAttr (.ref a) f b) Q E s:=by
 obtain⟨mA,O,r,_,_,_⟩:=KQ I.aM e;obtain⟨u,hu,ru⟩:=fP.some_of (v:=v) (o:=mA f) (by rw[<- l];exact r f);exact get_map I.cD O (c.get f) c.hd n hu (IW ru) (h u _ (I.tok _) ru)
theorem Iq{y:V}{u:Value}{Q:Unit->ald->Prop}(I:Inv X pins σ H s)(e:H a=some (.ins C dx fs))(c:iR X.K C)(n:eU X.K C f)(hl:fs.length<1000)(ry:RelV y u)
  (h:∀s',Inv X pins σ (upd H a (.ins C dx (dM f y fs))) s'->Q () s'):wpAny (model X.prog X.w) A (setAttr (.ref a) f u) Q E s:=by
 obtain⟨mA,O,r,wi,_,ho⟩:=KQ I.aM e;have hz:(fs.map (·.1)).length<=sizeLine:=by rw[alg,apa];omega
 refine adV I.cD O c.sa c.po n.aiB c.hd wi hz fun h' O' sb=>h _ ?_
 have hd:∃o,h'.get? dx=some o:=let ⟨o,_,_,e',_⟩:=O'.ns;⟨o,e'⟩
 refine I.write (x:=a) (e:=dx) (by rw[e];exact aof) (.inr ho) (fun b q hb z=>(sb.2 b hb).trans z) hd ?_;refine⟨by rw[bw O.ne];exact ho,?_,O.ne,O'.obj,_,O'.ns,fun g=>?_,fun g hg=>?_⟩
 ·have:=HM f y fs;omega
 ·show fP ((dM f y fs).lookup g) (if g=f then some u else mA g);rw[HL];by_cases q:g=f
  ·rw[if_pos q,if_pos q];exact ry
  ·rw[if_neg q,if_neg q];exact r g
 ·by_cases q:g=f
  ·rw[q];exact(BV f y fs).1
  ·refine(BV f y fs).2 g (wi g fun z=>hg ?_);show(if g=f then some u else mA g)=none;rw[if_neg q];exact z
theorem Inv.made(I:Inv X pins σ H s):Inv X pins σ (upd (upd H s.heap.objs.size (.own (s.heap.objs.size+1))) (s.heap.objs.size+1) (.ins C s.heap.objs.size []))
  { s with heap:=(s.heap.push amP).push (ane C s.heap.objs.size) }:=by
 have e1:(s.heap.push amP).get? s.heap.objs.size=some PySem.W.emptyDict:=alG s.heap rfl;have e2:((s.heap.push amP).push (ane C s.heap.objs.size)).get? (s.heap.objs.size+1)=some (ane C s.heap.objs.size):=by
  have:=alG (s.heap.push amP) (o:=ane C s.heap.objs.size) rfl
  rwa [amR] at this
 have e3:(s.heap.push amP).Ns s.heap.objs.size (fun _=>none):=⟨amP,#[],_,e1,rfl,(fun e he=>absurd he (by simp)),fun _=>rfl⟩
 have I1:=I.laid (a:=s.heap.objs.size) (o:=.own (s.heap.objs.size+1)) (h':=s.heap.push amP) (t':=s.toks) (fun b u q=>alb _ q) (ali _) ⟨_,e1⟩;refine I1.laid (a:=s.heap.objs.size+1) (o:=.ins C s.heap.objs.size []) (t':=s.toks) (fun b u q=>alb _ q) (apm (amR _ _)) ?_;have ne:s.heap.objs.size≠s.heap.objs.size+1:=alV (amK _);refine⟨by rw[bw ne,bP],ant _,ne,e2,fun _=>none,(arp e3).at fun o q=>alb _ q,fun _=>aof,fun y hy=>absurd rfl hy⟩
theorem KR{prog:amb}{w:World}{env:Env}{e:Expr}{f:Str}{pos:Pos}{s:ald}{Q:Value->ald->Prop}(hb:amY e f env (eval e env)=eval e env)
  (h:wpAny (model prog w) A (eval e env) (fun o bO=>wpAny (model prog w) A (getAttr o f true) Q E bO) E s):wpAny (model prog w) A (eval (.Attribute e f pos) env) Q E s:=
 Attribute_any_ h (by rw[arm_eval_Attribute,hb])
end
noncomputable def ajV(K:acs)(ta:TE)(f:Str):TE:=fun σ H Q=>ta σ H fun x H1=>∃a C dx fs v,x=.ref a/\H1 a=some (.ins C dx fs)/\iR K C/\eU K C f/\fs.lookup f=some v/\Q v H1
noncomputable def ajW(K:acs)(ta tv:TE)(f:Str):TS:=fun D σ H=>tv σ H fun y H1=>ta σ H1 fun x H2=>∃a C dx fs,x=.ref a/\H2 a=some (.ins C dx fs)/\iR K C/\eU K C f/\fs.length<1000 /\
 D.nx σ (upd H2 a (.ins C dx (dM f y fs)))
noncomputable def vt(X:Cx)(op:aqZ)(rd:V->V->Hp->VK->Prop):Prop:=
 ∀(pins:List (Addr×Obj)) (s:ald) (σ:St) (H:Hp) (x y:V) (u v:Value) (Q:VK),Inv X pins σ H s->RelV x u->RelV y v->rd x y H Q->wpAny (model X.prog X.w) X.A (inplaceOp op u v) (EP X pins σ Q) X.xe s
noncomputable def adW(K:acs)(ta tv:TE)(rd:V->V->Hp->VK->Prop)(f:Str):TS:=fun D σ H=>ta σ H fun x H1=>∃a C dx fs v,x=.ref a/\H1 a=some (.ins C dx fs)/\iR K C/\eU K C f/\fs.lookup f=some v /\
 tv σ H1 fun y H2=>rd v y H2 fun z H3=>∃EK tD,H3 a=some (.ins C EK tD)/\tD.length<1000/\D.nx σ (upd H3 a (.ins C EK (dM f z tD)))
section
variable{X:Cx}{o e value:Expr}{f:Str}{pos pos' z7:Pos}{ta tv:TE}
theorem af7(he:PE X e ta)(hb:amY e f X.env (eval e X.env)=eval e X.env):PE X (.Attribute e f pos) (ajV X.K ta f):=by
 intro pins s σ H Q I h;refine KR hb (a8 (he pins s σ H _ I h) fun u s1 ⟨x,H1,I1,rx,a,C,dx,fs,v,ex,ea,c,n,l,q⟩=>?_);subst ex;obtain rfl:u=alJ a:=rx;exact Ip I1 ea c n l fun u' s2 I2 ru=>⟨v,H1,I2,ru,q⟩
theorem af8(ha:PE X o ta)(hv:PE X value tv)(hs:anl value (some (.Attribute o f pos')) pos.line X.env=pure false):PS X (.Assign [.Attribute o f pos'] value pos) (ajW X.K ta tv f):=by
 intro pins s σ H D I h;refine aoC (a8 (hv pins s σ H _ I h) fun u s1 ⟨y,H1,I1,ry,q⟩=>a8 (ha pins s1 σ H1 _ I1 q) fun ov s2 ⟨x,H2,I2,rx,a,C,dx,fs,ex,ea,c,n,l,q2⟩=>?_) hs;subst ex;obtain rfl:ov=alJ a:=rx;exact Iq I2 ea c n l ry fun s3 I3=>⟨σ,_,I3,q2⟩
theorem aa9{op:aqZ}{rd:V->V->Hp->VK->Prop}(ha:PE X o ta)(hv:PE X value tv)(vR:vt X op rd):PS X (.AugAssign (.Attribute o f z7) op value pos) (adW X.K ta tv rd f):=by
 intro pins s σ H D I h;refine wpAny_AugAssign_AttributeAny (a8 (ha pins s σ H _ I h) fun ov s1 ⟨x,H1,I1,rx,a,C,dx,fs,v,ex,ea,c,n,l,q⟩=>?_);subst ex;obtain rfl:ov=alJ a:=rx;refine Ip I1 ea c n l fun u s2 I2 ru=>a8 (hv pins s2 σ H1 _ I2 q) fun w3 s3 ⟨y,H2,I3,ry,q3⟩=>a8 (vR pins s3 σ H2 v y u w3 _ I3 ru ry q3) fun w4 s4 ⟨z,H3,I4,rz,EK,tD,ea',l',q4⟩=>?_
 exact Iq I4 ea' c n l' rz fun s5 I5=>⟨σ,_,I5,q4⟩
noncomputable def N8:V->V->Hp->VK->Prop:=fun x y H Q=>∃i j,x=.int i/\y=.int j/\Q (.int (i+j)) H
noncomputable def N9:V->V->Hp->VK->Prop:=fun x y H Q=>∃i j,x=.int i/\y=.int j/\Q (.int (i-j)) H
theorem L8:vt X .Add N8:=by
 rintro pins s σ H x y u v Q I rx ry ⟨i,j,rfl,rfl,q⟩;obtain⟨t,rfl⟩:=(show ∃t,u=aoI i t from rx)
 obtain⟨t',rfl⟩:=(show ∃t',v=aoI j t' from ry)
 exact PyProof.Rows.iadd_int ⟨.int (i+j),H,I.tok _,⟨_,rfl⟩,q⟩
theorem af9:vt X .Sub N9:=by
 rintro pins s σ H x y u v Q I rx ry ⟨i,j,rfl,rfl,q⟩;obtain⟨t,rfl⟩:=(show ∃t,u=aoI i t from rx)
 obtain⟨t',rfl⟩:=(show ∃t',v=aoI j t' from ry)
 exact PyProof.Rows.isub_int ⟨.int (i-j),H,I.tok _,⟨_,rfl⟩,q⟩
end
structure cQ(k:Nat)(A:amz):Prop where
 hd:A.handled=none
 dp:A.depth+3*k+5<recursionLimit
 un:A.units+16*k+200<cLine
variable{k:Nat}
theorem cQ.mono{j:Nat}(r:cQ k A)(h:j<=k):cQ j A:=⟨r.hd,by have:=r.dp;omega,by have:=r.un;omega⟩
theorem cQ.deeper{k:Nat}{A:amz}(r:cQ (k+1) A)(env:Env):cQ k (A.deeper env):=
 ⟨r.hd,by have:=r.dp;show A.depth+1+3*k+5<_;omega,by have:=r.un;show A.units+3+16*k+200<_;omega⟩
variable{us:List Value}
theorem ZQ{kw:List (Str×Value)}:(A.under (.builtin "type.__call__" ⟨.ref C::us,kw⟩)).depth=A.depth+1:=by
 first | rfl | simp[arB,Code.weight,Code.isCreation,Code.isGuard,Code.isCaller,Code.frames,arC,guardIds]
theorem ZR{kw:List (Str×Value)}:(A.under (.builtin "type.__call__" ⟨.ref C::us,kw⟩)).units=A.units+1:=by
 first | rfl | simp[arB,Code.cUnits,Code.frames,arC]
theorem cQ.make(r:cQ (k+1) A)(C:Addr)(us:List Value)(kw:List (Str×Value)):cQ k (A.under (.builtin "type.__call__" ⟨.ref C::us,kw⟩)):=
 ⟨r.hd,by have:=r.dp;rw[ZQ];omega,by have:=r.un;rw[ZR];omega⟩
theorem cQ.depth{k:Nat}{A:amz}(r:cQ k A):A.depth<recursionLimit:=by have:=r.dp;omega
theorem cQ.units{k:Nat}{A:amz}(r:cQ k A):A.units+64<cLine:=by have:=r.un;omega
noncomputable def Oa:TA:=fun _ H Q=>Q [] H
noncomputable def Nc(ta:TE)(tr:TA):TA:=fun σ H Q=>ta σ H fun x H1=>tr σ H1 fun xs H2=>Q (x::xs) H2
section
variable{X:Cx}{e:Expr}{es:List Expr}{te:TE}{t:TA}{pos:Pos}
theorem uM:PA X [] Oa:=fun _ _ _ _ H Q I h=>Calls.spliced_nil ⟨[],H,I,.nil,h⟩
theorem nu(ha:PE X e te)(hr:PA X es t)(hs:alI (e::es) X.env=(false,eval e X.env)::alI es X.env:=by rfl):PA X (e::es) (Nc te t):=by
 intro pos pins s σ H Q I h;rw[hs];show wpAny _ _ (spliced ((false,eval e X.env)::aou pos (alI es X.env))) _ _ s;refine Calls.spliced_cons (a8 (ha pins s σ H _ I h) fun u s1 ⟨x,H1,I1,r1,q1⟩=>?_);exact a8 (hr pos pins s1 σ H1 _ I1 q1) fun us s2 ⟨xs,H2,I2,r2,q2⟩=>⟨x::xs,H2,I2,.cons r1 r2,q2⟩
noncomputable def ajX(t:TA):TE:=fun σ H Q=>t σ H fun xs H1=>xs.length<=alz/\∀p,H1 p=none->Q (.ref p) (upd H1 p (.tup xs))
noncomputable def ajY(t:TA):TE:=fun σ H Q=>t σ H fun xs H1=>xs.length<=alz/\∀p,H1 p=none->Q (.ref p) (upd H1 p (.lst xs))
theorem aga{x1}(h:PA X es t):PE X (.Tuple es x1 pos) (ajX t):=by
 intro pins s σ H Q I hq;refine wpAny_Tuple_spliced (a8 (h pos pins s σ H _ I hq) fun us s1 ⟨xs,H1,I1,r,z,q⟩=>⟨by rw[<- r.length];exact z,?_⟩);have hf:H1 s1.heap.objs.size=none:=I1.aM.fresh (ali _);refine⟨.ref s1.heap.objs.size,upd H1 s1.heap.objs.size (.tup xs),I1.laid (t':=s1.toks) (fun b u e=>alb _ e) (ali _) ?_,rfl,q _ hf⟩;exact⟨z,us,r,⟨_,alG _ rfl,rfl,_,rfl⟩⟩
theorem agb(h:PA X es t):PE X (.List es pos) (ajY t):=by
 intro pins s σ H Q I hq;refine wpAny_List_spliced (a8 (h pos pins s σ H _ I hq) fun us s1 ⟨xs,H1,I1,r,z,q⟩=>⟨by rw[<- r.length];exact z,?_⟩);have hf:H1 s1.heap.objs.size=none:=I1.aM.fresh (ali _);refine⟨.ref s1.heap.objs.size,upd H1 s1.heap.objs.size (.lst xs),I1.laid (t':=s1.toks) (fun b u e=>alb _ e) (ali _) ?_,rfl,q _ hf⟩;exact⟨z,us,0,r,alG _ rfl⟩
end
abbrev Sp:=List V->Hp->VK->XK->Prop
abbrev mJ:=List Env->Hp->ald->XK->Value->ald->Prop
structure pX(P:amb)(w:World)(K:acs)(mg:Str->Option Value)(base:Heap)(A:amz)(outer:List Env)(s:ald)(H:Hp):Prop where
 frames:A.frames=some outer
 mod:Mod K mg base
 bs:∀b o,base.get? b=some o->s.heap.get? b=some o/\H b=none
 ku:base.objs.size<=s.heap.objs.size
 fQ:s.heap.FunFrames base outer
 lr:∀b∈df outer,H b=none
 aM:cC P w H s.heap
 bare:apN s.gens
noncomputable def CE(outer:List Env)(P:amb)(w:World)(H:Hp)(s:ald)(Q:VK)(u:Value)(s':ald):Prop:=
 ∃v H',s'.os=s.os/\apN s'.gens/\Un (df outer) [] H H' s.heap s'.heap/\cC P w H' s'.heap/\RelV v u/\Q v H'
noncomputable def CR(CX:mJ)(outer:List Env)(P:amb)(w:World)(H:Hp)(s:ald)(Q:VK)(E:XK)(r:Result)(s':ald):Prop:=
 match r with
 | .ok (.ret u)=>CE outer P w H s Q u s'
 | .ok _=>False
 | .error e=>CX outer H s E e s'
structure bK(P:amb)(w:World)(K:acs)(mg:Str->Option Value)(base:Heap)(CX:mJ)(k:Nat)(f:Addr)(fd:alM)(ps:List Str)(sp:Sp):Prop where
 len:∀vs H Q E,sp vs H Q E->vs.length=ps.length
 run:∀(A:amz) (outer:List Env) (s:ald) (H:Hp) (args:Args) (us:List Value) (vs:List V) (Q:VK) (E:XK),cQ k A->pX P w K mg base A outer s H->BindsTo s fd args (ps.zip us)->Vals vs us->sp vs H Q E →
  apv (model P w) A (.call (.ref f) args) (CR CX outer P w H s Q E) s
variable{mg:Str->Option Value}
theorem pX.make{w:World}{base:Heap}{outer:List Env}{s:ald}(e:pX P w K mg base A outer s H)(C:Addr)(us:List Value)(kw:List (Str×Value)) :
  pX P w K mg base (A.under (.builtin "type.__call__" ⟨.ref C::us,kw⟩)) outer s H:=⟨by first | exact e.frames | (simpa[arB,Code.envs,arC,pushEnvs] using e.frames),e.mod,e.bs,e.ku,e.fQ,e.lr,e.aM,e.bare⟩
section
variable{X:Cx}{pins:List (Addr×Obj)}{σ:St}{H:Hp}{s s':ald}
theorem Inv.DT(I:Inv X pins σ H s):pX X.prog X.w X.K X.mg X.base X.A X.stack s H:=
 ⟨I.ok.frames,I.ok.mod,I.bs,alT I.ok.ku I.sz,I.stack,I.uD,I.aM,I.bare⟩
theorem Inv.after{Q:VK}{u:Value}(I:Inv X pins σ H s)(h:CE X.stack X.prog X.w H s Q u s'):EP X pins σ Q u s':=by
 obtain⟨v,H',os,bare,un,aM,r,q⟩:=h;obtain⟨hh,g,d,t,os'⟩:=s';obtain rfl:os'=s.os:=os;exact⟨v,H',I.call (h':=hh) (g':=g) (d':=d) (t':=t) (ch:=[]) un aM bare (fun b z=>absurd z (by simp)),r,q⟩
end
noncomputable def aiC(C:Addr)(sp:Sp)(dvs:List V)(E:XK)(t:TA):TE:=fun σ H Q=>t σ H fun vs H1=>∀x dx,H1 x=none->H1 dx=none->dx≠x →
 sp (.ref x::(vs++dvs)) (upd (upd H1 dx (.own x)) x (.ins C dx [])) (fun v H2=>v=.aE/\Q (.ref x) H2) E
noncomputable def Binds(K:acs)(fd:alM)(ps:List Str)(ds:List Value):Prop:=
 ∀(s:ald) (us:List Value),K.In s.heap->(us++ds).length=ps.length->BindsTo s fd ⟨us,[]⟩ (ps.zip (us++ds))
theorem Binds.all{fd:alM}{ps:List Str}(h:∀us:List Value,us.length=ps.length->bindArgs fd ⟨us,[]⟩=pure (ps.zip us)):Binds K fd ps []:=fun s us _ hl=>by
 rw[anC] at hl ⊢;exact .of_eq (h us hl)
noncomputable def L9(CX:mJ)(X:Cx)(E:XK):Prop:=∀(pins:List (Addr×Obj)) (σ:St) (H:Hp) (s:ald) (e:Value) (s':ald),Inv X pins σ H s->CX X.stack H s E e s'->X.xe e s'
section
variable{X:Cx}{CX:mJ}{k:Nat}{f C:Addr}{fd:alM}{ps:List Str}{sp:Sp}{dvs:List V}{ds:List Value}{E:XK}{x m:Str}{p pos apos:Pos}{e o:Expr}{es:List Expr}{ta:TE}{t:TA}
structure Mk(K:acs)(C f:Addr):Prop where
 makes:aqm K C=true
 init:alN K (.ref C) "__init__"=some (some (.ref f))
 fn:aov K (.ref f)=true
 kp:alm K (.ref C)=true
theorem acO{pins:List (Addr×Obj)}{σ:St}{H:Hp}{s:ald}{Q:VK}{us:List Value}{vs:List V}(M:Mk X.K C f)(F:bK X.prog X.w X.K X.mg X.base CX k f fd ps sp)(hr:cQ (k+1) X.A)(hb:Binds X.K fd ps ds)(hd:Vals dvs ds)
  (hx:L9 CX X E) (I:Inv X pins σ H s) (r:Vals vs us)
  (h:∀x dx,H x=none->H dx=none->dx≠x->sp (.ref x::(vs++dvs)) (upd (upd H dx (.own x)) x (.ins C dx [])) (fun v H2=>v=.aE/\Q (.ref x) H2) E) :
  wpAny (model X.prog X.w) X.A (call (.ref C) us) (EP X pins σ Q) X.xe s:=by
 have hq:=h (s.heap.objs.size+1) s.heap.objs.size (I.aM.fresh (aoD _)) (I.aM.fresh (ali _)) (alV (amK _));have I2:=Inv.made (C:=C) I;have r2:Vals (V.ref (s.heap.objs.size+1)::(vs++dvs)) (alJ (s.heap.objs.size+1)::(us++ds)):=.cons rfl (r.append hd);have hl:(alJ (s.heap.objs.size+1)::us++ds).length=ps.length:=by
  have e:=r2.length;rw[F.len _ _ _ _ hq] at e;exact e.symm
 refine aoE (acN (f:=f) I.cD M.makes M.init (beq_iff_eq.mp M.fn) (aoK (F.run _ X.stack _ _ ⟨alJ (s.heap.objs.size+1)::us,[]⟩ (alJ (s.heap.objs.size+1)::(us++ds)) _ _ E (hr.make C us [])
  (I2.DT.make C us []) (hb _ (alJ (s.heap.objs.size+1)::us) I2.cD hl) r2 hq) fun r s' kx=>?_))
 cases r with
 | error e=>exact hx pins σ _ _ e s' I2 kx
 | ok fl=>
  cases fl with
  | ret u=>
   obtain⟨v,H',I3,rv,ev,q3⟩:=I2.after kx;subst ev;exact⟨rv,⟨V.ref (s.heap.objs.size+1),H',I3,rfl,q3⟩⟩
  | next=>exact anc kx
  | brk=>exact anc kx
  | cont=>exact anc kx
theorem adX(M:Mk X.K C f)(F:bK X.prog X.w X.K X.mg X.base CX k f fd ps sp)(hr:cQ (k+1) X.A)(hg:Gl X x)(hm:X.mg x=some (.ref C))(hb:Binds X.K fd ps ds)(hd:Vals dvs ds)(hx:L9 CX X E)
  (ha:PA X (e::es) t) (bU:(x==("__debug__":Str))=false:=by decide) (he:alI (e::es) X.env=(false,eval e X.env)::alI es X.env:=by rfl) (hpl:(aou pos (alI es X.env)).any (·.1)=false:=by rfl) :
  PE X (.Call (.Name x p) (e::es) [] pos) (aiC C sp dvs E t):=by
 intro pins s σ H Q I h;refine anS (pj I hg hm ?_ bU);refine apn (h₀:=X.base) I.ok.mod.dF M.kp (a8 (ha pos pins s σ H _ I h) fun us s1 ⟨vs,H1,I1,r,q⟩=>⟨I1.cD,?_⟩) he hpl;exact acO M F hr hb hd hx I1 r q
end
structure ck(N P:List Str)(sc:Scope):Prop where
 kind:sc.kind=.function
 co:sc.isCoroutine=false
 gen:sc.isGenerator=false
 nd:N.Nodup
 pre:N.take P.length=P
 EL:∀x∈P,sc.names.lookup x=some .local\/sc.names.lookup x=some .cell
 agc:∀y∈sc.names,y.2≠.free
theorem IX{kindOf:Str->Option aog}{x:Str}:∀{binds:List (Str×Value)} {m:Str->Option Value},(∀v,(x,v)∉binds)->bindL kindOf binds m x=m x
 | [],_,_=>rfl
 | (n,v)::r,m,h=>by
  unfold bindL;rw[IX fun w hw=>h w (alE _ hw)];split
  ·have:x≠n:=by rintro rfl;exact h v amc
   simp[this]
  ·rfl
theorem IY{kindOf:Str->Option aog}{x:Str}:∀{binds:List (Str×Value)} {m:Str->Option Value},(∀v,(x,v)∉binds)->bindC kindOf binds m x=m x
 | [],_,_=>rfl
 | (n,v)::r,m,h=>by
  unfold bindC;rw[IY fun w hw=>h w (alE _ hw)];split
  ·rfl
  ·have:x≠n:=by rintro rfl;exact h v amc
   simp[this]
theorem IZ{kindOf:Str->Option aog}{x:Str}{v:Value}:∀{P:List Str} {vs:List Value} {i:Nat} {m:Str->Option Value},P.Nodup->P[i]? =some x->vs[i]? =some v->kindOf x=some .local →
  bindL kindOf (P.zip vs) m x=some v
 | [],_,_,_,_,h,_,_=>by simp at h
 | _::_,[],_,_,_,_,h,_=>by simp at h
 | p::P,w::vs,0,m,nd,h1,h2,hk=>by
  simp at h1 h2;subst h1;subst h2
  show bindL kindOf ((p,w)::P.zip vs) m p=_;unfold bindL;rw[IX fun v hv=>(anV.mp nd).1 (aqn hv).1,if_pos hk];simp
 | p::P,w::vs,i+1,m,nd,h1,h2,hk=>by
  show bindL kindOf ((p,w)::P.zip vs) m x=_;unfold bindL;exact IZ (i:=i) (anV.mp nd).2 (by simpa using h1) (by simpa using h2) hk
theorem Ja{kindOf:Str->Option aog}{x:Str}{v:Value}:∀{P:List Str} {vs:List Value} {i:Nat} {m:Str->Option Value},P.Nodup->P[i]? =some x->vs[i]? =some v->kindOf x≠some .local →
  bindC kindOf (P.zip vs) m x=some v
 | [],_,_,_,_,h,_,_=>by simp at h
 | _::_,[],_,_,_,_,h,_=>by simp at h
 | p::P,w::vs,0,m,nd,h1,h2,hk=>by
  simp at h1 h2;subst h1;subst h2
  show bindC kindOf ((p,w)::P.zip vs) m p=_;unfold bindC;rw[IY fun v hv=>(anV.mp nd).1 (aqn hv).1,if_neg hk];simp
 | p::P,w::vs,i+1,m,nd,h1,h2,hk=>by
  show bindC kindOf ((p,w)::P.zip vs) m x=_;unfold bindC;exact Ja (i:=i) (anV.mp nd).2 (by simpa using h1) (by simpa using h2) hk
noncomputable def start(N:List Str)(vs:List V):St:=vs.map some++alj (N.length-vs.length) none
noncomputable def jS(CX:mJ)(P:amb)(w:World)(K:acs)(mg:Str->Option Value)(base:Heap)(N:List Str)(qual:Str)(scope:Scope)(f:Addr)(cd:Value)(A:amz)(outer:List Env)(s:ald)(H:Hp)(E:XK):Cx where
 prog:=P
 w:=w
 K:=K
 mg:=mg
 base:=base
 A:=A.deeper (aqJ qual scope s.heap.objs.size f cd)
 N:=N
 aQ:=s
 ba:=H
 env:=aqJ qual scope s.heap.objs.size f cd
 outer:=outer
 stack:=aqJ qual scope s.heap.objs.size f cd::outer
 ex:=[]
 calm:=true
 fn:=fun _=>true
 pn:=[]
 kp:=fun _=>True
 xe:=fun e s'=>wpAny (model P w) (A.deeper (aqJ qual scope s.heap.objs.size f cd)) (apO (aqJ qual scope s.heap.objs.size f cd) e) (fun _ gv=>CX outer H s E e gv) (fun e' gv=>CX outer H s E e' gv) s'
theorem JQ{sc:Scope}{n:Nat}{x:Str}(h:sc.names.lookup x=some .cell):∃c,(cellsFrom n sc.names []).lookup x=some c:=by
 have q:=aqc sc.names n [] (.inl h);exact amB.mp q
theorem aba{CX:mJ}{w:World}{base:Heap}{N ps:List Str}{qual:Str}{scope:Scope}{f:Addr}{cd:Value}{outer:List Env}{s s1:ald}{E:XK}{vs:List V}
  (S:ck N ps scope) (hd:A.handled=none) (e0:pX P w K mg base A outer s H) (hl:vs.length=ps.length) (r:Vals vs us)
  (x:InCallC s s.heap.objs.size (bindL (aqJ qual scope s.heap.objs.size f cd).kindOf (ps.zip us) fun _=>none) (cellsFrom (s.heap.objs.size+1) scope.names []) (bindC (aqJ qual scope s.heap.objs.size f cd).kindOf (ps.zip us) fun _=>none) s1) :
  Inv (jS CX P w K mg base N qual scope f cd A outer s H E) [] (start N vs) H s1:=by
 have hpl:ps.length<=N.length:=by have:=congrArg List.length S.pre;rw[alX] at this;omega
 obtain⟨h1,tk,rfl,hk⟩:=x.done;have EN:∀b:Addr,b∉(jS CX P w K mg base N qual scope f cd A outer s H E).ex:=fun b z=>absurd (show b∈([]:List Addr) from z) (by simp)
 refine⟨⟨e0.mod,S.kind,rfl,rfl,ali _,fun y z c h1 h2=>?_,fun y hy=>?_,fun y c _ h=>?_,fun _=>hd,Around.frames_deeper e0.frames,.inr ⟨rfl,rfl⟩,fun b z=>absurd z (EN b),e0.bs,e0.ku,fun b _ _=>EN b,fun b z=>absurd z (EN b),e0.fQ,e0.lr⟩,
  rfl,e0.bare,Un.kept hk,⟨_,x.toInCall.ns,fun i y v h1 h2 h3=>?_⟩,fun y c h=>⟨_,x.cell y c h⟩,e0.aM.fresh (ali _),fun y c h=>?_,fun p hp=>absurd (show p∈([]:List (Addr×Obj)) from hp) (by simp),e0.aM.kept hk,⟨?_,trivial⟩⟩
 ·exact name_of_addr x.apart (anJ h1) (anJ h2)
 ·have hy:scope.names.lookup y=some .cell\/scope.names.lookup y=some .free:=hy
  rcases hy with hy | hy
  ·exact JQ hy
  ·exact absurd rfl (S.agc _ (anJ hy))
 ·exact aqj (x.above y c (anJ h))
 ·have hi:i<vs.length:=by
   unfold start at h2;by_cases hi:i<vs.length
   ·exact hi
   ·rw[aol (by simpa using hi)] at h2;rw[List.getElem?_replicate] at h2;split at h2 <;> cases h2
  have ha:vs[i]? =some v:=by
   unfold start at h2;rw[alR (by simpa using hi),aln] at h2;cases e:vs[i]? with
   | none=>rw[e] at h2;cases h2
   | some a=>rw[e] at h2;cases h2;rfl
  obtain⟨u,hu,rv⟩:=r.get ha;have hp:ps[i]? =some y:=by
   rw[<- S.pre,List.getElem?_take_of_lt (by omega)];exact h1
  have O2:ps.Nodup:=by rw[<- S.pre];exact S.nd.sublist (List.take_sublist _ _)
  refine⟨u,rv,?_⟩
  rcases S.EL y (alF hp) with k | k
  ·exact .inl ⟨k,IZ O2 hp hu k⟩
  ·obtain⟨c,e⟩:=JQ (n:=s.heap.objs.size+1) k;refine .inr ⟨.inl k,c,e,?_⟩;have q:=x.cell y c e;rw[Ja O2 hp hu (by show scope.names.lookup y≠_;rw[k];decide)] at q;exact q
 ·have z:=e0.aM.fresh (aqj (x.above y c (anJ h)));exact⟨fun _=>z,.inl z⟩
 ·unfold start;show _=N.length;rw[alH,alg,List.length_replicate];omega
theorem Nd{CX:mJ}{w:World}{base:Heap}{f:Addr}{name qual:Str}{params:Arguments}{body:List Stmt}{scope:Scope}{dV kV doc pm bX ct oc:Value}{an od:Option Addr}
  {hO:Array (Option Value)} {N ps:List Str} {sp:Sp} (lk:K.lookup f=some ⟨oc,od,.func (alw name qual params body scope dV kV doc pm an bX ct),hO⟩) (hcd:als K bX qual=true) (S:ck N ps scope)
  (len:∀vs H Q E,sp vs H Q E->vs.length=ps.length)
  (uX:∀(A:amz) (outer:List Env) (s:ald) (H:Hp) (vs:List V) (Q:VK) (E:XK),cQ k (A.deeper (aqJ qual scope s.heap.objs.size f bX))->sp vs H Q E →
   ∃t,hG (jS CX P w K mg base N qual scope f bX A outer s H E) body t/\t { nx:=fun _ H'=>Q .aE H',rt:=Q } (start N vs) H) :
  bK P w K mg base CX (k+1) f (alw name qual params body scope dV kV doc pm an bX ct) ps sp:=by
 refine⟨len,fun A outer s H args us vs Q E hr e0 hb r O3=>?_⟩;have hl:=len _ _ _ _ O3;have KX:K.In s.heap:=e0.mod.dF.keeps fun b o e=>(e0.bs b o e).1
 have lim:s.heap.NoLimit:=e0.mod.nolimit.keeps fun b o e=>(e0.bs b o e).1
 have aiD:∀y∈ps.zip us,scope.names.lookup y.1=some .local\/(scope.names.lookup y.1=some .cell/\((cellsFrom (s.heap.objs.size+1) scope.names []).lookup y.1).isSome=true):=fun⟨n,v⟩ hy=>by
  rcases S.EL n (aqn hy).1 with q | q
  ·exact .inl q
  ·exact .inr ⟨q,aqc _ _ _ (.inl q)⟩
 refine codeAny_call_function hr.depth (KX _ _ lk) rfl S.co S.gen rfl (PySem.W.codeRec_of KX hcd) (hb _ _ _ _ ?_);refine wpAny_newFunctionEnv_cells S.kind aiD fun env he s1 x=>?_
 subst he;refine⟨lim.keeps x.toInCall.keep,codeAny_func ?_⟩;obtain⟨t,ht,hq⟩:=uX A outer s H vs Q E (hr.deeper _) O3;have I:Inv (jS CX P w K mg base N qual scope f bX A outer s H E) [] (start N vs) H s1:=aba S hr.hd e0 hl r x;refine amr (ht [] s1 (start N vs) H _ I hq) (fun fl s' hs=>?_) fun e s' hs=>hs
 have fin:∀{az:St} {H':Hp} {v:V} {u:Value},Inv (jS CX P w K mg base N qual scope f bX A outer s H E) [] az H' s'->RelV v u->Q v H'->CE outer P w H s Q u s':=
  fun{az H' v u} J rv q=>⟨v,H',J.os,J.bare,J.base,J.aM,rv,q⟩
 cases fl with
 | ret u=>
  obtain⟨v,az,H',J,rv,q⟩:=hs;exact fin J rv q
 | next=>
  obtain⟨az,H',J,q⟩:=hs;exact fin (v:=V.aE) (u:=alW) J rfl q
 | brk=>
  obtain⟨_,_,_,q⟩:=hs;exact anc q
 | cont=>
  obtain⟨_,_,_,q⟩:=hs;exact anc q
section
variable{X:Cx}{x:Str}{p pos:Pos}{e:Expr}{es:List Expr}{t:TA}{id T:String}{r:List V->Hp->VK->Prop}
noncomputable def EO(r:List V->Hp->VK->Prop)(t:TA):TE:=fun σ H Q=>t σ H fun vs H1=>r vs H1 Q
theorem B9(hc:cW X (.builtin id) r)(hg:Gl X x)(hm:X.mg x=none)(hv:amo x=some (.builtin id))(ha:PA X (e::es) t)(hn:x≠"__name__":=by decide)(bU:(x==("__debug__":Str))=false:=by decide)
  (he:alI (e::es) X.env=(false,eval e X.env)::alI es X.env:=by rfl) (hpl:(aou pos (alI es X.env)).any (·.1)=false:=by rfl):PE X (.Call (.Name x p) (e::es) [] pos) (EO r t):=by
 intro pins s σ H Q I h;refine anS (pA I hg hm hv ?_ hn bU);exact aoL (a8 (ha pos pins s σ H _ I h) fun us s1 ⟨vs,H1,I1,r1,q1⟩=>hc pins s1 σ H1 vs us Q I1 r1 q1) he hpl
theorem abb(hc:cW X (.type T) r)(hg:Gl X x)(hm:X.mg x=none)(hv:amo x=some (.type T))(ha:PA X (e::es) t)(hn:x≠"__name__":=by decide)(bU:(x==("__debug__":Str))=false:=by decide)
  (he:alI (e::es) X.env=(false,eval e X.env)::alI es X.env:=by rfl) (hpl:(aou pos (alI es X.env)).any (·.1)=false:=by rfl):PE X (.Call (.Name x p) (e::es) [] pos) (EO r t):=by
 intro pins s σ H Q I h;refine anS (pA I hg hm hv ?_ hn bU);exact amD (a8 (ha pos pins s σ H _ I h) fun us s1 ⟨vs,H1,I1,r1,q1⟩=>hc pins s1 σ H1 vs us Q I1 r1 q1) he hpl
end
end L2
namespace HT
open PySem PyProof.Rows
section
open PySem.SeqAt
open PySem.AutoSeq1 (wpAny_loadPart')
open PySem.MeetsSeq PySem.MeetsSeq2 PySem.MeetsSeq3
end
section
variable{prog:amb}{w:World}{A:amz}{E:Value->ald->Prop}{s:ald}
theorem adY{t b:Addr}{vs ws:List Value}{Q:Value->ald->Prop}(ht:IsTup s.heap t vs.toArray)(hb:IsTup s.heap b ws.toArray)(hv:vs≠[])
  (h1:ws=[]->Q (.ref t) s) (h2:ws≠[]->Q (.ref s.heap.objs.size) { s with heap:=s.heap.push { cls:=.type "tuple",data:=.seq (vs++ws).toArray } })
  (hsz:vs.length+ws.length<=alz):wpAny (model prog w) A (aoe .Add (.ref t) (.ref b)) Q E s:=by
 obtain⟨⟨cls,dd,data,sl⟩,ho,hc,n,hd⟩:=id ht;obtain⟨⟨akZ,O4,data2,og⟩,AB,tH,n2,hd2⟩:=id hb;simp only at hc hd tH hd2;subst hc hd tH hd2;have e:vs.toArray++ws.toArray=(vs++ws).toArray:=by simp
 by_cases hw:ws=[]
 ·exact concat_meets ⟨_,ho,rfl⟩ ⟨_,AB,rfl⟩ noFill_tuple_add seq_tuple_add aqd apP (apE _ _)
   (tuple_addW1 t b vs.toArray ws.toArray n n2 dd O4 sl og (by simpa using hv) (by simp[hw])) ⟨ho,AB,h1 hw⟩
 ·refine concat_meets ⟨_,ho,rfl⟩ ⟨_,AB,rfl⟩ noFill_tuple_add seq_tuple_add aqd apP (apE _ _)
   (tuple_addW2 t b vs.toArray ws.toArray n n2 dd O4 sl og (by simpa using hv) (by simpa using hw) (by rw[alq,alq];exact hsz)) ⟨ho,AB,?_⟩
  rw[e];exact h2 hw
noncomputable def bA(n d:Nat):Option Int->Nat
 | none=>d
 | some v=>if v<0 then(v+(n:Int)).toNat else min v.toNat n
theorem agd(n d:Nat)(hd:d<=n)(o:Option Int):bA n d o<=n:=by
 cases o with
 | none=>exact hd
 | some v=>
  show(if v<0 then(v+(n:Int)).toNat else min v.toNat n)<=n;by_cases hv:v<0
  ·rw[if_pos hv];omega
  ·rw[if_neg hv];exact Nat.min_le_right _ _
theorem KS(v:Int)(n d:Nat):(if v<0 then max (v+(n:Int)) 0 else min v (n:Int))=((bA n d (some v):Nat):Int):=by
 show(if v<0 then max (v+(n:Int)) 0 else min v (n:Int))=(((if v<0 then(v+(n:Int)).toNat else min v.toNat n):Nat):Int);by_cases hv:v<0
 ·simp only[if_pos hv];omega
 ·simp only[if_neg hv];omega
theorem ZS(lo hi:Option Int)(n:Nat):aon lo hi 1 (n:Int)=(((bA n 0 lo:Nat):Int),((bA n n hi:Nat):Int)):=by
 have h1:¬((1:Int)<0):=by omega
 unfold aon;simp only[h1,if_false];refine Prod.ext ?_ ?_
 ·cases lo with
  | none=>rfl
  | some v=>exact KS v n 0
 ·cases hi with
  | none=>rfl
  | some v=>exact KS v n n
theorem ZU(i j:Nat):anu (i:Int) (j:Int) 1=j-i:=by
 unfold anu;have h1:(1:Int)>0:=by omega
 simp only[h1,if_true,Int.ediv_one];split <;> omega
theorem Ir{v:Value}{o:Option Int}{Q:Option Int->ald->Prop}(p:arH v o)(h:Q o s):wpAny (model prog w) A (Builtin.Slice.slicePartIndex v) Q E s:=by
 cases p with
 | none=>exact slicePart_none h
 | int i t=>exact slicePart_int h
theorem Tn{sl:Addr}{vl vu:Value}{lo hi:Option Int}{n:Nat}{Q:Int×Int×Nat->ald->Prop}(hs:s.heap.IsSliceOf sl vl vu .none)(pl:arH vl lo)(pu:arH vu hi)
  (h:Q (((bA n 0 lo:Nat):Int),1,bA n n hi-bA n 0 lo) s):wpAny (model prog w) A (apj (.ref sl) (pure (n:Int))) Q E s:=by
 obtain⟨os,vT,O5,AD⟩:=id hs;unfold apj Builtin.Slice.sliceFields;refine abB (abB (alY vT AD (x:=vl) rfl (abB (alY vT AD (x:=vu) rfl (abB (alY vT AD (x:=.none) rfl (alh ?_)))))));refine abB (slicePart_none ?_);show wpAny _ _ (if((1:Int)==0)=true then _ else _) _ _ s;rw[if_neg (by decide)];refine abB (Ir pl (abB (Ir pu (abB (alh ?_)))));show wpAny _ _ (match aon lo hi 1 (n:Int) with | (lo,hi)=>pure (lo,(1:Int),anu lo hi 1)) _ _ s;rw[ZS lo hi n];show wpAny _ _ (pure (((bA n 0 lo:Nat):Int),(1:Int),anu ((bA n 0 lo:Nat):Int) ((bA n n hi:Nat):Int) 1)) _ _ s;rw[ZU];exact alh h
theorem acP(xs:Array Value)(i k:Nat):((anj k).filterMap fun(m:Nat)=>xs[((i:Int)+(m:Int)*1).toNat]?).toArray=((xs.toList.drop i).take k).toArray:=by
 have e:(fun(m:Nat)=>xs[((i:Int)+(m:Int)*1).toNat]?)=fun m=>xs[i+m]? :=by
  funext m
  have:((i:Int)+(m:Int)*1).toNat=i+m:=by omega
  rw[this]
 rw[e];have:=pick_run xs i k;rw[List.filterMap_map] at this;have e2:((fun x=>xs[x]?)∘fun x=>i+x)=fun m=>xs[i+m]? :=rfl
 rw[e2] at this;rw[this]
theorem SN{t sl:Addr}{items:Array Value}{vl vu:Value}{lo hi:Option Int}{Q:Value->ald->Prop}(ht:IsTup s.heap t items)(hs:s.heap.IsSliceOf sl vl vu .none)(pl:arH vl lo)(pu:arH vu hi)
  (hw:¬(bA items.size 0 lo=0/\bA items.size items.size hi=items.size))
  (h:Q (.ref s.heap.objs.size) { s with heap:=s.heap.push { cls:=.type "tuple",data:=.seq ((items.toList.drop (bA items.size 0 lo)).take (bA items.size items.size hi-bA items.size 0 lo)).toArray } })
  (hsz:items.size<=alz):wpAny (model prog w) A (aqO (.ref t) (.ref sl)) Q E s:=by
 have zC:sizeOk (.seq ((items.toList.drop (bA items.size 0 lo)).take (bA items.size items.size hi-bA items.size 0 lo)).toArray):=by
  show((items.toList.drop (bA items.size 0 lo)).take (bA items.size items.size hi-bA items.size 0 lo)).toArray.size<=alz;rw[alq,alX,apZ,anI];omega
 have hj:bA items.size items.size hi<=items.size:=agd _ _ (ali _) hi;obtain⟨os,vT,O5,AD⟩:=id hs;have hTs:s.TypeIs (.ref sl) "slice":=⟨os,vT,O5⟩
 unfold aqO
 try with_reducible refine amu ?_
 first | refine abB (alh ?_) | skip
 refine abB (wpAny_sequenceKey ht.typeIs (by decide) ?_);refine abB (amF (name:=ala "__getitem__") ht.typeIs anD
  (ank anD ht.typeIs entry_tuple_getitem ?_ (args_tuple_getitem _ _)))
 show wpAny _ _ (Builtin.Tuple.tupleItemsOf (.ref t) >>= _) _ _ s;refine abB (tupleItemsOf_ ht ?_);refine abB (wpAny_typeOf hTs ?_);rw[if_pos (by decide)];refine abB (Tn hs pl pu ?_);have EQ:¬((((bA items.size 0 lo:Nat):Int)==0&&(1:Int)==1&&(bA items.size items.size hi-bA items.size 0 lo)==items.size)=true):=by
  intro q;rw[alo,alo] at q;have q1:((bA items.size 0 lo:Nat):Int)=0:=eq_of_beq q.1.1;have q2:bA items.size items.size hi-bA items.size 0 lo=items.size:=eq_of_beq q.2;exact hw ⟨by omega,by omega⟩
 show wpAny _ _ (if(((bA items.size 0 lo:Nat):Int)==0&&(1:Int)==1&&(bA items.size items.size hi-bA items.size 0 lo)==items.size)=true then _ else _) _ _ s;rw[if_neg EQ,acP]
 first
  | exact abB (m:=anE _) (ams (alh ⟨_,rfl,alh h⟩) zC)
  | exact abB (m:=anE _) (ams (abB (alh (alh ⟨_,rfl,alh h⟩))) zC)
  | exact abB (abB (m:=anE _) (ams (alh (alh ⟨_,rfl,alh h⟩)) zC))
  | exact abB (abB (m:=anE _) (ams (alh ⟨_,rfl,alh h⟩) zC))
end
end HT
namespace L2
open PySem PySem.Spec PyProof.Rows
abbrev TO:=St->Hp->(Option Int->Hp->Prop)->Prop
noncomputable def PO(X:Cx)(e:Option Expr)(t:TO):Prop:=
 ∀(pins:List (Addr×Obj)) (s:ald) (σ:St) (H:Hp) (Q:Option Int->Hp->Prop),Inv X pins σ H s->t σ H Q →
  wpAny (model X.prog X.w) X.A (evalPart e X.env) (fun u s'=>∃o H',Inv X pins σ H' s'/\arH u o/\Q o H') X.xe s
noncomputable def adZ:TO:=fun _ H Q=>Q none H
noncomputable def aiE(t:TE):TO:=fun σ H Q=>t σ H fun x H1=>∃i,x=.int i/\Q (some i) H1
section
variable{X:Cx}{e:Expr}{te:TE}{lo hi:Option Expr}{tl th:TO}{pos p2:Pos}
theorem ad0:PO X none adZ:=by
 intro pins s σ H Q I h;rw[evalPart_none];exact alh ⟨none,H,I,.none,h⟩
theorem ad1(h:PE X e te):PO X (some e) (aiE te):=by
 intro pins s σ H Q I hw;rw[evalPart_some];refine a8 (h pins s σ H _ I hw) fun u s1 ⟨x,H1,I1,r1,q1⟩=>?_
 obtain⟨i,rfl,q⟩:=q1;obtain⟨t,rfl⟩:=r1;exact⟨some i,H1,I1,.int i t,q⟩
noncomputable def mK(X:Cx)(r:V->Option Int->Option Int->Hp->VK->Prop):Prop:=
 ∀(pins:List (Addr×Obj)) (s:ald) (σ:St) (H:Hp) (x:V) (v vl vu:Value) (lo hi:Option Int) (sl:Addr) (Q:VK),Inv X pins σ H s->RelV x v->s.heap.IsSliceOf sl vl vu .none->arH vl lo->arH vu hi->r x lo hi H Q →
  ∃T id,apF (.type T) "__getitem__"=pure (some (.builtin id))/\s.TypeIs v T/\wpAny (model X.prog X.w) X.A (aqO v (.ref sl)) (EP X pins σ Q) X.xe s
theorem mK.or{r r':V->Option Int->Option Int->Hp->VK->Prop}(h:mK X r)(h':mK X r'):mK X (fun x lo hi H Q=>r x lo hi H Q\/r' x lo hi H Q):=by
 intro pins s σ H x v vl vu lo hi sl Q I rx hs pl pu q
 rcases q with q | q
 ·exact h pins s σ H x v vl vu lo hi sl Q I rx hs pl pu q
 ·exact h' pins s σ H x v vl vu lo hi sl Q I rx hs pl pu q
noncomputable def tSl(r:V->Option Int->Option Int->Hp->VK->Prop)(te:TE)(tl th:TO):TE:=fun σ H Q=>te σ H fun x H1=>tl σ H1 fun l H2=>th σ H2 fun u H3=>r x l u H3 Q
theorem JR{r:V->Option Int->Option Int->Hp->VK->Prop}(hr:mK X r)(he:PE X e te)(hl:PO X lo tl)(hu:PO X hi th):PE X (.Subscript e (.Slice lo hi none p2) pos) (tSl r te tl th):=by
 intro pins s σ H Q I h;refine Subscript_ (a8 (he pins s σ H _ I h) fun v s1 ⟨x,H1,I1,r1,q1⟩=>?_);refine wpAny_Slice (a8 (hl pins s1 σ H1 _ I1 q1) fun vl s2 ⟨l,H2,I2,pl,q2⟩=>a8 (hu pins s2 σ H2 _ I2 q2) fun vu s3 ⟨u,H3,I3,pu,q3⟩=>?_);rw[evalPart_none];refine alh ?_;have I4:Inv X pins σ H3 { s3 with heap:=s3.heap.push { cls:=.type "slice",data:=.fields #[vl,vu,.none] } }:=I3.kept (t':=s3.toks) fun b ob q=>alb _ q
 obtain⟨T,id,hT,ht,hg⟩:=hr pins { s3 with heap:=s3.heap.push { cls:=.type "slice",data:=.fields #[vl,vu,.none] } } σ H3 x v vl vu l u s3.heap.objs.size Q I4 r1 (Heap.IsSliceOf.new ..) pl pu q3;show wpAny (model X.prog X.w) X.A (apQ e (.Slice lo hi none p2) v (.ref s3.heap.objs.size)) (EP X pins σ Q) X.xe { s3 with heap:=s3.heap.push { cls:=.type "slice",data:=.fields #[vl,vu,.none] } };exact tail_any (ops:=[.ref s3.heap.objs.size,v]) ht hT hg (by with_unfolding_all rfl)
noncomputable def nL(xs:List V)(lo hi:Option Int):List V:=(xs.drop (HT.bA xs.length 0 lo)).take (HT.bA xs.length xs.length hi-HT.bA xs.length 0 lo)
theorem HN(xs:List V)(lo hi:Option Int):(nL xs lo hi).length<=xs.length:=by
 unfold nL;rw[alX,apZ];omega
noncomputable def ajZ(K:acs):V->Option Int->Option Int->Hp->VK->Prop:=fun x lo hi H Q=>∃a xs,x=.ref a/\bT K H a xs /\
 ¬(HT.bA xs.length 0 lo=0/\HT.bA xs.length xs.length hi=xs.length)/\∀p,H p=none->Q (.ref p) (upd H p (.tup (nL xs lo hi)))
theorem uN:mK X (ajZ X.K):=by
 intro pins s σ H x v vl vu lo hi sl Q I rx hs pl pu h;obtain⟨a,xs,rfl,hx,hw,q⟩:=h;cases rx;obtain⟨its,r,ht,hz⟩:=I.tuple hx;have b7:its.toArray.size=xs.length:=by rw[alq];exact r.length.symm
 refine⟨"tuple",_,anD.lookup,ht.typeIs,?_⟩;refine HT.SN ht hs pl pu (by rw[b7];exact hw) ?_ (by rw[b7];exact hz);rw[b7];refine⟨.ref s.heap.objs.size,_,I.laid (t':=s.toks) (o:=.tup (nL xs lo hi)) (fun b ob q=>alb _ q) (ali _) ?_,rfl,q _ (I.aM.fresh (ali _))⟩;exact⟨alT (HN xs lo hi) hz,_,(r.drop (HT.bA xs.length 0 lo)).take (HT.bA xs.length xs.length hi-HT.bA xs.length 0 lo),IsTup.new _ _⟩
noncomputable def Nf(K:acs):R2:=fun x y H Q=>∃a b xs ys,x=.ref a/\y=.ref b/\bT K H a xs/\bT K H b ys/\xs≠[]/\xs.length+ys.length<=alz /\
 (ys=[]->Q (.ref a) H)/\(ys≠[]->∀p,H p=none->Q (.ref p) (upd H p (.tup (xs++ys))))
theorem Vals.Cu{xs:List V}{us:List Value}(r:Vals xs us):us=[]↔xs=[]:=by
 cases r with
 | nil=>simp
 | cons _ _=>simp
theorem ad2:bI X (aoe .Add) (Nf X.K):=by
 intro pins s σ H x y v u Q I rx ry h;obtain⟨a,b,xs,ys,rfl,rfl,ha,hb,hx,hz,q1,q2⟩:=h;cases rx;cases ry;obtain⟨its,r1,p1,_⟩:=I.tuple ha;obtain⟨nN,r2,p2,_⟩:=I.tuple hb;refine HT.adY p1 p2 (fun z=>hx (r1.Cu.mp z)) (fun z=>⟨.ref a,H,I,rfl,q1 (r2.Cu.mp z)⟩) (fun z=>?_) (by rw[<- r1.length,<- r2.length];exact hz);refine⟨.ref s.heap.objs.size,_,I.laid (t':=s.toks) (o:=.tup (xs++ys)) (fun b ob q=>alb _ q) (ali _) ?_,rfl,q2 (fun w=>z (r2.Cu.mpr w)) _ (I.aM.fresh (ali _))⟩;exact⟨by rw[alH];exact hz,_,r1.append r2,IsTup.new _ _⟩
end
noncomputable def iS(n:Nat)(i:Int):Option Nat:=if 0<=i then(if i<n then some i.toNat else none) else if -(n:Int)<=i then some (i+n).toNat else none
noncomputable def cZ{α:Type}(xs:List α)(i:Int):Option α:=(iS xs.length i).bind fun j=>xs[j]?
theorem KU{n:Nat}{i:Int}{j:Nat}(h:iS n i=some j):seqIndex? i n=some j/\j<n/\ -(n:Int)<=i/\i<n:=by
 unfold iS at h;by_cases h0:0<=i
 ·rw[if_pos h0] at h;by_cases h1:i<n
  ·rw[if_pos h1] at h;have e:i.toNat=j:=amm h;exact⟨by rw[seqIndex_of h0 h1,e],by omega,by omega,h1⟩
  ·rw[if_neg h1] at h;cases h
 ·rw[if_neg h0] at h;by_cases h1: -(n:Int)<=i
  ·rw[if_pos h1] at h;have e:(i+n).toNat=j:=amm h;exact⟨by rw[seqIndex_neg (by omega) h1,e],by omega,h1,by omega⟩
  ·rw[if_neg h1] at h;cases h
theorem Cv{α:Type}{xs:List α}{i:Int}{v:α}(h:cZ xs i=some v):∃j,seqIndex? i xs.length=some j/\xs[j]? =some v/\j<xs.length/\ -(xs.length:Int)<=i/\i<xs.length:=by
 unfold cZ at h;cases e:iS xs.length i with
 | none=>rw[e] at h;cases h
 | some j=>
  rw[e] at h;obtain⟨h1,h2,h3,h4⟩:=KU e;exact⟨j,h1,h,h2,h3,h4⟩
noncomputable def rT(b:Expr):Prop:=∀o i,aqP b false o i=operate [o,i] (aqO o i)
noncomputable def ky(X:Cx)(r:R2):Prop:=
 ∀(value slice:Expr) (pins:List (Addr×Obj)) (s:ald) (σ:St) (H:Hp) (x y:V) (v u:Value) (Q:VK),Inv X pins σ H s->RelV x v->RelV y u->r x y H Q →
  aqP slice false v u=operate [v,u] (aqO v u)->wpAny (model X.prog X.w) X.A (apQ value slice v u) (EP X pins σ Q) X.xe s
noncomputable def tJ(X:Cx)(id:String)(r:V->List V->Hp->VK->Prop):Prop:=
 ∀(pins:List (Addr×Obj)) (s:ald) (σ:St) (H:Hp) (x:V) (xs:List V) (v:Value) (us:List Value) (Q:VK),Inv X pins σ H s->RelV x v->Vals xs us->r x xs H Q →
  wpAny (model X.prog X.w) X.A (call (.builtin id) (v::us)) (EP X pins σ Q) X.xe s
section
variable{X:Cx}{a b:Expr}{ta tb:TE}{pos:Pos}
theorem ky.or{r r':R2}(h:ky X r)(h':ky X r'):ky X (fun x y H Q=>r x y H Q\/r' x y H Q):=by
 intro value slice pins s σ H x y v u Q I rx ry q hs
 rcases q with q | q
 ·exact h value slice pins s σ H x y v u Q I rx ry q hs
 ·exact h' value slice pins s σ H x y v u Q I rx ry q hs
theorem Ng{r:R2}(hr:ky X r)(ha:PE X a ta)(hb:PE X b tb)(hs:rT b):PE X (.Subscript a b pos) (qm r ta tb):=by
 intro pins s σ H Q I h;exact Subscript_ (zZ ha hb I h fun v u s2 x y H2 I2 rx ry q=>hr a b pins s2 σ H2 x y v u Q I2 rx ry q (hs _ _))
noncomputable def Ob(K:acs):R2:=fun x y H Q=>∃p xs i v,x=.ref p/\y=.int i/\bL K H p xs/\cZ xs i=some v/\Q v H
noncomputable def Oc(K:acs):R2:=fun x y H Q=>∃p xs i v,x=.ref p/\y=.int i/\bT K H p xs/\cZ xs i=some v/\Q v H
noncomputable def Od:R2:=fun x y H Q=>∃z i c,x=.str z/\y=.int i/\z.length<=alz/\cZ z.cps.toList i=some c/\Q (.str ⟨#[c]⟩) H
theorem ad3:ky X (Ob X.K):=by
 intro value slice pins s σ H x y v u Q I rx ry h hs;obtain⟨p,xs,i,z,rfl,rfl,hq,he,q⟩:=h;cases rx;obtain⟨t,rfl⟩:=ry;obtain⟨its,r,pl,hz⟩:=I.list hq;obtain⟨j,h1,h2,h3,h4,h5⟩:=Cv he;obtain⟨w,ew,hU⟩:=r.get h2;have hl:=r.length;have hn:=pC;have fin:EP X pins σ Q w s:=⟨z,H,I,hU,q⟩
 by_cases h0:0<=i
 ·have hj:i.toNat=j:=by
   rw[seqIndex_of h0 h5] at h1;exact amm h1
  exact item_listR pl.isList h0 (by omega) (by rw[hj];simpa using ew) fin hs
 ·have hj:(i+(its.toArray.size:Int)).toNat=j:=by
   rw[seqIndex_neg (by omega) h4] at h1;rw[alq,<- hl];exact amm h1
  exact subscriptTail_builtinR (x:=w) pl.isList.typeIs slot_list_getitem.lookup
   (wpAny_getItem_list_neg (Q:=fun r s'=>r=w/\EP X pins σ Q r s') pl.isList (by omega) (by rw[alq] <;> omega) (by omega) (by rw[hj];simpa using ew) ⟨rfl,fin⟩) hs
theorem age:ky X (Oc X.K):=by
 intro value slice pins s σ H x y v u Q I rx ry h hs;obtain⟨p,xs,i,z,rfl,rfl,hq,he,q⟩:=h;cases rx;obtain⟨t,rfl⟩:=ry;obtain⟨its,r,pl,hz⟩:=I.tuple hq;obtain⟨j,h1,h2,h3,h4,h5⟩:=Cv he;obtain⟨w,ew,hU⟩:=r.get h2;have hl:=r.length;have hn:=pC;have fin:EP X pins σ Q w s:=⟨z,H,I,hU,q⟩
 exact subscriptTail_builtinR (x:=w) pl.typeIs slot_tuple_getitem.lookup
  (getItem_tuple (j:=j) (Q:=fun r s'=>r=w/\EP X pins σ Q r s') pl (by omega) (by omega) (by rw[alq,<- hl];exact h1) (by simpa using ew) ⟨rfl,fin⟩) hs
theorem agf:ky X Od:=by
 intro value slice pins s σ H x y v u Q I rx ry h hs;obtain⟨z,i,c,rfl,rfl,hz,he,q⟩:=h;obtain⟨t,rfl⟩:=rx;obtain⟨t',rfl⟩:=ry;obtain⟨j,h1,h2,h3,h4,h5⟩:=Cv he;have hl:z.cps.toList.length=z.length:=by simp[Str.length]
 rw[hl] at h1 h4 h5;have hn:=pC;exact tail_any (typeIs_str s z t) slot_str_getitem.lookup (getItem_str (c:=c) (by
  have e1:decide (i< -(2 ^ 63:Int))=false:=decide_eq_false (by omega);have e2:decide (i >= 2 ^ 63)=false:=decide_eq_false (by omega);rw[e1,e2,arc]) (by rw[h1];simpa using h2) ⟨.str ⟨#[c]⟩,H,I.tok _,⟨_,rfl⟩,q⟩) hs
noncomputable def ER(K:acs):R2:=fun x y H Q=>Ob K x y H Q\/Oc K x y H Q\/Od x y H Q
theorem Ma:ky X (ER X.K):=ad3.or (age.or agf)
theorem ZV(its:List Value)(n j:Nat)(u:Value):aqy (·.setIfInBounds j u) { cls:=.type "list",data:=.seq its.toArray n }={ cls:=.type "list",data:=.seq (its.set j u).toArray n }:=by
 simp[aqy]
variable{σ:St}{H:Hp}
theorem Inv.lst{pins:List (Addr×Obj)}{s:ald}{p:Addr}{xs:List V}(I:Inv X pins σ H s)(h:H p=some (.lst xs)) :
  ∃(its:List Value) (n:Nat),Vals xs its/\s.heap.get? p=some { cls:=.type "list",data:=.seq its.toArray n }/\xs.length<=sizeLine:=by
 obtain⟨z,its,n,r,e⟩:=I.aM p _ h;exact⟨its,n,r,e,z⟩
theorem Inv.agg{pins:List (Addr×Obj)}{s:ald}{p:Addr}{xs ys:List V}{its its':List Value}{n n':Nat}{f:Obj->Obj}(I:Inv X pins σ H s)(h:H p=some (.lst xs))
  (ho:s.heap.get? p=some { cls:=.type "list",data:=.seq its.toArray n }) (hf:f { cls:=.type "list",data:=.seq its.toArray n }={ cls:=.type "list",data:=.seq its'.toArray n' }) (r:Vals ys its') (hz:ys.length<=alz) (t:Nat) :
  Inv X pins σ (upd H p (.lst ys)) { s with heap:=s.heap.update p f,toks:=t }:=by
 have e:(s.heap.update p f).get? p=some { cls:=.type "list",data:=.seq its'.toArray n' }:=by
  rw[amj f ho (by rw[hf] <;> rfl),hf]
 refine I.write (x:=p) (e:=p) (by rw[h];trivial) (.inl rfl) (fun b u hb q=>(alP _ _ (amT hb)).trans q) ⟨_,e⟩ ?_;exact⟨hz,its',n',r,e⟩
noncomputable def aiF:V->V->V->Hp->(Hp->Prop)->Prop:=fun o i v H Q=>∃p xs k j,o=.ref p/\i=.int k/\H p=some (.lst xs)/\iS xs.length k=some j/\Q (upd H p (.lst (xs.set j v)))
theorem set_list:nK X aiF:=by
 intro pins s σ H o i v ov iv u Q I ro ri rv h;obtain⟨p,xs,k,j,rfl,rfl,hp,hj,q⟩:=h;cases ro;obtain⟨t,rfl⟩:=ri;obtain⟨its,n,r,ho,hz⟩:=I.lst hp;obtain⟨h1,h2,h3,h4⟩:=KU hj;have hl:=r.length;have hn:=pC;have I':Inv X pins σ (upd H p (.lst (xs.set j v))) { s with heap:=s.heap.update p (aqy (·.setIfInBounds j u)) }:=
  I.agg hp ho (ZV its n j u) (r.set rv j) (by rw[amG];exact hz) s.toks
 by_cases h0:0<=k
 ·have hk:k.toNat=j:=by
   rw[seqIndex_of h0 h4] at h1;exact amm h1
  exact PySem.W.ki_setAt ho h0 (by omega) (by rw[alq,<- hl];exact h4) (by rw[hk];exact⟨_,I',q⟩)
 ·have hk:(k+(its.toArray.size:Int)).toNat=j:=by
   rw[seqIndex_neg (by omega) h3] at h1;rw[alq,<- hl];exact amm h1
  exact PySem.W.ki_setBack ho (by omega) (by rw[alq,<- hl];exact h3) (by omega) (by rw[hk];exact⟨_,I',q⟩)
theorem Xy(lo hi:Option Int)(n:Nat):(aoF lo hi none n).1=((HT.bA n 0 lo:Nat):Int)/\(aoF lo hi none n).2.1=((HT.bA n n hi:Nat):Int)/\(aoF lo hi none n).2.2=1:=by
 refine⟨?_,?_,rfl⟩
 ·cases lo with
  | none=>simp[aoF,HT.bA]
  | some i=>
   simp only[aoF,HT.bA,Option.getD_none,show(1:Int)>0 by decide,if_true];by_cases h:i<0
   ·simp only[h,if_true] <;> omega
   ·simp only[h,if_false] <;> omega
 ·cases hi with
  | none=>simp[aoF,HT.bA]
  | some i=>
   simp only[aoF,HT.bA,Option.getD_none,show(1:Int)>0 by decide,if_true];by_cases h:i<0
   ·simp only[h,if_true] <;> omega
   ·simp only[h,if_false] <;> omega
theorem WC(its:List Value)(lo hi:Option Int):slicePick its.toArray lo hi none=((its.drop (HT.bA its.length 0 lo)).take (HT.bA its.length its.length hi-HT.bA its.length 0 lo)).toArray:=by
 obtain⟨h1,h2,h3⟩:=Xy lo hi its.toArray.size;unfold slicePick;rw[h1,h2,h3];simp only[sliceRange_one,pick_run,alq] <;> rfl
noncomputable def aj0(K:acs):V->Option Int->Option Int->Hp->VK->Prop:=fun x lo hi H Q=>∃a xs,x=.ref a/\bL K H a xs/\∀p,H p=none->Q (.ref p) (upd H p (.lst (nL xs lo hi)))
theorem ad4:mK X (aj0 X.K):=by
 intro pins s σ H x v vl vu lo hi sl Q I rx hs pl pu h;obtain⟨a,xs,rfl,hx,q⟩:=h;cases rx;obtain⟨its,r,ht,hz⟩:=I.list hx;have b7:=r.length;refine⟨"list",_,slot_list_getitem.lookup,ht.isList.typeIs,?_⟩;refine wpAny_getItem_list_slice ht.isList hs pl pu .none (by simp) ?_ (by rw[alq] <;> omega);rw[WC,<- b7];refine⟨.ref s.heap.objs.size,_,I.laid (t':=s.toks) (o:=.lst (nL xs lo hi)) (fun b ob q=>alb _ q) (ali _) ?_,rfl,q _ (I.aM.fresh (ali _))⟩;exact⟨alT (HN xs lo hi) hz,_,0,(r.drop (HT.bA xs.length 0 lo)).take (HT.bA xs.length xs.length hi-HT.bA xs.length 0 lo),alG _ rfl⟩
noncomputable def lW:V->Bool
 | .aE=>true
 | .bl _=>true
 | .int _=>true
 | .str _=>true
 | _=>false
noncomputable def oh:V->V->Bool
 | .aE,.aE=>true
 | .bl a,.bl b=>a==b
 | .bl a,.int b=>(if a then 1 else 0)==b
 | .int a,.bl b=>a==(if b then 1 else 0)
 | .int a,.int b=>a==b
 | .str a,.str b=>a==b
 | _,_=>false
theorem agh{A:amz}{s:ald}{y x:V}{u v:Value}(ry:RelV y u)(rx:RelV x v)(fy:lW y=true)(fx:lW x=true):arq A s u v (oh y x):=by
 cases y with
 | aE=>
  cases ry;cases x with
  | aE=>cases rx;exact SeqAt.EqAt.same _
  | bl b=>cases rx;exact SeqAt.EqAt.none_bool b
  | int b=>obtain⟨t,rfl⟩:=rx;exact SeqAt.EqAt.none_int b t
  | str b=>obtain⟨t,rfl⟩:=rx;exact SeqAt.EqAt.none_str b t
  | _=>exact absurd (show false=true from fx) alK
 | bl a=>
  cases ry;cases x with
  | aE=>cases rx;exact SeqAt.EqAt.bool_none a
  | bl b=>cases rx;exact SeqAt.EqAt.bool_bool a b
  | int b=>obtain⟨t,rfl⟩:=rx;exact SeqAt.EqAt.bool_int a b t
  | str b=>obtain⟨t,rfl⟩:=rx;exact SeqAt.EqAt.bool_str a b t
  | _=>exact absurd (show false=true from fx) alK
 | int a=>
  obtain⟨t',rfl⟩:=ry;cases x with
  | aE=>cases rx;exact SeqAt.EqAt.int_none a t'
  | bl b=>cases rx;exact SeqAt.EqAt.int_bool a t' b
  | int b=>obtain⟨t,rfl⟩:=rx;exact SeqAt.EqAt.int_int a t' b t
  | str b=>obtain⟨t,rfl⟩:=rx;exact aqW a t' b t
  | _=>exact absurd (show false=true from fx) alK
 | str a=>
  obtain⟨t',rfl⟩:=ry;cases x with
  | aE=>cases rx;exact SeqAt.EqAt.str_none a t'
  | bl b=>cases rx;exact SeqAt.EqAt.str_bool a t' b
  | int b=>obtain⟨t,rfl⟩:=rx;exact aqX a t' b t
  | str b=>obtain⟨t,rfl⟩:=rx;exact SeqAt.EqAt.str_str a t' b t
  | _=>exact absurd (show false=true from fx) alK
 | _=>exact absurd (show false=true from fy) alK
noncomputable def mL(x:V)(u:Value):Bool:=match u with
 | .none=>oh .aE x
 | .bool b=>oh (.bl b) x
 | .int i _=>oh (.int i) x
 | .str z _=>oh (.str z) x
 | _=>false
theorem Mb{x y:V}{u:Value}(r:RelV y u)(f:lW y=true):mL x u=oh y x:=by
 cases y with
 | aE=>cases r;rfl
 | bl b=>cases r;rfl
 | int i=>obtain⟨t,rfl⟩:=r;rfl
 | str z=>obtain⟨t,rfl⟩:=r;rfl
 | _=>exact absurd (show false=true from f) alK
theorem Cw{x:V}:∀{xs:List V} {us:List Value},Vals xs us->xs.all lW=true->us.any (mL x)=xs.any fun y=>oh y x
 | _,_,.nil,_=>rfl
 | y::xs,u::us,.cons r t,f=>by
  rw[amH,alo] at f;rw[amt,amt,Mb r f.1,Cw t f.2]
theorem Ca{A:amz}{s:ald}{x:V}{v:Value}(rx:RelV x v)(fx:lW x=true):∀{xs:List V} {us:List Value},Vals xs us->xs.all lW=true->∀u∈us,arq A s u v (mL x u)
 | _,_,.nil,_=>fun u hu=>by cases hu
 | y::xs,u::us,.cons r t,f=>fun u' hu=>by
  rw[amH,alo] at f
  rcases alD.mp hu with rfl | hu
  ·rw[Mb r f.1];exact agh r rx f.1 fx
  ·exact Ca rx fx t f.2 u' hu
noncomputable def qo(x:V)(xs:List V):Bool:=xs.any fun y=>oh y x
noncomputable def O6(K:acs)(neg:Bool):R2:=fun x y H Q=>∃p xs,y=.ref p/\(bL K H p xs\/bT K H p xs)/\lW x=true/\xs.all lW=true/\Q (.bl (if neg then !qo x xs else qo x xs)) H
theorem abc:bI X (ami .In) (O6 X.K false):=by
 intro pins s σ H x y v u Q I rx ry h;obtain⟨p,xs,rfl,hq,fx,fs,q⟩:=h;cases ry
 rcases hq with hq | hq
 ·obtain⟨its,r,pl,hz⟩:=I.list hq;refine SeqAt.in_listAt (mL x) pl.isList (fun w hw=>Ca rx fx r fs w (by simpa using hw)) ⟨.bl _,H,I,rfl,?_⟩;rw[show its.toArray.any (mL x)=its.any (mL x) by simp,Cw r fs];exact q
 ·obtain⟨its,r,pl,hz⟩:=I.tuple hq;refine SeqAt.in_tupleAt (mL x) pl (fun w hw=>Ca rx fx r fs w (by simpa using hw)) ⟨.bl _,H,I,rfl,?_⟩;rw[show its.toArray.any (mL x)=its.any (mL x) by simp,Cw r fs];exact q
theorem Xz:cW X (.builtin "len") (fun xs H Q=>∃p ys,xs=[.ref p]/\(bL X.K H p ys\/bT X.K H p ys)/\Q (.int ys.length) H):=by
 intro pins s σ H xs us Q I r h;obtain⟨p,ys,rfl,hq,q⟩:=h;obtain⟨u,rfl,rx⟩:=vals1 r;cases rx;have hn:=pC
 rcases hq with hq | hq
 ·obtain⟨its,r',pl,hz⟩:=I.list hq;have b7:=r'.length;exact Calls.call_len_list pl.isList (by simp only[alq] <;> omega) ⟨.int ys.length,H,I.tok _,⟨s.toks+1,by rw[alq,b7]⟩,q⟩
 ·obtain⟨its,r',pl,hz⟩:=I.tuple hq;have b7:=r'.length;exact len_tuple pl (by simp only[alq] <;> omega) ⟨.int ys.length,H,I.tok _,⟨s.toks+1,by rw[alq,b7]⟩,q⟩
theorem XA:cW X (.builtin "len") (fun xs H Q=>∃z,xs=[.str z]/\z.length<=alz/\Q (.int z.length) H):=by
 intro pins s σ H xs us Q I r h;obtain⟨z,rfl,hz,q⟩:=h;obtain⟨u,rfl,t,rfl⟩:=vals1 r;have hn:=pC;exact len_str (by omega) ⟨.int z.length,H,I.tok _,⟨_,rfl⟩,q⟩
theorem cW.or{f:Value}{r r':List V->Hp->VK->Prop}(h:cW X f r)(h':cW X f r'):cW X f (fun xs H Q=>r xs H Q\/r' xs H Q):=by
 intro pins s σ H xs us Q I rs q
 rcases q with q | q
 ·exact h pins s σ H xs us Q I rs q
 ·exact h' pins s σ H xs us Q I rs q
theorem XB:cW X (.type "list") (fun xs H Q=>∃p ys,xs=[.ref p]/\(bL X.K H p ys\/bT X.K H p ys)/\∀l,H l=none->Q (.ref l) (upd H l (.lst ys))):=by
 intro pins s σ H xs us Q I r h;obtain⟨p,ys,rfl,hq,q⟩:=h;obtain⟨u,rfl,rx⟩:=vals1 r;cases rx;have fin:∀(its:List Value),Vals ys its->ys.length<=alz->∀(h':Heap) (c':Nat),(∀b o',s.heap.get? b=some o'->h'.get? b=some o') →
   h'.get? s.heap.objs.size=some { cls:=.type "list",dict:=none,data:=.seq its.toArray c',slots:= #[] }->EP X pins σ Q (.ref s.heap.objs.size) { s with heap:=h' }:=fun its r' hz h' c' kp e=>
  ⟨.ref s.heap.objs.size,_,I.laid (t':=s.toks) kp (ali _) (show de X.prog X.w _ h' _ (.lst ys) from⟨hz,its,c',r',e⟩),rfl,q _ (I.aM.fresh (ali _))⟩
 rcases hq with hq | hq
 ·obtain⟨its,r',pl,hz⟩:=I.list hq;have b7:=r'.length;obtain⟨o,ho,hc,n,hd⟩:=pl.isList;exact call_list_seq p (.inl rfl) ho hc hd (fun h' c' kp e=>fin its r' hz h' c' kp e) (by simp only[alq] <;> omega)
 ·obtain⟨its,r',pl,hz⟩:=I.tuple hq;have b7:=r'.length;obtain⟨o,ho,hc,n,hd⟩:=pl;exact call_list_seq p (.inr rfl) ho hc hd (fun h' c' kp e=>fin its r' hz h' c' kp e) (by simp only[alq] <;> omega)
theorem WD:cW X (.type "tuple") (fun xs H Q=>∃p ys,xs=[.ref p]/\((bL X.K H p ys/\∀l,H l=none->Q (.ref l) (upd H l (.tup ys)))\/(bT X.K H p ys/\Q (.ref p) H))):=by
 intro pins s σ H xs us Q I r h;obtain⟨p,ys,rfl,h⟩:=h;obtain⟨u,rfl,rx⟩:=vals1 r;cases rx
 rcases h with⟨hq,q⟩ | ⟨hq,q⟩
 ·obtain⟨its,r',pl,hz⟩:=I.list hq;have b7:=r'.length;refine call_tuple_list pl.isList (fun h' kp=>?_) (by simp only[alq] <;> omega);have I1:Inv X pins σ H { s with heap:=h' }:=I.kept (t':=s.toks) kp;have I2:Inv X pins σ (upd H h'.objs.size (.tup ys)) { s with heap:=h'.push { cls:=.type "tuple",data:=.seq its.toArray } }:=
   I1.laid (t':=s.toks) (fun b o e=>alb _ e) (ali _) (show de X.prog X.w _ _ _ (.tup ys) from⟨hz,its,r',IsTup.new _ _⟩)
  exact⟨.ref h'.objs.size,_,I2,rfl,q _ (I1.aM.fresh (ali _))⟩
 ·obtain⟨its,r',pl,hz⟩:=I.tuple hq;exact call_tuple_same pl ⟨.ref p,H,I,rfl,q⟩
noncomputable def ES(K:acs)(T:String)(x:V)(H:Hp):Prop:=match x with
 | .str _=>T="str"
 | .int _=>T="int"
 | .ref p=>(T="list"/\∃xs,bL K H p xs)\/(T="tuple"/\∃o,K.lookup p=some o/\o.cls=.type "tuple"/\o.dict=none) \/
   (T="dict"/\((∃kvs,H p=some (.dK kvs))\/∃kvs,H p=some (.dT kvs)))\/(T="set"/\∃S n,H p=some (.set S n))\/(T="dict"/\∃kvs,H p=some (.dU kvs))
 | _=>False
theorem agi{pins:List (Addr×Obj)}{s:ald}{T:String}{x:V}{v:Value}(I:Inv X pins σ H s)(r:RelV x v)(ty:ES X.K T x H) :
  s.TypeIs v T/\∀a,v=.ref a->∃ob,s.heap.get? a=some ob/\ob.dict=none:=by
 cases x with
 | str z=>
  obtain⟨t,rfl⟩:=r;cases(show T="str" from ty);exact⟨typeIs_str s z t,fun _ e=>nomatch e⟩
 | int i=>
  obtain⟨t,rfl⟩:=r;cases(show T="int" from ty);exact⟨typeIs_int s i t,fun _ e=>nomatch e⟩
 | ref p=>
  cases r
  rcases ty with⟨rfl,xs,hq⟩ | ⟨rfl,o,hk,hc,hd⟩ | ⟨rfl,hk⟩ | ⟨rfl,S,n,hk⟩ | ⟨rfl,kvs,hk⟩
  ·obtain⟨its,_,pl,_⟩:=I.list hq;refine⟨pl.isList.typeIs,fun a e=>?_⟩;cases e;obtain⟨o,n,e,c,hd,_⟩:=pl;exact⟨o,e,hd⟩
  ·refine⟨⟨o,I.cD p o hk,hc⟩,fun a e=>?_⟩;cases e;exact⟨o,I.cD _ o hk,hd⟩
  ·have z:∃o,s.heap.get? p=some o/\o.ExactDict:=by
    rcases hk with⟨kvs,hk⟩ | ⟨kvs,hk⟩
    ·obtain⟨_,_,_,_,o,_,_,e,ex,_⟩:=I.aM p _ hk;exact⟨o,e,ex⟩
    ·obtain⟨_,_,_,_,o,_,_,e,ex,_⟩:=I.aM p _ hk;exact⟨o,e,ex⟩
   obtain⟨o,e,ex⟩:=z;refine⟨⟨o,e,ex.1⟩,fun a e2=>?_⟩;cases e2;exact⟨o,e,ex.2.1⟩
  ·obtain⟨o,_,_,_,e,ex,_⟩:=I.aM p _ hk;refine⟨⟨o,e,ex.1⟩,fun a e2=>?_⟩;cases e2;exact⟨o,e,ex.2.1⟩
  ·obtain⟨_,_,o,_,_,e,ex,_⟩:=I.aM p _ hk;refine⟨⟨o,e,ex.1⟩,fun a e2=>?_⟩;cases e2;exact⟨o,e,ex.2.1⟩
 | _=>exact anc ty
noncomputable def O7(K:acs)(T:String)(r:V->List V->Hp->VK->Prop)(to:TE)(t:TA):TE:=fun σ H Q=>to σ H fun x H1=>ES K T x H1/\t σ H1 fun xs H2=>r x xs H2 Q
variable{o e:Expr}{es:List Expr}{to:TE}{t:TA}{name:Str}{apos dq:Pos}{T id:String}{r:V->List V->Hp->VK->Prop}
theorem aiG(pa:ars T)(slot:Slot T name id)(mM:typeOf (.builtin id)=pure (.type "method_descriptor"))(hm:tJ X id r)(ho:PE X o to)(ha:PA X (e::es) t)
  (lX:amY o name X.env (eval o X.env)=eval o X.env:=by rfl)
  (DU:((aou dq (alI (e::es) X.env)).all (fun x=> !x.1)&&(backToKw dq (apR [] X.env)).all (fun x=>x.1.isSome)
   && decide ((e::es).length+([]:List Keyword).length+(if([]:List Keyword).isEmpty then 0 else 1)<30))=true:=by rfl)
  (pM:(apos.endLine==dq.line)=true:=by rfl) (hs:alI (e::es) X.env=(false,eval e X.env)::alI es X.env:=by rfl) (CZ:(aou dq (alI es X.env)).any (·.1)=false:=by rfl) :
  PE X (.Call (.Attribute o name apos) (e::es) [] dq) (O7 X.K T r to t):=by
 intro pins s σ H Q I h;refine wpAny_Call_method_late lX DU pM rfl (a8 (ho pins s σ H _ I h) fun v s1 ⟨x,H1,I1,r1,ty,q1⟩=>?_);obtain⟨h1,h2⟩:=agi I1 r1 ty;refine⟨T,id,pa,slot,mM,h1,h2,?_⟩;have hA:=ha dq pins s1 σ H1 _ I1 q1;rw[hs] at hA ⊢;refine Calls.callWith_builtin (by show(false||(aou dq (alI es X.env)).any (·.1))=false;rw[CZ] <;> rfl) (aqD ?_);exact a8 hA fun us s2 ⟨vs,H2,I2,r2,q2⟩=>hm pins s2 σ H2 x vs v us Q I2 r1 r2 q2
end
noncomputable def O8(X:Cx)(id:String)(r:V->List V->Hp->VK->Prop):Prop:=
 ∀(pins:List (Addr×Obj)) (s:ald) (σ:St) (H:Hp) (x:V) (xs:List V) (v:Value) (us:List Value) (Q:VK),Inv X pins σ H s->RelV x v->Vals xs us->r x xs H Q →
  wpAny (model X.prog X.w) X.A (call (.builtin id) (v::us)) (EP X pins σ Q) X.xe s
theorem Vals.one{x:V}{us:List Value}(h:Vals [x] us):∃u,us=[u]/\RelV x u:=by
 cases h with
 | cons r t=>cases t;exact⟨_,rfl,r⟩
theorem Vals.two{x y:V}{us:List Value}(h:Vals [x,y] us):∃u v,us=[u,v]/\RelV x u/\RelV y v:=by
 cases h with
 | cons r t=>
  obtain⟨v,e,q⟩:=Vals.one t;subst e;exact⟨_,_,rfl,r,q⟩
theorem Vals.rep{xs:List V}{us:List Value}(h:Vals xs us):∀k:Nat,Vals (alj k xs).flatten (alj k us).flatten
 | 0=>.nil
 | k+1=>by
  rw[amx,amx,anF,anF];exact Vals.append h (Vals.rep h k)
theorem foldl_rep(its:List Value):∀(k:Nat) (acc:List Value),
  List.foldl (fun x1 x2=>x1++x2) acc.toArray (alj k its.toArray)=(acc++(alj k its).flatten).toArray
 | 0,acc=>by simp
 | k+1,acc=>by
  have e:acc.toArray++its.toArray=(acc++its).toArray:=by simp
  have e2:(acc++its)++(alj k its).flatten=acc++(alj (k+1) its).flatten:=by
   rw[amx,anF,aoh]
  rw[<- e2,<- foldl_rep its k (acc++its),<- e,amx,aqo]
section
variable{X:Cx}{pins:List (Addr×Obj)}{σ:St}{H:Hp}{s:ald}{l b:Addr}{xs ys zs:List V}
theorem Inv.Oe{its its':List Value}{n:Nat}{f:Array Value->Array Value}{t':Nat}(I:Inv X pins σ H s)(hH:H l=some (.lst xs))
  (e:s.heap.get? l=some { cls:=.type "list",data:=.seq its.toArray n }) (hf:f its.toArray=its'.toArray) (hv:Vals ys its') (hz:ys.length<=alz) :
  Inv X pins σ (upd H l (.lst ys)) { s with heap:=s.heap.update l (aqy f),toks:=t' }:=by
 have q:=PySem.IsL.update e f;rw[hf] at q;refine I.write (x:=l) (e:=l) (by rw[hH];exact trivial) (.inl rfl) (fun b' u hb hu=>(alP s.heap (aqy f) (amT hb)).trans hu) ⟨_,q⟩ ?_;exact⟨hz,its',_,hv,q⟩
theorem Inv.DV{its:List Value}{t':Nat}(I:Inv X pins σ H s)(hv:Vals ys its)(hz:ys.length<=alz) :
  Inv X pins σ (upd H s.heap.objs.size (.lst ys)) { s with heap:=s.heap.push { cls:=.type "list",data:=.seq its.toArray },toks:=t' }:=
 I.laid (fun _ _ q=>alb _ q) (ali _) ⟨hz,its,0,hv,alG _ rfl⟩
theorem Inv.fresh(I:Inv X pins σ H s):H s.heap.objs.size=none:=I.aM.fresh (ali _)
theorem Inv.sS(I:Inv X pins σ H s)(hH:H l=some (.lst xs)):xs.length<=alz/\∃(its:List Value) (n:Nat),Vals xs its/\xs.length=its.length/\s.heap.get? l=some { cls:=.type "list",data:=.seq its.toArray n }:=by
 obtain⟨z,its,n,r,e⟩:=I.aM l _ hH;exact⟨z,its,n,r,r.length,e⟩
theorem JU{n:Nat}(h:n<=alz):anG n=false:=by
 unfold anG;exact decide_eq_false (by omega)
end
section
variable{X:Cx}
noncomputable def KW:V->List V->Hp->VK->Prop:=fun x vs H Q=>∃l xs y,x=.ref l/\vs=[y]/\H l=some (.lst xs)/\xs.length<alz/\Q .aE (upd H l (.lst (xs++[y])))
theorem kP:O8 X "list.append" KW:=by
 intro pins s σ H x vs v us Q I rx rv h;obtain⟨l,xs,y,rfl,rfl,hH,hz,q⟩:=h;cases rx;obtain⟨u,rfl,ru⟩:=rv.one;obtain⟨z,its,n,r,hl,e⟩:=I.sS hH;refine art F.slot_list_append ⟨_,e,rfl⟩ F.entry_list_append (F.args_list_append_2 _ _) (PySem.list_append l its.toArray n u (by rw[alq];omega)) ⟨e,?_⟩;refine⟨.aE,_,I.Oe (its':=its++[u]) hH e (by simp) (r.append (.cons ru .nil)) ?_,rfl,q⟩;rw[alH,List.length_singleton];omega
noncomputable def ad5:V->List V->Hp->VK->Prop:=fun x vs H Q=>∃l b xs zs,x=.ref l/\vs=[.ref b]/\H l=some (.lst xs)/\H b=some (.lst zs)/\xs.length+zs.length<=alz/\Q .aE (upd H l (.lst (xs++zs)))
theorem akS:O8 X "list.extend" ad5:=by
 intro pins s σ H x vs v us Q I rx rv h;obtain⟨l,b,xs,zs,rfl,rfl,hH,hB,hz,q⟩:=h;cases rx;obtain⟨u,rfl,ru⟩:=rv.one;cases ru;obtain⟨z,its,n,r,hl,e⟩:=I.sS hH;obtain⟨z2,nN,n2,r2,fH,e2⟩:=I.sS hB;have hsz:its.toArray.size+nN.toArray.size<=sizeLine:=by rw[alq,alq];omega
 have Du:¬(!its.toArray.isEmpty&&anG (its.toArray.size+nN.toArray.size))=true:=by
  rw[JU hsz,aqK];exact alK
 refine art F.slot_list_extend ⟨_,e,rfl⟩ F.entry_list_extend (F.args_list_extend_2 _ _)
  (AutoSeq1.list_extend_list_list_0 l its.toArray n b nN.toArray n2 Du (by rw[alq];omega) (by omega)) ⟨e,e2,?_⟩
 refine⟨.aE,_,I.Oe (its':=its++nN) hH e (by simp) (r.append r2) ?_,rfl,q⟩;rw[alH];omega
noncomputable def Of:R2:=fun x y H Q=>∃l b xs zs,x=.ref l/\y=.ref b/\H l=some (.lst xs)/\H b=some (.lst zs)/\xs.length+zs.length<=alz/\∀p,H p=none->Q (.ref p) (upd H p (.lst (xs++zs)))
theorem agj:bI X (aoe .Add) Of:=by
 intro pins s σ H x y v u Q I rx ry h;obtain⟨l,b,xs,zs,rfl,rfl,hH,hB,hz,q⟩:=h;cases rx;cases ry;obtain⟨z,its,n,r,hl,e⟩:=I.sS hH;obtain⟨z2,nN,n2,r2,fH,e2⟩:=I.sS hB;refine PySem.P.add_list e e2 ?_ (by rw[alq,alq];omega);have ea:its.toArray++nN.toArray=(its++nN).toArray:=by simp
 rw[ea];exact⟨.ref _,_,I.DV (t':=s.toks) (r.append r2) (by rw[alH];omega),rfl,q _ I.fresh⟩
noncomputable def Og:R2:=fun x y H Q=>∃l k xs,x=.ref l/\y=.int k/\H l=some (.lst xs)/\ -(2 ^ 63)<=k/\k<2 ^ 63/\xs.length*k.toNat<=alz /\
 ∀p,H p=none->Q (.ref p) (upd H p (.lst (alj k.toNat xs).flatten))
theorem len_rep{α:Type}(xs:List α)(k:Nat):(alj k xs).flatten.length=k*xs.length:=by
 induction k with
 | zero=>simp
 | succ k ih=>rw[amx,anF,alH,ih,Nat.succ_mul,arD]
theorem agk:bI X (aoe .Mult) Og:=by
 intro pins s σ H x y v u Q I rx ry h;obtain⟨l,k,xs,rfl,rfl,hH,h1,h2,hz,q⟩:=h;cases rx;obtain⟨t,rfl⟩:=ry;obtain⟨z,its,n,r,hl,e⟩:=I.sS hH;have b7:its.toArray.size*k.toNat<=sizeLine:=by rw[alq,<- hl];exact hz
 have aj1:¬its.toArray.size*k.toNat>(2 ^ 63-1) / 8:=by
  have:(alz:Nat)<=(2 ^ 63-1) / 8:=by decide
  omega
 have aj2:¬(!Builtin.List.listFitsIndex k)=true:=by
  rw[fitsIndex_both h1 h2];exact alK
 have Du:¬anG (its.toArray.size*k.toNat)=true:=by
  rw[JU b7];exact alK
 have aj3:List.foldl (fun x1 x2=>x1++x2) #[] (alj (if its.toArray.isEmpty=true then 0 else k.toNat) its.toArray)=(alj k.toNat its).flatten.toArray:=by
  have f0:∀m:Nat,List.foldl (fun x1 x2=>x1++x2) #[] (alj m its.toArray)=(alj m its).flatten.toArray:=fun m=>by
   have:=foldl_rep its m [];rw[List.nil_append] at this;exact this
  rw[f0];cases its with
  | nil=>simp
  | cons a r'=>rw[if_neg (by simp)]
 refine wpAny_binaryOp_repeat_ref (T:="list") (U:="int") (by decide) ⟨_,e,rfl⟩ (fun s'=>typeIs_int s' k t) noFill_list_mul F.fills_int_mul F.slot_int_rmul repeat_list F.slot_int_index.lookup
  (art F.slot_int_rmul (typeIs_int s k t) F.entry_int_rmul (F.args_int_rmul_2 _ _) (int___rmul___int_list k t l its.toArray n)
   ⟨e,rfl,⟨_,e,rfl⟩,art F.slot_list_mul ⟨_,e,rfl⟩ F.entry_list_mul (F.args_list_mul_2 _ _) (AutoListH.list___mul___list_int_3 l its.toArray n k t aj2 aj1 Du) ⟨e,?_⟩⟩)
 rw[aj3];exact⟨.ref _,_,I.DV (t':=s.toks) (r.rep k.toNat) (by rw[len_rep,Nat.mul_comm];exact hz),rfl,q _ I.fresh⟩
end
end L2
namespace O9
open PySem PySem.W PySem.Calls PyProof.Rows
theorem US{P:Params}{h:Heap}:∀(ns:List Int) (vs:List Value),WellAll P h vs (ns.map WData.int)->IntsAre vs ns:=by
 intro ns
 induction ns with
 | nil=>
  intro vs w;rw[aqp] at w;cases w;exact .nil
 | cons n ns ih=>
  intro vs w;rw[alO] at w;cases w with
  | cons a b=>
   cases a;exact .cons _ _ (ih _ b)
theorem abd{l:OpenLaw}{n:Nat}(hn:l.most=some n){P:Params}{h:Heap}{args:List WData}{vals:List Value}
  (z8:l.row.toRowW.claim.pre args=true) (ET:WellAll P h vals args) :
  ∃a vs ns,vals=[alJ a]/\args=[WData.list (ns.map WData.int)]/\h.get? a=some { cls:=.type "list",data:=.seq vs.toArray }/\IntsAre vs ns/\ns.length<=n:=by
 have hsh:WShape.hasAll [] args [.list .int]=true:=(pre_splitW z8).1;have hc:l.pre.holds [] { args:=args }=true:=(pre_splitW z8).2;obtain⟨d,r,rfl,h1,h2⟩:=hasAllW_cons hsh;obtain rfl:=hasAllW_nil h2;obtain⟨xs,rfl,h3⟩:=hasW_list h1;obtain⟨ns,rfl⟩:=items_int h3;have b7:ns.length<=n:=by
  unfold OpenLaw.pre at hc;have h4:(WTm.not (.lt (.lit (.int n)) (.len (.arg 0)))).holds [] { args:=[.list (ns.map .int)] }=true:=by
   have h4:=(holds_andW hc).1;rw[hn] at h4;exact h4
  have h5:=condW_of h4 (w_not (w_lt w_lit (w_len_list (w_arg rfl))));rw[alg] at h5;refine Nat.le_of_not_lt fun q=>?_
  have q':(n:Int)<((ns.length:Nat):Int):=by omega
  first
   | (rw[decide_eq_true q'] at h5;exact absurd h5 (by decide))
   | (simp at h5;omega)
 cases ET with
 | cons w1 w2=>
  cases w2;cases w1 with
  | list ho DW=>exact⟨_,_,ns,rfl,rfl,ho,US ns _ DW,b7⟩
theorem abe(l:OpenLaw)(args:List WData):l.row.toRowW.claim.post args (.bool true) args=true:=
 postW_of (r:=l.row.toRowW) (X:=(true==true))
  (show WShape.has [] (.bool true) .bool=true by first | rfl | decide | simp[WShape.has,WShape.arms,WShape.armsAll])
  (show(WTm.eq .res (.lit (.bool true))).value [] { args:=args,res:=some (.bool true),after:=args }=some (.bool (true==true)) from w_eq_bool (w_res rfl) w_lit) rfl
theorem YB{l:OpenLaw}{n:Nat}{q:amb}{loose:List Str}{XP:(Str->Option Value)->Heap->Prop}{YP:World->Heap->Prop}{d:DefRec}
  (hn:l.most=some n) (vU:d.params.defaults=[])
  (call:∀(w:World) (aQ bO:ald) (mg mb:Str->Option Value) (fa:Addr) (o:Obj) (pm cd doc:Value) (a:Addr) (vs:List Value) (ns:List Int),
   Ground q loose [] XP w aQ mg mb bO.heap->YP w bO.heap →
   bO.heap.get? fa=some o->o.data=.func (docDef d.name d.params d.body d.scope pm cd doc)->bO.heap.CodeRec cd d.name->mg d.name=some (.ref fa) →
   bO.heap.get? a=some { cls:=.type "list",data:=.seq vs.toArray }->IntsAre vs ns->ns.length<=n->bO.gens= #[] →
   apv (model l.prog w) callerA (.call (.ref fa) ⟨[.ref a],[]⟩) (fun r s'=>r=.ok (.ret (.bool true))/\OldK bO.heap s'.heap/\s'.os=bO.os/\apN s'.gens) bO) :
  WalkO q loose XP YP l.row.toRowW d [] (fun f vs=>PySem.call f vs):=by
 intro w aQ bO mg mb G Y fa o pm cd doc dV kV ho hd hcd hD hmg hg args vals as z8 ak0 Pa ET hlo;obtain rfl:dV=.none:=Dflts.none hD vU;obtain rfl:kV=.none:=Dflts.noKw hD;obtain⟨a,vs,ns,rfl,rfl,pY,Dv,b7⟩:=abd hn z8 ET;refine enter_call (aoK (call w aQ bO mg mb fa o pm cd doc a vs ns G Y ho (fd_plain hd) hcd hmg pY Dv b7 hg) fun r s' hq=>?_);obtain⟨rfl,h2,h3,h4⟩:=hq;exact⟨.inl ⟨.bool true,.bool true,[],rfl,fun _=>rfl,.bool true,abe l _,fun _=>⟨List.Pairwise.nil,fun _ hm=>(nomatch hm)⟩⟩,h2,h3,h4⟩
end O9
namespace L2
open PySem PySem.Spec PyProof.Rows
theorem Jb:∀{vs:List Value} {ns:List Int},IntsAre vs ns->Vals (ns.map V.int) vs
 | _,_,.nil=>.nil
 | _,_,.cons n t h=>.cons ⟨t,rfl⟩ (Jb h)
noncomputable def inClass(s:Stmt)(j:Nat):Stmt:=match s with
 | .ClassDef _ _ _ body _ _ _ _ _ _ _=>body.getD j (.Pass ⟨0,0,0,0⟩)
 | _=>.Pass ⟨0,0,0,0⟩
noncomputable def b0(s:Stmt):Arguments:=match s with
 | .FunctionDef _ a _ _ _ _ _ _ _ _=>a
 | _=>{ posonlyargs:=[],args:=[],vararg:=none,kwonlyargs:=[],kw_defaults:=[],kwarg:=none,defaults:=[] }
noncomputable def a9(s:Stmt):List Stmt:=match s with
 | .FunctionDef _ _ b _ _ _ _ _ _ _=>b
 | _=>[]
noncomputable def ak(s:Stmt):Scope:=match s with
 | .FunctionDef _ _ _ _ _ _ sc _ _ _=>sc
 | _=>{ kind:=.function,names:=[],isGenerator:=false,isCoroutine:=false }
abbrev E0:XK:=fun _ _ _=>False
structure cw(K:acs)(x qual:Str)(st:Stmt)(f:Addr)(fd:alM):Prop where
 ex:∃(oc:Value) (od:Option Addr) (kV doc pm:Value) (an:Option Addr) (bX ct:Value) (hO:Array (Option Value)),
  fd=alw x qual (b0 st) (a9 st) (ak st) .none kV doc pm an bX ct/\K.lookup f=some ⟨oc,od,.func fd,hO⟩/\als K bX qual=true
 kp:alm K (.ref f)=true
section
variable{P:amb}{w:World}{K:acs}{mg:Str->Option Value}{base:Heap}
theorem cw.binds{x qual:Str}{st:Stmt}{f:Addr}{fd:alM}{ps:List Str}(F:cw K x qual st f fd)
  (h:∀(kV doc pm:Value) (an:Option Addr) (bX ct:Value) (us:List Value),us.length=ps.length->bindArgs (alw x qual (b0 st) (a9 st) (ak st) .none kV doc pm an bX ct) ⟨us,[]⟩=pure (ps.zip us)):Binds K fd ps []:=by
 obtain⟨oc,od,kV,doc,pm,an,bX,ct,hO,rfl,lk,hcd⟩:=F.ex;exact .all (h kV doc pm an bX ct)
theorem cG{x qual:Str}{st:Stmt}{f:Addr}{oc:Value}{od an:Option Addr}{hO:Array (Option Value)}{kV doc pm bX ct:Value}(l:K.lookup f=some ⟨oc,od,.func (alw x qual (b0 st) (a9 st) (ak st) .none kV doc pm an bX ct),hO⟩)
  (c:als K bX qual=true) (k:alm K (.ref f)=true):cw K x qual st f (alw x qual (b0 st) (a9 st) (ak st) .none kV doc pm an bX ct):=⟨⟨oc,od,kV,doc,pm,an,bX,ct,hO,rfl,l,c⟩,k⟩
end
theorem zD{A:amz}{k:Nat}(hr:cQ k A):A.units+1<cLine:=Nat.lt_of_le_of_lt (Nat.add_le_add_left (by decide:1<=64) _) hr.units
theorem nO{A B:Prop}(h:B):if false=true then A else B:=by
 rw[if_neg alK];exact h
theorem nP{A B:Prop}(h:A):if true=true then A else B:=by
 rw[if_pos rfl];exact h
section
variable{κ:Type}[DecidableEq κ]
noncomputable def jT(kvs:List (κ×V))(k:κ):Option V:=(kvs.find? fun kv=>decide (kv.1=k)).map (·.2)
noncomputable def putK(kvs:List (κ×V))(k:κ)(v:V):List (κ×V):=
 if(kvs.any fun kv=>decide (kv.1=k))=true then kvs.map (fun kv=>if kv.1=k then(kv.1,v) else kv) else kvs++[(k,v)]
theorem uy{p:κ×V}{r:List (κ×V)}{k:κ}(e:p.1=k):jT (p::r) k=some p.2:=by simp[jT,ang,e]
theorem uz{p:κ×V}{r:List (κ×V)}{k:κ}(e:¬p.1=k):jT (p::r) k=jT r k:=by simp[jT,ang,e]
theorem JV(k:κ):∀kvs:List (κ×V),(kvs.any fun kv=>decide (kv.1=k))=(jT kvs k).isSome
 | []=>rfl
 | p::r=>by
  rw[amt];by_cases e:p.1=k
  ·simp only[uy e,decide_eq_true e,Bool.true_or,Option.isSome_some]
  ·rw[uz e,decide_eq_false e,Bool.false_or];exact JV k r
theorem HP(kvs:List (κ×V))(k:κ)(v:V):(putK kvs k v).length<=kvs.length+1:=by
 unfold putK;split
 ·rw[alg];omega
 ·rw[alH,alA,aqq];omega
theorem fP.uv{o:Option V}{u:Option Value}(r:fP o u):o.isSome=u.isSome:=by
 cases o with
 | none=>cases u with
  | none=>rfl
  | some _=>exact(show False from r).elim
 | some _=>cases u with
  | none=>exact(show False from r).elim
  | some _=>rfl
theorem fP.getD{o:Option V}{u:Option Value}{d:V}{d':Value}(r:fP o u)(rd:RelV d d'):RelV (o.getD d) (u.getD d'):=by
 cases o with
 | none=>cases u with
  | none=>exact rd
  | some _=>exact(show False from r).elim
 | some _=>cases u with
  | none=>exact(show False from r).elim
  | some _=>exact r
theorem KV.val{kvs:List (κ×V)}{vs:List (κ×Value)}(r:KV kvs vs)(k:κ):fP (jT kvs k) (aru vs k):=by
 unfold KV at r
 induction r with
 | nil=>exact aof
 | @cons p q ps qs h t ih=>
  obtain⟨h1,h2⟩:=h;by_cases e:p.1=k
  ·have e':q.1=k:=h1.symm.trans e;have b:aru (q::qs) k=some q.2:=by simp[aru,ang,e']
   rw[uy e,b];exact h2
  ·have e':¬q.1=k:=fun z=>e (h1.trans z)
   have b:aru (q::qs) k=aru qs k:=by simp[aru,ang,e']
   rw[uz e,b];exact ih
theorem KV.any{kvs:List (κ×V)}{vs:List (κ×Value)}(r:KV kvs vs)(k:κ):(kvs.any fun kv=>decide (kv.1=k))=vs.any fun kv=>decide (kv.1=k):=by
 unfold KV at r
 induction r with
 | nil=>rfl
 | cons h t ih=>rw[amt,amt,ih,h.1]
theorem KV.ki{kvs:List (κ×V)}{vs:List (κ×Value)}(r:KV kvs vs)(k:κ){y:V}{u:Value}(ry:RelV y u) :
  KV (kvs.map fun kv=>if kv.1=k then(kv.1,y) else kv) (vs.map fun kv=>if kv.1=k then(kv.1,u) else kv):=by
 unfold KV at r ⊢
 induction r with
 | nil=>exact .nil
 | @cons p q ps qs h t ih=>
  rw[alO,alO];refine .cons ?_ ih;obtain⟨h1,h2⟩:=h;by_cases e:p.1=k
  ·rw[if_pos e,if_pos (h1.symm.trans e)];exact⟨h1,ry⟩
  ·rw[if_neg e,if_neg (fun z=>e (h1.trans z))];exact⟨h1,h2⟩
theorem KV.put{kvs:List (κ×V)}{vs:List (κ×Value)}(r:KV kvs vs)(k:κ){y:V}{u:Value}(ry:RelV y u):KV (putK kvs k y) (stored vs k u):=by
 unfold putK stored;rw[r.any k];by_cases e:(vs.any fun kv=>decide (kv.1=k))=true
 ·rw[if_pos e,if_pos e];exact r.ki k ry
 ·rw[if_neg e,if_neg e];exact Paired.snoc r ⟨rfl,ry⟩
theorem KV.keys{kvs:List (κ×V)}{vs:List (κ×Value)}(r:KV kvs vs):kvs.map (·.1)=vs.map (·.1):=by
 unfold KV at r
 induction r with
 | nil=>rfl
 | cons h t ih=>rw[alO,alO,ih,h.1]
theorem KV.length{kvs:List (κ×V)}{vs:List (κ×Value)}(r:KV kvs vs):kvs.length=vs.length:=apM r
end
variable{u:Value}
theorem pN{P:amb}{w:World}{k:Key}(r:RelV (kV k) u):(dC P w).is k u=true:=by
 cases k with
 | inl i=>obtain⟨t,e⟩:=(show ∃t,u=aoI i t from r);subst e;exact Yz P w i t
 | inr x=>obtain⟨t,e⟩:=(show ∃t,u=aqh x t from r);subst e;exact YA P w x t
theorem Jc{P:amb}{w:World}:∀{ks:List Key} {us:List Value},Vals (ks.map kV) us->ItemsAre (dC P w) ks us
 | [],_,r=>by rw[aqp] at r;cases r;exact .nil
 | k::ks,_,r=>by
  rw[alO] at r;cases r with
  | cons h t=>exact .cons (pN h) (Jc t)
abbrev KT(H:Hp):List (List Key×V)->List (List Key×Addr×Value)->Prop:=aqi fun p q=>p.1=q.1/\H q.2.1=some (.tup (p.1.map kV))/\RelV p.2 q.2.2
variable{H:Hp}{kvs:List (List Key×V)}{xs:List (List Key×Addr×Value)}
theorem KT.val(r:KT H kvs xs)(k:List Key):fP (jT kvs k) ((atKey xs k).map (·.2)):=by
 induction r with
 | nil=>exact aof
 | @cons p q ps qs h t ih=>
  obtain⟨h1,_,h2⟩:=h;by_cases e:p.1=k
  ·have e':q.1=k:=h1.symm.trans e;have b:atKey (q::qs) k=some q.2:=by simp[atKey,ang,e']
   rw[uy e,b];exact h2
  ·have e':¬q.1=k:=fun z=>e (h1.trans z)
   have b:atKey (q::qs) k=atKey qs k:=by simp[atKey,ang,e']
   rw[uz e,b];exact ih
variable{y:V}
theorem KT.ki(r:KT H kvs xs)(k:List Key)(ry:RelV y u) :
  KT H (kvs.map fun kv=>if kv.1=k then(kv.1,y) else kv) (xs.map (putAt k u)):=by
 induction r with
 | nil=>exact .nil
 | @cons p q ps qs h t ih=>
  rw[alO,alO];refine .cons ?_ ih;obtain⟨h1,h2,h3⟩:=h;unfold putAt;by_cases e:p.1=k
  ·rw[if_pos e,if_pos (h1.symm.trans e)];exact⟨h1,h2,ry⟩
  ·rw[if_neg e,if_neg (fun z=>e (h1.trans z))];exact⟨h1,h2,h3⟩
theorem KT.put(r:KT H kvs xs)(k:List Key){b:Addr}(hb:H b=some (.tup (k.map kV)))(ry:RelV y u) :
  KT H (putK kvs k y) (storedH xs k b u):=by
 have e:(kvs.any fun kv=>decide (kv.1=k))=(atKey xs k).isSome:=by
  rw[JV,(r.val k).uv,apG]
 unfold putK storedH;rw[e];by_cases q:(atKey xs k).isSome=true
 ·rw[if_pos q,if_pos q];exact r.ki k ry
 ·rw[if_neg q,if_neg q];exact Paired.snoc r ⟨rfl,hb,ry⟩
theorem KT.keeps{H':Hp}(r:KT H kvs xs)(ht:∀b ys,H b=some (.tup ys)->H' b=some (.tup ys)):KT H' kvs xs:=
 aqi.zV r fun _ _ z=>⟨z.1,ht _ _ z.2.1,z.2.2⟩
section
variable{P:amb}{w:World}{H:Hp}{h:Heap}{a:Addr}
theorem Nh{u:HO}(ok:cC P w H h)(e:Rd H a u):de P w H h a u:=e.ok ok
theorem pO{kvs:List (Key×V)}(ok:cC P w H h)(e:Rd H a (.dK kvs)):kvs.length<=alz/\(a==anz)=false/\∃vs,KV kvs vs/\h.DictOf (dC P w) a vs:=
 show de P w H h a (.dK kvs) from Nh ok e
theorem uY{kvs:List (Key×V)}(ok:cC P w H h)(e:H a=some (.dK kvs)):kvs.length<=alz/\(a==anz)=false/\∃vs,KV kvs vs/\h.DictOf (dC P w) a vs:=pO ok (.inl e)
theorem pD{ks:List Key}(ok:cC P w H h)(e:H a=some (.tup (ks.map kV))):(apB (dC P w)).is h ks a:=by
 obtain⟨_,its,r,o,h1,h2,n,h3⟩:=(show de P w H h a (.tup (ks.map kV)) from ok a _ e)
 exact⟨o,its.toArray,n,h1,h2,h3,by simpa using Jc r⟩
theorem pP{kvs:List (List Key×V)}(ok:cC P w H h)(e:Rd H a (.dT kvs)):kvs.length<=alz/\(a==anz)=false /\
  ∃xs,KT H kvs xs/\h.DictOfH (apB (dC P w)) a xs:=by
 obtain⟨z,y,xs,r,o,es,ep,h1,h2,h3,h4,h5⟩:=(show de P w H h a (.dT kvs) from Nh ok e)
 refine⟨z,y,xs,r,o,es,ep,h1,h2,h3,h4,fun x hx=>?_,h5⟩;have all:∀{l:List (List Key×V)} {m:List (List Key×Addr×Value)},KT H l m->∀x∈m,(apB (dC P w)).is h x.1 x.2.1:=by
  intro l m q
  induction q with
  | nil=>intro x hx;exact nomatch hx
  | @cons p q ps qs hq t ih=>
   intro x hx
   rcases alD.mp hx with e | hx
   ·subst e;exact pD ok (by rw[<- hq.1];exact hq.2.1)
   ·exact ih x hx
 exact all r x hx
theorem Dw{kvs:List (List Key×V)}(ok:cC P w H h)(e:H a=some (.dT kvs)):kvs.length<=alz/\(a==anz)=false /\
  ∃xs,KT H kvs xs/\h.DictOfH (apB (dC P w)) a xs:=pP ok (.inl e)
end
noncomputable def fR(H:Hp)(a:Addr)(y:V)(r:Option V):Prop:=
 (∃kvs k,Rd H a (.dK kvs)/\y=kV k/\r=jT kvs k)\/∃kvs k b,Rd H a (.dT kvs)/\y=.ref b/\H b=some (.tup (k.map kV))/\r=jT kvs k
noncomputable def z9(H:Hp)(a:Addr)(y v:V)(H':Hp):Prop:=
 (∃kvs k,H a=some (.dK kvs)/\y=kV k/\kvs.length<alz/\H'=upd H a (.dK (putK kvs k v))) \/
 ∃kvs k b,H a=some (.dT kvs)/\y=.ref b/\H b=some (.tup (k.map kV))/\kvs.length<alz/\H'=upd H a (.dT (putK kvs k v))
section
variable{X:Cx}{pins:List (Addr×Obj)}{σ:St}{H:Hp}{s:ald}{a:Addr}{y v:V}{u r:Value}{o:Option V}{A:amz}{E:Value->ald->Prop}
theorem Inv.big(I:Inv X pins σ H s):anz<s.heap.objs.size:=by
 have h:alc<s.heap.objs.size:=(I.mod.glob.keeps I.bk).lt;exact Nat.lt_trans (by decide) h
variable{Q:Value->ald->Prop}
theorem abf(hu:A.units+1<cLine)(I:Inv X pins σ H s)(g:fR H a y (some v))(ry:RelV y u)(h:∀w' s',Inv X pins σ H s'->RelV v w'->Q w' s') :
  wpAny (model X.prog X.w) A (aqO (.ref a) u) Q E s:=by
 rcases g with⟨kvs,k,e,ey,l⟩ | ⟨kvs,k,b,e,ey,eb,l⟩
 ·subst ey;obtain⟨z,hd,vs,rel,dd⟩:=pO I.aM e;obtain⟨w',hw,hU⟩:=fP.some_of (v:=v) (o:=aru vs k) (by rw[l];exact rel.val k);exact wpAny_getItem_of (pN ry) dd.mapOf hw (h w' _ (I.tok _) hU)
 ·subst ey;cases(show u=alJ b from ry);obtain⟨z,hd,xs,rel,dd⟩:=pP I.aM e;obtain⟨w',hw,hU⟩:=fP.some_of (v:=v) (o:=(atKey xs k).map (·.2)) (by rw[l];exact rel.val k);obtain⟨p,hp,hp2⟩:=alv.mp hw;refine wpAny_getItem_heap (anm hu) (pD I.aM eb) dd hp ?_;rw[hp2];exact h w' _ (I.tok _) hU
theorem DX(hu:A.units+1<cLine)(I:Inv X pins σ H s)(g:fR H a y o)(ry:RelV y u)(h:∀s',Inv X pins σ H s'->Q (.bool o.isSome) s') :
  wpAny (model X.prog X.w) A (ami .In u (.ref a)) Q E s:=by
 rcases g with⟨kvs,k,e,ey,l⟩ | ⟨kvs,k,b,e,ey,eb,l⟩
 ·subst ey;obtain⟨z,hd,vs,rel,dd⟩:=pO I.aM e;refine wpAny_in_of (pN ry) hd dd.mapOf ?_;rw[<- (rel.val k).uv,<- l];exact h _ (I.tok _)
 ·subst ey;cases(show u=alJ b from ry);obtain⟨z,hd,xs,rel,dd⟩:=pP I.aM e;refine wpAny_in_heap (anm hu) (pD I.aM eb) hd dd ?_;have q:=(rel.val k).uv;rw[apG] at q;rw[<- q,<- l];exact h _ (I.tok _)
theorem Cy(hu:A.units+1<cLine)(I:Inv X pins σ H s)(g:fR H a y o)(ry:RelV y u)(h:∀s',Inv X pins σ H s'->Q (.bool (!o.isSome)) s') :
  wpAny (model X.prog X.w) A (ami .NotIn u (.ref a)) Q E s:=by
 rcases g with⟨kvs,k,e,ey,l⟩ | ⟨kvs,k,b,e,ey,eb,l⟩
 ·subst ey;obtain⟨z,hd,vs,rel,dd⟩:=pO I.aM e;refine wpAny_notIn_of (pN ry) hd dd.mapOf ?_;rw[<- (rel.val k).uv,<- l];exact h _ (I.tok _)
 ·subst ey;cases(show u=alJ b from ry);obtain⟨z,hd,xs,rel,dd⟩:=pP I.aM e;refine wpAny_notIn_heap (anm hu) (pD I.aM eb) hd dd ?_;have q:=(rel.val k).uv;rw[apG] at q;rw[<- q,<- l];exact h _ (I.tok _)
theorem KY{h':Heap}{t':Nat}{ob:HO}(I:Inv X pins σ H s)(mu:mE (H a))(hs:aoJ a s.heap h')(he:∃q,h'.get? a=some q)(new:de X.prog X.w (upd H a ob) h' a ob) :
  Inv X pins σ (upd H a ob) { s with heap:=h',toks:=t' }:=
 I.write (x:=a) (e:=a) mu (.inl rfl) (fun b q hb z=>(hs.2 b hb).trans z) he new
theorem agl{P:amb}{w:World}{H':Hp}{h':Heap}{kvs:List (Key×V)}{vs:List (Key×Value)}(z:kvs.length<=alz)(hd:(a==anz)=false)(rel:KV kvs vs)(dd:h'.DictOf (dC P w) a vs) :
  de P w H' h' a (.dK kvs):=⟨z,hd,vs,rel,dd⟩
theorem BW{H':Hp}{Q:Unit->ald->Prop}(hu:A.units+1<cLine)(I:Inv X pins σ H s)(g:z9 H a y v H')(ry:RelV y u)(rv:RelV v r)(h:∀s',Inv X pins σ H' s'->Q () s') :
  wpAny (model X.prog X.w) A (setItem (.ref a) u r) Q E s:=by
 rcases g with⟨kvs,k,e,ey,l,eH⟩ | ⟨kvs,k,b,e,ey,eb,l,eH⟩
 ·subst ey eH;obtain⟨z,hd,vs,rel,dd⟩:=uY I.aM e;have hz:vs.length<=sizeLine:=by rw[<- rel.length];exact z
  have hl:(putK kvs k v).length<=sizeLine:=by have:=HP kvs k v;omega
  refine wpAny_setItem_pairs (hsz:=hz) (pN ry) dd fun h' AE hs=>h _ ?_
  have he:∃q,h'.get? a=some q:=let ⟨q,_,_,hq,_⟩:=AE;⟨q,hq⟩
  exact KY I (by rw[e];exact aof) hs he (agl hl hd (rel.put k rv) AE)
 ·subst ey eH;cases(show u=alJ b from ry);obtain⟨z,hd,xs,rel,dd⟩:=Dw I.aM e;have hz:xs.length<=sizeLine:=by rw[<- apM rel];exact z
  have hl:(putK kvs k v).length<=sizeLine:=by have:=HP kvs k v;omega
  refine wpAny_setItem_heap (hsz:=hz) (anm hu) (pD I.aM eb) dd fun h' AE hs=>h _ ?_
  obtain⟨q,es,ep,hq,h2,h3,h4,_,h5⟩:=AE;refine KY I (by rw[e];exact aof) hs ⟨q,hq⟩ ⟨hl,hd,_,(rel.put k eb rv).keeps fun c ys ec=>?_,q,es,ep,hq,h2,h3,h4,h5⟩;rw[bw (nC ec e (fun z=>nomatch z))];exact ec
end
theorem YC{X:Cx}{pins:List (Addr×Obj)}{σ:St}{s:ald}{a:Addr}{o:Option V}(I:Inv X pins σ H s)(g:fR H a y o):s.TypeIs (.ref a) "dict":=by
 rcases g with⟨kvs,k,e,_,_⟩ | ⟨kvs,k,b,e,_,_,_⟩
 ·obtain⟨_,_,vs,_,dd⟩:=pO I.aM e;exact dd.typeIs
 ·obtain⟨_,_,xs,_,dd⟩:=pP I.aM e;exact dd.typeIs
theorem acQ{P:amb}{w:World}(h:Heap)(hb:anz<h.objs.size):de P w H (h.push { cls:=.type "dict",data:=.dict #[] }) h.objs.size (.dK []):=
 ⟨ant _,beq_eq_false_iff_ne.mpr (amT (alV hb)),[],.nil,Heap.DictOf.new h⟩
noncomputable def agm:TE:=fun _ H Q=>∀p,H p=none->Q (.ref p) (upd H p (.dK []))
section
variable{X:Cx}{pos:Pos}
theorem acR:PE X (.Dict [] [] pos) agm:=fun pins s σ H Q I h=>
 wpAny_Dict_empty ⟨.ref s.heap.objs.size,_,I.laid (a:=s.heap.objs.size) (o:=.dK []) (t':=s.toks) (fun _ _ q=>alb _ q) (ali _) (acQ s.heap I.big),rfl,h _ (I.aM.fresh (ali _))⟩
end
section
variable{X:Cx}{pins:List (Addr×Obj)}{σ:St}{H:Hp}{s:ald}{a:Addr}{y d:V}{u r:Value}{o:Option V}{A:amz}{E:Value->ald->Prop}
theorem C1{Q:Value->ald->Prop}(hu:A.units+1<cLine)(I:Inv X pins σ H s)(g:fR H a y o)(ry:RelV y u)(h:∀w' s',Inv X pins σ H s'->RelV (o.getD .aE) w'->Q w' s') :
  wpAny (model X.prog X.w) A (call (.builtin "dict.get") [.ref a,u]) Q E s:=by
 rcases g with⟨kvs,k,e,ey,l⟩ | ⟨kvs,k,b,e,ey,eb,l⟩
 ·subst ey;obtain⟨z,hd,vs,rel,dd⟩:=pO I.aM e;refine aqr ano dd.typeIs anP (apS _ _) (meets_dict_get (dC X.prog X.w) a (pN ry) hd) ⟨_,dd.mapOf,h _ _ (I.tok _) ?_⟩;rw[l];exact(rel.val k).getD rfl
 ·subst ey;cases(show u=alJ b from ry);obtain⟨z,hd,xs,rel,dd⟩:=pP I.aM e;refine aqr ano dd.typeIs anP (apS _ _) (meetsH_dict_get (apB (dC X.prog X.w)) a b hd) ⟨anm hu,k,xs,pD I.aM eb,dd,h _ _ (I.tok _) ?_⟩;rw[l];exact(rel.val k).getD rfl
theorem C3{Q:Value->ald->Prop}(hu:A.units+1<cLine)(I:Inv X pins σ H s)(g:fR H a y o)(ry:RelV y u)(rd:RelV d r)(h:∀w' s',Inv X pins σ H s'->RelV (o.getD d) w'->Q w' s') :
  wpAny (model X.prog X.w) A (call (.builtin "dict.get") [.ref a,u,r]) Q E s:=by
 rcases g with⟨kvs,k,e,ey,l⟩ | ⟨kvs,k,b,e,ey,eb,l⟩
 ·subst ey;obtain⟨z,hd,vs,rel,dd⟩:=pO I.aM e;refine aqr ano dd.typeIs anP (apT _ _ _) (meets_dict_get_default (dC X.prog X.w) a (pN ry) hd r) ⟨_,dd.mapOf,h _ _ (I.tok _) ?_⟩;rw[l];exact(rel.val k).getD rd
 ·subst ey;cases(show u=alJ b from ry);obtain⟨z,hd,xs,rel,dd⟩:=pP I.aM e;refine aqr ano dd.typeIs anP (apT _ _ _) (meetsH_dict_get_default (apB (dC X.prog X.w)) a b hd r) ⟨anm hu,k,xs,pD I.aM eb,dd,h _ _ (I.tok _) ?_⟩;rw[l];exact(rel.val k).getD rd
end
end L2
namespace PySem
open Sem (wp)
noncomputable def kk(o:Obj):Value×Option Addr:=(o.cls,o.dict)
theorem Mc(o:Obj)(f:Array Value->Array Value):kk (amI f o)=kk o:=by
 obtain⟨c,d,dt,sl⟩:=o;cases dt <;> rfl
namespace Heap
noncomputable def pq(h base:Heap)(e:Addr)(cls:Value×Option Addr)(a0:Value):Prop:=
 ∃oe vs T oT ts,h.get? e=some oe/\(kk oe=cls/\vs[0]? =some a0)/\oe.data=.fields vs/\vs[1]? =some (.ref T)/\base.get? T=none/\T≠e/\h.get? T=some oT/\oT.data=.fields ts/\ts[3]? =some .none
noncomputable def yx(h base:Heap)(e:Addr)(cls:Value×Option Addr)(a0 fl:Value):Prop:=
 ∃oe vs T oT ts,h.get? e=some oe/\(kk oe=cls/\vs[0]? =some a0)/\oe.data=.fields vs/\vs[1]? =some (.ref T)/\base.get? T=none/\T≠e/\h.get? T=some oT/\oT.data=.fields ts/\ts[3]? =some fl
theorem pq.at{h base:Heap}{e:Addr}{cls:Value×Option Addr}{a0:Value}(x:h.pq base e cls a0):h.yx base e cls a0 .none:=x
noncomputable def Md(base:Heap)(l:List Env)(e:Addr)(cls:Value×Option Addr)(a0 fl:Value)(h h':Heap):Prop:=
 base.StaysIn h'/\h'.FunFrames base l/\h'.yx base e cls a0 fl/\∀b o,h.get? b=some o->(∀vs,o.data≠.fields vs)->∃sl,h'.get? b=some { o with slots:=sl }
end Heap
section
variable{M:Model}{A:amz}{E:Value->ald->Prop}{s:ald}
noncomputable def Heap.Dx(base:Heap)(l:List Env)(e:Addr)(cls:Value×Option Addr)(a0:Value)(h h':Heap):Prop:=
 base.StaysIn h'/\h'.FunFrames base l/\h'.pq base e cls a0 /\
  ∀b o,h.get? b=some o->(∀vs,o.data≠.fields vs)->∃sl,h'.get? b=some { o with slots:=sl }
variable{env:Env}{L:Addr}{oe:Obj}{vs:Array Value}{a0:Value}{Q:Unit->ald->Prop}
theorem GZ {base : Heap} {outer : List Env} {e : Addr} {head : Value} {Cz : Bool}
    (fT : A.frames = some (env :: outer)) (hl : s.heap.FunFrames base (env :: outer)) (hf : env.frame = some L)
    (he : s.heap.get? e = some oe) (fU : base.StaysIn s.heap) (mO : base.get? e = none) (hd : oe.data = .fields vs) (hsz : 1 < vs.size) (h0 : vs[0]? = some a0)
    (h : ∀ h', Heap.Dx base (env :: outer) e (kk oe) a0 s.heap h' -> Q () { s with heap := h' }) :
    wpAny M A (do let a <- frameOf env; let pl <- entryPlaceOf L Cz; let b <- aos head a .none (aok L) .none pl; setField (.ref e) 1 b) (fun _ s' => wpAny M A (apH (.ref e) none) Q E s') E s := by
  have DY : e ∉ (env :: outer).filterMap (·.frame) := fun hm => by
    obtain ⟨_, o, ho, cq⟩ := hl.mem hm;rw [he] at ho; injection ho with ho; subst ho; exact cq vs hd
  refine abB (wpAny_frameOf_fun fT hl hf fun bZ dh => ?_);refine abB (wpAny_entryPlaceOf fun pl hpl => ?_);unfold aos newFields;refine abB (ams ?_ (hpl.sizeOk5 _ _ _ _ _));have vV : bZ.get? e = some oe := (dh.2.1 e DY).trans he;have vW : base.StaysIn bZ := fun b o di => (dh.2.1 b fun hm => by rw [(hl.mem hm).1] at di; cases di).trans (fU b o di)
  have vX := alb (h := bZ) { cls := .type "traceback", dict := none, data := .fields ([head, .ref L, .none, aok L, .none] ++ (if pl.isEmpty then alj 6 alW else pl)).toArray } vV;refine anb vX hd hsz ?_;have gw : bZ.objs.size ≠ e := ana (alp vV);have tK := amJ hd (·.setIfInBounds 1 (alJ bZ.objs.size));have AF := amj (amI (·.setIfInBounds 1 (alJ bZ.objs.size))) vX (anp tK);have AG := (alP (bZ.push { cls := .type "traceback", dict := none, data := .fields ([head, .ref L, .none, aok L, .none] ++ (if pl.isEmpty then alj 6 alW else pl)).toArray })
    (amI (·.setIfInBounds 1 (alJ bZ.objs.size))) (amT gw)).trans (alG bZ rfl)
  unfold apH;refine abB (alY AF tK (x := .ref bZ.objs.size) (by simp [hsz]) ?_);rw [if_pos (show (alJ bZ.objs.size != alW) = true from by simp)];refine anb AG rfl (by simp only [alq, alH, alA, aqq] <;> omega) (h _ ?_);have keep : ∀ b o, b ≠ e -> bZ.get? b = some o →
      (((bZ.push { cls := .type "traceback", dict := none, data := .fields ([head, .ref L, .none, aok L, .none] ++ (if pl.isEmpty then alj 6 alW else pl)).toArray }).update e (amI (·.setIfInBounds 1 (alJ bZ.objs.size)))).update bZ.objs.size
        (amI (·.setIfInBounds 3 ((none : Option Addr).elim alW fun f => aok f)))).get? b = some o := fun b o kr hb => by
    have hbT : bZ.objs.size ≠ b := ana (alp hb);rw [alP _ _ hbT, alP _ _ (amT kr)];exact alb _ hb
  have iz : ∀ b o, s.heap.get? b = some o -> (∀ vs, o.data ≠ .fields vs) -> b ≠ e := fun b o hb cq q => by
    rw [q, he] at hb; injection hb with hb; subst hb; exact cq vs hd
  refine ⟨fun b o di => keep b o (fun q => by rw [q, mO] at di; cases di) (vW b o di), hl.of_keeps fun b o hb cq => ?_, ?_, fun b o hb cq => ?_⟩
  · obtain ⟨sl, hs⟩ := dh.2.2 b o hb
    exact ⟨_, keep b _ (iz b o hb cq) hs, rfl⟩
  · refine ⟨_, _, bZ.objs.size, _, _, ?_, ⟨Mc _ _, by rw [aoG (by decide)]; exact h0⟩, tK, by simp [hsz], vW.fresh, gw, amj _ AG (anp (amJ rfl _)), amJ rfl _, by first | (simp; done) | (rcases hpl with rfl | ⟨_, _, _, _, _, _, _, rfl⟩ <;> simp)⟩
    rw [alP _ _ gw]; exact AF
  · obtain ⟨sl, hs⟩ := dh.2.2 b o hb
    exact ⟨sl, keep b _ (iz b o hb cq) hs⟩
theorem Q9{base:Heap}{outer:List Env}{e:Addr}
  (fT:A.frames=some (env::outer)) (hl:s.heap.FunFrames base (env::outer)) (hf:env.frame=some L)
  (he:s.heap.get? e=some oe) (fU:base.StaysIn s.heap) (mO:base.get? e=none) (hd:oe.data=.fields vs) (h1:vs[1]? =some .none) (h0:vs[0]? =some a0)
  (h:∀h',Heap.Dx base (env::outer) e (kk oe) a0 s.heap h'->Q () { s with heap:=h' }):wpAny M A (apO env (.ref e)) Q E s:=by
 unfold apO aoo;simp only[hf];refine abB (abB (alY he hd h1 ?_));rw[if_neg (by decide)];exact GZ fT hl hf he fU mO hd (amk.mp h1).1 h0 h
variable{cls:Value×Option Addr}
theorem Rk{base:Heap}{outer:List Env}{e:Addr}
  (fT:A.frames=some (env::outer)) (hl:s.heap.FunFrames base (env::outer)) (hf:env.frame=some L) (ht:s.heap.pq base e cls a0) (fU:base.StaysIn s.heap) (mO:base.get? e=none)
  (h:∀h',Heap.Dx base (env::outer) e cls a0 s.heap h'->Q () { s with heap:=h' }):wpAny M A (apO env (.ref e)) Q E s:=by
 obtain⟨oe,vs,T,oT,ts,he,⟨mj,h0⟩,hd,h1,tL,gw,hT,jY,h3⟩:=ht;subst mj;unfold apO aoo;simp only[hf];refine abB (abB (alY he hd h1 ?_));rw[if_pos (show(alJ T != alW)=true from by simp)];refine abB (alY hT jY h3 ?_);rw[if_neg (show ¬((alW==aok L)=true) from by simp[aok])];refine abB (anb hT jY (amk.mp h3).1 ?_);have other:∀b,b≠T->(s.heap.update T (amI (·.setIfInBounds 3 alW))).get? b=s.heap.get? b:=fun b hb=>alP _ _ (amT hb)
 have iz:∀b o,s.heap.get? b=some o->(∀vs,o.data≠.fields vs)->b≠T:=fun b o hb cq q=>by
  rw[q,hT] at hb;injection hb with hb;subst hb;exact cq ts jY
 refine GZ fT (hl.of_keeps fun b o hb cq=>⟨o,(other b (iz b o hb cq)).trans hb,rfl⟩) hf ((other e (amT gw)).trans he)
  (fun b o di=>(other b fun q=>by rw[q,tL] at di;cases di).trans (fU b o di)) mO hd (amk.mp h1).1 h0
  fun h' ⟨x1,x2,x3,x4⟩=>h h' ⟨x1,x2,x3,fun b o hb cq=>x4 b o ((other b (iz b o hb cq)).trans hb) cq⟩
noncomputable def Heap.j9(base:Heap)(l:List Env)(e:Addr)(cls:Value×Option Addr)(a0:Value)(h:Heap):Prop:=
 base.StaysIn h/\base.get? e=none/\h.FunFrames base l/\h.pq base e cls a0
theorem To{base:Heap}{outer:List Env}{e:Addr}
  (fT:A.frames=some (env::outer)) (hf:env.frame=some L) (fq:Heap.j9 base (env::outer) e cls a0 s.heap)
  (hQ:∀h',Heap.j9 base outer e cls a0 h'->s.heap.UpToSlots h'->Q () { s with heap:=h' }):wpAny M A (apO env (.ref e)) Q E s:=by
 obtain⟨f1,f2,f3,f4⟩:=fq;refine Rk fT f3 hf f4 f1 f2 fun h' hL=>?_
 obtain⟨k1,⟨_,_,k2⟩,k3,k4⟩:=hL;exact hQ h' ⟨k1,f2,k2,k3⟩ k4
theorem Hv{base:Heap}{outer:List Env}{e:Addr}{head:Value}{Cz:Bool}
  (fT:A.frames=some (env::outer)) (hl:s.heap.FunFrames base (env::outer)) (hf:env.frame=some L)
  (he:s.heap.get? e=some oe) (fU:base.StaysIn s.heap) (mO:base.get? e=none) (hd:oe.data=.fields vs) (hsz:1<vs.size) (h0:vs[0]? =some a0)
  (h:∀h',Heap.Md base (env::outer) e (kk oe) a0 (aok L) s.heap h'->Q () { s with heap:=h' }) :
  wpAny M A (do let a <- frameOf env;let pl <- entryPlaceOf L Cz;let b <- aos head a .none (aok L) .none pl;setField (.ref e) 1 b) Q E s:=by
 have DY:e∉(env::outer).filterMap (·.frame):=fun hm=>by
  obtain⟨_,o,ho,cq⟩:=hl.mem hm;rw[he] at ho;injection ho with ho;subst ho;exact cq vs hd
 refine abB (wpAny_frameOf_fun fT hl hf fun bZ dh=>?_);refine abB (wpAny_entryPlaceOf fun pl hpl=>?_);unfold aos newFields;refine abB (ams ?_ (hpl.sizeOk5 _ _ _ _ _));have vV:bZ.get? e=some oe:=(dh.2.1 e DY).trans he;have vW:base.StaysIn bZ:=fun b o di=>(dh.2.1 b fun hm=>by rw[(hl.mem hm).1] at di;cases di).trans (fU b o di)
 have vX:=alb (h:=bZ) { cls:=.type "traceback",dict:=none,data:=.fields ([head,.ref L,.none,aok L,.none]++(if pl.isEmpty then alj 6 alW else pl)).toArray } vV;refine anb vX hd hsz (h _ ?_);have gw:bZ.objs.size≠e:=ana (alp vV);have tK:=amJ hd (·.setIfInBounds 1 (alJ bZ.objs.size));have AF:=amj (amI (·.setIfInBounds 1 (alJ bZ.objs.size))) vX (anp tK);have AG:=(alP (bZ.push { cls:=.type "traceback",dict:=none,data:=.fields ([head,.ref L,.none,aok L,.none]++(if pl.isEmpty then alj 6 alW else pl)).toArray })
  (amI (·.setIfInBounds 1 (alJ bZ.objs.size))) (amT gw)).trans (alG bZ rfl)
 have keep:∀b o,b≠e->bZ.get? b=some o →
   ((bZ.push { cls:=.type "traceback",dict:=none,data:=.fields ([head,.ref L,.none,aok L,.none]++(if pl.isEmpty then alj 6 alW else pl)).toArray }).update e (amI (·.setIfInBounds 1 (alJ bZ.objs.size)))).get? b=some o:=
  fun b o kr hb=>by
   rw[alP _ _ (amT kr)];exact alb _ hb
 have iz:∀b o,s.heap.get? b=some o->(∀vs,o.data≠.fields vs)->b≠e:=fun b o hb cq q=>by
  rw[q,he] at hb;injection hb with hb;subst hb;exact cq vs hd
 refine⟨fun b o di=>keep b o (fun q=>by rw[q,mO] at di;cases di) (vW b o di),hl.of_keeps fun b o hb cq=>?_,?_,fun b o hb cq=>?_⟩
 ·obtain⟨sl,hs⟩:=dh.2.2 b o hb;exact⟨_,keep b _ (iz b o hb cq) hs,rfl⟩
 ·exact⟨_,_,bZ.objs.size,_,_,AF,⟨Mc _ _,by rw[aoG (by decide)];exact h0⟩,tK,by simp[hsz],vW.fresh,gw,AG,rfl,by first | (simp;done) | (rcases hpl with rfl | ⟨_,_,_,_,_,_,_,rfl⟩ <;> simp)⟩
 ·obtain⟨sl,hs⟩:=dh.2.2 b o hb;exact⟨sl,keep b _ (iz b o hb cq) hs⟩
theorem Rl{base:Heap}{outer:List Env}{e:Addr}
  (fT:A.frames=some (env::outer)) (hl:s.heap.FunFrames base (env::outer)) (hf:env.frame=some L) (ht:s.heap.pq base e cls a0) (fU:base.StaysIn s.heap) (mO:base.get? e=none)
  (h:∀h',Heap.Md base (env::outer) e cls a0 (aok L) s.heap h'->Q () { s with heap:=h' }):wpAny M A (aoo (.ref e) env) Q E s:=by
 obtain⟨oe,vs,T,oT,ts,he,⟨mj,h0⟩,hd,h1,tL,gw,hT,jY,h3⟩:=ht;subst mj;unfold aoo;simp only[hf];refine abB (alY he hd h1 ?_);rw[if_pos (show(alJ T != alW)=true from by simp)];refine abB (alY hT jY h3 ?_);rw[if_neg (show ¬((alW==aok L)=true) from by simp[aok])];refine abB (anb hT jY (amk.mp h3).1 ?_);have other:∀b,b≠T->(s.heap.update T (amI (·.setIfInBounds 3 alW))).get? b=s.heap.get? b:=fun b hb=>alP _ _ (amT hb)
 have iz:∀b o,s.heap.get? b=some o->(∀vs,o.data≠.fields vs)->b≠T:=fun b o hb cq q=>by
  rw[q,hT] at hb;injection hb with hb;subst hb;exact cq ts jY
 refine Hv fT (hl.of_keeps fun b o hb cq=>⟨o,(other b (iz b o hb cq)).trans hb,rfl⟩) hf ((other e (amT gw)).trans he)
  (fun b o di=>(other b fun q=>by rw[q,tL] at di;cases di).trans (fU b o di)) mO hd (amk.mp h1).1 h0
  fun h' ⟨x1,x2,x3,x4⟩=>h h' ⟨x1,x2,x3,fun b o hb cq=>x4 b o ((other b (iz b o hb cq)).trans hb) cq⟩
variable{l:List Env}
theorem Gk{base:Heap}{e:Addr}{fl:Value}
  (fU:base.StaysIn s.heap) (hl:s.heap.FunFrames base l) (ht:s.heap.yx base e cls a0 fl)
  (h:∀h',base.StaysIn h'->h'.FunFrames base l->h'.pq base e cls a0->(∀b o,s.heap.get? b=some o->(∀vs,o.data≠.fields vs)->h'.get? b=some o)->Q () { s with heap:=h' }) :
  wpAny M A (apH (.ref e) none) Q E s:=by
 obtain⟨oe,vs,T,oT,ts,he,mj,hd,h1,tL,gw,hT,jY,h3⟩:=ht;have Oh:3<ts.size:=(amk.mp h3).1;have other:∀b,b≠T->(s.heap.update T (amI (·.setIfInBounds 3 ((none:Option Addr).elim alW fun f=>aok f)))).get? b=s.heap.get? b:=
  fun b hb=>alP _ _ (amT hb)
 have iz:∀b o,s.heap.get? b=some o->(∀vs,o.data≠.fields vs)->b≠T:=fun b o hb cq q=>by
  rw[q,hT] at hb;injection hb with hb;subst hb;exact cq ts jY
 unfold apH;refine abB (alY he hd h1 ?_);rw[if_pos (show(alJ T != alW)=true from by simp)];refine anb hT jY Oh (h _ (fun b o di=>(other b fun q=>by rw[q,tL] at di;cases di).trans (fU b o di))
  (hl.of_keeps fun b o hb cq=>⟨o,(other b (iz b o hb cq)).trans hb,rfl⟩) ?_ fun b o hb cq=>(other b (iz b o hb cq)).trans hb)
 exact⟨oe,vs,T,_,_,(other e (amT gw)).trans he,mj,hd,h1,tL,gw,amj _ hT (anp (amJ jY _)),amJ jY _,by simp[Oh]⟩
noncomputable def Heap.zE(base:Heap)(l:List Env)(e:Addr)(cls:Value×Option Addr)(a0:Value)(L:Addr)(h:Heap):Prop:=
 base.StaysIn h/\base.get? e=none/\h.FunFrames base l/\h.yx base e cls a0 (aok L)
theorem UT{base:Heap}{outer:List Env}{e:Addr}
  (fT:A.frames=some (env::outer)) (hf:env.frame=some L) (fq:Heap.j9 base (env::outer) e cls a0 s.heap)
  (hQ:∀h',Heap.zE base (env::outer) e cls a0 L h'->s.heap.UpToSlots h'->Q () { s with heap:=h' }):wpAny M A (aoo (.ref e) env) Q E s:=by
 obtain⟨f1,f2,f3,f4⟩:=fq;refine Rl fT f3 hf f4 f1 f2 fun h' hN=>?_
 obtain⟨k1,k2,k3,k4⟩:=hN;exact hQ h' ⟨k1,f2,k2,k3⟩ k4
theorem Hw{base:Heap}{e:Addr}(hh:Heap.zE base l e cls a0 L s.heap)
  (hQ:∀h',Heap.j9 base l e cls a0 h'->s.heap.UpToSlots h'->Q () { s with heap:=h' }):wpAny M A (apH (.ref e) none) Q E s:=by
 obtain⟨f1,f2,f3,f4⟩:=hh;exact Gk f1 f3 f4 fun h' k1 k2 k3 k4=>hQ h' ⟨k1,f2,k2,k3⟩ fun b o hb hn=>⟨o.slots,k4 b o hb hn⟩
theorem Heap.j9.first{base h:Heap}{e:Addr}(x:Heap.j9 base l e cls a0 h):∃oe vs,h.get? e=some oe/\kk oe=cls/\oe.data=.fields vs/\vs[0]? =some a0:=
 let ⟨_,_,_,oe,vs,_,_,_,he,hc,hd,_⟩:=x;⟨oe,vs,he,hc.1,hd,hc.2⟩
end
theorem Hx{M:Model}{A:amz}{E:Value->ald->Prop}{s:ald}{base:Heap}{l:List Env}{e:Addr}{cls:Value×Option Addr}{a0:Value}{Q:Unit->ald->Prop}(hh:Heap.j9 base l e cls a0 s.heap)
  (hQ:∀h',Heap.j9 base l e cls a0 h'->s.heap.UpToSlots h'->Q () { s with heap:=h' }):wpAny M A (apH (.ref e) none) Q E s:=by
 obtain⟨f1,f2,f3,f4⟩:=hh;exact Gk f1 f3 f4.at fun h' k1 k2 k3 k4=>hQ h' ⟨k1,f2,k2,k3⟩ fun b o hb hn=>⟨o.slots,k4 b o hb hn⟩
end PySem
namespace IL
open PySem PySem.Spec PyProof.Rows L2
inductive W where
 | aE | bl (b:Bool) | int (i:Int) | str (x:Str) | tup (ws:List W) | fl (ws:List W) | ref (i:Nat) | exc (c:Str) (ns:List Str) (ws:List W) | fn (x:Str) (ws:List W) | kt (ws:List W)
mutual
noncomputable def W.dec:(a b:W)->Decidable (a=b)
 | .aE,.aE=>alQ rfl
 | .bl a,.bl b=>if h:a=b then alQ (by rw[h]) else alr (fun e=>h (W.bl.inj e))
 | .int a,.int b=>if h:a=b then alQ (by rw[h]) else alr (fun e=>h (W.int.inj e))
 | .str a,.str b=>if h:a=b then alQ (by rw[h]) else alr (fun e=>h (W.str.inj e))
 | .tup a,.tup b=>match W.sT a b with
  | alQ h=>alQ (by rw[h])
  | alr h=>alr (fun e=>h (W.tup.inj e))
 | .fl a,.fl b=>match W.sT a b with
  | alQ h=>alQ (by rw[h])
  | alr h=>alr (fun e=>h (W.fl.inj e))
 | .ref a,.ref b=>if h:a=b then alQ (by rw[h]) else alr (fun e=>h (W.ref.inj e))
 | .exc c ns a,.exc c' ns' b=>match W.sT a b with
  | alQ h=>if h1:c=c' then if h2:ns=ns' then alQ (by rw[h,h1,h2]) else alr (fun e=>h2 (W.exc.inj e).2.1) else alr (fun e=>h1 (W.exc.inj e).1)
  | alr h=>alr (fun e=>h (W.exc.inj e).2.2)
 | .fn c a,.fn c' b=>match W.sT a b with
  | alQ h=>if h1:c=c' then alQ (by rw[h,h1]) else alr (fun e=>h1 (W.fn.inj e).1)
  | alr h=>alr (fun e=>h (W.fn.inj e).2)
 | .kt a,.kt b=>match W.sT a b with
  | alQ h=>alQ (by rw[h])
  | alr h=>alr (fun e=>h (W.kt.inj e))
 | .aE,.bl _ | .aE,.int _ | .aE,.str _ | .aE,.tup _ | .aE,.fl _ | .aE,.ref _ | .aE,.exc _ _ _=>alr (fun e=>nomatch e)
 | .bl _,.aE | .bl _,.int _ | .bl _,.str _ | .bl _,.tup _ | .bl _,.fl _ | .bl _,.ref _ | .bl _,.exc _ _ _=>alr (fun e=>nomatch e)
 | .int _,.aE | .int _,.bl _ | .int _,.str _ | .int _,.tup _ | .int _,.fl _ | .int _,.ref _ | .int _,.exc _ _ _=>alr (fun e=>nomatch e)
 | .str _,.aE | .str _,.bl _ | .str _,.int _ | .str _,.tup _ | .str _,.fl _ | .str _,.ref _ | .str _,.exc _ _ _=>alr (fun e=>nomatch e)
 | .tup _,.aE | .tup _,.bl _ | .tup _,.int _ | .tup _,.str _ | .tup _,.fl _ | .tup _,.ref _ | .tup _,.exc _ _ _=>alr (fun e=>nomatch e)
 | .fl _,.aE | .fl _,.bl _ | .fl _,.int _ | .fl _,.str _ | .fl _,.tup _ | .fl _,.ref _ | .fl _,.exc _ _ _=>alr (fun e=>nomatch e)
 | .ref _,.aE | .ref _,.bl _ | .ref _,.int _ | .ref _,.str _ | .ref _,.tup _ | .ref _,.fl _ | .ref _,.exc _ _ _=>alr (fun e=>nomatch e)
 | .exc _ _ _,.aE | .exc _ _ _,.bl _ | .exc _ _ _,.int _ | .exc _ _ _,.str _ | .exc _ _ _,.tup _ | .exc _ _ _,.fl _ | .exc _ _ _,.ref _=>alr (fun e=>nomatch e)
 | .aE,.fn _ _ | .bl _,.fn _ _ | .int _,.fn _ _ | .str _,.fn _ _ | .tup _,.fn _ _ | .fl _,.fn _ _ | .ref _,.fn _ _ | .exc _ _ _,.fn _ _=>alr (fun e=>nomatch e)
 | .fn _ _,.aE | .fn _ _,.bl _ | .fn _ _,.int _ | .fn _ _,.str _ | .fn _ _,.tup _ | .fn _ _,.fl _ | .fn _ _,.ref _ | .fn _ _,.exc _ _ _=>alr (fun e=>nomatch e)
 | .aE,.kt _ | .bl _,.kt _ | .int _,.kt _ | .str _,.kt _ | .tup _,.kt _ | .fl _,.kt _ | .ref _,.kt _ | .exc _ _ _,.kt _ | .fn _ _,.kt _=>alr (fun e=>nomatch e)
 | .kt _,.aE | .kt _,.bl _ | .kt _,.int _ | .kt _,.str _ | .kt _,.tup _ | .kt _,.fl _ | .kt _,.ref _ | .kt _,.exc _ _ _ | .kt _,.fn _ _=>alr (fun e=>nomatch e)
noncomputable def W.sT:(a b:List W)->Decidable (a=b)
 | [],[]=>alQ rfl
 | a::as,b::bs=>match W.dec a b,W.sT as bs with
  | alQ h,alQ h'=>alQ (by rw[h,h'])
  | alr h,_=>alr (fun e=>h (ard e).1)
  | _,alr h=>alr (fun e=>h (ard e).2)
 | [],_::_ | _::_,[]=>alr (fun e=>nomatch e)
end
instance:DecidableEq W:=W.dec
inductive PO where
 | lst (ws:List W)
 | dR (kvs:List (W×W))
 | obj (c:Str) (fs:List (Str×W))
 | qp (kvs:List (W×W))
 | AH (kvs:List (W×W))
 deriving DecidableEq
noncomputable def PO.fz:PO->Bool
 | .qp _=>true
 | _=>false
abbrev PH:=List PO
abbrev Po(α:Type):=PH->Option (α×PH)
variable{α:Type}
noncomputable def ret(a:α):Po α:=fun ph=>some (a,ph)
noncomputable def fS:Po α:=fun _=>none
structure XC where
 cls:Str
 fs:List (Str×W)
inductive Out(α:Type) where
 | ok (a:α) (ph:PH)
 | ex (x:XC) (ph:PH)
 | no
noncomputable def Out.Run(r:Out α)(N:α->PH->Prop)(E:XC->PH->Prop):Prop:=match r with
 | .ok a ph=>N a ph
 | .ex x ph=>E x ph
 | .no=>False
variable{E:XC->PH->Prop}
theorem Out.Run.mono{r:Out α}{N N':α->PH->Prop}{E':XC->PH->Prop}(h:r.Run N E)(hn:∀a ph,N a ph->N' a ph)(he:∀x ph,E x ph->E' x ph):r.Run N' E':=by
 cases r with
 | ok a ph=>exact hn a ph h
 | ex x ph=>exact he x ph h
 | no=>exact h
abbrev Mo(α:Type):=PH->Out α
noncomputable def aK(a:α):Mo α:=fun ph=>.ok a ph
noncomputable def eK:Mo α:=fun _=>.no
noncomputable def lift(o:Po α):Mo α:=fun ph=>match o ph with
 | some p=>.ok p.1 p.2
 | none=>.no
noncomputable def aA{β:Type}(m:Mo α)(f:α->Mo β):Mo β:=fun ph=>match m ph with
 | .ok a ph'=>f a ph'
 | .ex x ph'=>.ex x ph'
 | .no=>.no
variable{ph:PH}
theorem cV{β:Type}{m:Mo α}{f:α->Mo β}{N:β->PH->Prop}:(aA m f ph).Run N E=(m ph).Run (fun a ph1=>(f a ph1).Run N E) E:=by
 unfold aA;cases m ph <;> rfl
theorem run_lift{o:Po α}{N:α->PH->Prop}(h:(lift o ph).Run N E):∃a ph',o ph=some (a,ph')/\N a ph':=by
 unfold lift at h;cases e:o ph with
 | none=>rw[e] at h;exact h.elim
 | some p=>rw[e] at h;exact⟨p.1,p.2,rfl,h⟩
abbrev aT:=List (Option W)
abbrev EM:=aT->Mo W
abbrev TM:=aT->Mo Bool
abbrev AM:=aT->Mo (List W)
inductive Fl where
 | nx (σ:aT) | rt (w:W) | bk (σ:aT) | ct (σ:aT)
abbrev SM:=aT->Mo Fl
noncomputable def KL(K:acs)(a:Addr)(xs:List V):Prop:=
 ∃(o:Obj) (its:Array Value) (n:Nat),K.lookup a=some o/\o.cls=.type "list"/\o.dict=none/\o.data=.seq its n/\its.size<=alz/\Vals xs its.toList
noncomputable def Aa(K:acs)(H:Hp)(a:Addr)(xs:List V):Prop:=(∃o,H a=some (.bE o (.lst xs)))\/KL K a xs
variable{K:acs}{H:Hp}{a:Addr}
theorem Aa.sq{xs:List V}(h:Aa K H a xs):bL K H a xs:=by
 rcases h with⟨o,h⟩ | h
 ·exact .inl (.inr ⟨o,h⟩)
 ·exact .inr h
noncomputable def vv(H:Hp)(o:Obj)(ns:List Str)(vs:List V):Prop:=(ns=[]/\vs=[])\/∃d od,o.dict=some d/\ns.length=vs.length/\H d=some (.bE od (.xd (ns.zip vs)))
abbrev k6:HO:=.ext fun _=>True
structure EU where
 ar:Arguments
 bd:Expr
 sc:Scope
 pos:Pos
noncomputable def aj4:Stmt->Option EU
 | .Return (some (.Call _ [_,.Lambda a b s p] _ _)) _=>some ⟨a,b,s,p⟩
 | .Assign _ (.Call _ [.Call _ [_,.Lambda a b s p] _ _] _ _) _=>some ⟨a,b,s,p⟩
 | _=>none
noncomputable def aj5(l:List Stmt):Option EU:=l.findSome? aj4
noncomputable def Ni(K:acs)(x:Str):Option EU:=match ale K alc x with
 | some (some (.ref f))=>(match K.lookup f with
  | some ⟨_,_,.func fd,_⟩=>(match fd.body with
   | .stmts b=>aj5 b
   | _=>none)
  | _=>none)
 | _=>none
noncomputable def kS(K:acs):List (Str×Addr×Addr):=match K.lookup alc with
 | some ⟨_,_,.dict es _,_⟩=>es.toList.filterMap fun e=>match e.key with
  | .str x _=>if(Ni K x).isSome then(PySem.W.tabIn K x).map (x,·) else none
  | _=>none
 | _=>[]
noncomputable def Oi(x:Str):Str:=(x++".<locals>.")++"<lambda>"
noncomputable def uZ(H:Hp)(v:Value)(x:Str):Prop:=∃c oc vs t,v=.ref c/\H c=some (.bE oc k6)/\oc.data=.fields vs/\vs[1]? =some (.str (Oi x) t)
noncomputable def nQ(H:Hp)(x:Str)(P:Addr):Prop:=∃ps,H P=some (.iP ps)/\PySem.TriplesOk ps.toList/\∀pos v,codeAmong pos ps.toList=some v->uZ H v x
noncomputable def Ac(K:acs)(H:Hp)(x:Str)(o:Obj)(cl:List (Str×Addr)):Prop:=∃L pm v EV,Ni K x=some L/\o={ cls:=.type "function",data:=.func (PySem.W.kla_fn "<lambda>" (Oi x) L.ar L.bd L.sc cl pm v EV) }/\uZ H v x /\
 ∀y,L.sc.names.lookup y=some .free->∃c,cl.lookup y=some c
noncomputable def rZ(H:Hp):List (Str×Addr)->List V->Prop
 | [],[]=>True
 | p::cl,v::vs=>(∃oc u,H p.2=some (.bE oc k6)/\oc.data=.cell (some u)/\RelV v u)/\rZ H cl vs
 | _,_=>False
noncomputable def pZ(K:acs)(a:Addr)(vs:List V):Prop:=∃(o:Obj) (its:Array Value) (n:Nat),K.lookup a=some o/\o.cls=.type "tuple"/\o.data=.seq its n/\its.size<=alz/\Vals vs its.toList
mutual
inductive aX(K:acs)(φ:Nat->Addr)(n:Nat)(H:Hp):W->V->Prop where
 | aE:aX K φ n H .aE .aE
 | bl (b:Bool):aX K φ n H (.bl b) (.bl b)
 | int (i:Int):aX K φ n H (.int i) (.int i)
 | str (x:Str):aX K φ n H (.str x) (.str x)
 | tup {ws:List W} {a:Addr} {vs:List V} (h:H a=some (.tup vs)) (r:bi K φ n H ws vs):aX K φ n H (.tup ws) (.ref a)
 | fl {ws:List W} {a:Addr} {vs:List V} (h:Aa K H a vs) (r:bi K φ n H ws vs):aX K φ n H (.fl ws) (.ref a)
 | ref {i:Nat} (h:i<n):aX K φ n H (.ref i) (.ref (φ i))
 | exc {c:Str} {ns:List Str} {ws:List W} {a C:Addr} {vs:List V} {o:Obj} {u:HO} (h:H a=some (.bE o u)) (hc:o.cls=.ref C) (hn:ale K alc c=some (some (.ref C))) (hk:aqL o=true) (hf:vv H o ns vs) (r:bi K φ n H ws vs):aX K φ n H (.exc c ns ws) (.ref a)
 | fn {x:Str} {ws:List W} {a:Addr} {vs:List V} {o:Obj} {cl:List (Str×Addr)} (h:H a=some (.bE o k6)) (hl:Ac K H x o cl) (hc:rZ H cl vs) (r:bi K φ n H ws vs):aX K φ n H (.fn x ws) (.ref a)
 | kt {ws:List W} {a:Addr} {vs:List V} (h:pZ K a vs) (r:bi K φ n H ws vs):aX K φ n H (.kt ws) (.ref a)
inductive bi(K:acs)(φ:Nat->Addr)(n:Nat)(H:Hp):List W->List V->Prop where
 | nil:bi K φ n H [] []
 | cons {w:W} {v:V} {ws:List W} {vs:List V} (h:aX K φ n H w v) (r:bi K φ n H ws vs):bi K φ n H (w::ws) (v::vs)
end
structure Step(K:acs)(φ:Nat->Addr)(n:Nat)(H:Hp)(av:Nat->Addr)(n':Nat)(H':Hp):Prop where
 le:n<=n'
 eq:∀i,i<n->av i=φ i
 tup:∀a xs,H a=some (.tup xs)->H' a=some (.tup xs)
 bE:∀a o u,H a=some (.bE o u)->H' a=some (.bE o u)
section
variable{K:acs}{φ av EW:Nat->Addr}{n n' EX:Nat}{H H' gx:Hp}
theorem Step.refl:Step K φ n H φ n H:=⟨ali _,fun _ _=>rfl,fun _ _ h=>h,fun _ _ _ h=>h⟩
theorem Step.trans(a:Step K φ n H av n' H')(b:Step K av n' H' EW EX gx):Step K φ n H EW EX gx:=
 ⟨alT a.le b.le,fun i h=>(b.eq i (alB h a.le)).trans (a.eq i h),fun c xs h=>b.tup c xs (a.tup c xs h),fun c o u h=>b.bE c o u (a.bE c o u h)⟩
theorem vv.mono(s:Step K φ n H av n' H'){o:Obj}{ns:List Str}{vs:List V}(h:vv H o ns vs):vv H' o ns vs:=
 h.imp_right fun⟨d,od,e1,e2,e3⟩=>⟨d,od,e1,e2,s.bE _ _ _ e3⟩
theorem uZ.mono{v:Value}{x:Str}(h:uZ H v x)(s:∀a o,H a=some (.bE o k6)->H' a=some (.bE o k6)):uZ H' v x:=
 let ⟨c,oc,vs,t,e1,e2,e3⟩:=h;⟨c,oc,vs,t,e1,s _ _ e2,e3⟩
theorem Ac.mono{x:Str}{o:Obj}{cl:List (Str×Addr)}(h:Ac K H x o cl)(s:∀a o,H a=some (.bE o k6)->H' a=some (.bE o k6)):Ac K H' x o cl:=
 let ⟨L,pm,v,EV,e1,e2,e3,e4⟩:=h;⟨L,pm,v,EV,e1,e2,e3.mono s,e4⟩
theorem rZ.mono(s:∀a o,H a=some (.bE o k6)->H' a=some (.bE o k6)):∀{cl:List (Str×Addr)} {vs:List V},rZ H cl vs->rZ H' cl vs
 | [],[],_=>trivial
 | _::_,_::_,⟨⟨oc,u,e1,e2⟩,r⟩=>⟨⟨oc,u,s _ _ e1,e2⟩,rZ.mono s r⟩
 | [],_::_,h=>h.elim
 | _::_,[],h=>h.elim
mutual
theorem aX.mono(s:Step K φ n H av n' H'):∀{w:W} {v:V},aX K φ n H w v->aX K av n' H' w v
 | _,_,.aE=>.aE
 | _,_,.bl b=>.bl b
 | _,_,.int i=>.int i
 | _,_,.str x=>.str x
 | _,_,.tup h r=>.tup (s.tup _ _ h) (bi.mono s r)
 | _,_,.fl h r=>.fl (h.elim (fun⟨o,e⟩=>.inl ⟨o,s.bE _ _ _ e⟩) .inr) (bi.mono s r)
 | _,_,.ref (i:=i) h=>(s.eq i h)▸.ref (alB h s.le)
 | _,_,.exc h hc hn hk hf r=>.exc (s.bE _ _ _ h) hc hn hk (hf.mono s) (bi.mono s r)
 | _,_,.fn h hl hc r=>.fn (s.bE _ _ _ h) (hl.mono fun a o z=>s.bE a o _ z) (hc.mono fun a o z=>s.bE a o _ z) (bi.mono s r)
 | _,_,.kt h r=>.kt h (bi.mono s r)
theorem bi.mono(s:Step K φ n H av n' H'):∀{ws:List W} {vs:List V},bi K φ n H ws vs->bi K av n' H' ws vs
 | _,_,.nil=>.nil
 | _,_,.cons h r=>.cons (aX.mono s h) (bi.mono s r)
end
theorem bi.length:∀{ws:List W} {vs:List V},bi K φ n H ws vs->ws.length=vs.length
 | _,_,.nil=>rfl
 | _,_,.cons _ r=>by simp[bi.length r]
theorem bi.get:∀{ws:List W} {vs:List V} {i:Nat} {w:W},bi K φ n H ws vs->ws[i]? =some w->∃v,vs[i]? =some v/\aX K φ n H w v
 | _,_,_,_,.nil,e=>by simp at e
 | _,_,0,_,.cons h _,e=>by simp at e;subst e;exact⟨_,rfl,h⟩
 | _,_,i+1,w,.cons _ r,e=>by
  obtain⟨u,h1,h2⟩:=bi.get (i:=i) (w:=w) r (by simpa using e);exact⟨u,by simpa using h1,h2⟩
theorem bi.append:∀{ws xs:List W} {vs us:List V},bi K φ n H ws vs->bi K φ n H xs us->bi K φ n H (ws++xs) (vs++us)
 | _,_,_,_,.nil,s=>s
 | _,_,_,_,.cons h r,s=>.cons h (bi.append r s)
theorem bi.take:∀{ws:List W} {vs:List V} (k:Nat),bi K φ n H ws vs->bi K φ n H (ws.take k) (vs.take k)
 | _,_,0,_=>.nil
 | _,_,_+1,.nil=>.nil
 | _,_,k+1,.cons h r=>.cons h (bi.take k r)
theorem bi.drop:∀{ws:List W} {vs:List V} (k:Nat),bi K φ n H ws vs->bi K φ n H (ws.drop k) (vs.drop k)
 | _,_,0,r=>r
 | _,_,_+1,.nil=>.nil
 | _,_,k+1,.cons h r=>bi.drop k r
theorem bi.set{w:W}{v:V}(q:aX K φ n H w v):∀{ws:List W} {vs:List V} (i:Nat),bi K φ n H ws vs->bi K φ n H (ws.set i w) (vs.set i v)
 | _,_,_,.nil=>.nil
 | _,_,0,.cons _ r=>.cons q r
 | _,_,i+1,.cons h r=>.cons h (bi.set q i r)
end
noncomputable def cf:Key->W
 | .inl i=>.int i
 | .inr x=>.str x
inductive cI(K:acs)(φ:Nat->Addr)(n:Nat)(H:Hp):List (W×W)->List (Key×V)->Prop where
 | nil:cI K φ n H [] []
 | cons {k:Key} {w:W} {v:V} {kws:List (W×W)} {kvs:List (Key×V)} (h:aX K φ n H w v) (r:cI K φ n H kws kvs):cI K φ n H ((cf k,w)::kws) ((k,v)::kvs)
inductive cK(K:acs)(φ:Nat->Addr)(n:Nat)(H:Hp):List (W×W)->List (List Key×V)->Prop where
 | nil:cK K φ n H [] []
 | cons {k:List Key} {w:W} {v:V} {kws:List (W×W)} {kvs:List (List Key×V)} (h:aX K φ n H w v) (r:cK K φ n H kws kvs):cK K φ n H ((.tup (k.map cf),w)::kws) ((k,v)::kvs)
theorem cI.mono{K:acs}{φ av:Nat->Addr}{n n':Nat}{H H':Hp}(s:Step K φ n H av n' H'):∀{ws:List (W×W)} {vs:List (Key×V)},cI K φ n H ws vs->cI K av n' H' ws vs
 | _,_,.nil=>.nil
 | _,_,.cons h r=>.cons (h.mono s) (cI.mono s r)
theorem cK.mono{K:acs}{φ av:Nat->Addr}{n n':Nat}{H H':Hp}(s:Step K φ n H av n' H'):∀{ws:List (W×W)} {vs:List (List Key×V)},cK K φ n H ws vs->cK K av n' H' ws vs
 | _,_,.nil=>.nil
 | _,_,.cons h r=>.cons (h.mono s) (cK.mono s r)
inductive nR(K:acs)(φ:Nat->Addr)(n:Nat)(H:Hp):List (W×W)->List (V×V)->Prop where
 | nil:nR K φ n H [] []
 | cons {k w:W} {u v:V} {kws:List (W×W)} {kvs:List (V×V)} (hk:aX K φ n H k u) (h:aX K φ n H w v) (r:nR K φ n H kws kvs):nR K φ n H ((k,w)::kws) ((u,v)::kvs)
theorem nR.mono{K:acs}{φ av:Nat->Addr}{n n':Nat}{H H':Hp}(s:Step K φ n H av n' H'):∀{ws:List (W×W)} {vs:List (V×V)},nR K φ n H ws vs->nR K av n' H' ws vs
 | _,_,.nil=>.nil
 | _,_,.cons hk h r=>.cons (hk.mono s) (h.mono s) (nR.mono s r)
inductive fE(K:acs)(φ:Nat->Addr)(n:Nat)(H:Hp):List (Str×W)->List (Str×V)->Prop where
 | nil:fE K φ n H [] []
 | cons {f:Str} {w:W} {v:V} {fs:List (Str×W)} {vs:List (Str×V)} (h:aX K φ n H w v) (r:fE K φ n H fs vs):fE K φ n H ((f,w)::fs) ((f,v)::vs)
theorem fE.mono{K:acs}{φ av:Nat->Addr}{n n':Nat}{H H':Hp}(s:Step K φ n H av n' H'):∀{ws:List (Str×W)} {vs:List (Str×V)},fE K φ n H ws vs->fE K av n' H' ws vs
 | _,_,.nil=>.nil
 | _,_,.cons h r=>.cons (h.mono s) (fE.mono s r)
noncomputable def nD(K:acs)(φ:Nat->Addr)(n:Nat)(H:Hp)(o:PO)(a:Addr):Prop:=match o with
 | .lst ws=>∃vs,H a=some (.lst vs)/\bi K φ n H ws vs
 | .dR kws=>(∃kvs,H a=some (.dK kvs)/\cI K φ n H kws kvs)\/∃kvs,H a=some (.dT kvs)/\cK K φ n H kws kvs
 | .obj c fs=>∃C dx vs,ale K alc c=some (some (.ref C))/\H a=some (.ins C dx vs)/\fE K φ n H fs vs
 | .AH kws=>∃kvs,H a=some (.dU kvs)/\nR K φ n H kws kvs/\(kws.map (·.1)).Nodup
 | .qp kws=>∃o,o.cls=.type "dict"/\((∃kvs,H a=some (.bE o (.dK kvs))/\cI K φ n H kws kvs)\/∃kvs,H a=some (.bE o (.dT kvs))/\cK K φ n H kws kvs)
structure aS(K:acs)(φ:Nat->Addr)(ph:PH)(H:Hp):Prop where
 hp:∀i o,ph[i]? =some o->nD K φ ph.length H o (φ i)
 inj:∀i j,i<ph.length->j<ph.length->φ i=φ j->i=j
 tb:∀p∈kS K,nQ H p.1 p.2.2
theorem nQ.upd{H:Hp}{x:Str}{P a:Addr}{o:HO}(h:nQ H x P)(n1:∀ps,H a≠some (.iP ps))(n2:∀oc,H a≠some (.bE oc k6)):nQ (upd H a o) x P:=by
 obtain⟨ps,e1,e2,e3⟩:=h;refine⟨ps,?_,e2,fun pos v e=>?_⟩
 ·rw[bw (fun z=>n1 ps (by rw[<- z];exact e1))];exact e1
 ·obtain⟨c,oc,vs,t,f1,f2,f3⟩:=e3 pos v e;refine⟨c,oc,vs,t,f1,?_,f3⟩;rw[bw (fun z=>n2 oc (by rw[<- z];exact f2))];exact f2
variable{o:HO}
theorem nQ.new{x:Str}{P:Addr}(h:nQ H x P)(hn:H a=none):nQ (L2.upd H a o) x P:=h.upd (fun _ z=>by rw[hn] at z;cases z) fun _ z=>by rw[hn] at z;cases z
inductive bc(K:acs)(φ:Nat->Addr)(n:Nat)(H:Hp):aT->L2.St->Prop where
 | nil:bc K φ n H [] []
 | sm {w:W} {v:V} {ws:aT} {vs:L2.St} (h:aX K φ n H w v) (r:bc K φ n H ws vs):bc K φ n H (some w::ws) (some v::vs)
 | nn {v:Option V} {ws:aT} {vs:L2.St} (r:bc K φ n H ws vs):bc K φ n H (none::ws) (v::vs)
section
variable{K:acs}{φ av EW:Nat->Addr}{n n' EX:Nat}{H H' gx:Hp}{ph:PH}
theorem bc.mono(s:Step K φ n H av n' H'):∀{ws:aT} {vs:L2.St},bc K φ n H ws vs->bc K av n' H' ws vs
 | _,_,.nil=>.nil
 | _,_,.sm h r=>.sm (h.mono s) (bc.mono s r)
 | _,_,.nn r=>.nn (bc.mono s r)
theorem bc.get:∀{ws:aT} {vs:L2.St} {i:Nat} {w:W},bc K φ n H ws vs->ws[i]? =some (some w)->∃v,vs[i]? =some (some v)/\aX K φ n H w v
 | _,_,_,_,.nil,e=>by simp at e
 | _,_,0,_,.sm h _,e=>by simp at e;subst e;exact⟨_,rfl,h⟩
 | _,_,0,_,.nn _,e=>by simp at e
 | _,_,i+1,w,.sm _ r,e=>by
  obtain⟨u,h1,h2⟩:=bc.get (i:=i) (w:=w) r (by simpa using e);exact⟨u,by simpa using h1,h2⟩
 | _,_,i+1,w,.nn r,e=>by
  obtain⟨u,h1,h2⟩:=bc.get (i:=i) (w:=w) r (by simpa using e);exact⟨u,by simpa using h1,h2⟩
theorem bc.set{w:W}{v:V}(q:aX K φ n H w v):∀{ws:aT} {vs:L2.St} (i:Nat),bc K φ n H ws vs->bc K φ n H (ws.set i (anv w)) (vs.set i (anv v))
 | _,_,_,.nil=>.nil
 | _,_,0,.sm _ r=>.sm q r
 | _,_,0,.nn r=>.sm q r
 | _,_,i+1,.sm h r=>.sm h (bc.set q i r)
 | _,_,i+1,.nn r=>.nn (bc.set q i r)
theorem bc.start:∀{ws:List W} {vs:List V} (k:Nat),bi K φ n H ws vs->bc K φ n H (ws.map anv++alj k aqQ) (vs.map anv++alj k aqQ)
 | _,_,0,.nil=>.nil
 | _,_,k+1,.nil=>.nn (bc.start k .nil)
 | _,_,k,.cons h r=>.sm h (bc.start k r)
theorem nD.some{o:PO}{a:Addr}(h:nD K φ n H o a):∃x,H a=anv x/\(o.fz=false->mE (anv x)):=by
 cases o with
 | lst ws=>obtain⟨vs,e,_⟩:=h;exact⟨_,e,fun _=>trivial⟩
 | dR kws=>
  rcases h with⟨vs,e,_⟩ | ⟨vs,e,_⟩
  ·exact⟨_,e,fun _=>trivial⟩
  ·exact⟨_,e,fun _=>trivial⟩
 | obj c fs=>obtain⟨C,dx,vs,_,e,_⟩:=h;exact⟨_,e,fun _=>trivial⟩
 | AH kws=>obtain⟨kvs,e,_⟩:=h;exact⟨_,e,fun _=>trivial⟩
 | qp kws=>
  obtain⟨o,_,⟨vs,e,_⟩ | ⟨vs,e,_⟩⟩:=h
  ·exact⟨_,e,fun z=>nomatch z⟩
  ·exact⟨_,e,fun z=>nomatch z⟩
theorem nD.mono{o:PO}{a:Addr}(s:Step K φ n H av n' H')(e:H' a=H a)(h:nD K φ n H o a):nD K av n' H' o a:=by
 cases o with
 | lst ws=>obtain⟨vs,q,r⟩:=h;exact⟨vs,e.trans q,r.mono s⟩
 | dR kws=>
  rcases h with⟨vs,q,r⟩ | ⟨vs,q,r⟩
  ·exact .inl ⟨vs,e.trans q,r.mono s⟩
  ·exact .inr ⟨vs,e.trans q,r.mono s⟩
 | obj c fs=>obtain⟨C,dx,vs,q1,q2,r⟩:=h;exact⟨C,dx,vs,q1,e.trans q2,r.mono s⟩
 | AH kws=>obtain⟨kvs,q,r,nd⟩:=h;exact⟨kvs,e.trans q,r.mono s,nd⟩
 | qp kws=>
  obtain⟨o,hc,⟨vs,q,r⟩ | ⟨vs,q,r⟩⟩:=h
  ·exact⟨o,hc,.inl ⟨vs,e.trans q,r.mono s⟩⟩
  ·exact⟨o,hc,.inr ⟨vs,e.trans q,r.mono s⟩⟩
variable{i:Nat}
theorem aS.at(h:aS K φ ph H)(hi:i<ph.length):∃x,H (φ i)=anv x/\(ph[i].fz=false->mE (anv x)):=(h.hp i ph[i] (by simp[hi])).some
theorem aS.mu(h:aS K φ ph H){o:PO}(hw:ph[i]? =anv o)(hz:o.fz=false):∃x,H (φ i)=anv x/\mE (anv x):=let ⟨x,e,k⟩:=(h.hp i o hw).some;⟨x,e,k hz⟩
variable{p:Addr}
theorem f7{xs:List V}(hp:H p=none):Step K φ n H φ n (upd H p (.tup xs)):=by
 refine⟨ali _,fun _ _=>rfl,fun a ys h=>?_,fun a o u h=>?_⟩
 ·rw[bw (fY h hp)];exact h
 ·rw[bw (fY h hp)];exact h
theorem aS.tup{p:Addr}{xs:List V}(h:aS K φ ph H)(hp:H p=none):aS K φ ph (upd H p (.tup xs)):=by
 refine⟨fun i o e=>?_,h.inj,fun p hm=>(h.tb p hm).new hp⟩;have hi:i<ph.length:=(alf.mp e).1;obtain⟨x,ex,_⟩:=h.at hi;exact(h.hp i o e).mono (f7 hp) (bw (fY ex hp))
noncomputable def ext(φ:Nat->Addr)(n:Nat)(p:Addr):Nat->Addr:=fun i=>if i=n then p else φ i
theorem r6(h:i<n):ext φ n p i=φ i:=by unfold ext;rw[if_neg (by omega)]
theorem nA:ext φ n p n=p:=by unfold ext;rw[if_pos rfl]
theorem yL{o:HO}(hp:H p=none):Step K φ n H (ext φ n p) (n+1) (upd H p o):=by
 refine⟨aoD _,fun i h=>r6 h,fun a ys h=>?_,fun a o u h=>?_⟩
 ·rw[bw (fY h hp)];exact h
 ·rw[bw (fY h hp)];exact h
theorem aS.new{p:Addr}{x:HO}{o:PO}(h:aS K φ ph H)(hp:H p=none)(r:nD K (ext φ ph.length p) (ph.length+1) (upd H p x) o p) :
  aS K (ext φ ph.length p) (ph++[o]) (upd H p x):=by
 refine⟨fun i o' e=>?_,fun i j hi hj e=>?_,fun p hm=>(h.tb p hm).new hp⟩
 ·rw[alH];by_cases hi:i<ph.length
  ·rw[alR hi] at e;obtain⟨y,ey,_⟩:=h.at hi;rw[r6 hi];exact(h.hp i o' e).mono (yL hp) (bw (fY ey hp))
  ·have hl:=(alf.mp e).1;simp at hl;have:i=ph.length:=by omega
   subst this;simp at e;subst e;rw[nA];exact r
 ·simp at hi hj
  have key:∀k,k<ph.length->φ k≠p:=fun k hk z=>by
   obtain⟨y,ey,_⟩:=h.at hk;rw[z,hp] at ey;cases ey
  by_cases h1:i<ph.length <;> by_cases h2:j<ph.length
  ·rw[r6 h1,r6 h2] at e;exact h.inj i j h1 h2 e
  ·have:j=ph.length:=by omega
   subst this;rw[r6 h1,nA] at e;exact(key i h1 e).elim
  ·have:i=ph.length:=by omega
   subst this;rw[r6 h2,nA] at e;exact(key j h2 e.symm).elim
  ·omega
theorem nh{a:Addr}{x y:HO}(ha:H a=some x)(mx:mE (some x)):Step K φ n H φ n (upd H a y):=by
 refine⟨ali _,fun _ _=>rfl,fun c ys h=>?_,fun c o u h=>?_⟩
 ·rw[bw (nC h ha (by rintro rfl;exact mx))];exact h
 ·rw[bw (nC h ha (by rintro rfl;exact mx))];exact h
theorem aS.put{x:HO}{o o0:PO}(h:aS K φ ph H)(hw:ph[i]? =some o0)(hz:o0.fz=false)(r:nD K φ ph.length (upd H (φ i) x) o (φ i)):aS K φ (ph.set i o) (upd H (φ i) x):=by
 have hi:i<ph.length:=(alf.mp hw).1;obtain⟨y,ey,my⟩:=h.mu hw hz;refine⟨fun j o' e=>?_,fun j k hj hk e=>?_,fun p hm=>(h.tb p hm).upd (fun ps z=>?_) fun oc z=>?_⟩
 ·rw[amG];by_cases hj:j=i
  ·subst hj;rw[anO hi] at e;cases e;exact r
  ·rw[amW (amT hj)] at e;have Pb:=(alf.mp e).1;exact(h.hp j o' e).mono (nh ey my) (bw fun z=>hj (h.inj j i Pb hi z))
 ·rw[amG] at hj hk;exact h.inj j k hj hk e
 ·rw[ey] at z;cases z;exact my
 ·rw[ey] at z;cases z;exact my
end
abbrev f9(C:Addr)(dd:Option Addr)(t:Addr):Obj:={ cls:=.ref C,dict:=dd,data:=.fields #[.ref t,.none,.none,.none,.bool false,.none] }
structure u3(h h':Heap)(a C:Addr)(dd:Option Addr):Prop where
 keeps:∀b o,h.get? b=some o->h'.get? b=some o
 new:h.get? a=none
 there:∃t,h'.get? a=some (f9 C dd t)
variable{h:Heap}{C:Addr}
theorem u3.of{h':Heap}{vs:List Value}(x:Heap.MadeExcOf h h' a (.ref C) vs):u3 h h' a C none:=⟨x.keeps,x.new,let ⟨t,e,_⟩:=x.there;⟨t,e⟩⟩
noncomputable def Made(X:Cx)(C:Addr)(dd:Option Addr)(H':Hp)(e:Value)(s':ald):Prop:=
 ∃pins σ s h' a,e=.ref a/\s'={ s with heap:=h' }/\Inv X pins σ H' s/\u3 s.heap h' a C dd
structure Pc(fs:List Addr)(H H':Hp)(h B h':Heap):Prop where
 keep:∀b o,h.get? b=some o->H b=none->b∉fs->B.get? b=some o
 slot:∀b o,h.get? b=some o->H b=none->b∈fs->∃sl,h'.get? b=some { o with slots:=sl }
 free:∀b o,h.get? b=some o->H b=none->H' b=none
 there:∀b o,h.get? b=some o->b∉fs->∃o',B.get? b=some o'
 gU:∀b xs,H b=some (.tup xs)->H' b=some (.tup xs)
 fD:∀b o u,H b=some (.bE o u)->H' b=some (.bE o u)
 gi:∀b ps,H b=some (.iP ps)->∃more,H' b=some (.iP (ps++more))
noncomputable def Flew(P:amb)(w:World)(l:List Env)(H:Hp)(s:ald)(C:Addr)(dd:Option Addr)(H':Hp)(e:Value)(s':ald):Prop:=
 ∃a a0 B,e=.ref a/\s'.os=s.os/\apN s'.gens/\Heap.j9 B l a (.ref C,dd) a0 s'.heap/\cC P w H' B/\Pc (df l) H H' s.heap B s'.heap
noncomputable def vY(K:acs)(φ:Nat->Addr)(n:Nat)(H:Hp)(dd:Option Addr)(fs:List (Str×W)):Prop:=fs=[]\/∃d od f w v,dd=some d/\fs=[(f,w)]/\H d=some (.bE od (.xd [(f,v)]))/\aX K φ n H w v
noncomputable def mP(X:Cx)(φ:Nat->Addr)(n:Nat)(x:XC)(H':Hp)(e:Value)(s':ald):Prop:=∃C dd,X.mg x.cls=some (.ref C)/\vY X.K φ n H' dd x.fs/\(Made X C dd H' e s'\/∃pins σ H s,Inv X pins σ H s/\Flew X.prog X.w X.stack H s C dd H' e s')
noncomputable def XE(X:Cx)(φ:Nat->Addr)(n:Nat)(H:Hp):XC->PH->Prop:=fun x ph'=>∀av H' e s',aS X.K av ph' H'->Step X.K φ n H av ph'.length H'->mP X av ph'.length x H' e s'->X.xe e s'
variable{X:Cx}{φ:Nat->Addr}{n:Nat}{ph':PH}
theorem XE.step{aC:Nat->Addr}{n1:Nat}{H1:Hp}{x:XC}(h:XE X φ n H x ph')(s:Step X.K φ n H aC n1 H1):XE X aC n1 H1 x ph':=fun av H' e s' r t q=>h av H' e s' r (s.trans t) q
noncomputable def tM(X:Cx)(m:EM):TE:=fun σ H Q=>∃φ ph ws,aS X.K φ ph H/\bc X.K φ ph.length H ws σ/\(m ws ph).Run (fun w ph'=>
 ∀av H' v,aS X.K av ph' H'->Step X.K φ ph.length H av ph'.length H'->aX X.K av ph'.length H' w v->Q v H') (XE X φ ph.length H)
noncomputable def tT(X:Cx)(m:TM):TT:=fun σ H Q=>∃φ ph ws,aS X.K φ ph H/\bc X.K φ ph.length H ws σ/\(m ws ph).Run (fun b ph'=>
 ∀av H',aS X.K av ph' H'->Step X.K φ ph.length H av ph'.length H'->Q b H') (XE X φ ph.length H)
noncomputable def tA(X:Cx)(m:AM):TA:=fun σ H Q=>∃φ ph ws,aS X.K φ ph H/\bc X.K φ ph.length H ws σ/\(m ws ph).Run (fun xs ph'=>
 ∀av H' vs,aS X.K av ph' H'->Step X.K φ ph.length H av ph'.length H'->bi X.K av ph'.length H' xs vs->Q vs H') (XE X φ ph.length H)
noncomputable def qc(X:Cx)(D:Ends)(av:Nat->Addr)(ph':PH)(H':Hp)(f:Fl):Prop:=match f with
 | .nx cR=>∀az,bc X.K av ph'.length H' cR az->D.nx az H'
 | .bk cR=>∀az,bc X.K av ph'.length H' cR az->D.bk az H'
 | .ct cR=>∀az,bc X.K av ph'.length H' cR az->D.ct az H'
 | .rt w=>∀v,aX X.K av ph'.length H' w v->D.rt v H'
noncomputable def tS(X:Cx)(m:SM):TS:=fun D σ H=>∃φ ph ws,aS X.K φ ph H/\bc X.K φ ph.length H ws σ/\(m ws ph).Run (fun f ph'=>
 ∀av H',aS X.K av ph' H'->Step X.K φ ph.length H av ph'.length H'->qc X D av ph' H' f) (XE X φ ph.length H)
section
variable{X:Cx}{e:Expr}
theorem PE.imp{t t':TE}(h:PE X e t)(k:∀σ H Q,t' σ H Q->t σ H Q):PE X e t':=fun pins s σ H Q I q=>h pins s σ H Q I (k σ H Q q)
theorem PT.imp{t t':TT}(h:PT X e t)(k:∀σ H Q,t' σ H Q->t σ H Q):PT X e t':=fun pins s σ H Q I q=>h pins s σ H Q I (k σ H Q q)
theorem PA.imp{es:List Expr}{t t':TA}(h:PA X es t)(k:∀σ H Q,t' σ H Q->t σ H Q):PA X es t':=fun pos pins s σ H Q I q=>h pos pins s σ H Q I (k σ H Q q)
theorem PS.imp{st:Stmt}{t t':TS}(h:PS X st t)(k:∀D σ H,t' D σ H->t D σ H):PS X st t':=fun pins s σ H D I q=>h pins s σ H D I (k D σ H q)
theorem hG.imp{st:List Stmt}{t t':TS}(h:hG X st t)(k:∀D σ H,t' D σ H->t D σ H):hG X st t':=fun pins s σ H D I q=>h pins s σ H D I (k D σ H q)
abbrev IE(X:Cx)(e:Expr)(m:EM):Prop:=PE X e (tM X m)
abbrev IT(X:Cx)(e:Expr)(m:TM):Prop:=PT X e (tT X m)
abbrev IA(X:Cx)(es:List Expr)(m:AM):Prop:=PA X es (tA X m)
abbrev IS(X:Cx)(st:Stmt)(m:SM):Prop:=PS X st (tS X m)
abbrev gy(X:Cx)(st:List Stmt)(m:SM):Prop:=hG X st (tS X m)
end
noncomputable def af(i:Nat):EM:=fun σ=>lift fun ph=>match σ[i]? with
 | some (some w)=>some (w,ph)
 | _=>none
noncomputable def eC(w:W):EM:=fun _=>aK w
noncomputable def ag(f:W->W->Po W)(a b:EM):EM:=fun σ=>aA (a σ) fun x=>aA (b σ) fun y=>lift (f x y)
noncomputable def d5(f:W->Po W)(a:EM):EM:=fun σ=>aA (a σ) fun x=>lift (f x)
noncomputable def cU(K:acs)(r:R2)(f:W->W->Po W):Prop:=∀{φ:Nat->Addr} {ph:PH} {H:Hp} {x y:W} {vx vy:V} {w:W} {ph':PH} {Q:VK},aS K φ ph H->aX K φ ph.length H x vx->aX K φ ph.length H y vy->f x y ph=some (w,ph') →
 (∀av H' v,aS K av ph' H'->Step K φ ph.length H av ph'.length H'->aX K av ph'.length H' w v->Q v H')->r vx vy H Q
noncomputable def Pd(K:acs)(r:V->Hp->VK->Prop)(f:W->Po W):Prop:=∀{φ:Nat->Addr} {ph:PH} {H:Hp} {x:W} {vx:V} {w:W} {ph':PH} {Q:VK},aS K φ ph H->aX K φ ph.length H x vx->f x ph=some (w,ph') →
 (∀av H' v,aS K av ph' H'->Step K φ ph.length H av ph'.length H'->aX K av ph'.length H' w v->Q v H')->r vx H Q
section
variable{X:Cx}{a b c:Expr}{ma mb mc:EM}{pos:Pos}
theorem agn(i:Nat){x:Str}(hN:X.N[i]? =some x:=by rfl)(hv:aJ X.env.scope x:=by first | exact Or.inl rfl | exact Or.inr (Or.inl rfl) | exact Or.inr (Or.inr rfl))(hd:(x==("__debug__":Str))=false:=by decide)
  (hcd:(x==("__classdict__":Str))=false:=by decide):IE X (.Name x pos) (af i):=by
 refine PE.imp (CW hN hv hd hcd) fun σ H Q h=>?_
 obtain⟨φ,ph,ws,hH,hS,h⟩:=h;obtain⟨w,ph',e,k⟩:=run_lift h;split at e
 ·rename_i w' ew;cases e;obtain⟨v,ev,rv⟩:=hS.get ew;exact⟨v,ev,k φ H v hH Step.refl rv⟩
 ·cases e
theorem qd{t:V}{w:W}(h:PE X a (tC t))(r:∀φ n H,aX X.K φ n H w t):IE X a (eC w):=by
 refine PE.imp h fun σ H Q h=>?_
 obtain⟨φ,ph,ws,hH,hS,h⟩:=h;exact h φ H _ hH Step.refl (r _ _ _)
variable{j:Nat}
theorem ago{i:Int}:IE X (.Constant (.int i) j pos) (eC (.int i)):=qd afN fun _ _ _=>.int i
theorem agp{x:Str}:IE X (.Constant (.str x) j pos) (eC (.str x)):=qd LY fun _ _ _=>.str x
theorem aiH{x:Bool}:IE X (.Constant (.bool x) j pos) (eC (.bl x)):=qd ail fun _ _ _=>.bl x
theorem agq:IE X (.Constant .none j pos) (eC .aE):=qd afO fun _ _ _=>.aE
variable{β:Type}{σ:L2.St}{H:Hp}{φ:Nat->Addr}{ph:PH}{ws:aT}
theorem tM.bind{m:EM}{Q:VK}{f:W->Mo β}{N:β->PH->Prop}(hH:aS X.K φ ph H)(hS:bc X.K φ ph.length H ws σ)(h:(aA (m ws) f ph).Run N (XE X φ ph.length H))
  (k:∀w ph1 aC H1 v,aS X.K aC ph1 H1->Step X.K φ ph.length H aC ph1.length H1->aX X.K aC ph1.length H1 w v->(f w ph1).Run N (XE X aC ph1.length H1)->Q v H1):tM X m σ H Q:=by
 rw[cV] at h;exact⟨φ,ph,ws,hH,hS,h.mono (fun w ph1 h1 aC H1 v aF s1 r1=>k w ph1 aC H1 v aF s1 r1 (h1.mono (fun _ _ z=>z) fun _ _ z=>z.step s1)) fun _ _ z=>z⟩
theorem tT.bind{m:TM}{Q:Bool->Hp->Prop}{f:Bool->Mo β}{N:β->PH->Prop}(hH:aS X.K φ ph H)(hS:bc X.K φ ph.length H ws σ)(h:(aA (m ws) f ph).Run N (XE X φ ph.length H))
  (k:∀b ph1 aC H1,aS X.K aC ph1 H1->Step X.K φ ph.length H aC ph1.length H1->(f b ph1).Run N (XE X aC ph1.length H1)->Q b H1):tT X m σ H Q:=by
 rw[cV] at h;exact⟨φ,ph,ws,hH,hS,h.mono (fun b ph1 h1 aC H1 aF s1=>k b ph1 aC H1 aF s1 (h1.mono (fun _ _ z=>z) fun _ _ z=>z.step s1)) fun _ _ z=>z⟩
theorem tA.bind{m:AM}{Q:List V->Hp->Prop}{f:List W->Mo β}{N:β->PH->Prop}(hH:aS X.K φ ph H)(hS:bc X.K φ ph.length H ws σ)(h:(aA (m ws) f ph).Run N (XE X φ ph.length H))
  (k:∀xs ph1 aC H1 vs,aS X.K aC ph1 H1->Step X.K φ ph.length H aC ph1.length H1->bi X.K aC ph1.length H1 xs vs->(f xs ph1).Run N (XE X aC ph1.length H1)->Q vs H1):tA X m σ H Q:=by
 rw[cV] at h;exact⟨φ,ph,ws,hH,hS,h.mono (fun w ph1 h1 aC H1 v aF s1 r1=>k w ph1 aC H1 v aF s1 r1 (h1.mono (fun _ _ z=>z) fun _ _ z=>z.step s1)) fun _ _ z=>z⟩
variable{r:R2}{f:W->W->Po W}
theorem uE(hi:cU X.K r f){Q:VK}(h:tM X (ag f ma mb) σ H Q):qm r (tM X ma) (tM X mb) σ H Q:=by
 obtain⟨φ,ph,ws,hH,hS,h⟩:=h;refine tM.bind hH hS h fun x ph1 aC H1 vx aF s1 rx h=>tM.bind aF (hS.mono s1) h fun y ph2 bg H2 vy bj s2 ry h=>?_
 obtain⟨w,ph',e,k⟩:=run_lift h;exact hi bj (rx.mono s2) ry e fun fu H3 v dr s3 r3=>k fu H3 v dr ((s1.trans s2).trans s3) r3
theorem sA{op:aqZ}(ho:bI X (aoe op) r)(hi:cU X.K r f)(ha:IE X a ma)(hb:IE X b mb):IE X (.BinOp a op b pos) (ag f ma mb):=
 PE.imp (aiv ho ha hb) fun _ _ _ h=>uE hi h
theorem aiI{op:UnaryOp}{r:V->Hp->VK->Prop}{f:W->Po W}(ho:AA X (unaryOp op) r)(hi:Pd X.K r f)(ha:IE X a ma):IE X (.UnaryOp op a pos) (d5 f ma):=by
 refine PE.imp (aiw ho ha) fun σ H Q h=>?_
 obtain⟨φ,ph,ws,hH,hS,h⟩:=h;refine tM.bind hH hS h fun x ph1 aC H1 vx aF s1 rx h=>?_
 obtain⟨w,ph',e,k⟩:=run_lift h;exact hi aF rx e fun fu H3 v dr s3 r3=>k fu H3 v dr (s1.trans s3) r3
theorem agr{op:CmpOp}(ho:bI X (ami op) r)(hi:cU X.K r f)(ha:IE X a ma)(hb:IE X b mb)(hm:amQ op b=false):IE X (.Compare a [op] [b] pos) (ag f ma mb):=
 PE.imp (adU ho ha hb hm) fun _ _ _ h=>uE hi h
noncomputable def eT(m:EM):TM:=fun σ=>aA (m σ) fun w=>lift (match w with
 | .bl b=>ret b
 | _=>fS)
theorem ags{op:CmpOp}(ho:bI X (ami op) r)(hi:cU X.K r f)(ha:IE X a ma)(hb:IE X b mb)(hm:amQ op b=false):IT X (.Compare a [op] [b] pos) (eT (ag f ma mb)):=by
 refine PT.imp (KP ho ha hb hm) fun σ H Q h=>?_
 obtain⟨φ,ph,ws,hH,hS,h⟩:=h;refine uE hi (tM.bind hH hS h fun x ph1 aC H1 vx aF s1 rx h=>?_);obtain⟨w,ph',e,k⟩:=run_lift h;split at e
 ·cases e;cases rx;exact⟨_,rfl,k aC H1 aF s1⟩
 ·cases e
end
noncomputable def qq(g:Int->Int->Int):W->W->Po W:=fun x y=>match x,y with
 | .int i,.int j=>ret (.int (g i j))
 | _,_=>fS
noncomputable def sU(c:Int->Int->Bool)(g:Int->Int->Int):W->W->Po W:=fun x y=>match x,y with
 | .int i,.int j=>if c i j=true then ret (.int (g i j)) else fS
 | _,_=>fS
noncomputable def sV(g:Int->Int->Bool):W->W->Po W:=fun x y=>match x,y with
 | .int i,.int j=>ret (.bl (g i j))
 | _,_=>fS
theorem aiJ{g:Int->Int->Int}:cU K (jX fun i j=>.int (g i j)) (qq g):=by
 intro φ ph H x y vx vy w ph' Q hH rx ry e k;unfold qq at e;split at e
 ·cases e;cases rx;cases ry;exact⟨_,_,rfl,rfl,k φ H _ hH Step.refl (.int _)⟩
 ·cases e
theorem Me{C:Int->Int->Prop}{c:Int->Int->Bool}{g:Int->Int->Int}(hc:∀i j,c i j=true->C i j):cU K (rI C fun i j=>.int (g i j)) (sU c g):=by
 intro φ ph H x y vx vy w ph' Q hH rx ry e k;unfold sU at e;split at e
 ·split at e
  ·cases e;cases rx;cases ry;exact⟨_,_,rfl,rfl,hc _ _ (by assumption),k φ H _ hH Step.refl (.int _)⟩
  ·cases e
 ·cases e
theorem zi{g:Int->Int->Bool}:cU K (jX fun i j=>.bl (g i j)) (sV g):=by
 intro φ ph H x y vx vy w ph' Q hH rx ry e k;unfold sV at e;split at e
 ·cases e;cases rx;cases ry;exact⟨_,_,rfl,rfl,k φ H _ hH Step.refl (.bl _)⟩
 ·cases e
noncomputable def dJ(a b:TM):TM:=fun σ=>aA (a σ) fun c=>if c=true then b σ else aK false
noncomputable def dN(a b:TM):TM:=fun σ=>aA (a σ) fun c=>if c=true then aK true else b σ
noncomputable def el(a:TM):TM:=fun σ=>aA (a σ) fun c=>aK (!c)
noncomputable def lc(a b:EM):EM:=fun σ=>aA (a σ) fun w=>match w with
 | .bl c=>if c=true then b σ else aK (.bl false)
 | _=>eK
noncomputable def eOr(a b:EM):EM:=fun σ=>aA (a σ) fun w=>match w with
 | .bl c=>if c=true then aK (.bl true) else b σ
 | _=>eK
noncomputable def aj6(a:EM):EM:=fun σ=>aA (a σ) fun w=>match w with
 | .bl c=>aK (.bl (!c))
 | _=>eK
noncomputable def qr(t:TM)(a b:EM):EM:=fun σ=>aA (t σ) fun c=>if c=true then a σ else b σ
section
variable{X:Cx}{a b c:Expr}{rest:List Expr}{ma mb mc:EM}{ta tb:TM}{pos:Pos}
theorem agt(ha:IT X a ta):IT X (.UnaryOp .Not a pos) (el ta):=by
 refine PT.imp (afR ha) fun σ H Q h=>?_
 obtain⟨φ,ph,ws,hH,hS,h⟩:=h;exact tT.bind hH hS h fun x ph1 aC H1 aF s1 h=>h aC H1 aF s1
variable{H:Hp}
theorem and_imp{σ:L2.St}{Q:Bool->Hp->Prop}(h:tT X (dJ ta tb) σ H Q):zW (tT X ta) (tT X tb) σ H Q:=by
 obtain⟨φ,ph,ws,hH,hS,h⟩:=h;refine tT.bind hH hS h fun x ph1 aC H1 aF s1 h=>?_
 cases x with
 | true=>exact nP ⟨aC,ph1,ws,aF,hS.mono s1,h.mono (fun _ _ k bg H2 bj s2=>k bg H2 bj (s1.trans s2)) fun _ _ z=>z⟩
 | false=>exact nO (h aC H1 aF s1)
theorem or_imp{σ:L2.St}{Q:Bool->Hp->Prop}(h:tT X (dN ta tb) σ H Q):OW (tT X ta) (tT X tb) σ H Q:=by
 obtain⟨φ,ph,ws,hH,hS,h⟩:=h;refine tT.bind hH hS h fun x ph1 aC H1 aF s1 h=>?_
 cases x with
 | false=>exact nO ⟨aC,ph1,ws,aF,hS.mono s1,h.mono (fun _ _ k bg H2 bj s2=>k bg H2 bj (s1.trans s2)) fun _ _ z=>z⟩
 | true=>exact nP (h aC H1 aF s1)
theorem agu{op:BoolOp}(ha:IT X a ta):PW X (.BoolOp op [a] pos) (tT X ta):=by
 cases op with
 | And=>exact adO ha
 | Or=>exact afP ha
theorem agv(ha:IT X a ta)(hb:PW X (.BoolOp .And (b::rest) pos) (tT X tb)):PW X (.BoolOp .And (a::b::rest) pos) (tT X (dJ ta tb)):=
 fun wh pins s σ H Q I h=>afQ ha hb wh pins s σ H Q I (and_imp h)
theorem aiK(ha:IT X a ta)(hb:PW X (.BoolOp .Or (b::rest) pos) (tT X tb)):PW X (.BoolOp .Or (a::b::rest) pos) (tT X (dN ta tb)):=
 fun wh pins s σ H Q I h=>aim ha hb wh pins s σ H Q I (or_imp h)
theorem agw(ha:IE X a ma)(hb:IE X (.BoolOp .And (b::rest) pos) mb):IE X (.BoolOp .And (a::b::rest) pos) (lc ma mb):=by
 refine PE.imp (afT ha hb) fun σ H Q h=>?_
 obtain⟨φ,ph,ws,hH,hS,h⟩:=h;refine tM.bind hH hS h fun x ph1 aC H1 vx aF s1 rx h=>?_
 cases rx with
 | bl c=>
  refine⟨c,rfl,?_⟩;cases c with
  | true=>exact nP ⟨aC,ph1,ws,aF,hS.mono s1,h.mono (fun _ _ k bg H2 v bj s2 r2=>k bg H2 v bj (s1.trans s2) r2) fun _ _ z=>z⟩
  | false=>exact nO (h aC H1 _ aF s1 (.bl false))
 | _=>exact h.elim
theorem agx{op:BoolOp}(ha:IE X a ma):IE X (.BoolOp op [a] pos) ma:=afS ha
theorem aiL(hc:IT X c ta)(ha:IE X a ma)(hb:IE X b mb):IE X (.IfExp c a b pos) (qr ta ma mb):=by
 refine PE.imp (acH hc ha hb) fun σ H Q h=>?_
 obtain⟨φ,ph,ws,hH,hS,h⟩:=h;refine tT.bind hH hS h fun x ph1 aC H1 aF s1 h=>?_
 cases x with
 | true=>exact nP ⟨aC,ph1,ws,aF,hS.mono s1,h.mono (fun _ _ k bg H2 v bj s2 r2=>k bg H2 v bj (s1.trans s2) r2) fun _ _ z=>z⟩
 | false=>exact nO ⟨aC,ph1,ws,aF,hS.mono s1,h.mono (fun _ _ k bg H2 v bj s2 r2=>k bg H2 v bj (s1.trans s2) r2) fun _ _ z=>z⟩
noncomputable def sW(w:W):Po Bool:=fun ph=>match w with
 | .aE=>some (false,ph)
 | .bl b=>some (b,ph)
 | .int i=>some (i != 0,ph)
 | .str y=>if y.length<=alz then some ((y.length:Int) != 0,ph) else none
 | .tup ws=>some (!ws.isEmpty,ph)
 | .fl ws=>some (!ws.isEmpty,ph)
 | .ref i=>match ph[i]? with
  | some (.lst ws)=>some (!ws.isEmpty,ph)
  | _=>none
 | .exc .. =>none
 | .fn .. =>none
 | .kt .. =>none
noncomputable def cL(m:EM):TM:=fun σ=>aA (m σ) fun w=>lift (sW w)
theorem C4{K:acs}{φ:Nat->Addr}{n:Nat}{ws:List W}{vs:List V}(r:bi K φ n H ws vs):(!vs.isEmpty)= !ws.isEmpty:=by cases r <;> rfl
theorem agy(ha:IE X a ma)(he:∀whole,isTrue a X.env whole=(do let v <- whole;standAt a.pos;apu [v] (truthy v)):=by intro _;rfl):IT X a (cL ma):=by
 refine PT.imp (acM ha he) fun σ H Q h=>?_
 obtain⟨φ,ph,ws,hH,hS,h⟩:=h;refine tM.bind hH hS h fun x ph1 aC H1 vx aF s1 rx h=>?_
 obtain⟨b,ph2,e,k⟩:=run_lift h;unfold sW at e;cases rx with
 | aE=>cases e;exact⟨_,rfl,k aC H1 aF s1⟩
 | bl b=>cases e;exact⟨_,rfl,k aC H1 aF s1⟩
 | int i=>cases e;exact⟨_,rfl,k aC H1 aF s1⟩
 | str y=>
  simp only at e;split at e
  ·rename_i hy;cases e;exact⟨_,⟨hy,rfl⟩,k aC H1 aF s1⟩
  ·cases e
 | tup hq r=>cases e;exact⟨_,.inr (.inl ⟨_,bT.of hq,rfl⟩),by rw[C4 r];exact k aC H1 aF s1⟩
 | fl hq r=>cases e;exact⟨_,.inl ⟨_,hq.sq,rfl⟩,by rw[C4 r];exact k aC H1 aF s1⟩
 | ref hi=>
  simp only at e;split at e
  ·rename_i cR hw;cases e;obtain⟨vs,hv,r⟩:=aF.hp _ _ hw;exact⟨_,.inl ⟨vs,bL.of hv,rfl⟩,by rw[C4 r];exact k aC H1 aF s1⟩
  ·cases e
 | exc=>cases e
 | fn=>cases e
 | kt _ _=>cases e
end
noncomputable def bv:SM:=fun σ=>aK (.nx σ)
noncomputable def aD(a b:SM):SM:=fun σ=>aA (a σ) fun f=>match f with
 | .nx az=>b az
 | f=>aK f
noncomputable def eo(e:EM):SM:=fun σ=>aA (e σ) fun _=>aK (.nx σ)
noncomputable def aU(e:EM):SM:=fun σ=>aA (e σ) fun w=>aK (.rt w)
noncomputable def bf(t:TM)(a b:SM):SM:=fun σ=>aA (t σ) fun c=>if c=true then a σ else b σ
abbrev GM:=W->aT->Mo aT
noncomputable def gN(i:Nat):GM:=fun w σ=>aK (σ.set i (some w))
noncomputable def aP(e:EM)(g:GM):SM:=fun σ=>aA (e σ) fun w=>aA (g w σ) fun az=>aK (.nx az)
noncomputable def tG(X:Cx)(g:GM):TG:=fun v σ H Q=>∃φ ph ws w,aS X.K φ ph H/\bc X.K φ ph.length H ws σ/\aX X.K φ ph.length H w v/\(g w ws ph).Run (fun cR ph'=>
 ∀av H' az,aS X.K av ph' H'->Step X.K φ ph.length H av ph'.length H'->bc X.K av ph'.length H' cR az->Q az H') (XE X φ ph.length H)
abbrev IG(X:Cx)(tg:Expr)(g:GM):Prop:=PG X tg (tG X g)
section
variable{X:Cx}{e c:Expr}{m:EM}{t:TM}{a b:SM}{st:Stmt}{as bs rest:List Stmt}{pos:Pos}{tg:Expr}{g:GM}
theorem PG.imp{t t':TG}(h:PG X tg t)(k:∀v σ H Q,t' v σ H Q->t v σ H Q):PG X tg t':=fun pins s σ H v u Q I r q=>h pins s σ H v u Q I r (k v σ H Q q)
theorem ad6:gy X [] bv:=hG.imp adP fun D σ H h=>by
 obtain⟨φ,ph,ws,hH,hS,h⟩:=h;exact h φ H hH Step.refl σ hS
variable{σ:L2.St}{H:Hp}
theorem ad7{D:Ends}(h:tS X (aD a b) D σ H):N4 (tS X a) (tS X b) D σ H:=by
 obtain⟨φ,ph,ws,hH,hS,h⟩:=h;unfold aD at h;rw[cV] at h;refine⟨φ,ph,ws,hH,hS,h.mono (fun f ph1 h aC H1 aF s1=>?_) fun _ _ z=>z⟩;cases f with
 | nx lu=>exact fun σ1 mQ=>⟨aC,ph1,lu,aF,mQ,h.mono (fun f ph2 k bg H2 bj s2=>k bg H2 bj (s1.trans s2)) fun _ _ z=>z.step s1⟩
 | bk lu=>exact h aC H1 aF s1
 | ct lu=>exact h aC H1 aF s1
 | rt w=>exact h aC H1 aF s1
theorem acS(h1:IS X st a)(h2:gy X rest b):gy X (st::rest) (aD a b):=hG.imp (JN h1 h2) fun _ _ _ h=>ad7 h
theorem ad8(h1:IS X st a):gy X [st] a:=KN h1
theorem ad9(he:IE X e m)(hs:anl e none pos.line X.env=pure false:=by rfl):IS X (.Expr e pos) (eo m):=PS.imp (KO he hs) fun D σ H h=>by
 obtain⟨φ,ph,ws,hH,hS,h⟩:=h;exact tM.bind hH hS h fun w ph1 aC H1 v aF s1 r1 h=>h aC H1 aF s1 σ (hS.mono s1)
theorem agz(he:IE X e m):IS X (.Return (some e) pos) (aU m):=PS.imp (afU he) fun D σ H h=>by
 obtain⟨φ,ph,ws,hH,hS,h⟩:=h;exact tM.bind hH hS h fun w ph1 aC H1 v aF s1 r1 h=>h aC H1 aF s1 v r1
theorem aiM(hc:IT X c t)(ha:gy X as a)(hb:gy X bs b):IS X (.If c as bs pos) (bf t a b):=PS.imp (aiq hc ha hb) fun D σ H h=>by
 obtain⟨φ,ph,ws,hH,hS,h⟩:=h;refine tT.bind hH hS h fun x ph1 aC H1 aF s1 h=>?_
 cases x with
 | true=>exact nP ⟨aC,ph1,ws,aF,hS.mono s1,h.mono (fun _ _ k bg H2 bj s2=>k bg H2 bj (s1.trans s2)) fun _ _ z=>z⟩
 | false=>exact nO ⟨aC,ph1,ws,aF,hS.mono s1,h.mono (fun _ _ k bg H2 bj s2=>k bg H2 bj (s1.trans s2)) fun _ _ z=>z⟩
theorem aea{i:Nat}{x:Str}(hN:X.N.Nodup)(hi:X.N[i]? =some x)(hx:Loc X.env.scope x)(hf:(X.fn x=true\/X.env.scope.names.lookup x=some .local)/\jQ X x):IG X (.Name x pos) (gN i):=
 PG.imp (adQ hN hi hx hf) fun v σ H Q h=>by
  obtain⟨φ,ph,ws,w,hH,hS,hU,h⟩:=h;exact h φ H _ hH Step.refl (hS.set hU i)
theorem tG.bind{β:Type}{g:GM}{Q:L2.St->Hp->Prop}{φ:Nat->Addr}{ph:PH}{ws:aT}{w:W}{v:V}{f:aT->Mo β}{N:β->PH->Prop}(hH:aS X.K φ ph H)(hS:bc X.K φ ph.length H ws σ)(hU:aX X.K φ ph.length H w v)(h:(aA (g w ws) f ph).Run N (XE X φ ph.length H))
  (k:∀lu ph1 aC H1 σ1,aS X.K aC ph1 H1->Step X.K φ ph.length H aC ph1.length H1->bc X.K aC ph1.length H1 lu σ1->(f lu ph1).Run N (XE X aC ph1.length H1)->Q σ1 H1):tG X g v σ H Q:=by
 rw[cV] at h;exact⟨φ,ph,ws,w,hH,hS,hU,h.mono (fun lu ph1 h1 aC H1 σ1 aF s1 r1=>k lu ph1 aC H1 σ1 aF s1 r1 (h1.mono (fun _ _ z=>z) fun _ _ z=>z.step s1)) fun _ _ z=>z⟩
theorem aeb{D:Ends}(h:tS X (aP m g) D σ H):zY (tM X m) (tG X g) D σ H:=by
 obtain⟨φ,ph,ws,hH,hS,h⟩:=h;refine tM.bind hH hS h fun w ph1 aC H1 v aF s1 r1 h=>?_
 exact tG.bind aF (hS.mono s1) r1 h fun gz ph2 bg H2 bo bj s2 lw h=>h bg H2 bj (s1.trans s2) bo lw
theorem agA{i:Nat}{x:Str}{pos':Pos}(hN:X.N.Nodup)(hi:X.N[i]? =some x)(hx:Loc X.env.scope x)(he:IE X e m)(hs:anl e (some (.Name x pos')) pos.line X.env=pure false:=by rfl)
  (hf:(X.fn x=true\/X.env.scope.names.lookup x=some .local)/\jQ X x):IS X (.Assign [.Name x pos'] e pos) (aP m (gN i)):=
 PS.imp (afY hN hi hx he hs hf) fun D σ H h=>by
  obtain⟨φ,ph,ws,hH,hS,h⟩:=h;exact tM.bind hH hS h fun w ph1 aC H1 v aF s1 r1 h=>h aC H1 aF s1 _ ((hS.mono s1).set r1 i)
theorem agB(he:IE X e m)(hg:IG X tg g)(hs:swapsWithSole [tg] e pos.line X.env=pure false:=by rfl)(hw:swappedStores [tg] e X.env=pure none:=by rfl)
  (h1:(amO [tg] X.env).map (·.2)=[aqF tg X.env]:=by rfl):IS X (.Assign [tg] e pos) (aP m g):=PS.imp (afX he hg hs hw h1) fun _ _ _ h=>aeb h
end
abbrev IM:=aT->Mo (List W×(PH->Bool))
noncomputable def cM(chk:PH->Bool)(g:GM)(b:SM):List W->SM
 | [],σ=>fun ph=>if chk ph=true then .ok (.nx σ) ph else .no
 | x::xs,σ=>fun ph=>if chk ph=true then aA (g x σ) (fun σ1=>aA (b σ1) fun f=>match f with
   | .nx az=>cM chk g b xs az
   | .ct az=>cM chk g b xs az
   | .bk az=>aK (.nx az)
   | .rt w=>aK (.rt w)) ph else .no
noncomputable def gj(im:IM)(g:GM)(b:SM):SM:=fun σ=>aA (im σ) fun r=>cM r.2 g b r.1 σ
noncomputable def EY(K:acs)(J:It)(items:List W)(chk:PH->Bool)(φ:Nat->Addr)(n:Nat)(H:Hp):Prop:=
 ∀av ph' H',aS K av ph' H'->Step K φ n H av ph'.length H'->chk ph'=true->∀i:Nat,
  (∀w,items[i]? =some w->J.go i H'/\∀x gx,J.vP i H' x gx->aS K av ph' gx/\Step K av ph'.length H' av ph'.length gx/\aX K av ph'.length gx w x)/\(items[i]? =none->J.stop i H')
noncomputable def tI(X:Cx)(im:IM):TI:=fun σ H R=>∃φ ph ws,aS X.K φ ph H/\bc X.K φ ph.length H ws σ/\(im ws ph).Run (fun r ph'=>
 ∀av H' J,aS X.K av ph' H'->Step X.K φ ph.length H av ph'.length H'->EY X.K J r.1 r.2 av ph'.length H'->R J H') (XE X φ ph.length H)
abbrev II(X:Cx)(tg iter:Expr)(im:IM):Prop:=PI X tg iter (tI X im)
section
variable{X:Cx}{iter tg c:Expr}{im:IM}{g:GM}{b:SM}{t:TM}{body:List Stmt}{pos:Pos}
variable{H:Hp}
theorem aec{D:Ends}{σ:L2.St}(h:tS X (gj im g b) D σ H):N5 (tI X im) (tG X g) (tS X b) D σ H:=by
 obtain⟨φ,ph,ws,hH,hS,h⟩:=h;unfold gj at h;rw[cV] at h;refine⟨φ,ph,ws,hH,hS,h.mono (fun r ph1 h aC H1 J aF s1 hJ=>?_) fun _ _ z=>z⟩;obtain⟨items,chk⟩:=r;refine⟨fun i m bo H2=>∃bg ph2 gz,m=(items.drop i).length/\aS X.K bg ph2 H2/\bc X.K bg ph2.length H2 gz bo/\Step X.K aC ph1.length H1 bg ph2.length H2 /\
   (cM chk g b (items.drop i) gz ph2).Run (fun f ph'=>∀av H',aS X.K av ph' H'->Step X.K bg ph2.length H2 av ph'.length H'->qc X D av ph' H' f) (XE X bg ph2.length H2),
  ⟨_,aC,ph1,ws,rfl,aF,hS.mono s1,Step.refl,h.mono (fun f ph' k av H' r' s'=>k av H' r' (s1.trans s')) fun _ _ z=>z.step s1⟩,?_⟩
 rintro i m bo H2 ⟨bg,ph2,gz,rfl,bj,lw,s2,h2⟩;cases hd:items.drop i with
 | nil=>
  rw[hd] at h2;unfold cM at h2;split at h2
  ·rename_i hc;have hn:items[i]? =none:=by
    have:items.length<=i:=by simpa using hd
    simpa using this
   exact .inl ⟨(hJ bg _ H2 bj s2 hc i).2 hn,h2 bg H2 bj Step.refl bo lw⟩
  ·exact h2.elim
 | cons x xs=>
  rw[hd] at h2;unfold cM at h2;split at h2
  ·rename_i hc;have hx:items[i]? =some x:=by
    have:=congrArg (fun l=>l[0]?) hd
    simpa using this
   have lx:items.drop (i+1)=xs:=by
    have:=congrArg (fun l=>l.drop 1) hd
    simpa[List.drop_drop,arD] using this
   obtain⟨EZ,hy⟩:=(hJ bg _ H2 bj s2 hc i).1 x hx;refine .inr ⟨EZ,fun az H'=>∃av iI cR,aS X.K av iI H'/\bc X.K av iI.length H' cR az/\Step X.K aC ph1.length H1 av iI.length H' /\
     (cM chk g b xs cR iI).Run (fun f p'=>∀fu H3,aS X.K fu p' H3->Step X.K av iI.length H' fu p'.length H3->qc X D fu p' H3 f) (XE X av iI.length H'),
    fun az H' ⟨av,iI,cR,q1,q2,q3,q4⟩=>⟨xs.length,by simp,av,iI,cR,by rw[lx],q1,q2,q3,by rw[lx];exact q4⟩,fun v H3 y=>?_⟩
   obtain⟨dr,s3,rv⟩:=hy v H3 y;have h2':(aA (g x gz) (fun σ1=>aA (b σ1) fun f=>match f with
    | .nx az=>cM chk g b xs az
    | .ct az=>cM chk g b xs az
    | .bk az=>aK (.nx az)
    | .rt w=>aK (.rt w)) ph2).Run (fun f ph'=>∀av H',aS X.K av ph' H'->Step X.K bg ph2.length H2 av ph'.length H'->qc X D av ph' H' f) (XE X bg ph2.length H3):=Out.Run.mono h2 (fun _ _ z=>z) fun _ _ z=>z.step s3
   refine tG.bind dr (lw.mono s3) rv h2' fun ws4 oi t7 H4 iW E2 s4 hS4 h4=>?_
   rw[cV] at h4;refine⟨t7,oi,ws4,E2,hS4,h4.mono (fun f qt h5 jy H5 jr s5=>?_) fun _ _ z=>z⟩;have vw:=((s2.trans s3).trans s4).trans s5;have mR:=(s3.trans s4).trans s5;cases f with
   | nx gE=>exact fun gK gF=>⟨jy,qt,gE,jr,gF,vw,h5.mono (fun f p' k av H' r' s'=>k av H' r' (mR.trans s')) fun _ _ z=>z.step s5⟩
   | ct gE=>exact fun gK gF=>⟨jy,qt,gE,jr,gF,vw,h5.mono (fun f p' k av H' r' s'=>k av H' r' (mR.trans s')) fun _ _ z=>z.step s5⟩
   | bk gE=>exact fun gK gF=>h5 jy H5 jr mR gK gF
   | rt w=>exact fun v hv=>h5 jy H5 jr mR v hv
  ·exact h2.elim
theorem PI.imp{t t':TI}(h:PI X tg iter t)(k:∀σ H R,t' σ H R->t σ H R):PI X tg iter t':=fun pins s σ H R I q=>h pins s σ H R I (k σ H R q)
theorem agC(hp:aqk (model X.prog X.w) X.A X.env X.xe)(hc:X.calm=true)(hi:II X tg iter im)(hg:IG X tg g)(hb:gy X body b)(hs:∀x,amn iter X.env x=pure x:=by intro _;rfl) :
  IS X (.For tg iter body [] pos) (gj im g b):=PS.imp (af0 hp hc hi hg hb hs) fun _ _ _ h=>aec h
noncomputable def nS(w:W):Po (List W×(PH->Bool)):=fun ph=>match w with
 | .ref i=>match ph[i]? with
  | some (.lst ws)=>some ((ws,fun ph'=>decide (ph'[i]? =some (.lst ws))),ph)
  | _=>none
 | .fl ws=>some ((ws,fun _=>true),ph)
 | _=>none
noncomputable def tupI(w:W):Po (List W×(PH->Bool)):=fun ph=>match w with
 | .tup ws=>some ((ws,fun _=>true),ph)
 | _=>none
noncomputable def Ad(m:EM):IM:=fun σ=>aA (m σ) fun w=>lift (nS w)
noncomputable def Dy(m:EM):IM:=fun σ=>aA (m σ) fun w=>lift (tupI w)
theorem aed{l:Expr}{m:EM}(hl:IE X l m):II X tg l (Ad m):=by
 refine PI.imp (adS hl) fun σ H R h=>?_
 obtain⟨φ,ph,ws,hH,hS,h⟩:=h;refine tM.bind hH hS h fun w ph1 aC H1 v aF s1 r1 h=>?_
 obtain⟨r,ph',e,k⟩:=run_lift h;unfold nS at e;cases r1 with
 | ref hi=>
  rename_i i;simp only at e;split at e
  ·rename_i items hw;cases e;obtain⟨vs,hv,r⟩:=aF.hp _ _ hw;refine⟨_,rfl,⟨vs,bL.of hv⟩,k aC H1 _ aF s1 ?_⟩;intro bg ph2 H2 bj s2 hc j;have n8:ph2[i]? =some (.lst items):=of_decide_eq_true hc;obtain⟨us,hu,ru⟩:=bj.hp _ _ n8;rw[s2.eq i hi] at hu;refine⟨fun w dG=>?_,fun hn=>?_⟩
   ·obtain⟨u,eu,mS⟩:=ru.get dG;refine⟨⟨us,u,bL.of hu,eu⟩,fun x gx hy=>?_⟩;obtain⟨rfl,hy⟩:=hy;have:=hy us (bL.of hu);rw[eu] at this;cases this;exact⟨bj,Step.refl,mS⟩
   ·refine⟨us,bL.of hu,?_⟩;rw[<- ru.length]
    simpa using hn
  ·cases e
 | fl hq r=>
  cases e;refine⟨_,rfl,⟨_,hq.sq⟩,k aC H1 _ aF s1 ?_⟩;intro bg ph2 H2 bj s2 hc j;have h2:=aX.mono s2 (.fl hq r);cases h2 with
  | fl h2 r2=>
   refine⟨fun w dG=>?_,fun hn=>?_⟩
   ·obtain⟨u,eu,mS⟩:=r2.get dG;refine⟨⟨_,u,h2.sq,eu⟩,fun x gx hy=>?_⟩;obtain⟨rfl,hy⟩:=hy;have:=hy _ h2.sq;rw[eu] at this;cases this;exact⟨bj,Step.refl,mS⟩
   ·refine⟨_,h2.sq,?_⟩;rw[<- r2.length]
    simpa using hn
 | _=>cases e
theorem agD{l:Expr}{m:EM}(hl:IE X l m):II X tg l (Dy m):=by
 refine PI.imp (afZ hl) fun σ H R h=>?_
 obtain⟨φ,ph,ws,hH,hS,h⟩:=h;refine tM.bind hH hS h fun w ph1 aC H1 v aF s1 r1 h=>?_
 obtain⟨r,ph',e,k⟩:=run_lift h;unfold tupI at e;cases r1 with
 | tup hq r=>
  cases e;refine⟨_,rfl,⟨_,bT.of hq⟩,k aC H1 _ aF s1 ?_⟩;intro bg ph2 H2 bj s2 hc j;have h2:=bT.of (K:=X.K) (s2.tup _ _ hq);have r2:=r.mono s2;refine⟨fun w dG=>?_,fun hn=>?_⟩
  ·obtain⟨u,eu,mS⟩:=r2.get dG;refine⟨⟨_,u,h2,eu⟩,fun x gx hy=>?_⟩;obtain⟨rfl,hy⟩:=hy;have:=hy _ h2;rw[eu] at this;cases this;exact⟨bj,Step.refl,mS⟩
  ·refine⟨_,h2,?_⟩;rw[<- r2.length]
   simpa using hn
 | _=>cases e
noncomputable def gn(lo:Int)(n:Nat):List W:=(anj n).map fun i:Nat=>.int (lo+((i:Nat):Int))
noncomputable def DZ(xs:List W):Po (List W×(PH->Bool)):=fun ph=>match xs with
 | [.int j]=>if -(2 ^ 62)<=j/\j<2 ^ 62 then some ((gn 0 j.toNat,fun _=>true),ph) else none
 | _=>none
noncomputable def D0(xs:List W):Po (List W×(PH->Bool)):=fun ph=>match xs with
 | [.int i,.int j]=>if -(2 ^ 62)<=i/\i<2 ^ 62/\ -(2 ^ 62)<=j/\j<2 ^ 62 then some ((gn i (j-i).toNat,fun _=>true),ph) else none
 | _=>none
noncomputable def jZ(m:AM):IM:=fun σ=>aA (m σ) fun xs=>lift (DZ xs)
noncomputable def tN(m:AM):IM:=fun σ=>aA (m σ) fun xs=>lift (D0 xs)
theorem Mf{K:acs}{lo:Int}{n:Nat}{chk:PH->Bool}{φ:Nat->Addr}{k:Nat}:EY K (vQ lo n) (gn lo n) chk φ k H:=by
 intro bg ph2 H2 bj s2 hc j;unfold gn;refine⟨fun w dG=>?_,fun hn=>?_⟩
 ·rw[aln] at dG;have hj:j<n:=by
   by_cases hj:j<n
   ·exact hj
   ·rw[List.getElem?_eq_none (by simpa using hj)] at dG;cases dG
  rw[aqR hj] at dG;cases dG;refine⟨hj,fun x gx hy=>?_⟩;obtain⟨rfl,rfl⟩:=hy;exact⟨bj,Step.refl,.int _⟩
 ·have:n<=j:=by simpa using hn
  exact this
theorem abg{a:Expr}{m:AM}{p:Pos}(hg:Gl X "range")(hm:X.mg "range"=none)(ha:IA X [a] m)(hs:alI [a] X.env=[(false,eval a X.env)]:=by rfl):II X tg (.Call (.Name "range" p) [a] [] pos) (jZ m):=by
 refine PI.imp (aa5 hg hm ha hs) fun σ H R h=>?_
 obtain⟨φ,ph,ws,hH,hS,h⟩:=h;refine tA.bind hH hS h fun xs ph1 aC H1 vs aF s1 r1 h=>?_
 obtain⟨r,ph',e,k⟩:=run_lift h;unfold DZ at e;split at e
 ·split at e
  ·rename_i hc;cases e;cases r1 with
   | cons r r'=>cases r;cases r';exact⟨_,rfl,hc.1,hc.2,k aC H1 _ aF s1 Mf⟩
  ·cases e
 ·cases e
theorem abh{a b':Expr}{m:AM}{p:Pos}(hg:Gl X "range")(hm:X.mg "range"=none)(ha:IA X [a,b'] m)(hs:alI [a,b'] X.env=[(false,eval a X.env),(false,eval b' X.env)]:=by rfl)(cY:alI [b'] X.env=[(false,eval b' X.env)]:=by rfl) :
  II X tg (.Call (.Name "range" p) [a,b'] [] pos) (tN m):=by
 refine PI.imp (aa6 hg hm ha hs cY) fun σ H R h=>?_
 obtain⟨φ,ph,ws,hH,hS,h⟩:=h;refine tA.bind hH hS h fun xs ph1 aC H1 vs aF s1 r1 h=>?_
 obtain⟨r,ph',e,k⟩:=run_lift h;unfold D0 at e;split at e
 ·split at e
  ·rename_i hc;cases e;cases r1 with
   | cons r r'=>
    cases r;cases r' with
    | cons r r'=>cases r;cases r';exact⟨_,_,rfl,hc,k aC H1 _ aF s1 Mf⟩
  ·cases e
 ·cases e
noncomputable def mT(t:TM)(b:SM):Nat->SM
 | 0=>fun _=>eK
 | n+1=>fun σ=>aA (t σ) fun c=>if c=true then aA (b σ) fun f=>match f with
   | .nx az=>mT t b n az
   | .ct az=>mT t b n az
   | .bk az=>aK (.nx az)
   | .rt w=>aK (.rt w)
  else aK (.nx σ)
noncomputable def Out.aj7{α:Type}:Out α->Bool
 | .no=>true
 | _=>false
open Classical in
noncomputable def r9(t:TM)(b:SM):SM:=fun σ ph=>if h:∃n,(mT t b n σ ph).aj7=false then mT t b h.choose σ ph else .no
theorem abi{D:Ends}{σ:L2.St}(h:tS X (r9 t b) D σ H):LZ (tT X t) (tS X b) D σ H:=by
 obtain⟨φ,ph,ws,hH,hS,h⟩:=h;have⟨n,h⟩:∃n,(mT t b n ws ph).Run (fun f ph'=>∀av H',aS X.K av ph' H'->Step X.K φ ph.length H av ph'.length H'->qc X D av ph' H' f) (XE X φ ph.length H):=by
  unfold r9 at h;split at h
  ·exact⟨_,h⟩
  ·exact h.elim
 refine⟨fun m bo H2=>∃bg ph2 gz,aS X.K bg ph2 H2/\bc X.K bg ph2.length H2 gz bo /\
  (mT t b m gz ph2).Run (fun f ph'=>∀av H',aS X.K av ph' H'->Step X.K bg ph2.length H2 av ph'.length H'->qc X D av ph' H' f) (XE X bg ph2.length H2),⟨n,φ,ph,ws,hH,hS,h⟩,?_⟩
 rintro m bo H2 ⟨bg,ph2,gz,bj,lw,h2⟩;cases m with
 | zero=>exact h2.elim
 | succ m=>
  refine tT.bind bj lw h2 fun c fI fu H3 dr s3 h3=>?_
  cases c with
  | false=>exact nO (h3 fu H3 dr s3 bo (lw.mono s3))
  | true=>
   have Pe:(aA (b gz) (fun f=>match f with
    | .nx az=>mT t b m az
    | .ct az=>mT t b m az
    | .bk az=>aK (.nx az)
    | .rt w=>aK (.rt w)) fI).Run _ _:=h3
   rw[cV] at Pe;refine nP ⟨fun az H'=>∃av iI cR,aS X.K av iI H'/\bc X.K av iI.length H' cR az /\
    (mT t b m cR iI).Run (fun f p'=>∀t7 H4,aS X.K t7 p' H4->Step X.K av iI.length H' t7 p'.length H4->qc X D t7 p' H4 f) (XE X av iI.length H'),fun az H' q=>⟨m,amK _,q⟩,?_⟩
   refine⟨fu,fI,gz,dr,lw.mono s3,Pe.mono (fun f qt h5 jy H5 jr s5=>?_) fun _ _ z=>z⟩;have mR:=s3.trans s5;cases f with
   | nx gE=>exact fun gK gF=>⟨jy,qt,gE,jr,gF,h5.mono (fun f p' k av H' r' s'=>k av H' r' (mR.trans s')) fun _ _ z=>z.step s5⟩
   | ct gE=>exact fun gK gF=>⟨jy,qt,gE,jr,gF,h5.mono (fun f p' k av H' r' s'=>k av H' r' (mR.trans s')) fun _ _ z=>z.step s5⟩
   | bk gE=>exact fun gK gF=>h5 jy H5 jr mR gK gF
   | rt w=>exact fun v hv=>h5 jy H5 jr mR v hv
theorem acT(hp:aqk (model X.prog X.w) X.A X.env X.xe)(hc:IT X c t)(hb:gy X body b):IS X (.While c body [] pos) (r9 t b):=
 PS.imp (acJ hp hc hb) fun _ _ _ h=>abi h
end
noncomputable def aj:AM:=fun _=>aK []
noncomputable def ae(e:EM)(r:AM):AM:=fun σ=>aA (e σ) fun w=>aA (r σ) fun ws=>aK (w::ws)
noncomputable def lg(ws:List W):Po W:=fun ph=>if ws.length<=alz then some (.tup ws,ph) else none
noncomputable def vB(ws:List W):Po W:=fun ph=>if ws.length<=alz then some (.ref ph.length,ph++[.lst ws]) else none
noncomputable def aH(a:AM):EM:=fun σ=>aA (a σ) fun ws=>lift (lg ws)
noncomputable def aI(a:AM):EM:=fun σ=>aA (a σ) fun ws=>lift (vB ws)
section
variable{X:Cx}{e:Expr}{es:List Expr}{m:EM}{a:AM}{pos:Pos}
theorem agE:IA X [] aj:=PA.imp uM fun σ H Q h=>by
 obtain⟨φ,ph,ws,hH,hS,h⟩:=h;exact h φ H [] hH Step.refl .nil
theorem aee(he:IE X e m)(hr:IA X es a)(hs:alI (e::es) X.env=(false,eval e X.env)::alI es X.env:=by rfl):IA X (e::es) (ae m a):=PA.imp (nu he hr hs) fun σ H Q h=>by
 obtain⟨φ,ph,ws,hH,hS,h⟩:=h;refine tM.bind hH hS h fun w ph1 aC H1 v aF s1 r1 h=>tA.bind aF (hS.mono s1) h fun ys ph2 bg H2 vs bj s2 r2 h=>?_
 exact h bg H2 _ bj (s1.trans s2) (.cons (r1.mono s2) r2)
theorem agF{x1:Nat}(h:IA X es a):IE X (.Tuple es x1 pos) (aH a):=PE.imp (aga h) fun σ H Q h=>by
 obtain⟨φ,ph,ws,hH,hS,h⟩:=h;refine tA.bind hH hS h fun xs ph1 aC H1 vs aF s1 r1 h=>?_
 obtain⟨w,ph',e,k⟩:=run_lift h;unfold lg at e;split at e
 ·rename_i hz;cases e;refine⟨by rw[<- r1.length];exact hz,fun p hp=>?_⟩;exact k aC _ _ (aF.tup hp) (s1.trans (f7 hp)) (.tup bP (r1.mono (f7 hp)))
 ·cases e
theorem nj{K:acs}{φ:Nat->Addr}{ph:PH}{H:Hp}{p:Addr}{ws:List W}{vs:List V}(hH:aS K φ ph H)(r:bi K φ ph.length H ws vs)(hp:H p=none) :
  aS K (ext φ ph.length p) (ph++[.lst ws]) (upd H p (.lst vs))/\Step K φ ph.length H (ext φ ph.length p) (ph++[PO.lst ws]).length (upd H p (.lst vs))/\aX K (ext φ ph.length p) (ph++[PO.lst ws]).length (upd H p (.lst vs)) (.ref ph.length) (.ref p):=by
 have hl:(ph++[PO.lst ws]).length=ph.length+1:=by simp
 rw[hl];have s:=yL (K:=K) (φ:=φ) (n:=ph.length) (o:=HO.lst vs) hp;refine⟨hH.new hp ⟨vs,bP,r.mono s⟩,s,?_⟩;have q:aX K (ext φ ph.length p) (ph.length+1) (upd H p (.lst vs)) (.ref ph.length) (.ref (ext φ ph.length p ph.length)):=.ref (amK _);rw[nA] at q;exact q
theorem agG(h:IA X es a):IE X (.List es pos) (aI a):=PE.imp (agb h) fun σ H Q h=>by
 obtain⟨φ,ph,ws,hH,hS,h⟩:=h;refine tA.bind hH hS h fun xs ph1 aC H1 vs aF s1 r1 h=>?_
 obtain⟨w,ph',e,k⟩:=run_lift h;unfold vB at e;split at e
 ·rename_i hz;cases e;refine⟨by rw[<- r1.length];exact hz,fun p hp=>?_⟩;obtain⟨q1,q2,q3⟩:=nj aF r1 hp;exact k _ _ _ q1 (s1.trans q2) q3
 ·cases e
end
noncomputable def aV(f:List W->Mo W)(a:AM):EM:=fun σ=>aA (a σ) f
noncomputable def dO:Fl->Mo W
 | .rt w=>aK w
 | .nx _=>aK .aE
 | _=>eK
noncomputable def fM(body:SM)(n np:Nat)(args:List W):Mo W:=if args.length=np then aA (body (args.map some++alj (n-args.length) none)) dO else eK
theorem bH{body:SM}{np:Nat}{xs:List W}(h:xs.length≠np):fM body n np xs ph=.no:=by
 unfold fM;rw[if_neg h];rfl
noncomputable def bF(P:amb)(w:World):mJ:=fun l H s E e s'=>∃C dd H',Flew P w l H s C dd H' e s'/\E (.ref C) dd H'
noncomputable def bY(K:acs)(mg:Str->Option Value)(np:Nat)(f:List W->Mo W):Sp:=fun vs H Q E=>vs.length=np/\∃φ ph args,aS K φ ph H/\bi K φ ph.length H args vs/\(f args ph).Run (fun w ph'=>
 ∀av H' v,aS K av ph' H'->Step K φ ph.length H av ph'.length H'->aX K av ph'.length H' w v->Q v H') (fun x ph'=>
 ∀av H' C dd,aS K av ph' H'->Step K φ ph.length H av ph'.length H'->mg x.cls=some (.ref C)->vY K av ph'.length H' dd x.fs->E (.ref C) dd H')
section
variable{X:Cx}{k:Nat}{f:Addr}{fd:alM}{ps:List Str}{fm:List W->Mo W}{x:Str}{p pos:Pos}{e:Expr}{es:List Expr}{a:AM}
theorem aef{CX:mJ}{sp:Sp}{E:XK}{pins:List (Addr×Obj)}{σ:L2.St}{H:Hp}{s:ald}{Q:VK}{us:List Value}{vs:List V}(F:bK X.prog X.w X.K X.mg X.base CX k f fd ps sp)(hr:cQ k X.A)(hb:Binds X.K fd ps [])
  (I:Inv X pins σ H s) (r:Vals vs us) (h:sp vs H Q E) (hx:∀e s',CX X.stack H s E e s'->X.xe e s'):wpAny (model X.prog X.w) X.A (call (.ref f) us) (EP X pins σ Q) X.xe s:=by
 have hl:(us++[]).length=ps.length:=by rw[anC,<- r.length];exact F.len _ _ _ _ h
 have AI:=hb s us I.cD hl;rw[anC] at AI;refine aoE (aoK (F.run X.A X.stack s H ⟨us,[]⟩ us vs Q E hr I.DT AI r h) fun r s' hq=>?_);cases r with
 | error e=>exact hx e s' hq
 | ok fl=>
  cases fl with
  | ret u=>exact I.after hq
  | _=>exact anc hq
theorem aeg(F:bK X.prog X.w X.K X.mg X.base (bF X.prog X.w) k f fd ps (bY X.K X.mg ps.length fm))(hl:∀{xs:List W} {ph:PH},xs.length≠ps.length->fm xs ph=.no)(hr:cQ k X.A)(hg:Gl X x)(hm:X.mg x=some (.ref f))
  (hk:alm X.K (.ref f)=true) (hb:Binds X.K fd ps []) (ha:IA X (e::es) a) (bU:(x==("__debug__":Str))=false:=by decide) (he:alI (e::es) X.env=(false,eval e X.env)::alI es X.env:=by rfl) (hpl:(aou pos (alI es X.env)).any (·.1)=false:=by rfl) :
  IE X (.Call (.Name x p) (e::es) [] pos) (aV fm a):=by
 intro pins s σ H Q I h;obtain⟨φ,ph,ws,hH,hS,h⟩:=h;have hA:tA X a σ H (fun vs H1=>∃aC ph1 xs,aS X.K aC ph1 H1/\bi X.K aC ph1.length H1 xs vs/\(fm xs ph1).Run (fun w ph'=>∀av H' v,aS X.K av ph' H'->Step X.K aC ph1.length H1 av ph'.length H'->aX X.K av ph'.length H' w v->Q v H') (XE X aC ph1.length H1)):=
  tA.bind hH hS h fun xs ph1 aC H1 vs aF s1 r1 h=>⟨aC,ph1,xs,aF,r1,h.mono (fun w ph' k av H' v r' s' q=>k av H' v r' (s1.trans s') q) fun _ _ z=>z⟩
 refine anS (pj I hg hm (apn (h₀:=X.base) I.ok.mod.dF hk (a8 (ha pos pins s σ H _ I hA) fun us s1 ⟨vs,H1,I1,r,q⟩=>⟨I1.cD,?_⟩) he hpl) bU);obtain⟨aC,ph1,xs,aF,r1,h1⟩:=q;have b7:vs.length=ps.length:=by
  rw[<- r1.length];by_cases z:xs.length=ps.length
  ·exact z
  ·rw[hl z] at h1;exact h1.elim
 refine aef (E:=fun c dd H'=>∃x ph' av,fm xs ph1=.ex x ph'/\aS X.K av ph' H'/\Step X.K aC ph1.length H1 av ph'.length H'/\∃C,c=.ref C/\X.mg x.cls=some (.ref C)/\vY X.K av ph'.length H' dd x.fs) F hr hb I1 r ⟨b7,aC,ph1,xs,aF,r1,?_⟩ fun e s' hx=>?_
 ·cases q:fm xs ph1 with
  | ok w ph'=>rw[q] at h1;exact h1
  | ex x ph'=>exact fun av H' C dd hr hs hm hf=>⟨x,ph',av,rfl,hr,hs,C,rfl,hm,hf⟩
  | no=>rw[q] at h1;exact h1
 ·obtain⟨C,dd,H',fq,x,ph',av,ef,hr',hs',C',ec,E3,hf'⟩:=hx;cases ec;rw[ef] at h1;exact h1 av H' e s' hr' hs' ⟨C,dd,E3,hf',.inr ⟨pins,σ,H1,s1,I1,fq⟩⟩
end
section
variable{P:amb}{w:World}{K:acs}{mg:Str->Option Value}{base:Heap}
variable{H':Hp}
theorem KZ{h:Heap}{fr:List Addr}(aM:cC P w H' h)(hf:∀b∈fr,H' b=none):cC P w H' (anT h fr):=fun a o e=>by
 refine(aM a o e).jP (fun b u hb q=>anf _ q fun hm=>?_) (fun _ q=>q) fun _ _ q=>q
 have:=hf b hm
 rcases hb with z | z
 ·rw[z,e] at this;cases this
 ·rw[z] at this;cases this
theorem Cb{env:Env}{l:List Env}(hf:env.frame=some env.locals):df (env::l)=env.locals::df l:=by
 unfold df;rw[anH,hf]
variable{E:Value->ald->Prop}{C:Addr}{dd:Option Addr}
theorem XD{M:Model}{A:amz}{s:ald}{base h:Heap}{env:Env}{outer:List Env}{L e:Addr}{Q:Unit->ald->Prop}
  (fT:A.frames=some (env::outer)) (hf:env.frame=some L) (fU:base.StaysIn h) (hl:h.FunFrames base (env::outer)) (hx:u3 h s.heap e C dd)
  (hQ:∀h' t,Heap.j9 base outer e (.ref C,dd) (.ref t) h'->s.heap.UpToSlots h'->Q () { s with heap:=h' }):wpAny M A (apO env (.ref e)) Q E s:=by
 obtain⟨t,he⟩:=hx.there;have fresh:∀b,h.get? b=none->base.get? b=none:=fun b hb=>by
  cases hq:base.get? b with
  | none=>rfl
  | some o'=>have:=fU b o' hq;rw[hb] at this;cases this
 refine Q9 (a0:=.ref t) fT (hl.of_keeps fun b o hb _=>⟨o,hx.keeps b o hb,rfl⟩) hf he (fun b o hb=>hx.keeps b o (fU b o hb)) (fresh e hx.new) rfl rfl rfl fun h' hL=>?_
 obtain⟨k1,⟨_,_,k2⟩,k3,k4⟩:=hL;exact hQ h' t ⟨k1,fresh e hx.new,k2,k3⟩ k4
theorem ZW{X:Cx}{e:Value}{s':ald}(dg:X.stack=X.env::X.outer)(hf:X.env.frame=some X.env.locals)(hex:X.ex=[])(hm:Made X C dd H' e s') :
  wpAny (model X.prog X.w) X.A (apO X.env e) (fun _ gv=>Flew X.prog X.w X.outer X.ba X.aQ C dd H' e gv) E s':=by
 obtain⟨pins,σ,s,h',a,rfl,rfl,I,hx⟩:=hm;have sf:=I.uD;have hl:=I.stack;rw[dg] at sf hl;have E4:∀env∈X.env::X.outer,∀b,env.frame=some b->b∈df (X.env::X.outer):=fun env he b hb=>aox.mpr ⟨env,he,hb⟩
 have j0:∀b:Addr,b∉X.ex:=fun b z=>by rw[hex] at z;exact nomatch z
 have out:∀b o,X.aQ.heap.get? b=some o->b∉X.fs->b∉df (X.env::X.outer):=fun b o e hb hm=>by
  rw[Cb hf] at hm
  rcases alD.mp hm with z | z
  ·exact absurd (alB (alp e) I.ok.above) (by rw[z];exact amX _)
  ·exact hb z
 refine XD (base:=anT s.heap (df (X.env::X.outer))) (h:=s.heap) (by rw[I.ok.frames,dg]) hf (fun b o q=>apk _ q) (aqe hl E4) hx fun E5 t f1 f4=>?_
 refine⟨a,.ref t,_,rfl,I.os,I.bare,f1,KZ I.aM sf,⟨fun b o e n hb=>anf _ (I.base.keep b o e n hb (j0 b)) (out b o e hb),fun b o e n hb=>?_,fun b o e n=>I.base.free b o e n (j0 b),fun b o e hb=>?_,I.base.gU,I.base.fD,I.base.gi⟩⟩
 ·obtain⟨sl,e1⟩:=I.base.slot b o e n hb (j0 b);obtain⟨_,o',ho,hd⟩:=I.ok.fQ.mem hb;rw[e] at ho;cases ho;obtain⟨og,e2⟩:=f4 b _ (hx.keeps b _ e1) hd;exact⟨og,e2⟩
 ·obtain⟨o',e1⟩:=I.base.there b o e (j0 b);exact⟨o',anf _ e1 (out b o e hb)⟩
theorem ZX{X:Cx}{H0:Hp}{e:Value}{s s':ald}{pins:List (Addr×Obj)}{σ:L2.St}(dg:X.stack=X.env::X.outer)(hf:X.env.frame=some X.env.locals)(hex:X.ex=[])(I:Inv X pins σ H0 s)
  (hm:Flew X.prog X.w X.stack H0 s C dd H' e s'):wpAny (model X.prog X.w) X.A (apO X.env e) (fun _ gv=>Flew X.prog X.w X.outer X.ba X.aQ C dd H' e gv) E s':=by
 obtain⟨a,a0,B,rfl,ho,u4,fq,aM,u⟩:=hm;rw[dg] at fq u;have j0:∀b:Addr,b∉X.ex:=fun b z=>by rw[hex] at z;exact nomatch z
 have out:∀b o,X.aQ.heap.get? b=some o->b∉X.fs->b∉df (X.env::X.outer):=fun b o e hb hm=>by
  rw[Cb hf] at hm
  rcases alD.mp hm with z | z
  ·exact absurd (alB (alp e) I.ok.above) (by rw[z];exact amX _)
  ·exact hb z
 refine To (by rw[I.ok.frames,dg]) hf fq fun E5 f1 f4=>?_
 refine⟨a,a0,B,rfl,ho.trans I.os,u4,f1,aM,⟨fun b o e n hb=>u.keep b o (I.base.keep b o e n hb (j0 b)) (I.base.free b o e n (j0 b)) (out b o e hb),fun b o e n hb=>?_,fun b o e n=>?_,fun b o e hb=>?_,
  fun b xs e=>u.gU b xs (I.base.gU b xs e),fun b ob xs e=>u.fD b ob xs (I.base.fD b ob xs e),fun b ps e=>?_⟩⟩
 ·obtain⟨sl,e1⟩:=I.base.slot b o e n hb (j0 b);obtain⟨_,o',eJ,hd⟩:=I.ok.fQ.mem hb;rw[e] at eJ;cases eJ;obtain⟨og,e2⟩:=u.slot b _ e1 (I.base.free b o e n (j0 b)) (by rw[Cb hf];exact alE _ hb);obtain⟨sl3,e3⟩:=f4 b _ e2 hd;exact⟨sl3,e3⟩
 ·obtain⟨o',e1⟩:=I.base.there b o e (j0 b);exact u.free b o' e1 (I.base.free b o e n (j0 b))
 ·obtain⟨o',e1⟩:=I.base.there b o e (j0 b);exact u.there b o' e1 (out b o e hb)
 ·obtain⟨m1,e1⟩:=I.base.gi b ps e;obtain⟨m2,e2⟩:=u.gi b _ e1;exact⟨m1++m2,by rw[e2,aqY]⟩
theorem agH{x qual:Str}{st:Stmt}{f:Addr}{fd:alM}{N ps:List Str}{k:Nat}{body:SM}(F:cw K x qual st f fd)(S:ck N ps (ak st))
  (uX:∀(bX:Value) (A:amz) (outer:List Env) (s:ald) (H:Hp) (E:XK),cQ k (A.deeper (aqJ qual (ak st) s.heap.objs.size f bX)) →
   gy (jS (bF P w) P w K mg base N qual (ak st) f bX A outer s H E) (a9 st) body):bK P w K mg base (bF P w) (k+1) f fd ps (bY K mg ps.length (fM body N.length ps.length)):=by
 obtain⟨oc,od,kV,doc,pm,an,bX,ct,hO,rfl,lk,hcd⟩:=F.ex;refine Nd lk hcd S (fun vs H Q E h=>h.1) fun A outer s H vs Q E hr h=>?_
 obtain⟨hl,φ,ph,args,hH,ra,h⟩:=h;refine⟨_,uX bX A outer s H E hr,?_⟩;have Pf:args.length=vs.length:=ra.length;unfold fM at h;rw[if_pos (Pf.trans hl),cV,Pf] at h;refine⟨φ,ph,_,hH,bc.start (N.length-vs.length) ra,h.mono (fun fl ph' h aC H1 aF s1=>?_) fun x ph' h av H' e s' r' d0 th=>?_⟩
 ·cases fl with
  | rt w=>exact fun v rv=>h aC H1 v aF s1 rv
  | nx az=>exact fun σ1 mQ=>h aC H1 .aE aF s1 .aE
  | bk az=>exact h.elim
  | ct az=>exact h.elim
 ·obtain⟨C,dd,hm,AJ,th⟩:=th;have hE:=h av H' C dd r' d0 hm AJ;have key:wpAny (model P w) (A.deeper (aqJ qual (ak st) s.heap.objs.size f bX)) (apO (aqJ qual (ak st) s.heap.objs.size f bX) e) (fun _ gv=>Flew P w outer H s C dd H' e gv) (fun e' gv=>bF P w outer H s E e' gv) s':=by
   rcases th with th | ⟨pins,σ,H0,s0,I0,th⟩
   ·exact ZW (X:=jS (bF P w) P w K mg base N qual (ak st) f bX A outer s H E) rfl rfl rfl th
   ·exact ZX (X:=jS (bF P w) P w K mg base N qual (ak st) f bX A outer s H E) rfl rfl rfl I0 th
  exact amr key (fun _ gv q=>⟨C,dd,H',q,hE⟩) fun _ _ q=>q
end
theorem La{K:acs}{φ:Nat->Addr}{n:Nat}{H:Hp}:∀(ns:List Int),bi K φ n H (ns.map W.int) (ns.map V.int)
 | []=>.nil
 | n::ns=>.cons (.int n) (La ns)
theorem bI.or{f:Value->Value->Sem Value}{r r':R2}(h:bI X f r)(h':bI X f r'):bI X f (fun x y H Q=>r x y H Q\/r' x y H Q):=by
 intro pins s σ H x y v u Q I rx ry q
 rcases q with q | q
 ·exact h pins s σ H x y v u Q I rx ry q
 ·exact h' pins s σ H x y v u Q I rx ry q
noncomputable def c7(w:W)(ph:PH):Option (List W):=match w with
 | .tup ws=>some ws
 | .fl ws=>some ws
 | .ref i=>match ph[i]? with
  | some (.lst ws)=>some ws
  | _=>none
 | _=>none
variable{v:V}{ws:List W}
theorem Cc{w:W}(hH:aS K φ ph H)(r:aX K φ ph.length H w v)(e:c7 w ph=some ws) :
  ∃a vs,v=.ref a/\(bL K H a vs\/bT K H a vs)/\bi K φ ph.length H ws vs:=by
 unfold c7 at e;cases r with
 | tup h r=>cases e;exact⟨_,_,rfl,.inr (bT.of h),r⟩
 | fl h r=>cases e;exact⟨_,_,rfl,.inl h.sq,r⟩
 | ref hi=>
  simp only at e;split at e
  ·rename_i cR hw;cases e;obtain⟨vs,hv,r⟩:=hH.hp _ _ hw;exact⟨_,vs,rfl,.inl (bL.of hv),r⟩
  ·cases e
 | _=>cases e
theorem abj{w:W}(hH:aS K φ ph H)(r:aX K φ ph.length H w v)(e:c7 w ph=some ws) :
  ∃a vs,v=.ref a/\(bL K H a vs\/H a=some (.tup vs))/\bi K φ ph.length H ws vs:=by
 unfold c7 at e;cases r with
 | tup h r=>cases e;exact⟨_,_,rfl,.inr h,r⟩
 | fl h r=>cases e;exact⟨_,_,rfl,.inl h.sq,r⟩
 | ref hi=>
  simp only at e;split at e
  ·rename_i cR hw;cases e;obtain⟨vs,hv,r⟩:=hH.hp _ _ hw;exact⟨_,vs,rfl,.inl (bL.of hv),r⟩
  ·cases e
 | _=>cases e
variable{vs:List V}
theorem Lb{i:Int}{w:W}(r:bi K φ n H ws vs)(e:cZ ws i=some w):∃v,cZ vs i=some v/\aX K φ n H w v:=by
 unfold cZ at e ⊢;rw[r.length] at e;cases q:iS vs.length i with
 | none=>rw[q] at e;cases e
 | some j=>
  rw[q] at e;exact r.get e
noncomputable def c8:W->W->Po W:=fun x y ph=>match y with
 | .int i=>match x with
  | .str z=>if z.length<=alz then(cZ z.cps.toList i).map fun c=>(.str ⟨#[c]⟩,ph) else none
  | x=>(c7 x ph).bind fun ws=>(cZ ws i).map fun w=>(w,ph)
 | _=>none
theorem Nj : cU K (ER K) c8 := by
  intro φ ph H x y vx vy w ph' Q hH rx ry e k;unfold c8 at e;cases ry with
  | int i =>
    cases rx with
    | str z =>
      simp only at e;split at e
      · rename_i hz
        cases q : cZ z.cps.toList i with
        | none => rw [q] at e; cases e
        | some c =>
          rw [q] at e;cases e;exact .inr (.inr ⟨z, i, c, rfl, rfl, hz, q, k φ H _ hH Step.refl (.str _)⟩)
      · cases e
    | _ =>
      all_goals
        first
          | (cases e; done)
          | (rename_i h r
             simp only [c7, Option.bind] at e;cases q : cZ _ i with
             | none => rw [q] at e; cases e
             | some c =>
               rw [q] at e;cases e;obtain ⟨v, ev, rv⟩ := Lb r q
               first
                 | exact .inr (.inl ⟨_, _, i, v, rfl, rfl, bT.of h, ev, k φ H _ hH Step.refl rv⟩)
                 | exact .inl ⟨_, _, i, v, rfl, rfl, h.sq, ev, k φ H _ hH Step.refl rv⟩)
          | (rename_i hi
             simp only [c7] at e;split at e
             · rename_i cR hw
               simp only [Option.bind] at e;cases q : cZ cR i with
               | none => rw [q] at e; cases e
               | some c =>
                 rw [q] at e;cases e;obtain ⟨vs, hv, r⟩ := hH.hp _ _ hw;obtain ⟨v, ev, rv⟩ := Lb r q;exact .inl ⟨_, _, i, v, rfl, rfl, bL.of hv, ev, k φ H _ hH Step.refl rv⟩
             · cases e)
  | _ => cases e
section
variable{X:Cx}{a b:Expr}{ma mb:EM}{pos:Pos}
theorem aiN(ha:IE X a ma)(hb:IE X b mb)(hs:rT b:=by intro _ _;rfl):IE X (.Subscript a b pos) (ag c8 ma mb):=
 PE.imp (Ng Ma ha hb hs) fun _ _ _ h=>uE Nj h
end
noncomputable def ji(K:acs)(r:List V->Hp->VK->Prop)(f:List W->Po W):Prop:=∀{φ:Nat->Addr} {ph:PH} {H:Hp} {xs:List W} {vs:List V} {w:W} {ph':PH} {Q:VK},aS K φ ph H->bi K φ ph.length H xs vs->f xs ph=some (w,ph') →
 (∀av H' v,aS K av ph' H'->Step K φ ph.length H av ph'.length H'->aX K av ph'.length H' w v->Q v H')->r vs H Q
noncomputable def bz(f:List W->Po W)(a:AM):EM:=fun σ=>aA (a σ) fun xs=>lift (f xs)
section
variable{X:Cx}{x:Str}{p pos:Pos}{e:Expr}{es:List Expr}{t:AM}{id T:String}{r:List V->Hp->VK->Prop}{f:List W->Po W}
theorem JX(hi:ji X.K r f){σ:L2.St}{H:Hp}{Q:VK}(h:tM X (bz f t) σ H Q):EO r (tA X t) σ H Q:=by
 obtain⟨φ,ph,ws,hH,hS,h⟩:=h;refine tA.bind hH hS h fun xs ph1 aC H1 vs aF s1 r1 h=>?_
 obtain⟨w,ph',e,k⟩:=run_lift h;exact hi aF r1 e fun bg H2 v bj s2 r2=>k bg H2 v bj (s1.trans s2) r2
theorem acU(hc:cW X (.builtin id) r)(hi:ji X.K r f)(hg:Gl X x)(hm:X.mg x=none)(hv:amo x=some (.builtin id))(ha:IA X (e::es) t)(hn:x≠"__name__":=by decide)(bU:(x==("__debug__":Str))=false:=by decide)
  (he:alI (e::es) X.env=(false,eval e X.env)::alI es X.env:=by rfl) (hpl:(aou pos (alI es X.env)).any (·.1)=false:=by rfl):IE X (.Call (.Name x p) (e::es) [] pos) (bz f t):=
 PE.imp (B9 hc hg hm hv ha hn bU he hpl) fun _ _ _ h=>JX hi h
theorem abk(hc:cW X (.type T) r)(hi:ji X.K r f)(hg:Gl X x)(hm:X.mg x=none)(hv:amo x=some (.type T))(ha:IA X (e::es) t)(hn:x≠"__name__":=by decide)(bU:(x==("__debug__":Str))=false:=by decide)
  (he:alI (e::es) X.env=(false,eval e X.env)::alI es X.env:=by rfl) (hpl:(aou pos (alI es X.env)).any (·.1)=false:=by rfl):IE X (.Call (.Name x p) (e::es) [] pos) (bz f t):=
 PE.imp (abb hc hg hm hv ha hn bU he hpl) fun _ _ _ h=>JX hi h
end
theorem cW.or{f:Value}{r r':List V->Hp->VK->Prop}(h:cW X f r)(h':cW X f r'):cW X f (fun xs H Q=>r xs H Q\/r' xs H Q):=by
 intro pins s σ H xs us Q I rx q
 rcases q with q | q
 ·exact h pins s σ H xs us Q I rx q
 ·exact h' pins s σ H xs us Q I rx q
noncomputable def bR:List W->Po W:=fun xs ph=>match xs with
 | [.str z]=>if z.length<=alz then some (.int z.length,ph) else none
 | [.kt ws]=>some (.int ws.length,ph)
 | [w]=>(c7 w ph).map fun ws=>(.int ws.length,ph)
 | _=>none
abbrev Oj(K:acs):List V->Hp->VK->Prop:=fun xs H Q=>(∃p ys,xs=[.ref p]/\(bL K H p ys\/bT K H p ys)/\Q (.int ys.length) H)\/(∃z,xs=[.str z]/\z.length<=alz/\Q (.int z.length) H)
theorem eV:ji K (Oj K) bR:=by
 intro φ ph H xs vs w ph' Q hH r e k;unfold bR at e;split at e
 ·split at e
  ·rename_i hz;cases e;cases r with
   | cons r r'=>cases r;cases r';exact .inr ⟨_,rfl,hz,k φ H _ hH Step.refl (.int _)⟩
  ·cases e
 ·cases e;cases r with
  | cons r r'=>
   cases r';cases r with
   | kt h rs=>exact .inl ⟨_,_,rfl,.inr (.inr h),by rw[<- rs.length];exact k φ H _ hH Step.refl (.int _)⟩
 ·rename_i w0 ly ak1;cases r with
  | cons r r'=>
   cases r';cases q:c7 w0 ph with
   | none=>rw[q] at e;cases e
   | some ws=>
    rw[q] at e;cases e;obtain⟨a,ys,rfl,hs,rs⟩:=Cc hH r q;exact .inl ⟨a,ys,rfl,hs,by rw[<- rs.length];exact k φ H _ hH Step.refl (.int _)⟩
 ·cases e
theorem eS:cW X (.builtin "len") (Oj X.K):=cW.or Xz XA
noncomputable def qu(K:acs)(T:String)(r:V->List V->Hp->VK->Prop)(f:W->List W->Po W):Prop:=∀{φ:Nat->Addr} {ph:PH} {H:Hp} {x:W} {xs:List W} {vx:V} {vs:List V} {w:W} {ph':PH} {Q:VK},
 aS K φ ph H->aX K φ ph.length H x vx->bi K φ ph.length H xs vs->f x xs ph=some (w,ph') →
 (∀av H' v,aS K av ph' H'->Step K φ ph.length H av ph'.length H'->aX K av ph'.length H' w v->Q v H')->r vx vs H Q
noncomputable def qv(K:acs)(T:String)(ty:W->PH->Bool):Prop:=∀{φ:Nat->Addr} {ph:PH} {H:Hp} {x:W} {vx:V},aS K φ ph H->aX K φ ph.length H x vx->ty x ph=true->ES K T vx H
noncomputable def vC(b:PH->Bool):Po Unit:=fun ph=>if b ph=true then some ((),ph) else none
noncomputable def cX(ty:W->PH->Bool)(f:W->List W->Po W)(o:EM)(a:AM):EM:=fun σ=>aA (o σ) fun x=>aA (lift (vC (ty x))) fun _=>aA (a σ) fun xs=>lift (f x xs)
noncomputable def eL(w:W)(ph:PH):Bool:=match w with
 | .ref i=>match ph[i]? with
  | some (.lst _)=>true
  | _=>false
 | .fl _=>true
 | _=>false
theorem lY:qv K "list" eL:=by
 intro φ ph H x vx hH rx e;unfold eL at e;cases rx with
 | ref hi=>
  simp only at e;split at e
  ·rename_i cR hw;obtain⟨vs,hv,r⟩:=hH.hp _ _ hw;exact .inl ⟨rfl,vs,bL.of hv⟩
  ·cases e
 | fl h r=>exact .inl ⟨rfl,_,h.sq⟩
 | _=>cases e
section
variable{X:Cx}{o e:Expr}{es:List Expr}{mo:EM}{t:AM}{name:Str}{apos dq:Pos}{T id:String}{r:V->List V->Hp->VK->Prop}{ty:W->PH->Bool}{f:W->List W->Po W}
theorem acV(ht:qv X.K T ty)(hi:qu X.K T r f){σ:L2.St}{H:Hp}{Q:VK}(h:tM X (cX ty f mo t) σ H Q):O7 X.K T r (tM X mo) (tA X t) σ H Q:=by
 obtain⟨φ,ph,ws,hH,hS,h⟩:=h;refine tM.bind hH hS h fun x ph1 aC H1 v aF s1 r1 h=>?_
 rw[cV] at h;obtain⟨_,ph2,e2,h⟩:=run_lift h;unfold vC at e2;split at e2
 ·rename_i hy;cases e2;refine⟨ht aF r1 hy,tA.bind aF (hS.mono s1) h fun xs ph2 bg H2 vs bj s2 r2 h=>?_⟩;obtain⟨w,ph',e,k⟩:=run_lift h;exact hi bj (r1.mono s2) r2 e fun fu H3 v dr s3 r3=>k fu H3 v dr ((s1.trans s2).trans s3) r3
 ·cases e2
theorem aiO(pa:ars T)(slot:Slot T name id)(mM:typeOf (.builtin id)=pure (.type "method_descriptor"))(hm:tJ X id r)(ht:qv X.K T ty)(hi:qu X.K T r f)(ho:IE X o mo)(ha:IA X (e::es) t)
  (lX:amY o name X.env (eval o X.env)=eval o X.env:=by rfl)
  (DU:((aou dq (alI (e::es) X.env)).all (fun x=> !x.1)&&(backToKw dq (apR [] X.env)).all (fun x=>x.1.isSome)
   && decide ((e::es).length+([]:List Keyword).length+(if([]:List Keyword).isEmpty then 0 else 1)<30))=true:=by rfl)
  (pM:(apos.endLine==dq.line)=true:=by rfl) (hs:alI (e::es) X.env=(false,eval e X.env)::alI es X.env:=by rfl) (CZ:(aou dq (alI es X.env)).any (·.1)=false:=by rfl) :
  IE X (.Call (.Attribute o name apos) (e::es) [] dq) (cX ty f mo t):=
 PE.imp (aiG pa slot mM hm ho ha lX DU pM hs CZ) fun _ _ _ h=>acV ht hi h
end
variable{i:Nat}
theorem Cd{AK:List W}(hH:aS K φ ph H)(hi:ph[i]? =some (.lst AK))(r:bi K φ ph.length H ws vs) :
  aS K φ (ph.set i (.lst ws)) (upd H (φ i) (.lst vs))/\Step K φ ph.length H φ (ph.set i (.lst ws)).length (upd H (φ i) (.lst vs)):=by
 obtain⟨y,ey,my⟩:=hH.mu hi rfl;have s:=nh (K:=K) (φ:=φ) (n:=ph.length) (y:=HO.lst vs) ey my;rw[amG];exact⟨hH.put hi rfl ⟨vs,bP,r.mono s⟩,s⟩
noncomputable def dY:W->List W->Po W:=fun x xs ph=>match x,xs with
 | .ref i,[y]=>match ph[i]? with
  | some (.lst ws)=>if ws.length<alz then some (.aE,ph.set i (.lst (ws++[y]))) else none
  | _=>none
 | _,_=>none
theorem lL:qu K "list" KW dY:=by
 intro φ ph H x xs vx vs w ph' Q hH rx rs e k;unfold dY at e;split at e
 ·rename_i i y;split at e
  ·rename_i ws hw;split at e
   ·rename_i hz;cases e;cases rx with
    | ref hi=>
     cases rs with
     | cons ry rr=>
      cases rr;obtain⟨us,hv,r⟩:=hH.hp _ _ hw;obtain⟨q1,q2⟩:=Cd hH hw (r.append (.cons ry .nil));exact⟨_,us,_,rfl,rfl,hv,by rw[<- r.length];exact hz,k φ _ _ q1 q2 .aE⟩
   ·cases e
  ·cases e
 ·cases e
noncomputable def dP:W->Po W:=fun x=>match x with
 | .int i=>ret (.int (-i))
 | _=>fS
theorem agI:Pd K (rU fun i=>.int (-i)) dP:=by
 intro φ ph H x vx w ph' Q hH rx e k;unfold dP at e;split at e
 ·cases e;cases rx;exact⟨_,rfl,k φ H _ hH Step.refl (.int _)⟩
 ·cases e
noncomputable def iJ:W->W->Po W:=qq fun i j=>i-j
theorem agJ:cU K (jX fun i j=>.int (i-j)) iJ:=aiJ
noncomputable def aR:W->W->Po W:=sU (fun _ j=>decide (j≠0)) fun i j=>i.fmod j
theorem agK:cU K (rI (fun _ j=>j≠0) fun i j=>.int (i.fmod j)) aR:=Me fun i j h=>by simpa using h
noncomputable def Nk(i j:Int):Prop:=j≠0/\j.natAbs<2 ^ 64
theorem acW:bI X (aoe .FloorDiv) (rI Nk fun i j=>.int (i.fdiv j)):=EG fun i j _ _ _ _ _ hc q=>floordiv_int hc.1 q (.inl (PyProof.noPylong_of_log2 (by
 have h0:j.natAbs≠0:=by have:=hc.1;omega
 have:=(Nat.log2_lt h0).mpr hc.2;omega)))
noncomputable def aZ:W->W->Po W:=sU (fun _ j=>decide (j≠0)&&decide (j.natAbs<2 ^ 64)) fun i j=>i.fdiv j
theorem agL:cU K (rI Nk fun i j=>.int (i.fdiv j)) aZ:=Me fun i j h=>by
 rw[alo] at h;exact⟨of_decide_eq_true h.1,of_decide_eq_true h.2⟩
noncomputable def hV:W->W->Po W:=sV fun i j=>decide (i<j)
noncomputable def kz:W->W->Po W:=sV fun i j=>decide (i<=j)
noncomputable def vZ:W->W->Po W:=sV fun i j=>decide (j<i)
noncomputable def AL:W->W->Po W:=sV fun i j=>decide (j<=i)
noncomputable def mulC(i j:Int):Bool:=(decide (-(2 ^ 64)<i)&&decide (i<2 ^ 64))||(decide (-(2 ^ 64)<j)&&decide (j<2 ^ 64))
noncomputable def sX:W->W->Po W:=fun x y=>match x,y with
 | .int i,.int j=>if mulC i j=true then ret (.int (i*j)) else fS
 | _,_=>fS
theorem agM:cU K (rI vq fun i j=>.int (i*j)) sX:=by
 intro φ ph H x y vx vy w ph' Q hH rx ry e k;unfold sX at e;split at e
 ·split at e
  ·rename_i hc;cases e;cases rx;cases ry;refine⟨_,_,rfl,rfl,?_,k φ H _ hH Step.refl (.int _)⟩;unfold mulC at hc;simp only[aoy,alo,decide_eq_true_eq] at hc;exact hc
  ·cases e
 ·cases e
noncomputable def addW:W->W->Po W:=fun x y ph=>match x,y with
 | .int i,.int j=>some (.int (i+j),ph)
 | .str i,.str j=>if i.length+j.length<=alz then some (.str (i++j),ph) else none
 | .ref a,.ref b=>match ph[a]?,ph[b]? with
  | some (.lst xs),some (.lst ys)=>if xs.length+ys.length<=alz then some (.ref ph.length,ph++[.lst (xs++ys)]) else none
  | _,_=>none
 | .tup xs,.tup ys=>if xs≠[]/\xs.length+ys.length<=alz then some (.tup (xs++ys),ph) else none
 | _,_=>none
abbrev Nl(K:acs):R2:=fun x y H Q=>((jX fun i j=>.int (i+j)) x y H Q\/∃i j,x=.str i/\y=.str j/\i.length+j.length<=alz/\Q (.str (i++j)) H)\/(Of x y H Q\/Nf K x y H Q)
theorem aeh:bI X (aoe .Add) (Nl X.K):=bI.or (bI.or af1 ZP) (bI.or agj ad2)
theorem agN:cU K (Nl K) addW:=by
 intro φ ph H x y vx vy w ph' Q hH rx ry e k;unfold addW at e;split at e
 ·cases e;cases rx;cases ry;exact .inl (.inl ⟨_,_,rfl,rfl,k φ H _ hH Step.refl (.int _)⟩)
 ·split at e
  ·rename_i hz;cases e;cases rx;cases ry;exact .inl (.inr ⟨_,_,rfl,rfl,hz,k φ H _ hH Step.refl (.str _)⟩)
  ·cases e
 ·split at e
  ·rename_i xs ys hx hy;split at e
   ·rename_i hz;cases e;cases rx;cases ry;obtain⟨us,hu,ru⟩:=hH.hp _ _ hx;obtain⟨vs,hv,rv⟩:=hH.hp _ _ hy;refine .inr (.inl ⟨_,_,us,vs,rfl,rfl,hu,hv,by rw[<- ru.length,<- rv.length];exact hz,fun p hp=>?_⟩);obtain⟨q1,q2,q3⟩:=nj hH (ru.append rv) hp;exact k _ _ _ q1 q2 q3
   ·cases e
  ·cases e
 ·split at e
  ·rename_i xs ys hz;cases e;cases rx with
   | tup hx rx=>
    cases ry with
    | tup hy ry=>
     rename_i a us b vs;refine .inr (.inr ⟨a,b,us,vs,rfl,rfl,bT.of hx,bT.of hy,?_,by rw[<- rx.length,<- ry.length];exact hz.2,fun he=>?_,fun hn p hp=>?_⟩)
     ·rintro rfl;cases rx;exact hz.1 rfl
     ·subst he;cases ry;refine k φ H _ hH Step.refl ?_;rw[anC];exact .tup hx rx
     ·exact k φ _ _ (hH.tup hp) (f7 hp) (.tup bP ((rx.append ry).mono (f7 hp)))
  ·cases e
 ·cases e
noncomputable def sY:W->W->Po W:=fun x y=>match y with
 | .aE=>ret (.bl (decide (x=.aE)))
 | _=>fS
noncomputable def Nn:W->W->Po W:=fun x y=>match y with
 | .aE=>ret (.bl (!decide (x=.aE)))
 | _=>fS
theorem aei{x:W}(r:aX K φ n H x v):decide (x=.aE)=decide (v=.aE):=by
 cases r <;> simp
theorem agO:cU K (fun x y H Q=>y=.aE/\Q (.bl (decide (x=.aE))) H) sY:=by
 intro φ ph H x y vx vy w ph' Q hH rx ry e k;unfold sY at e;split at e
 ·cases e;cases ry;exact⟨rfl,by rw[<- aei rx];exact k φ H _ hH Step.refl (.bl _)⟩
 ·cases e
noncomputable def nT:List W->Po W:=fun xs=>match xs with
 | [.int i]=>ret (.int i)
 | [.bl b]=>ret (.int (if b then 1 else 0))
 | _=>fS
theorem Mg:ji K (fun xs H Q=>(∃i,xs=[.int i]/\Q (.int i) H)\/∃k,xs=[.bl k]/\Q (.int (if k then 1 else 0)) H) nT:=by
 intro φ ph H xs vs w ph' Q hH r e k;unfold nT at e;split at e
 ·cases e;cases r with
  | cons r r'=>cases r;cases r';exact .inl ⟨_,rfl,k φ H _ hH Step.refl (.int _)⟩
 ·cases e;cases r with
  | cons r r'=>cases r;cases r';exact .inr ⟨_,rfl,k φ H _ hH Step.refl (.int _)⟩
 ·cases e
noncomputable def aj8:List W->Po W:=fun xs=>match xs with
 | [.int i]=>ret (.int (if i<0 then -i else i))
 | _=>fS
noncomputable def sC(w:W)(ph:PH):Option String:=match w with
 | .aE=>some "NoneType"
 | .bl _=>some "bool"
 | .int _=>some "int"
 | .str _=>some "str"
 | .tup _=>some "tuple"
 | .fl _=>some "list"
 | .ref i=>match ph[i]? with
  | some (.lst _)=>some "list"
  | some (.dR _)=>some "dict"
  | _=>none
 | .exc .. =>none
 | .fn .. =>none
 | .kt .. =>none
noncomputable def dZ(t c:String):Bool:=t==c||(t=="bool"&&c=="int")
noncomputable def du(c:String)(w:W):Po W:=fun ph=>match sC w ph with
 | some t=>some (.bl (dZ t c),ph)
 | none=>none
noncomputable def gG(c:String)(m:EM):EM:=fun σ=>aA (m σ) fun w=>lift (du c w)
inductive k7(K:acs)(H:Hp):V->String->Prop where
 | aE:k7 K H .aE "NoneType"
 | bl (x:Bool):k7 K H (.bl x) "bool"
 | int (i:Int):k7 K H (.int i) "int"
 | str (x:Str):k7 K H (.str x) "str"
 | lst {a:Addr} {xs:List V} (e:bL K H a xs):k7 K H (.ref a) "list"
 | tup {a:Addr} {xs:List V} (e:bT K H a xs):k7 K H (.ref a) "tuple"
 | dk {a:Addr} {kvs:List (Key×V)} (e:H a=some (.dK kvs)):k7 K H (.ref a) "dict"
 | dt {a:Addr} {kvs:List (List Key×V)} (e:H a=some (.dT kvs)):k7 K H (.ref a) "dict"
theorem aej{w:W}{t:String}(hH:aS K φ ph H)(r:aX K φ ph.length H w v)(e:sC w ph=some t):k7 K H v t:=by
 unfold sC at e;cases r with
 | aE=>cases e;exact .aE
 | bl b=>cases e;exact .bl b
 | int b=>cases e;exact .int b
 | str b=>cases e;exact .str b
 | tup h r=>cases e;exact .tup (bT.of h)
 | fl h r=>cases e;exact .lst h.sq
 | ref hi=>
  simp only at e;split at e
  ·rename_i ws hw;cases e;obtain⟨vs,hv,_⟩:=hH.hp _ _ hw;exact .lst (bL.of hv)
  ·rename_i ws hw;cases e
   rcases hH.hp _ _ hw with⟨kvs,q,_⟩ | ⟨kvs,q,_⟩
   ·exact .dk q
   ·exact .dt q
  ·cases e
 | exc=>cases e
 | fn=>cases e
 | kt=>cases e
noncomputable def nU(K:acs)(c:String):Prop:=∀t∈["NoneType","bool","int","str","list","tuple","dict"],alu K (.type t) (.type c)=some (dZ t c)
noncomputable def rIs(K:acs)(c:String):List V->Hp->VK->Prop:=fun xs H Q=>∃x t,xs=[x,.ty c]/\k7 K H x t/\Q (.bl (dZ t c)) H
theorem aek{c:String}(hk:nU X.K c):cW X (.builtin "isinstance") (rIs X.K c):=by
 intro pins s σ H xs us Q I r h;obtain⟨x,t,rfl,kv,q⟩:=h;obtain⟨u,u2,rfl,rx,rc⟩:=Vals.two r;obtain rfl:u2=Value.type c:=rc;have fin:∀tk,EP X pins σ Q (.bool (dZ t c)) { s with toks:=tk }:=fun tk=>⟨.bl _,H,I.tok tk,rfl,q⟩
 cases kv with
 | aE=>cases(show u=alW from rx);exact amU PySem.W.kitx_none I.cD aof (hk _ (by decide)) (fun z=>nomatch z) fin
 | bl y=>cases(show u=aro y from rx);exact amU PySem.W.kitx_bool I.cD aof (hk _ (by decide)) (fun z=>nomatch z) fin
 | int i=>obtain⟨t,rfl⟩:=(show ∃t,u=aoI i t from rx);exact amU PySem.W.kitx_int I.cD aof (hk _ (by decide)) (fun z=>nomatch z) fin
 | str y=>obtain⟨t,rfl⟩:=(show ∃t,u=aqh y t from rx);exact amU PySem.W.kitx_str I.cD aof (hk _ (by decide)) (fun z=>nomatch z) fin
 | @lst a ys e=>
  cases(show u=alJ a from rx);obtain⟨its,_,⟨o,n,h1,h2,_⟩,_⟩:=I.list e;exact amU PySem.W.kitx_list I.cD ⟨_,h1,h2⟩ (hk _ (by decide)) (fun z=>nomatch z) fin
 | @tup a ys e=>
  cases(show u=alJ a from rx);obtain⟨its,_,⟨o,h1,h2,_⟩,_⟩:=I.tuple e;exact amU PySem.W.kitx_tuple I.cD ⟨_,h1,h2⟩ (hk _ (by decide)) (fun z=>nomatch z) fin
 | @dk a kvs e=>
  cases(show u=alJ a from rx);obtain⟨_,_,vs,_,ob,_,_,h1,h2,_⟩:=uY I.aM e;exact amU arv I.cD ⟨_,h1,h2.1⟩ (hk _ (by decide)) (fun z=>nomatch z) fin
 | @dt a kvs e=>
  cases(show u=alJ a from rx);obtain⟨_,_,xs,_,ob,_,_,h1,h2,_⟩:=Dw I.aM e;exact amU arv I.cD ⟨_,h1,h2.1⟩ (hk _ (by decide)) (fun z=>nomatch z) fin
section
variable{X:Cx}{e:Expr}{m:EM}{p p2 pos:Pos}
theorem aiP{c:Str}{cn:String}(hk:nU X.K cn)(hv:amo c=some (.type cn))(hg:Gl X "isinstance")(hm:X.mg "isinstance"=none)(hW:Gl X c)(hX:X.mg c=none)(he:IE X e m)
  (hn:c≠"__name__":=by decide) (hd:(c==("__debug__":Str))=false:=by decide)
  (hs:alI [e,.Name c p2] X.env=[(false,eval e X.env),(false,eval (.Name c p2) X.env)]:=by rfl) (cY:alI [.Name c p2] X.env=[(false,eval (.Name c p2) X.env)]:=by rfl)
  (hpl:(aou pos (alI [.Name c p2] X.env)).any (·.1)=false:=by rfl) :
  IE X (.Call (.Name "isinstance" p) [e,.Name c p2] [] pos) (gG cn m):=by
 refine PE.imp (B9 (aek hk) hg hm aoU (nu he (nu (KJ (v:=.ty cn) hW hX hv rfl hn hd) uM (by rw[cY];rfl)) (by rw[hs,cY])) (he:=by rw[hs,cY]) (hpl:=hpl)) fun σ H Q h=>?_
 obtain⟨φ,ph,ws,hH,hS,h⟩:=h;refine tM.bind hH hS h fun x ph1 aC H1 vx aF s1 rx h=>?_
 obtain⟨w,ph',e,k⟩:=run_lift h;unfold du at e;split at e
 ·rename_i t ht;cases e;exact⟨vx,t,rfl,aej aF rx ht,k aC H1 _ aF s1 (.bl _)⟩
 ·cases e
end
theorem acX:nU K "int":=by
 intro t ht;simp only[alD,aor,or_false] at ht
 rcases ht with rfl | rfl | rfl | rfl | rfl | rfl | rfl <;> rfl
theorem Jd:nU K "bool":=by
 intro t ht;simp only[alD,aor,or_false] at ht
 rcases ht with rfl | rfl | rfl | rfl | rfl | rfl | rfl <;> rfl
theorem yM:nU K "str":=by
 intro t ht;simp only[alD,aor,or_false] at ht
 rcases ht with rfl | rfl | rfl | rfl | rfl | rfl | rfl <;> rfl
theorem BX:nU K "list":=by
 intro t ht;simp only[alD,aor,or_false] at ht
 rcases ht with rfl | rfl | rfl | rfl | rfl | rfl | rfl <;> rfl
theorem ZY:nU K "tuple":=by
 intro t ht;simp only[alD,aor,or_false] at ht
 rcases ht with rfl | rfl | rfl | rfl | rfl | rfl | rfl <;> rfl
noncomputable def bW{α β:Type}(f:α->Option β):List α->Option (List β)
 | []=>some []
 | a::as=>match f a,bW f as with
  | some b,some bs=>some (b::bs)
  | _,_=>none
noncomputable def dat(ph:PH):Nat->W->Option aoz
 | _,.aE=>some .none
 | _,.bl b=>some (.bool b)
 | _,.int i=>some (.int i)
 | _,.str x=>if anq x=true then some (.str x) else none
 | n+1,.tup ws=>(bW (dat ph n) ws).map .tuple
 | n+1,.fl ws=>(bW (dat ph n) ws).map .list
 | n+1,.ref i=>match ph[i]? with
  | some (.lst ws)=>(bW (dat ph n) ws).map .list
  | _=>none
 | _,_=>none
section
variable{X:Cx}{pins:List (Addr×Obj)}{σ:L2.St}{H:Hp}{s:ald}{φ:Nat->Addr}{ph:PH}
noncomputable def oj(s:ald)(n:Nat)(u:Value)(d:aoz):Prop:=(∃as,Reads s.heap u d as)/\d.canLay0=true/\d.depth<=n
theorem BP{n:Nat}(ih:∀{w:W} {v:V} {u:Value} {d:aoz},aX X.K φ ph.length H w v->RelV v u->dat ph n w=some d->oj s n u d) :
  ∀{ws:List W} {vs:List V} {us:List Value} {ds:List aoz},bi X.K φ ph.length H ws vs->Vals vs us->bW (dat ph n) ws=some ds →
   (∃as,ReadsAll s.heap us ds as)/\arw ds=true/\PyData.depthAll ds<=n
 | _,_,_,_,.nil,.nil,e=>by cases e;exact⟨⟨_,.nil⟩,rfl,ant _⟩
 | w::ws,_,_,ds,.cons h r,.cons hv rv,e=>by
  unfold bW at e;split at e
  ·rename_i b bs e1 e2;cases e;obtain⟨⟨as,r1⟩,c1,d1⟩:=ih h hv e1;obtain⟨⟨bs',r2⟩,c2,d2⟩:=BP ih r rv e2;refine⟨⟨_,.cons r1 r2⟩,?_,?_⟩
   ·simp only[arw,c1,c2,arf]
   ·simp only[PyData.depthAll];omega
  ·cases e
theorem rA(I:Inv X pins σ H s)(hH:aS X.K φ ph H):∀(n:Nat) {w:W} {v:V} {u:Value} {d:aoz},aX X.K φ ph.length H w v->RelV v u->dat ph n w=some d->oj s n u d:=by
 have D1:∀(n:Nat) (ih:∀{w:W} {v:V} {u:Value} {d:aoz},aX X.K φ ph.length H w v->RelV v u->dat ph n w=some d->oj s n u d) {ws:List W} {vs:List V} {d:aoz} {a:Addr},
   bi X.K φ ph.length H ws vs->((bL X.K H a vs/\(bW (dat ph n) ws).map PyData.list=some d)\/(bT X.K H a vs/\(bW (dat ph n) ws).map PyData.tuple=some d))->oj s (n+1) (.ref a) d:=by
  intro n ih ws vs d a r h
  rcases h with⟨hq,e⟩ | ⟨hq,e⟩
  ·obtain⟨its,rv,⟨o,k,h1,h2,h3,h4⟩,_⟩:=I.list hq;obtain⟨ds,e1,e2⟩:=alv.mp e;subst e2;obtain⟨⟨as,r1⟩,c1,d1⟩:=BP ih r rv e1;refine⟨⟨_,.list h1 h2 h4 (by simpa using r1)⟩,by simpa only[apw] using c1,?_⟩;simp only[PyData.depth];omega
  ·obtain⟨its,rv,⟨o,h1,h2,k,h4⟩,_⟩:=I.tuple hq;obtain⟨ds,e1,e2⟩:=alv.mp e;subst e2;obtain⟨⟨as,r1⟩,c1,d1⟩:=BP ih r rv e1;refine⟨⟨_,.tuple h1 h2 h4 (by simpa using r1)⟩,by simpa only[apw] using c1,?_⟩;simp only[PyData.depth];omega
 intro n
 induction n with
 | zero=>
  intro w v u d r rv e;cases r with
  | aE=>cases rv;cases e;exact⟨⟨_,.none⟩,rfl,ali _⟩
  | bl b=>cases rv;cases e;exact⟨⟨_,.bool b⟩,rfl,ali _⟩
  | int i=>obtain⟨t,rfl⟩:=rv;cases e;exact⟨⟨_,.int i t⟩,rfl,ali _⟩
  | str x=>
   obtain⟨t,rfl⟩:=rv;unfold dat at e;split at e
   ·rename_i hx;cases e;exact⟨⟨_,.str x t⟩,by simpa only[apw] using hx,ali _⟩
   ·cases e
  | _=>cases e
 | succ n ih=>
  intro w v u d r rv e;cases r with
  | aE=>cases rv;cases e;exact⟨⟨_,.none⟩,rfl,ant _⟩
  | bl b=>cases rv;cases e;exact⟨⟨_,.bool b⟩,rfl,ant _⟩
  | int i=>obtain⟨t,rfl⟩:=rv;cases e;exact⟨⟨_,.int i t⟩,rfl,ant _⟩
  | str x=>
   obtain⟨t,rfl⟩:=rv;unfold dat at e;split at e
   ·rename_i hx;cases e;exact⟨⟨_,.str x t⟩,by simpa only[apw] using hx,ant _⟩
   ·cases e
  | tup h r=>cases rv;exact D1 n ih r (.inr ⟨bT.of h,e⟩)
  | exc=>unfold dat at e;cases e
  | fn=>unfold dat at e;cases e
  | kt=>unfold dat at e;cases e
  | fl h r=>cases rv;exact D1 n ih r (.inl ⟨h.sq,e⟩)
  | ref hi=>
   cases rv;unfold dat at e;split at e
   ·rename_i ws hw;obtain⟨vs,hv,r⟩:=hH.hp _ _ hw;exact D1 n ih r (.inl ⟨bL.of hv,e⟩)
   ·cases e
end
noncomputable def fJ(ph:PH)(x y:W):Option Bool:=match dat ph 40 x,dat ph 40 y with
 | some a,some b=>some (amh a b)
 | _,_=>none
noncomputable def bh:W->W->Po W:=fun x y ph=>(fJ ph x y).map fun b=>(.bl b,ph)
noncomputable def cS:W->W->Po W:=fun x y ph=>(fJ ph x y).map fun b=>(.bl (!b),ph)
noncomputable def rD(K:acs)(f:Bool->Bool):R2:=fun x y H Q=>∃φ ph wx wy b,aS K φ ph H/\aX K φ ph.length H wx x/\aX K φ ph.length H wy y/\fJ ph wx wy=some b/\Q (.bl (f b)) H
variable{y:W}{b:Bool}
theorem JY{x:W}(h:fJ ph x y=some b):∃dx dy,dat ph 40 x=some dx/\dat ph 40 y=some dy/\b=amh dx dy:=by
 unfold fJ at h;split at h
 ·rename_i dx dy h1 h2;cases h;exact⟨dx,dy,h1,h2,rfl⟩
 ·cases h
theorem agP(hu:X.A.units+64<cLine):bI X (ami .Eq) (rD X.K fun b=>b):=by
 intro pins s σ H x y v u Q I rx ry h;obtain⟨φ,ph,wx,wy,b,hH,r1,r2,e,q⟩:=h;obtain⟨dx,dy,e1,e2,rfl⟩:=JY e;obtain⟨⟨as,k1⟩,c1,l1⟩:=rA I hH 40 r1 rx e1;obtain⟨⟨bs,k2⟩,c2,l2⟩:=rA I hH 40 r2 ry e2;exact SeqAt.compareEq_reads k1 k2 c1 c2 (by omega) ⟨.bl _,H,I,rfl,q⟩
theorem agQ(hu:X.A.units+64<cLine):bI X (ami .NotEq) (rD X.K fun b=> !b):=by
 intro pins s σ H x y v u Q I rx ry h;obtain⟨φ,ph,wx,wy,b,hH,r1,r2,e,q⟩:=h;obtain⟨dx,dy,e1,e2,rfl⟩:=JY e;obtain⟨⟨as,k1⟩,c1,l1⟩:=rA I hH 40 r1 rx e1;obtain⟨⟨bs,k2⟩,c2,l2⟩:=rA I hH 40 r2 ry e2;exact SeqAt.compareNe_reads k1 k2 c1 c2 (by omega) ⟨.bl _,H,I,rfl,q⟩
theorem aiQ:cU K (rD K fun b=>b) bh:=by
 intro φ ph H x y vx vy w ph' Q hH rx ry e k;obtain⟨b,e1,e2⟩:=alv.mp e;cases e2;exact⟨φ,ph,x,y,b,hH,rx,ry,e1,k φ H _ hH Step.refl (.bl _)⟩
theorem aiR:cU K (rD K fun b=> !b) cS:=by
 intro φ ph H x y vx vy w ph' Q hH rx ry e k;obtain⟨b,e1,e2⟩:=alv.mp e;cases e2;exact⟨φ,ph,x,y,b,hH,rx,ry,e1,k φ H _ hH Step.refl (.bl _)⟩
noncomputable def inD(ph:PH)(x y:W):Option Bool:=match c7 y ph,dat ph 40 x with
 | some ws,some dx=>(bW (dat ph 40) ws).map fun ds=>ds.any fun d=>amh d dx
 | _,_=>none
noncomputable def om:W->W->Po W:=fun x y ph=>(inD ph x y).map fun b=>(.bl b,ph)
noncomputable def Ae:W->W->Po W:=fun x y ph=>(inD ph x y).map fun b=>(.bl (!b),ph)
noncomputable def D2(K:acs)(f:Bool->Bool):R2:=fun x y H Q=>∃φ ph wx wy b,aS K φ ph H/\aX K φ ph.length H wx x/\aX K φ ph.length H wy y/\inD ph wx wy=some b/\Q (.bl (f b)) H
open Classical in
noncomputable def pQ(s:ald)(dx:aoz)(u:Value):Bool:=if h:∃d,oj s 40 u d then amh h.choose dx else false
theorem JZ{s:ald}{dx d:aoz}{u:Value}(h:oj s 40 u d):pQ s dx u=amh d dx:=by
 unfold pQ;have hx:∃d,oj s 40 u d:=⟨d,h⟩
 rw[dif_pos hx];obtain⟨⟨as,r⟩,c,_⟩:=h;obtain⟨⟨as',r'⟩,c',_⟩:=hx.choose_spec;rw[SeqAt.Reads.unique _ _ _ _ _ c' r' r]
section
variable{X:Cx}{pins:List (Addr×Obj)}{σ:L2.St}{H:Hp}{s:ald}{φ:Nat->Addr}{ph:PH}
theorem Lc(I:Inv X pins σ H s)(hH:aS X.K φ ph H){dx:aoz}:∀{ws:List W} {vs:List V} {us:List Value} {ds:List aoz},bi X.K φ ph.length H ws vs->Vals vs us->bW (dat ph 40) ws=some ds →
  (us.any (pQ s dx)=ds.any fun d=>amh d dx)/\∀u∈us,∃d,oj s 40 u d
 | _,_,_,_,.nil,.nil,e=>by cases e;exact⟨rfl,fun _ h=>nomatch h⟩
 | w::ws,_,_,ds,.cons h r,.cons hv rv,e=>by
  unfold bW at e;split at e
  ·rename_i b bs e1 e2;cases e;have q:=rA I hH 40 h hv e1;obtain⟨r1,r2⟩:=Lc I hH (dx:=dx) r rv e2;refine⟨by rw[amt,amt,r1,JZ q],fun u hu=>?_⟩
   rcases alD.mp hu with rfl | hu
   ·exact⟨_,q⟩
   ·exact r2 u hu
  ·cases e
theorem ael(I:Inv X pins σ H s)(hH:aS X.K φ ph H){wx wy:W}{x y:V}{v u:Value}{b:Bool}(hu:X.A.units+64<cLine)(r1:aX X.K φ ph.length H wx x)(r2:aX X.K φ ph.length H wy y)(rx:RelV x v)(ry:RelV y u)(e:inD ph wx wy=some b) :
  ∃(a:Addr) (its:List Value) (f:Value->Bool),u=.ref a/\(s.heap.IsList a its.toArray\/s.heap.IsTuple a its.toArray)/\(∀z,z∈its.toArray->arq X.A.in1 s z v (f z))/\its.toArray.any f=b:=by
 unfold inD at e;split at e
 ·rename_i ws dx hs hd;obtain⟨ds,e1,e2⟩:=alv.mp e;obtain⟨a,vs,rfl,hq,rs⟩:=Cc hH r2 hs;cases ry;obtain⟨⟨as,k1⟩,c1,l1⟩:=rA I hH 40 r1 rx hd;have fin:∀{its:List Value},Vals vs its->(∀z,z∈its.toArray->arq X.A.in1 s z v (pQ s dx z))/\its.toArray.any (pQ s dx)=b:=fun{its} rv=>by
   obtain⟨q1,q2⟩:=Lc I hH (dx:=dx) rs rv e1;refine⟨fun z hz=>?_,by rw[show its.toArray.any (pQ s dx)=its.any (pQ s dx) by simp,q1,e2]⟩;obtain⟨d,hd⟩:=q2 z (by simpa using hz);rw[JZ hd];obtain⟨⟨bs,k2⟩,c2,l2⟩:=hd;intro prog w E Q hQ;exact SeqAt.eqBoolOverData prog w _ E s z v d dx bs as Q k2 k1 c2 c1 (by show X.A.units+1+_<_;omega) hQ
  rcases hq with hq | hq
  ·obtain⟨its,rv,pl,_⟩:=I.list hq;obtain⟨f1,f2⟩:=fin rv;exact⟨a,its,_,rfl,.inl pl.isList,f1,f2⟩
  ·obtain⟨its,rv,pl,_⟩:=I.tuple hq;obtain⟨f1,f2⟩:=fin rv;exact⟨a,its,_,rfl,.inr pl,f1,f2⟩
 ·cases e
end
theorem aem(hu:X.A.units+64<cLine):bI X (ami .NotIn) (D2 X.K fun b=> !b):=by
 intro pins s σ H x y v u Q I rx ry h;obtain⟨φ,ph,wx,wy,b,hH,r1,r2,e,q⟩:=h;obtain⟨a,its,f,rfl,hq,hf,hb⟩:=ael I hH hu r1 r2 rx ry e;subst hb
 rcases hq with hq | hq
 ·exact SeqAt.notIn_listAt f hq hf ⟨.bl _,H,I,rfl,q⟩
 ·exact SeqAt.notIn_tupleAt f hq hf ⟨.bl _,H,I,rfl,q⟩
theorem agR:cU K (D2 K fun b=> !b) Ae:=by
 intro φ ph H x y vx vy w ph' Q hH rx ry e k;obtain⟨b,e1,e2⟩:=alv.mp e;cases e2;exact⟨φ,ph,x,y,b,hH,rx,ry,e1,k φ H _ hH Step.refl (.bl _)⟩
noncomputable def rK(env:Env)(x:Str×aog)(s:List (Str×Addr)):Sem (ForInStep (List (Str×Addr))):=
 if(x.2==alL)=true then do
  let a <- cellOf env x.1
  pure (anh ((x.1,a)::s))
 else pure (anh s)
theorem Ce(env:Env):∀(names:List (Str×aog)) (acc:List (Str×Addr)),(∀y∈names,y.2=.free->∃c,env.cells.lookup y.1=some c) →
  ∃cl,(forIn names acc (rK env):Sem (List (Str×Addr)))=pure cl/\(∀x c,cl.lookup x=some c->acc.lookup x=some c\/(env.cells.lookup x=some c/\(x,alL)∈names)) /\
   (∀x,((∃c,acc.lookup x=some c)\/(x,alL)∈names)->∃c,cl.lookup x=some c)
 | [],acc,_=>⟨acc,rfl,fun x c h=>.inl h,fun x h=>h.elim id fun z=>nomatch z⟩
 | (n,k)::r,acc,h=>by
  by_cases hk:k=.free
  ·subst hk;obtain⟨c,hc⟩:=h (n,.free) amc rfl;obtain⟨cl,e,h1,h2⟩:=Ce env r ((n,c)::acc) fun y hy=>h y (alE _ hy)
   refine⟨cl,?_,fun x c' hx=>?_,fun x hx=>h2 x ?_⟩
   ·rw[anW];have eb:rK env (n,.free) acc=pure (anh ((n,c)::acc)):=by
     unfold rK;rw[if_pos (by rfl)];unfold cellOf;rw[hc];rfl
    rw[eb];exact e
   ·rcases h1 x c' hx with z | z
    ·rw[alC] at z;cases q:x==n with
     | true=>
      rw[q] at z;cases z;have:x=n:=eq_of_beq q;subst this;exact .inr ⟨hc,amc⟩
     | false=>rw[q] at z;exact .inl z
    ·exact .inr ⟨z.1,alE _ z.2⟩
   ·rcases hx with⟨c',hx⟩ | hx
    ·rw[alC];cases q:x==n with
     | true=>exact .inl ⟨c,rfl⟩
     | false=>exact .inl ⟨c',hx⟩
    ·rcases alD.mp hx with z | z
     ·cases z;exact .inl ⟨c,by rw[alC];simp⟩
     ·exact .inr z
  ·obtain⟨cl,e,h1,h2⟩:=Ce env r acc fun y hy=>h y (alE _ hy)
   refine⟨cl,?_,fun x c' hx=>?_,fun x hx=>h2 x ?_⟩
   ·rw[anW];have eb:rK env (n,k) acc=pure (anh acc):=by
     unfold rK;rw[if_neg (by simpa using hk)]
    rw[eb];exact e
   ·rcases h1 x c' hx with z | z
    ·exact .inl z
    ·exact .inr ⟨z.1,alE _ z.2⟩
   ·rcases hx with hx | hx
    ·exact .inl hx
    ·rcases alD.mp hx with z | z
     ·cases z;exact absurd rfl hk
     ·exact .inr z
variable{env:Env}
theorem aen{scope:Scope}(h:∀y∈scope.names,y.2=.free->∃c,env.cells.lookup y.1=some c) :
  ∃cl,closureFor scope env=pure cl/\(∀x c,cl.lookup x=some c->env.cells.lookup x=some c/\(x,alL)∈scope.names)/\(∀x,(x,alL)∈scope.names->∃c,cl.lookup x=some c):=by
 obtain⟨cl,e,h1,h2⟩:=Ce env scope.names [] h;refine⟨cl,?_,fun x c hx=>?_,fun x hx=>h2 x (.inr hx)⟩
 ·unfold closureFor;show(forIn scope.names [] (rK env) >>= fun s=>pure s)=pure cl;rw[e];rfl
 ·rcases h1 x c hx with z | z
  ·cases z
  ·exact z
noncomputable def b8(X:Cx)(N:List Str)(scope:Scope)(cl:List (Str×Addr))(C:Addr)(aQ:ald)(ba:Hp)(ex:List Addr):Cx:=
 { X with N:=N,aQ:=aQ,ba:=ba,env:=compEnvC scope cl C X.env,outer:=X.stack,stack:=X.stack,ex:=ex,fn:=fun _=>false,pn:=[],xe:=fun _ _=>False,kp:=fun _=>True }
noncomputable def mn(cap:List (Option Nat))(σ:L2.St):L2.St:=cap.map fun o=>o.bind fun i=>(σ[i]?).join
noncomputable def zF(wi:TI)(cap:List (Option Nat))(g:TG)(tc:TT)(te:TE):TE:=fun σ H Q=>wi σ H fun J H1=>∀D,H1 D=none->∃W:Nat->Nat->L2.St->Hp->Prop,(∃m,W 0 m (mn cap σ) (upd H1 D (.lst []))) /\
 ∀i m bo H2,W i m bo H2->(J.stop i H2/\Q (.ref D) H2)\/(J.go i H2/\∀x H3,J.vP i H2 x H3->g x bo H3 fun iW H4=>tc iW H4 fun b H5=>
  if b=true then te iW H5 fun v H6=>∃xs,H6 D=some (.lst xs)/\xs.length<alz/\∃m',m'<m/\W (i+1) m' iW (upd H6 D (.lst (xs++[v]))) else ∃m',m'<m/\W (i+1) m' iW H5)
noncomputable def PF(X:Cx)(ifs:List Expr)(t:TT):Prop:=
 ∀(pins:List (Addr×Obj)) (s:ald) (σ:L2.St) (H:Hp) (Q:Bool->Hp->Prop),Inv X pins σ H s->t σ H Q →
  wpAny (model X.prog X.w) X.A (forIn ifs true fun c r=>if r=true then do let ok <- isTrue c X.env (eval c X.env);pure (anh ok) else pure (anh r)) (TP X pins σ Q) X.xe s
theorem agS:PF X [] (fun _ H Q=>Q true H):=fun pins s σ H Q I h=>wpAny_tests_nil ⟨H,I,h⟩
theorem agT{c:Expr}{t:TT}(h:PT X c t):PF X [c] t:=fun pins s σ H Q I q=>wpAny_tests_one (h pins s σ H Q I q)
theorem Bi{env:Env}{x:Str}:∀{names:List (Str×aog)},names.lookup x=some .free →
  (names.map fun(n,k)=>if(k==alL&&env.scope.kind==.function&&env.kindOf n==some .cell) then(n,amZ) else(n,k)).lookup x=some .cell \/
  (names.map fun(n,k)=>if(k==alL&&env.scope.kind==.function&&env.kindOf n==some .cell) then(n,amZ) else(n,k)).lookup x=some .free
 | [],h=>by cases h
 | (n,k)::r,h=>by
  rw[alO];cases q:x==n with
  | true=>
   rw[alC,q] at h;cases h;by_cases hc:(alL==alL&&env.scope.kind==.function&&env.kindOf n==some .cell)=true
   ·left
    show aml x ((if(alL==alL&&env.scope.kind==.function&&env.kindOf n==some .cell)=true then(n,amZ) else(n,alL))::_)=_;rw[if_pos hc,alC,q]
   ·right
    show aml x ((if(alL==alL&&env.scope.kind==.function&&env.kindOf n==some .cell)=true then(n,amZ) else(n,alL))::_)=_;rw[if_neg hc,alC,q]
  | false=>
   rw[alC,q] at h;have ih:=Bi (env:=env) h;show aml x ((if(k==alL&&env.scope.kind==.function&&env.kindOf n==some .cell)=true then(n,amZ) else(n,k))::_)=_\/aml x ((if(k==alL&&env.scope.kind==.function&&env.kindOf n==some .cell)=true then(n,amZ) else(n,k))::_)=_;by_cases hc:(k==alL&&env.scope.kind==.function&&env.kindOf n==some .cell)=true
   ·rw[if_pos hc,alC,q];exact ih
   ·rw[if_neg hc,alC,q];exact ih
theorem BI{env:Env}{x:Str}{k':aog}(Ph:k'=.cell\/k'=.free):∀{names:List (Str×aog)},(∀y∈names,y.2≠.cell) →
  (names.map fun(n,k)=>if(k==alL&&env.scope.kind==.function&&env.kindOf n==some .cell) then(n,amZ) else(n,k)).lookup x=some k'->names.lookup x=some .free
 | [],_,h=>by cases h
 | (n,k)::r,hc,h=>by
  have h':aml x ((if(k==alL&&env.scope.kind==.function&&env.kindOf n==some .cell)=true then(n,amZ) else(n,k))::r.map _)=some k':=h;rw[alC];cases q:x==n with
  | true=>
   by_cases hb:(k==alL&&env.scope.kind==.function&&env.kindOf n==some .cell)=true
   ·simp only[alo] at hb;have:k=.free:=by simpa using hb.1.1
    rw[this]
   ·rw[if_neg hb,alC,q] at h';cases h'
    rcases Ph with z | z
    ·exact absurd z (hc (n,k') amc)
    ·rw[z]
  | false=>
   refine BI (env:=env) Ph (names:=r) (fun y hy=>hc y (alE _ hy)) ?_;by_cases hb:(k==alL&&env.scope.kind==.function&&env.kindOf n==some .cell)=true
   ·rw[if_pos hb,alC,q] at h';exact h'
   ·rw[if_neg hb,alC,q] at h';exact h'
theorem mem_lookup{x:Str}{k:aog}:∀{names:List (Str×aog)},names.lookup x=some k->(x,k)∈names
 | [],h=>by cases h
 | (n,j)::r,h=>by
  rw[alC] at h;cases q:x==n with
  | true=>rw[q] at h;cases h;rw[eq_of_beq q];exact amc
  | false=>rw[q] at h;exact alE _ (mem_lookup h)
structure mU(X:Cx)(N:List Str)(cap:List (Option Nat))(scope:Scope):Prop where
 len:cap.length=N.length
 at_:∀(i j:Nat) (x:Str),N[i]? =some x->cap[i]? =some (some j)->X.N[j]? =some x/\scope.names.lookup x=some .free/\(X.env.kindOf x=some .cell\/X.env.kindOf x=some .free)
 free:∀y∈scope.names,y.2=.free->X.env.kindOf y.1=some .cell\/X.env.kindOf y.1=some .free
 cell:∀y∈scope.names,y.2≠.cell
 kind:scope.kind=.function
 loc:∀y∈scope.names,y.2=.local->scope.names.lookup y.1=some .local
section
variable{X:Cx}{pins:List (Addr×Obj)}{σ:L2.St}{H:Hp}{s:ald}{N:List Str}{cap:List (Option Nat)}{scope:Scope}{cl:List (Str×Addr)}{fp:List Addr}
theorem aeo (I : Inv X pins σ H s) (c : mU X N cap scope) (kA : ∀ x c, cl.lookup x = some c -> X.env.cells.lookup x = some c /\ (x, alL) ∈ scope.names) (Af : ∀ x, (x, alL) ∈ scope.names -> ∃ c, cl.lookup x = some c)
    (hf : ∀ b ∈ fp, b < s.heap.objs.size /\ b ≠ X.env.locals /\ b ∉ X.fs /\ (b ∈ X.ex \/ X.aQ.heap.objs.size <= b) /\ (∀ x c, X.env.cells.lookup x = some c -> c ≠ b)) {bZ : Heap} {m : Str -> Option Value} {tk : Nat}
    (bM : bZ.Ns s.heap.objs.size m) (hk : ∀ b o, s.heap.get? b = some o -> bZ.get? b = some o) : Inv (b8 X N scope cl s.heap.objs.size s H fp) [] (mn cap σ) H { s with heap := bZ, toks := tk } := by
  have aj9 : ∀ {x : Str}, ((b8 X N scope cl s.heap.objs.size s H fp).env.kindOf x = some .cell \/ (b8 X N scope cl s.heap.objs.size s H fp).env.kindOf x = some .free) -> scope.names.lookup x = some .free := fun {x} hx => by
    rcases hx with hx | hx
    · exact BI (env := X.env) (.inl rfl) c.cell hx
    · exact BI (env := X.env) (.inr rfl) c.cell hx
  have ok : (b8 X N scope cl s.heap.objs.size s H fp).Ok :=
    { mod := I.ok.mod
      kind := c.kind
      glob := I.ok.glob
      blt := I.ok.blt
      above := ali _
      inj := fun x y d h1 h2 => I.ok.inj x y d (kA x d h1).1 (kA y d h2).1
      has := fun x hx => Af x (mem_lookup (aj9 hx))
      n4 := fun x d hz => nomatch hz
      hd := I.ok.hd
      frames := I.ok.frames
      qi := .inl rfl
      vO := fun b hb => ⟨alV (hf b hb).1, fun x d hd => (hf b hb).2.2.2.2 x d (kA x d hd).1⟩
      bs := I.bs
      ku := alT I.ok.ku I.sz
      nI := fun b o e hb => by
        rcases (hf b hb).2.2.2.1 with z | z
        · exact I.ok.nI b o e z
        · exact absurd (alB (alp (I.ok.bs b o e).1) z) (amX _)
      nJ := fun b hb hz => by
        rcases alD.mp (I.CV b hz) with e | e
        · exact (hf b hb).2.1 e
        · exact (hf b hb).2.2.1 e
      fQ := I.stack
      lr := I.uD }
  refine ⟨ok, rfl, I.bare, Un.kept hk, ⟨m, bM, fun i x v e1 e2 _ => ?_⟩, fun x d e => ?_, I.aM.fresh (ali _), fun x d e => ⟨(fun z => nomatch z), (I.iE x d (kA x d e).1).2⟩, (fun p hp => nomatch hp), I.aM.kept hk, ⟨?_, trivial⟩⟩
  · unfold mn at e2
    rw [aln] at e2;cases q : cap[i]? with
    | none => rw [q] at e2; cases e2
    | some o =>
      rw [q] at e2;cases o with
      | none => cases e2
      | some j =>
        have e3 : (σ[j]?).join = some v := amm e2;have e4 : σ[j]? = some (some v) := by
          cases z : σ[j]? with
          | none => rw [z] at e3; cases e3
          | some w => rw [z] at e3; exact congrArg some e3
        obtain ⟨h1, h2, h3⟩ := c.at_ i j x e1 q;obtain ⟨m0, _, hl⟩ := I.loc;obtain ⟨u, ru, lk⟩ := hl j x v h1 e4 (.inr h3);refine ⟨u, ru, ?_⟩
        rcases lk with ⟨z, _⟩ | ⟨_, d, hd, zA⟩
        · rcases h3 with z' | z' <;> (rw [z] at z'; cases z')
        · obtain ⟨d', mG⟩ := Af x (mem_lookup h2)
          have e5 := (kA x d' mG).1;rw [hd] at e5;cases e5;obtain ⟨ob, ho, D3⟩ := zA;exact .inr ⟨Bi (env := X.env) h2, d, mG, ob, hk _ _ ho, D3⟩
  · obtain ⟨v, ob, ho, D3⟩ := I.cell x d (kA x d e).1
    exact ⟨v, ob, hk _ _ ho, D3⟩
  · show (mn cap σ).length = N.length
    unfold mn;rw [alg];exact c.len
theorem Un.but{fs ex:List Addr}{H H':Hp}{h h1 h2:Heap}{C:Addr}(u:Un fs ex H H' h h1)(sb:∀b,b≠C->h2.get? b=h1.get? b)(hC:h.get? C=none):Un fs ex H H' h h2:=by
 have ne:∀b o,h.get? b=some o->b≠C:=fun b o e z=>by rw[z,hC] at e;cases e
 exact⟨fun b o e n h1 h2=>(sb b (ne b o e)).trans (u.keep b o e n h1 h2),fun b o e n h1 h2=>by
  obtain⟨sl,q⟩:=u.slot b o e n h1 h2;exact⟨sl,(sb b (ne b o e)).trans q⟩,u.free,fun b o e h1=>by
  obtain⟨o',q⟩:=u.there b o e h1;exact⟨o',(sb b (ne b o e)).trans q⟩,u.gU,u.fD,u.gi⟩
theorem Ld{az:L2.St}{H':Hp}{s':ald}{h':Heap}(I:Inv X pins σ H s)(J:Inv (b8 X N scope cl s.heap.objs.size s H fp) [] az H' s')(sb:aoJ s.heap.objs.size s'.heap h')
  (hf:∀b∈fp,jR X pins H b):Inv X pins σ H' { s' with heap:=h' }:=by
 have hC:H' s.heap.objs.size=none:=J.free;refine I.Nb (ch:=fp) J.os (Un.but J.base sb.2 (aqB (ali _))) (fun a o e=>?_) J.bare fun b hb=>⟨(hf b hb).2.2.2.1,(hf b hb).2.1,(hf b hb).2.2.2.2.1,(hf b hb).2.2.2.2.2⟩
 refine(J.aM a o e).jP (fun b u hb q=>(sb.2 b ?_).trans q) (fun _ q=>q) fun _ _ q=>q
 rintro rfl
 rcases hb with z | z
 ·rw[<- z,hC] at e;cases e
 ·rw[hC] at z;cases z
end
section
variable{prog:amb}{w:World}{A:amz}{R:Result->ald->Prop}{s:ald}
theorem abl{elt target iter:Expr}{ifs:List Expr}{scope:Scope}{pos:Pos}{it acc:Value}{env:Env}(J:Nat->ald->Prop)
  (turn:∀k s,J k s->wpAny (model prog w) A (pyNext it) (fun r s1=>match r with
   | none=>R (.ok .next) s1
   | some v=>wpAny (model prog w) A (aoZ target it v) (fun _ s2=>wpAny (model prog w) A (aqF target env v) (fun _ s3=>
     wpAny (model prog w) A (forIn ifs true fun c r=>if r=true then do let ok <- isTrue c env (eval c env);pure (anh ok) else pure (anh r)) (fun ok s4=>
      if ok=true then wpAny (model prog w) A (eval elt env) (fun x s5=>wpAny (model prog w) A (call (.builtin "list.append") [acc,x]) (fun _ s6=>∃j,j<k/\J j s6) (fun _ _=>False) s5) (fun _ _=>False) s4
      else ∃j,j<k/\J j s4) (fun _ _=>False) s3) (fun _ _=>False) s2) (fun _ _=>False) s1) (fun _ _=>False) s)
  (k:Nat) (h:J k s):apv (model prog w) A (.compLoop (.ListComp elt [⟨target,iter,ifs,0⟩] scope pos) 0 it acc env) R s:=by
 have no:∀{E:Value->ald->Prop} (e:Value) (s:ald),False->E e s:=fun _ _ z=>z.elim
 refine codeAny_loop (c:=.compLoop (.ListComp elt [⟨target,iter,ifs,0⟩] scope pos) 0 it acc env) rfl J (fun k s hJ=>?_) k h;show wpAny (model prog w) A ((compTurn (.ListComp elt [⟨target,iter,ifs,0⟩] scope pos) 0 it acc env).onRaise fun x=>do aoo x env;theTreesLotGoes x) _ _ s;refine wpAny_noted ?_;rw[compTurn_list];refine abB (aoT (abB (amr (turn k s hJ) (fun r s1 h1=>?_) no)));cases r with
 | none=>exact alh h1
 | some v=>
  refine abB (amr h1 (fun _ s2 h2=>abB (amr h2 (fun _ s3 h3=>abB (amr h3 (fun ok s4 h4=>?_) no)) no)) no);cases ok with
  | false=>exact alh ⟨rfl,h4⟩
  | true=>exact abB (abB (amr h4 (fun x s5 h5=>abB (amr h5 (fun _ s6 h6=>alh (alh ⟨rfl,h6⟩)) no)) no))
end
section
variable{X:Cx}{tg iter elt:Expr}{ifs:List Expr}{scope:Scope}{pos:Pos}{N:List Str}{cap:List (Option Nat)}{wi:TI}{g:TG}{tc:TT}{te:TE}
theorem Je{use:Option (Value->Sem Unit)}{Q':Value->ald->Prop}{pins:List (Addr×Obj)}{s:ald}{σ:L2.St}{H:Hp}{Q:VK}{p0:Pos}(hc:X.calm=true)(c:mU X N cap scope)(hi:PI X tg iter wi)(hg:∀cl C aQ ba ex,PG (b8 X N scope cl C aQ ba ex) tg g)(ht:∀cl C aQ ba ex,PF (b8 X N scope cl C aQ ba ex) ifs tc)
  (he:∀cl C aQ ba ex,PE (b8 X N scope cl C aQ ba ex) elt te) (hs:∀x,amn iter X.env x=pure x) (I:Inv X pins σ H s) (h:zF wi cap g tc te σ H Q)
  (fin:∀(s3 s6:ald) (H3 H6:Hp) (fp:List Addr) (ij:L2.St) (cl:List (Str×Addr)) (D:Addr),Inv X pins σ H3 s3->(∀b∈fp,jR X pins H3 b)->Inv (b8 X N scope cl s3.heap.objs.size s3 H3 fp) [] ij H6 s6->Q (.ref D) H6 →
   compPost (model X.prog X.w) X.A X.xe use Q' (.ref D) s3.heap.objs.size (.ok .next) s6) :
  wpAny (model X.prog X.w) X.A (comprehension (.ListComp elt [⟨tg,iter,ifs,0⟩] scope pos) scope X.env p0 (newList []) false (eval iter X.env) use) Q' X.xe s:=by
 obtain⟨cl,aiS,kA,Af⟩:=aen (scope:=scope) (env:=X.env) fun y hy hf=>I.ok.has y.1 (c.free y hy hf)
 refine wpAny_comprehension_free (use:=use) rfl hs aiS c.kind c.loc (amr (hi pins s σ H _ I h) (fun v s1 h1=>amr h1 (fun EF s2 h2=>?_) fun _ _ z=>z) fun _ _ z=>z);obtain⟨it,fp,tn,J,H2,rfl,I2,T,jW,f2,h2⟩:=h2;refine ams (wpAny_newFunctionEnv c.cell (by intro y hy;simp at hy) (fun bZ bM E6=>?_) c.kind);have hD:H2 s2.heap.objs.size=none:=I2.fresh;obtain⟨W,⟨m0,w0⟩,turn⟩:=h2 s2.heap.objs.size hD;have I3:=I2.DV (its:=[]) (ys:=[]) (t':=s2.toks) .nil (ant _);have kB:∀b∈fp,jR X pins (upd H2 s2.heap.objs.size (.lst [])) b:=fun b hb=>by
  obtain⟨a1,a2⟩:=f2 b hb;refine⟨?_,a2⟩;obtain⟨o,ho,_⟩:=T.obj 0 _ jW b hb;rw[bw (alV (alp ho))];exact a1
 have Pj:∀b∈fp,b<s2.heap.objs.size:=fun b hb=>by
  obtain⟨o,ho,_⟩:=T.obj 0 _ jW b hb;exact alp ho
 revert bM E6
 generalize hs3:({ s2 with heap:=s2.heap.push { cls:=.type "list",data:=.seq ([]:List Value).toArray },toks:=s2.toks }:ald)=s3 at I3;intro bM E6;have Pk:s3.heap=s2.heap.push { cls:=.type "list",data:=.seq ([]:List Value).toArray }:=by rw[<- hs3]
 have e3:s3.heap.objs.size=s2.heap.objs.size+1:=by rw[Pk,amR]
 have Pl:∀b o,s2.heap.get? b=some o->s3.heap.get? b=some o:=fun b o e=>by rw[Pk];exact alb _ e
 have E7:∀b o,s3.heap.get? b=some o->bZ.get? b=some o:=fun b o e=>E6.extBut b o (alV (alp e)) (alb _ e)
 have aka:bZ.Ns s3.heap.objs.size (fun x=>([]:List (Str×Value)).reverse.lookup x):=bM;have I4:=aeo (fp:=fp) (tk:=s3.toks+([]:List (Str×Value)).length) I3 c kA Af (fun b hb=>⟨by rw[e3];exact Nat.lt_succ_of_lt (Pj b hb),(kB b hb).2.1,(kB b hb).2.2.1,(kB b hb).2.2.2.1,(kB b hb).2.2.2.2.1⟩) aka E7;have loop:∀s4:ald,s4={ s3 with heap:=bZ,toks:=s3.toks+([]:List (Str×Value)).length } →
   apv (model X.prog X.w) X.A (.compLoop (.ListComp elt [⟨tg,iter,ifs,0⟩] scope pos) 0 (.ref it) (.ref s2.heap.objs.size) (compEnvC scope cl s3.heap.objs.size X.env))
    (compPost (model X.prog X.w) X.A X.xe use Q' (.ref s2.heap.objs.size) s3.heap.objs.size) s4:=by
  rintro s4 rfl;refine abl (fun m s=>∃i bo E8,Inv (b8 X N scope cl s3.heap.objs.size s3 (upd H2 s2.heap.objs.size (.lst [])) fp) [] bo E8 s/\tn i s.heap/\(∀b∈fp,E8 b=none)/\W i m bo E8) ?_ m0
   ⟨0,mn cap σ,_,I4,T.keep _ _ _ jW fun b hb o e=>E7 b o (Pl b o e),fun b hb=>(kB b hb).1,w0⟩
  rintro k s5 ⟨i,gK,H5,I5,tE,Az,w5⟩;have E9:∀{H':Hp} {ps:List (Addr×Obj)},(∀b∈fp,H' b=none)->(∀p∈ps,∀b∈fp,p.1≠b)->∀b∈fp,jR (b8 X N scope cl s3.heap.objs.size s3 (upd H2 s2.heap.objs.size (.lst [])) fp) ps H' b:=fun{H' ps} hn hp b hb=>
   ⟨hn b hb,(fun z=>by have q:=Pj b hb;have z':b=s3.heap.objs.size:=z;rw[z',e3] at q;exact absurd q (Nat.not_lt.mpr (aoD _))),I5.ok.nJ b hb,.inl hb,fun x d hd=>(kB b hb).2.2.2.2.1 x d (kA x d hd).1,fun p tP=>hp p (by simpa[b8] using tP) b hb⟩
  rcases turn i k gK H5 w5 with⟨stop,qn⟩ | ⟨go,step⟩
  ·refine amr (T.done (b8 X N scope cl s3.heap.objs.size s3 (upd H2 s2.heap.objs.size (.lst [])) fp) rfl rfl rfl hc i [] s5 gK H5 _ I5 (E9 Az (fun _ z=>nomatch z)) tE stop) (fun r s6 hr=>?_) fun _ _ z=>z
   obtain⟨rfl,I6⟩:=hr;exact fin s3 s6 _ H5 fp gK cl _ I3 kB I6 qn
  ·refine amr (T.item (b8 X N scope cl s3.heap.objs.size s3 (upd H2 s2.heap.objs.size (.lst [])) fp) rfl rfl rfl hc i [] s5 gK H5 _ I5 (E9 Az (fun _ z=>nomatch z)) tE go) (fun r s6 hr=>?_) fun _ _ z=>z
   obtain⟨u,rfl,h6⟩:=hr;refine amr h6 (fun _ s7 ⟨x,H7,I7,rx,y7,Fb,fr7⟩=>?_) fun _ _ z=>z
   have I7':=I7.pinned (E9 fr7 (fun _ z=>nomatch z)) (T.obj _ _ Fb);have back:∀{lC:L2.St} {H8:Hp} {s8:ald},Inv (b8 X N scope cl s3.heap.objs.size s3 (upd H2 s2.heap.objs.size (.lst [])) fp) ([]++uL fp s7.heap) lC H8 s8 →
     Inv (b8 X N scope cl s3.heap.objs.size s3 (upd H2 s2.heap.objs.size (.lst [])) fp) [] lC H8 s8/\tn (i+1) s8.heap/\∀b∈fp,H8 b=none:=fun{lC H8 s8} I8=>by
    refine⟨I8.yK,T.keep _ _ _ Fb fun b hb o e=>(I8.pin (b,o) (amd _ (amd _ (yj hb e)))).1,fun b hb=>?_⟩;obtain⟨o,e,d⟩:=T.obj _ _ Fb b hb;exact(I8.pin (b,o) (amd _ (amd _ (yj hb e)))).2.1
   refine a8 (hg cl _ _ _ fp _ s7 gK H7 x u _ I7' rx (step x H7 y7)) fun _ s8 ⟨lC,H8,I8,q8⟩=>?_
   refine a8 (ht cl _ _ _ fp _ s8 lC H8 _ I8 q8) fun ok s9 ⟨H9,I9,q9⟩=>?_
   cases ok with
   | false=>
    obtain⟨m',hm,w9⟩:=q9;obtain⟨a1,a2,a3⟩:=back I9;exact⟨m',hm,i+1,lC,H9,a1,a2,a3,w9⟩
   | true=>
    refine a8 (he cl _ _ _ fp _ s9 lC H9 _ I9 q9) fun y s10 ⟨Fc,H10,I10,r10,xs,hx,hz,m',hm,w10⟩=>?_
    refine a8 (kP (X:=b8 X N scope cl s3.heap.objs.size s3 (upd H2 s2.heap.objs.size (.lst [])) fp) _ s10 lC H10 (.ref s2.heap.objs.size) [Fc] (.ref s2.heap.objs.size) [y] (fun _ H'=>W (i+1) m' lC H') I10 rfl (.cons r10 .nil) ⟨_,xs,_,rfl,rfl,hx,hz,w10⟩) fun _ s11 ⟨_,H11,I11,_,w11⟩=>?_
    obtain⟨a1,a2,a3⟩:=back I11;exact⟨m',hm,i+1,lC,H11,a1,a2,a3,w11⟩
 exact codeAny_compStart_list (loop _ rfl) (T.self _ 0 _ _ _ (T.keep _ _ _ jW fun b hb o e=>E7 b o (Pl b o e)) (loop _ rfl))
theorem aep(hc:X.calm=true)(c:mU X N cap scope)(hi:PI X tg iter wi)(hg:∀cl C aQ ba ex,PG (b8 X N scope cl C aQ ba ex) tg g)(ht:∀cl C aQ ba ex,PF (b8 X N scope cl C aQ ba ex) ifs tc)
  (he:∀cl C aQ ba ex,PE (b8 X N scope cl C aQ ba ex) elt te) (hs:∀x,amn iter X.env x=pure x:=by intro _;rfl):PE X (.ListComp elt [⟨tg,iter,ifs,0⟩] scope pos) (zF wi cap g tc te):=by
 intro pins s σ H Q I h;rw[eval_ListComp];refine Je hc c hi hg ht he hs I h fun s3 s6 H3 H6 fp ij cl D I3 kB I6 q=>?_
 obtain⟨m6,Fd,_⟩:=I6.loc;exact⟨m6,Fd,fun h' sb=>⟨.ref D,H6,Ld I3 I6 sb kB,rfl,q⟩⟩
theorem aeq{i:Nat}{x:Str}{pos' sZ:Pos}(hN:X.N.Nodup)(j3:X.N[i]? =some x)(js:jQ X x)(hx:X.env.scope.names.lookup x=some .local)(wc:anl (.ListComp elt [⟨tg,iter,ifs,0⟩] scope pos) (some (.Name x pos')) sZ.line X.env=pure true)
  (hc:X.calm=true) (c:mU X N cap scope) (hi:PI X tg iter wi) (hg:∀cl C aQ ba ex,PG (b8 X N scope cl C aQ ba ex) tg g) (ht:∀cl C aQ ba ex,PF (b8 X N scope cl C aQ ba ex) ifs tc)
  (he:∀cl C aQ ba ex,PE (b8 X N scope cl C aQ ba ex) elt te) (hs:∀x,amn iter X.env x=pure x:=by intro _;rfl) :
  PS X (.Assign [.Name x pos'] (.ListComp elt [⟨tg,iter,ifs,0⟩] scope pos) sZ) (zY (zF wi cap g tc te) (Ds i)):=by
 intro pins s σ H D I h;rw[exec_Assign_Name_used x pos' _ sZ wc];refine abB (aoT (abB ?_));show wpAny (model X.prog X.w) X.A (comprehension (.ListComp elt [⟨tg,iter,ifs,0⟩] scope pos) scope X.env _ (newList []) false (eval iter X.env) (some (aqF (.Name x pos') X.env)) >>= fun _=>pure ()) _ _ s;refine abB (Je hc c hi hg ht he hs I h fun s3 s6 H3 H6 fp ij cl Dl I3 kB I6 q=>?_);obtain⟨m6,Fd,_⟩:=I6.loc;have akb:s6.heap.Ns s3.heap.objs.size m6:=Fd;have I7:Inv X pins σ H6 s6:=Ld (h':=s6.heap) I3 I6 ⟨rfl,fun _ _=>rfl⟩ kB;refine wpAny_assign_Name (IR I7 hN j3 (.inl hx) (v:=.ref Dl) rfl (fun s8 I8 h8=>?_) ⟨.inr hx,js⟩);obtain⟨a,sb8,ha⟩:=h8;have fresh:H6 s3.heap.objs.size=none:=I6.free;have mH:s3.heap.objs.size≠X.env.locals:=ana I3.lt;have qj:∀y d,X.env.cells.lookup y=some d->d≠s3.heap.objs.size:=fun y d e=>by
  obtain⟨v,o,ho,_⟩:=I3.cell y d e;exact alV (alp ho)
 have neP:∀p∈X.pn++pins,p.1≠s3.heap.objs.size:=fun p hp=>alV (alp (I3.pin p hp).1)
 have neA:s3.heap.objs.size≠a:=by
  rcases ha with z | z
  ·rw[z];exact mH
  ·exact amT (qj x a z)
 refine⟨m6,akb.sameBut sb8 neA,fun h' sb=>alh (alh ⟨_,H6,?_,q⟩)⟩;exact I8.turned (t':=s8.toks) (fun b o hb e=>(sb.2 b hb).trans e) fresh mH (.inr I3.sz) qj neP
end
noncomputable def jl(cap:List (Option Nat))(σ:aT):aT:=cap.map fun o=>o.bind fun i=>(σ[i]?).join
noncomputable def iK(m:Mo α):Mo α:=fun ph=>match m ph with
 | .ok a ph'=>.ok a ph'
 | _=>.no
theorem uB{m:Mo α}{N:α->PH->Prop}{E':XC->PH->Prop}(h:(iK m ph).Run N E):(m ph).Run N E':=by
 unfold iK at h;cases e:m ph with
 | ok a ph'=>rw[e] at h;exact h
 | ex x ph'=>rw[e] at h;exact h.elim
 | no=>rw[e] at h;exact h
noncomputable def eX(chk:PH->Bool)(g:GM)(c:TM)(e:EM)(L:Nat):List W->aT->Mo Unit
 | [],_=>fun ph=>if chk ph=true then .ok () ph else .no
 | x::xs,σ=>fun ph=>if chk ph=true then aA (iK (g x σ)) (fun σ1=>aA (iK (c σ1)) fun t=>if t=true then aA (iK (e σ1)) fun w=>aA (lift (dY (.ref L) [w])) fun _=>eX chk g c e L xs σ1 else eX chk g c e L xs σ1) ph else .no
noncomputable def dn(im:IM)(cap:List (Option Nat))(g:GM)(c:TM)(e:EM):EM:=fun σ=>aA (im σ) fun r ph=>aA (eX r.2 g c e ph.length r.1 (jl cap σ)) (fun _=>aK (.ref ph.length)) (ph++[.lst []])
section
variable{K:acs}{φ:Nat->Addr}{n:Nat}{H:Hp}
theorem bc.cap{ws:aT}{σ:L2.St}(h:bc K φ n H ws σ):∀(cap:List (Option Nat)),bc K φ n H (jl cap ws) (mn cap σ)
 | []=>.nil
 | o::r=>by
  have ih:=bc.cap h r;unfold jl mn at ih ⊢;rw[alO,alO];cases o with
  | none=>exact .nn ih
  | some i=>
   cases q:ws[i]? with
   | none=>simp only[amv,q,Option.join_none];exact .nn ih
   | some o=>
    cases o with
    | none=>simp only[amv,q,Option.join_some];exact .nn ih
    | some w=>
     obtain⟨v,ev,rv⟩:=h.get q;simp only[amv,q,ev,Option.join_some];exact .sm rv ih
theorem YD{L:Nat}{w u:W}{ph ph':PH}(h:dY (.ref L) [w] ph=some (u,ph')):∃ws,ph[L]? =some (.lst ws)/\ws.length<alz/\ph'=ph.set L (.lst (ws++[w])):=by
 unfold dY at h;simp only at h;split at h
 ·rename_i ws hw;split at h
  ·rename_i hz;cases h;exact⟨ws,hw,hz,rfl⟩
  ·cases h
 ·cases h
end
noncomputable def Fe(K:acs)(m:EM):TE:=fun σ H Q=>∃φ ph ws,aS K φ ph H/\bc K φ ph.length H ws σ/\(m ws ph).Run (fun w ph'=>
 ∀av H' v,aS K av ph' H'->Step K φ ph.length H av ph'.length H'->aX K av ph'.length H' w v->Q v H') (fun _ _=>False)
noncomputable def oo(K:acs)(m:TM):TT:=fun σ H Q=>∃φ ph ws,aS K φ ph H/\bc K φ ph.length H ws σ/\(m ws ph).Run (fun b ph'=>
 ∀av H',aS K av ph' H'->Step K φ ph.length H av ph'.length H'->Q b H') (fun _ _=>False)
noncomputable def Ff(K:acs)(g:GM):TG:=fun v σ H Q=>∃φ ph ws w,aS K φ ph H/\bc K φ ph.length H ws σ/\aX K φ ph.length H w v/\(g w ws ph).Run (fun cR ph'=>
 ∀av H' az,aS K av ph' H'->Step K φ ph.length H av ph'.length H'->bc K av ph'.length H' cR az->Q az H') (fun _ _=>False)
section
variable{X:Cx}{e:Expr}
theorem e0{m:EM}(h:IE X e m):PE X e (Fe X.K m):=PE.imp h fun _ _ _ ⟨φ,ph,ws,a,b,c⟩=>⟨φ,ph,ws,a,b,c.mono (fun _ _ z=>z) fun _ _ z=>z.elim⟩
theorem t0{m:TM}(h:IT X e m):PT X e (oo X.K m):=PT.imp h fun _ _ _ ⟨φ,ph,ws,a,b,c⟩=>⟨φ,ph,ws,a,b,c.mono (fun _ _ z=>z) fun _ _ z=>z.elim⟩
theorem g0{g:GM}(h:IG X e g):PG X e (Ff X.K g):=PG.imp h fun _ _ _ _ ⟨φ,ph,ws,w,a,b,r,c⟩=>⟨φ,ph,ws,w,a,b,r,c.mono (fun _ _ z=>z) fun _ _ z=>z.elim⟩
end
section
variable{X:Cx}{tg iter elt:Expr}{ifs:List Expr}{scope:Scope}{pos:Pos}{N:List Str}{cap:List (Option Nat)}{im:IM}{g:GM}{c:TM}{e:EM}
theorem abm{σ:L2.St}{Q:VK}{aC:Nat->Addr}{ph1:PH}{H1:Hp}{ws:aT}{J:It}{items:List W}{chk:PH->Bool}{D:Addr}(aF:aS X.K aC ph1 H1)(hS:bc X.K aC ph1.length H1 ws σ)(hJ:EY X.K J items chk aC ph1.length H1)(hD:H1 D=none)
  (h:(eX chk g c e ph1.length items (jl cap ws) (ph1++[.lst []])).Run (fun _ ph'=>∀av H' v,aS X.K av ph' H'->Step X.K aC ph1.length H1 av ph'.length H'->aX X.K av ph'.length H' (.ref ph1.length) v->Q v H') (fun _ _=>True)) :
  ∃W:Nat->Nat->L2.St->Hp->Prop,(∃m,W 0 m (mn cap σ) (upd H1 D (.lst []))) /\
   ∀i m bo H2,W i m bo H2->(J.stop i H2/\Q (.ref D) H2)\/(J.go i H2/\∀x H3,J.vP i H2 x H3->Ff X.K g x bo H3 fun iW H4=>oo X.K c iW H4 fun b H5=>
    if b=true then Fe X.K e iW H5 fun v H6=>∃xs,H6 D=some (.lst xs)/\xs.length<alz/\∃m',m'<m/\W (i+1) m' iW (upd H6 D (.lst (xs++[v]))) else ∃m',m'<m/\W (i+1) m' iW H5):=by
 have nl:=nj (ws:=[]) (vs:=[]) aF .nil hD;have hl:(ph1++[PO.lst []]).length=ph1.length+1:=by simp
 rw[hl] at nl;obtain⟨bj,s2,_⟩:=nl;refine⟨fun i m bo H2=>∃bg ph2 gz,m=(items.drop i).length/\aS X.K bg ph2 H2/\bc X.K bg ph2.length H2 gz bo/\Step X.K (ext aC ph1.length D) (ph1.length+1) (upd H1 D (.lst [])) bg ph2.length H2 /\
   (eX chk g c e ph1.length (items.drop i) gz ph2).Run (fun _ ph'=>∀av H' v,aS X.K av ph' H'->Step X.K bg ph2.length H2 av ph'.length H'->aX X.K av ph'.length H' (.ref ph1.length) v->Q v H') (fun _ _=>True),
  ⟨_,ext aC ph1.length D,ph1++[PO.lst []],jl cap ws,rfl,bj,?_,by rw[hl];exact Step.refl,?_⟩,?_⟩
 ·rw[hl];exact(bc.cap (hS.mono s2) cap)
 ·exact Out.Run.mono h (fun _ ph' k av H' v r' d0 rv=>k av H' v r' (s2.trans (by rw[hl] at d0;exact d0)) rv) fun _ _ _=>trivial
 rintro i m bo H2 ⟨bg,ph2,gz,rfl,tQ,lw,jW,h4⟩;have akc:bg ph1.length=D:=by rw[jW.eq _ (amK _),nA]
 cases hd:items.drop i with
 | nil=>
  rw[hd] at h4;unfold eX at h4;split at h4
  ·rename_i hc;have hn:items[i]? =none:=by
    have:items.length<=i:=by simpa using hd
    simpa using this
   refine .inl ⟨(hJ bg _ H2 tQ (s2.trans jW) hc i).2 hn,h4 bg H2 _ tQ Step.refl ?_⟩;rw[<- akc];exact .ref (alB (amK _) jW.le)
  ·exact h4.elim
 | cons x xs=>
  rw[hd] at h4;unfold eX at h4;split at h4
  ·rename_i hc;have hx:items[i]? =some x:=by
    have:=congrArg (fun l=>l[0]?) hd
    simpa using this
   have lx:items.drop (i+1)=xs:=by
    have:=congrArg (fun l=>l.drop 1) hd
    simpa[List.drop_drop,arD] using this
   obtain⟨EZ,hy⟩:=(hJ bg _ H2 tQ (s2.trans jW) hc i).1 x hx;refine .inr ⟨EZ,fun v H3 y=>?_⟩;obtain⟨dr,s3,rv⟩:=hy v H3 y;rw[cV] at h4;refine⟨bg,ph2,gz,x,dr,lw.mono s3,rv,(uB h4).mono (fun gE qt h5 jy H5 gK jr s5 gF=>?_) fun _ _ z=>z⟩;rw[cV] at h5;refine⟨jy,qt,gE,jr,gF,(uB h5).mono (fun t Fg h6 Qy H6 Pm s6=>?_) fun _ _ z=>z⟩;have Fh:=(s3.trans s5).trans s6;have vw:=jW.trans Fh;cases t with
   | false=>
    refine nO ⟨xs.length,by simp,Qy,Fg,gE,by rw[lx],Pm,gF.mono s6,vw,?_⟩;rw[lx];exact Out.Run.mono h6 (fun _ ph' k av H' v r' d0 q=>k av H' v r' (Fh.trans d0) q) fun _ _ z=>z
   | true=>
    have Pn:(aA (iK (e gE)) (fun w=>aA (lift (dY (.ref ph1.length) [w])) fun _=>eX chk g c e ph1.length xs gE) Fg).Run _ _:=h6;rw[cV] at Pn;refine nP ⟨Qy,Fg,gE,Pm,gF.mono s6,(uB Pn).mono (fun w7 ph7 h7 Qz H7 v7 Pp s7 r7=>?_) fun _ _ z=>z⟩;rw[cV] at h7;obtain⟨u8,ph8,e8,h8⟩:=run_lift h7;obtain⟨wsL,hL,hz,rfl⟩:=YD e8;have s27:=Fh.trans s7;have Np:=vw.trans s7;have aiT:Qz ph1.length=D:=by rw[Np.eq _ (amK _),nA]
    obtain⟨vs,hv,Pq⟩:=Pp.hp _ _ hL;have Fi:ph1.length<ph7.length:=(alf.mp hL).1;obtain⟨q1,q2⟩:=Cd Pp hL (Pq.append (.cons r7 .nil));rw[aiT] at hv q1 q2;refine⟨vs,hv,by rw[<- Pq.length];exact hz,xs.length,by simp,Qz,_,gE,by rw[lx],q1,((gF.mono s6).mono s7).mono q2,Np.trans q2,?_⟩;rw[lx];exact Out.Run.mono h8 (fun _ ph' k av H' v r' d0 q=>k av H' v r' ((s27.trans q2).trans d0) q) fun _ _ z=>z
  ·exact h4.elim
theorem J0{σ:L2.St}{H:Hp}{Q:VK}(h:tM X (dn im cap g c e) σ H Q):zF (tI X im) cap (Ff X.K g) (oo X.K c) (Fe X.K e) σ H Q:=by
 obtain⟨φ,ph,ws,hH,hS,h⟩:=h;unfold dn at h;rw[cV] at h;refine⟨φ,ph,ws,hH,hS,h.mono (fun r ph1 h aC H1 J aF s1 hJ D hD=>?_) fun _ _ z=>z⟩;rw[cV] at h;exact abm aF (hS.mono s1) hJ hD (Out.Run.mono h (fun _ ph' k av H' v r' d0 rv=>k av H' v r' (s1.trans d0) rv) fun _ _ _=>trivial)
theorem PF.imp{t t':TT}(h:PF X ifs t)(k:∀σ H Q,t' σ H Q->t σ H Q):PF X ifs t':=fun pins s σ H Q I q=>h pins s σ H Q I (k σ H Q q)
noncomputable def dz:TM:=fun _=>aK true
theorem agU:PF X [] (oo X.K dz):=PF.imp agS fun σ H Q h=>by
 obtain⟨φ,ph,ws,hH,hS,h⟩:=h;exact h φ H hH Step.refl
theorem agV{cd:Expr}(h:IT X cd c):PF X [cd] (oo X.K c):=agT (t0 h)
theorem aer(hc:X.calm=true)(cp:mU X N cap scope)(hi:II X tg iter im)(hg:∀cl C aQ ba ex,IG (b8 X N scope cl C aQ ba ex) tg g)(ht:∀cl C aQ ba ex,PF (b8 X N scope cl C aQ ba ex) ifs (oo X.K c))
  (he:∀cl C aQ ba ex,IE (b8 X N scope cl C aQ ba ex) elt e) (hs:∀x,amn iter X.env x=pure x:=by intro _;rfl):IE X (.ListComp elt [⟨tg,iter,ifs,0⟩] scope pos) (dn im cap g c e):=
 PE.imp (aep hc cp hi (fun cl C aQ ba ex=>g0 (hg cl C aQ ba ex)) ht (fun cl C aQ ba ex=>e0 (he cl C aQ ba ex)) hs) fun _ _ _ h=>J0 h
theorem aes{i:Nat}{x:Str}{pos' sZ:Pos}(hN:X.N.Nodup)(j3:X.N[i]? =some x)(js:jQ X x)(hx:X.env.scope.names.lookup x=some .local)
  (hc:X.calm=true) (cp:mU X N cap scope) (hi:II X tg iter im) (hg:∀cl C aQ ba ex,IG (b8 X N scope cl C aQ ba ex) tg g) (ht:∀cl C aQ ba ex,PF (b8 X N scope cl C aQ ba ex) ifs (oo X.K c))
  (he:∀cl C aQ ba ex,IE (b8 X N scope cl C aQ ba ex) elt e) (wc:anl (.ListComp elt [⟨tg,iter,ifs,0⟩] scope pos) (some (.Name x pos')) sZ.line X.env=pure true:=by rfl) (hs:∀x,amn iter X.env x=pure x:=by intro _;rfl) :
  IS X (.Assign [.Name x pos'] (.ListComp elt [⟨tg,iter,ifs,0⟩] scope pos) sZ) (aP (dn im cap g c e) (gN i)):=
 PS.imp (aeq hN j3 js hx wc hc cp hi (fun cl C aQ ba ex=>g0 (hg cl C aQ ba ex)) ht (fun cl C aQ ba ex=>e0 (he cl C aQ ba ex)) hs) fun D σ H h=>by
  obtain⟨φ,ph,ws,hH,hS,h⟩:=h;unfold aP at h;rw[cV] at h;exact J0 ⟨φ,ph,ws,hH,hS,h.mono (fun w ph1 h aC H1 v aF s1 r1=>h aC H1 aF s1 _ ((hS.mono s1).set r1 i)) fun _ _ z=>z⟩
end
noncomputable def Ag:List GM->List W->aT->Mo aT
 | [],[],σ=>aK σ
 | g::gs,w::ws,σ=>aA (g w σ) fun az=>Ag gs ws az
 | _,_,_=>eK
noncomputable def gT(gs:List GM):GM:=fun w σ=>match w with
 | .tup ws=>Ag gs ws σ
 | _=>eK
noncomputable def we(X:Cx)(gs:List GM):mI:=fun vs σ H Q=>∃φ ph ws xs,aS X.K φ ph H/\bc X.K φ ph.length H ws σ/\bi X.K φ ph.length H xs vs/\(Ag gs xs ws ph).Run (fun cR ph'=>
 ∀av H' az,aS X.K av ph' H'->Step X.K φ ph.length H av ph'.length H'->bc X.K av ph'.length H' cR az->Q az H') (XE X φ ph.length H)
noncomputable def iL(n:Nat)(gs:List GM):GM:=fun w σ=>match w with
 | .tup ws=>if ws.length=n then Ag gs ws σ else eK
 | _=>eK
section
variable{X:Cx}{tg:Expr}{es:List Expr}{g:GM}{gs:List GM}{pos:Pos}
theorem iQ.imp{t t':mI}(h:iQ X es t)(k:∀v σ H Q,t' v σ H Q->t v σ H Q):iQ X es t':=fun pins s σ H v u Q I r q=>h pins s σ H v u Q I r (k v σ H Q q)
theorem aet:iQ X [] (we X []):=iQ.imp adR fun vs σ H Q h=>by
 obtain⟨φ,ph,ws,xs,hH,hS,r,h⟩:=h;cases r with
 | nil=>exact⟨rfl,h φ H σ hH Step.refl hS⟩
 | cons _ _=>exact h.elim
theorem acY{e:Expr}(h1:IG X e g)(h2:iQ X es (we X gs))(hs:(amO (e::es) X.env).map (·.2)=aqF e X.env::(amO es X.env).map (·.2):=by rfl):iQ X (e::es) (we X (g::gs)):=
 iQ.imp (acI h1 h2 hs) fun vs σ H Q h=>by
  obtain⟨φ,ph,ws,xs,hH,hS,r,h⟩:=h;cases r with
  | nil=>exact h.elim
  | cons hU rr=>
   refine⟨_,_,rfl,tG.bind hH hS hU h fun lu ph1 aC H1 σ1 aF s1 mQ h1=>?_⟩;exact⟨aC,ph1,lu,_,aF,mQ,rr.mono s1,h1.mono (fun cR ph' k av H' az r' s' q=>k av H' az r' (s1.trans s') q) fun _ _ z=>z⟩
theorem agW{k n:Nat}(hc:X.calm=true)(h:iQ X es (we X gs))(hn:(amO es X.env).length=n:=by rfl)(dg:(amO es X.env).findIdx? (·.1)=none:=by rfl):IG X (.Tuple es k pos) (iL n gs):=
 PG.imp (afV hc h hn dg) fun v σ H Q h=>by
  obtain⟨φ,ph,ws,w,hH,hS,r,h⟩:=h;unfold iL at h;cases r with
  | tup hq r=>
   simp only at h;split at h
   ·rename_i hl;exact⟨_,_,rfl,bT.of hq,by rw[<- r.length];exact hl,φ,ph,ws,_,hH,hS,r,h⟩
   ·exact h.elim
  | _=>exact h.elim
noncomputable def Ol(o i v:W):Po Unit:=fun ph=>match o,i with
 | .ref r,.int k=>match ph[r]? with
  | some (.lst ws)=>match iS ws.length k with
   | some j=>some ((),ph.set r (.lst (ws.set j v)))
   | none=>none
  | _=>none
 | _,_=>none
end
noncomputable def jo(ws:List W)(lo hi:Option Int):List W:=(ws.drop (HT.bA ws.length 0 lo)).take (HT.bA ws.length ws.length hi-HT.bA ws.length 0 lo)
theorem CA(r:bi K φ n H ws vs)(lo hi:Option Int):bi K φ n H (jo ws lo hi) (nL vs lo hi):=by
 unfold jo nL;rw[r.length];exact(r.drop _).take _
noncomputable def kC(w:W)(lo hi:Option Int):Po W:=fun ph=>match w with
 | .tup ws=>if HT.bA ws.length 0 lo=0/\HT.bA ws.length ws.length hi=ws.length then none else some (.tup (jo ws lo hi),ph)
 | .fl ws=>some (.ref ph.length,ph++[.lst (jo ws lo hi)])
 | .ref i=>match ph[i]? with
  | some (.lst ws)=>some (.ref ph.length,ph++[.lst (jo ws lo hi)])
  | _=>none
 | _=>none
abbrev OM:=aT->Mo (Option Int)
noncomputable def cB:OM:=fun _=>aK none
noncomputable def cc(m:EM):OM:=fun σ=>aA (m σ) fun w=>lift (match w with
 | .int i=>ret (some i)
 | _=>fS)
noncomputable def cE(m:EM)(lo hi:OM):EM:=fun σ=>aA (m σ) fun w=>aA (lo σ) fun l=>aA (hi σ) fun h=>lift (kC w l h)
noncomputable def tO(X:Cx)(m:OM):TO:=fun σ H Q=>∃φ ph ws,aS X.K φ ph H/\bc X.K φ ph.length H ws σ/\(m ws ph).Run (fun o ph'=>
 ∀av H',aS X.K av ph' H'->Step X.K φ ph.length H av ph'.length H'->Q o H') (XE X φ ph.length H)
abbrev qw(X:Cx)(e:Option Expr)(m:OM):Prop:=L2.PO X e (tO X m)
section
variable{X:Cx}{e:Expr}{lo hi:Option Expr}{m:EM}{ml mh:OM}{pos p2:Pos}
theorem aeu:qw X none cB:=fun pins s σ H Q I ⟨φ,ph,ws,hH,hS,h⟩=>ad0 pins s σ H Q I (h φ H hH Step.refl)
theorem aev(he:IE X e m):qw X (some e) (cc m):=fun pins s σ H Q I ⟨φ,ph,ws,hH,hS,h⟩=>ad1 he pins s σ H Q I (tM.bind hH hS h fun w ph1 aC H1 v aF s1 r1 h=>by
 obtain⟨o,ph',e,k⟩:=run_lift h;split at e
 ·cases e;cases r1;exact⟨_,rfl,k aC H1 aF s1⟩
 ·cases e)
theorem tO.bind{β:Type}{m:OM}{σ:L2.St}{H:Hp}{Q:Option Int->Hp->Prop}{φ:Nat->Addr}{ph:PH}{ws:aT}{f:Option Int->Mo β}{N:β->PH->Prop}(hH:aS X.K φ ph H)(hS:bc X.K φ ph.length H ws σ)(h:(aA (m ws) f ph).Run N (XE X φ ph.length H))
  (k:∀b ph1 aC H1,aS X.K aC ph1 H1->Step X.K φ ph.length H aC ph1.length H1->(f b ph1).Run N (XE X aC ph1.length H1)->Q b H1):tO X m σ H Q:=by
 rw[cV] at h;exact⟨φ,ph,ws,hH,hS,h.mono (fun b ph1 h1 aC H1 aF s1=>k b ph1 aC H1 aF s1 (h1.mono (fun _ _ z=>z) fun _ _ z=>z.step s1)) fun _ _ z=>z⟩
theorem aiU(he:IE X e m)(hl:qw X lo ml)(hh:qw X hi mh):IE X (.Subscript e (.Slice lo hi none p2) pos) (cE m ml mh):=
 PE.imp (JR (mK.or uN ad4) he hl hh) fun σ H Q h=>by
  obtain⟨φ,ph,ws,hH,hS,h⟩:=h;refine tM.bind hH hS h fun w ph1 aC H1 v aF s1 r1 h=>tO.bind aF (hS.mono s1) h fun l ph2 bg H2 bj s2 h=>tO.bind bj ((hS.mono s1).mono s2) h fun u fI fu H3 dr s3 h=>?_
  obtain⟨w',ph',e,k⟩:=run_lift h;have r3:=(r1.mono s2).mono s3;have wg:=(s1.trans s2).trans s3;unfold kC at e;cases r3 with
  | tup hq r=>
   simp only at e;split at e
   ·cases e
   ·rename_i hw;cases e;refine .inl ⟨_,_,rfl,bT.of hq,by rw[<- r.length];exact hw,fun p hp=>?_⟩;exact k fu _ _ (dr.tup hp) (wg.trans (f7 hp)) (.tup bP ((CA r l u).mono (f7 hp)))
  | fl hq r=>
   cases e;refine .inr ⟨_,_,rfl,hq.sq,fun p hp=>?_⟩;obtain⟨q1,q2,q3⟩:=nj dr (CA r l u) hp;exact k _ _ _ q1 (wg.trans q2) q3
  | ref j3=>
   simp only at e;split at e
   ·rename_i cR hw;cases e;obtain⟨vs,hv,r⟩:=dr.hp _ _ hw;refine .inr ⟨_,_,rfl,bL.of hv,fun p hp=>?_⟩;obtain⟨q1,q2,q3⟩:=nj dr (CA r l u) hp;exact k _ _ _ q1 (wg.trans q2) q3
   ·cases e
  | _=>cases e
end
noncomputable def sD:List W->Po W:=fun xs ph=>match xs with
 | [w]=>match c7 w ph with
  | some ws=>some (.ref ph.length,ph++[.lst ws])
  | none=>none
 | _=>none
theorem aew:ji K (fun xs H Q=>∃p ys,xs=[.ref p]/\(bL K H p ys\/bT K H p ys)/\∀l,H l=none->Q (.ref l) (upd H l (.lst ys))) sD:=by
 intro φ ph H xs vs w ph' Q hH r e k;unfold sD at e;split at e
 ·split at e
  ·rename_i w0 ws hw;cases e;cases r with
   | cons r r'=>
    cases r';obtain⟨a,ys,rfl,hs,rs⟩:=Cc hH r hw;refine⟨a,ys,rfl,hs,fun l hl=>?_⟩;obtain⟨q1,q2,q3⟩:=nj hH rs hl;exact k _ _ _ q1 q2 q3
  ·cases e
 ·cases e
noncomputable def pE:List W->Po W:=fun xs ph=>match xs with
 | [w]=>match c7 w ph with
  | some ws=>some (.tup ws,ph)
  | none=>none
 | _=>none
theorem acZ:ji K (fun xs H Q=>∃p ys,xs=[.ref p]/\((bL K H p ys/\∀l,H l=none->Q (.ref l) (upd H l (.tup ys)))\/(bT K H p ys/\Q (.ref p) H))) pE:=by
 intro φ ph H xs vs w ph' Q hH r e k;unfold pE at e;split at e
 ·split at e
  ·rename_i w0 ws hw;cases e;cases r with
   | cons r r'=>
    cases r';obtain⟨a,ys,rfl,hs,rs⟩:=abj hH r hw;refine⟨a,ys,rfl,?_⟩
    rcases hs with hs | hs
    ·exact .inl ⟨hs,fun l hl=>k φ _ _ (hH.tup hl) (f7 hl) (.tup bP (rs.mono (f7 hl)))⟩
    ·exact .inr ⟨bT.of hs,k φ H _ hH Step.refl (.tup hs rs)⟩
  ·cases e
 ·cases e
noncomputable def aiV:List W->Po W:=fun xs=>match xs with
 | [.int i,.int j]=>ret (.int (if j>i then j else i))
 | _=>fS
noncomputable def aiW:List W->Po W:=fun xs=>match xs with
 | [.int i,.int j]=>ret (.int (if j<i then j else i))
 | _=>fS
noncomputable def jI(f f':W->W->Po W)(a b c:EM):EM:=fun σ=>aA (a σ) fun x=>aA (b σ) fun y=>aA (lift (f x y)) fun z=>match z with
 | .bl k=>if k=true then aA (c σ) fun u=>lift (f' y u) else aK (.bl false)
 | _=>eK
section
variable{X:Cx}{a b c:Expr}{ma mb mc:EM}{pos:Pos}{op d3:CmpOp}{r r':R2}{f f':W->W->Po W}
theorem Jf(hi:cU X.K r f)(j3:cU X.K r' f'){σ:L2.St}{H:Hp}{Q:VK}(h:tM X (jI f f' ma mb mc) σ H Q):CY r r' (tM X ma) (tM X mb) (tM X mc) σ H Q:=by
 obtain⟨φ,ph,ws,hH,hS,h⟩:=h;refine tM.bind hH hS h fun x ph1 aC H1 vx aF s1 rx h=>tM.bind aF (hS.mono s1) h fun y ph2 bg H2 vy bj s2 ry h=>?_
 rw[cV] at h;obtain⟨z,fI,e,h⟩:=run_lift h;refine hi bj (rx.mono s2) ry e fun fu H3 vz dr s3 rz=>?_
 have hS3:=((hS.mono s1).mono s2).mono s3;cases rz with
 | bl k=>
  refine⟨k,rfl,?_⟩;cases k with
  | false=>exact nO (h fu H3 _ dr ((s1.trans s2).trans s3) (.bl false))
  | true=>
   have h':(aA (mc ws) (fun u=>lift (f' y u)) fI).Run (fun w ph'=>∀av H' v,aS X.K av ph' H'->Step X.K φ ph.length H av ph'.length H'->aX X.K av ph'.length H' w v->Q v H') (XE X fu fI.length H3):=Out.Run.mono h (fun _ _ z=>z) fun _ _ z=>z.step s3
   refine nP (tM.bind dr hS3 h' fun u oi t7 H4 vu E2 s4 ru h=>?_);obtain⟨w,ph',e',k'⟩:=run_lift h;exact j3 E2 ((ry.mono s3).mono s4) ru e' fun jy H5 v jr s5 r5=>k' jy H5 v jr ((((s1.trans s2).trans s3).trans s4).trans s5) r5
 | _=>exact h.elim
theorem ac0(ho:bI X (ami op) r)(hi:cU X.K r f)(eJ:bI X (ami d3) r')(j3:cU X.K r' f')(ha:IE X a ma)(hb:IE X b mb)(hc:IE X c mc)(hm:aql [op,d3] [b,c]=false:=by with_unfolding_all rfl) :
  IE X (.Compare a [op,d3] [b,c] pos) (jI f f' ma mb mc):=PE.imp (acK ho eJ ha hb hc hm) fun _ _ _ h=>Jf hi j3 h
theorem ac1(ho:bI X (ami op) r)(hi:cU X.K r f)(eJ:bI X (ami d3) r')(j3:cU X.K r' f')(ha:IE X a ma)(hb:IE X b mb)(hc:IE X c mc)(hm:aql [op,d3] [b,c]=false:=by with_unfolding_all rfl) :
  IT X (.Compare a [op,d3] [b,c] pos) (eT (jI f f' ma mb mc)):=PT.imp (acL ho eJ ha hb hc hm) fun σ H Q h=>by
 obtain⟨φ,ph,ws,hH,hS,h⟩:=h;refine Jf hi j3 (tM.bind hH hS h fun x ph1 aC H1 vx aF s1 rx h=>?_);obtain⟨w,ph',e,k⟩:=run_lift h;split at e
 ·cases e;cases rx;exact⟨_,rfl,k aC H1 aF s1⟩
 ·cases e
end
structure fV(X:Cx)(N:List Str)(sc:Scope):Prop where
 hN:X.N=N
 j4:∀x,aJ sc x->aJ X.env.scope x
 loc:∀x,Loc sc x->Loc X.env.scope x
 gl:∀x,sc.names.lookup x=some .globalImplicit->Gl X x
 fn:∀x,Loc sc x->(X.fn x=true\/X.env.scope.names.lookup x=some .local)/\jQ X x
 nd:N.Nodup
structure BdT(X:Cx)(N:List Str)(sc:Scope)(k:Nat):Prop extends fV X N sc where
 calm:X.calm=true
 room:cQ k X.A
structure Bd(X:Cx)(N:List Str)(sc:Scope)(k:Nat):Prop extends BdT X N sc k where
 D4:aqk (model X.prog X.w) X.A X.env X.xe
section
variable{X:Cx}{N:List Str}{sc:Scope}{k:Nat}{pos:Pos}
theorem fV.var(B:fV X N sc)(i:Nat){x:Str}(hN:N[i]? =some x)(hv:aJ sc x)(hd:(x==("__debug__":Str))=false)(hcd:(x==("__classdict__":Str))=false):IE X (.Name x pos) (af i):=
 agn i (hN:=by rw[B.hN];exact hN) (hv:=B.j4 x hv) (hd:=hd) (hcd:=hcd)
theorem fV.name(B:fV X N sc)(i:Nat){x:Str}(hN:N[i]? =some x)(hl:Loc sc x):IG X (.Name x pos) (gN i):=
 aea (by rw[B.hN];exact B.nd) (by rw[B.hN];exact hN) (B.loc x hl) (B.fn x hl)
theorem fV.set(B:fV X N sc)(i:Nat){x:Str}{e:Expr}{m:EM}{pos':Pos}(hN:N[i]? =some x)(hl:Loc sc x)(he:IE X e m)(hs:anl e (some (.Name x pos')) pos.line X.env=pure false:=by rfl):IS X (.Assign [.Name x pos'] e pos) (aP m (gN i)):=
 agA (by rw[B.hN];exact B.nd) (by rw[B.hN];exact hN) (B.loc x hl) he hs (B.fn x hl)
theorem Bd.akd(B:Bd X N sc k){iter tg:Expr}{im:IM}{g:GM}{b:SM}{body:List Stmt}(hi:II X tg iter im)(hg:IG X tg g)(hb:gy X body b)(hs:∀x,amn iter X.env x=pure x:=by intro _;rfl):IS X (.For tg iter body [] pos) (gj im g b):=
 agC B.D4 B.calm hi hg hb hs
theorem Bd.agX(B:Bd X N sc k){c:Expr}{t:TM}{b:SM}{body:List Stmt}(hc:IT X c t)(hb:gy X body b):IS X (.While c body [] pos) (r9 t b):=acT B.D4 hc hb
theorem Gw{env:Env}{x:Str}:∀{names:List (Str×aog)},names.lookup x=some .globalImplicit →
  (names.map fun(n,k)=>if(k==alL&&env.scope.kind==.function&&env.kindOf n==some .cell) then(n,amZ) else(n,k)).lookup x=some .globalImplicit
 | [],h=>by cases h
 | (n,k)::r,h=>by
  show aml x ((if(k==alL&&env.scope.kind==.function&&env.kindOf n==some .cell)=true then(n,amZ) else(n,k))::_)=_;rw[alC] at h;cases q:x==n with
  | true=>
   rw[q] at h;cases h;have EQ:¬((apU==alL&&env.scope.kind==.function&&env.kindOf n==some .cell)=true):=by
    rw[show(apU==alL)=false from rfl,aqG,aqG];exact alK
   rw[if_neg EQ,alC,q]
  | false=>
   rw[q] at h;have ih:=Gw (env:=env) h;split
   ·rw[alC,q];exact ih
   ·rw[alC,q];exact ih
theorem Bd.b8(B:Bd X N sc k){N':List Str}{scope:Scope}{cl:List (Str×Addr)}{C:Addr}{aQ:ald}{ba:Hp}{ex:List Addr}(hc:∀y∈scope.names,y.2≠.cell)(nd:N'.Nodup):Bd (b8 X N' scope cl C aQ ba ex) N' scope k where
 hN:=rfl
 j4:=fun x h=>by
  rcases h with h | h | h
  ·exact .inl (aoR (env:=X.env) h)
  ·exact absurd rfl (hc _ (mem_lookup h))
  ·exact .inr (Bi (env:=X.env) h)
 loc:=fun x h=>by
  rcases h with h | h
  ·exact .inl (aoR (env:=X.env) h)
  ·exact absurd rfl (hc _ (mem_lookup h))
 gl:=fun x h=>Gw (env:=X.env) h
 calm:=B.calm
 room:=B.room
 fn:=fun x h=>by
  rcases h with h | h
  ·exact⟨.inr (aoR (env:=X.env) h),fun _ _ _ _ _=>trivial⟩
  ·exact absurd rfl (hc _ (mem_lookup h))
 D4:=PassesOwn.never
 nd:=nd
noncomputable def Nq(sc scope:Scope)(N N':List Str)(cap:List (Option Nat)):Bool:=
 cap.length==N'.length&&(anj N'.length).all (fun i=>match cap[i]? with
  | some (some j)=>(match N'[i]? with
   | some x=>N[j]? ==some x&&scope.names.lookup x==some .free&&(sc.names.lookup x==some .cell||sc.names.lookup x==some .free)
   | none=>false)
  | _=>true)&&scope.names.all (fun y=>y.2 != .cell&&(y.2 != .free||sc.names.lookup y.1==some .cell||sc.names.lookup y.1==some .free)&&(y.2 != .local||scope.names.lookup y.1==some .local))&&scope.kind==.function
theorem Bd.cap(hN:X.N=N)(aL:X.env.scope=sc){N':List Str}{scope:Scope}{cap:List (Option Nat)}(h:Nq sc scope N N' cap=true):mU X N' cap scope:=by
 unfold Nq at h;simp only[alo,amw,beq_iff_eq,bne_iff_ne,aoy,ne_eq] at h;obtain⟨⟨⟨h1,h2⟩,h3⟩,h4⟩:=h;have hk:∀x,X.env.kindOf x=sc.names.lookup x:=fun x=>by unfold Env.kindOf;rw[aL]
 refine⟨h1,fun i j x e1 e2=>?_,fun y hy hf=>?_,fun y hy=>(h3 y hy).1.1,h4,fun y hy hl=>?_⟩
 ·have hi:i<N'.length:=(alf.mp e1).1;have:=h2 i (apt.mpr hi);rw[e2,e1] at this;simp only[alo,beq_iff_eq,aoy] at this;obtain⟨⟨a1,a2⟩,a3⟩:=this;rw[hN,hk];exact⟨a1,a2,a3⟩
 ·rw[hk]
  rcases(h3 y hy).1.2 with(z | z) | z
  ·exact absurd hf z
  ·exact .inl z
  ·exact .inr z
 ·rcases(h3 y hy).2 with z | z
  ·exact absurd hl z
  ·exact z
end
noncomputable def isStar:Expr->Bool
 | .Starred .. =>true
 | _=>false
theorem dB{e:Expr}{es:List Expr}(h:isStar e=false):alI (e::es) env=(false,eval e env)::alI es env:=by
 cases e <;> first | rfl | cases h
noncomputable def dH(es:List Expr):Bool:=es.all fun e=> !isStar e
theorem any_none{env:Env}{pos:Pos}:∀{es:List Expr},dH es=true->(aou pos (alI es env)).any (·.1)=false
 | [],_=>rfl
 | e::es,h=>by
  unfold dH at h;rw[amH,alo] at h;have h1:isStar e=false:=by simpa using h.1
  rw[dB h1];show(false||(aou pos (alI es env)).any (·.1))=false;rw[any_none (es:=es) h.2];rfl
theorem all_none{env:Env}{pos:Pos}:∀{es:List Expr},dH es=true->(aou pos (alI es env)).all (fun x=> !x.1)=true
 | [],_=>rfl
 | e::es,h=>by
  unfold dH at h;rw[amH,alo] at h;have h1:isStar e=false:=by simpa using h.1
  rw[dB h1];show(!false&&(aou pos (alI es env)).all (fun x=> !x.1))=true;rw[all_none (es:=es) h.2];rfl
section
variable{X:Cx}{e:Expr}{es:List Expr}{m:EM}{a:AM}{pos:Pos}
theorem ake(h:isStar e=false)(he:IE X e m)(hr:IA X es a):IA X (e::es) (ae m a):=aee he hr (dB h)
end
section
variable{X:Cx}{k:Nat}{f:Addr}{fd:alM}{ps:List Str}{fm:List W->Mo W}{x:Str}{p pos:Pos}{e:Expr}{es:List Expr}{a:AM}
theorem agY(hn:dH (e::es)=true)(bU:(x==("__debug__":Str))=false)(F:bK X.prog X.w X.K X.mg X.base (bF X.prog X.w) k f fd ps (bY X.K X.mg ps.length fm))(hl:∀{xs:List W} {ph:PH},xs.length≠ps.length->fm xs ph=.no)(hr:cQ k X.A)(hg:Gl X x)(hm:X.mg x=some (.ref f))
  (hk:alm X.K (.ref f)=true) (hb:Binds X.K fd ps []) (ha:IA X (e::es) a):IE X (.Call (.Name x p) (e::es) [] pos) (aV fm a):=by
 unfold dH at hn;rw[amH,alo] at hn;exact aeg F hl hr hg hm hk hb ha bU (dB (by simpa using hn.1)) (any_none hn.2)
variable{t:AM}{id T:String}{r:List V->Hp->VK->Prop}{fp:List W->Po W}
theorem agZ(bM:dH (e::es)=true)(hn:x≠"__name__")(bU:(x==("__debug__":Str))=false)(hc:cW X (.builtin id) r)(hi:ji X.K r fp)(hg:Gl X x)(hm:X.mg x=none)(hv:amo x=some (.builtin id))(ha:IA X (e::es) t):IE X (.Call (.Name x p) (e::es) [] pos) (bz fp t):=by
 unfold dH at bM;rw[amH,alo] at bM;exact acU hc hi hg hm hv ha hn bU (dB (by simpa using bM.1)) (any_none bM.2)
theorem ag0(bM:dH (e::es)=true)(hn:x≠"__name__")(bU:(x==("__debug__":Str))=false)(hc:cW X (.type T) r)(hi:ji X.K r fp)(hg:Gl X x)(hm:X.mg x=none)(hv:amo x=some (.type T))(ha:IA X (e::es) t):IE X (.Call (.Name x p) (e::es) [] pos) (bz fp t):=by
 unfold dH at bM;rw[amH,alo] at bM;exact abk hc hi hg hm hv ha hn bU (dB (by simpa using bM.1)) (any_none bM.2)
end
section
variable{X:Cx}{o e:Expr}{es:List Expr}{mo:EM}{t:AM}{name:Str}{apos dq:Pos}{T id:String}{r:V->List V->Hp->VK->Prop}{ty:W->PH->Bool}{f:W->List W->Po W}
theorem ag1(bM:dH (e::es)=true)(b7:decide ((e::es).length<30)=true)(pa:ars T)(slot:Slot T name id)(mM:typeOf (.builtin id)=pure (.type "method_descriptor"))(hm:tJ X id r)(ht:qv X.K T ty)(hi:qu X.K T r f)(ho:IE X o mo)(ha:IA X (e::es) t)
  (lX:amY o name X.env (eval o X.env)=eval o X.env:=by rfl) (pM:(apos.endLine==dq.line)=true:=by rfl):IE X (.Call (.Attribute o name apos) (e::es) [] dq) (cX ty f mo t):=by
 have DW:=all_none (env:=X.env) (pos:=dq) bM;unfold dH at bM;rw[amH,alo] at bM;refine aiO pa slot mM hm ht hi ho ha lX ?_ pM (dB (by simpa using bM.1)) (any_none bM.2);rw[DW,show(backToKw dq (apR [] X.env)).all (fun x=>x.1.isSome)=true from rfl]
 simpa using b7
end
structure JE(X:Cx)(e:Expr)(m:EM):Prop where
 h:IE X e m
structure JT(X:Cx)(e:Expr)(m:TM):Prop where
 h:IT X e m
structure JW(X:Cx)(e:Expr)(m:TM):Prop where
 h:PW X e (tT X m)
structure JA(X:Cx)(es:List Expr)(m:AM):Prop where
 h:IA X es m
structure JS(X:Cx)(st:Stmt)(m:SM):Prop where
 h:IS X st m
structure JB(X:Cx)(st:List Stmt)(m:SM):Prop where
 h:gy X st m
structure JG(X:Cx)(e:Expr)(g:GM):Prop where
 h:IG X e g
structure AN(X:Cx)(es:List Expr)(gs:List GM):Prop where
 h:iQ X es (we X gs)
structure JI(X:Cx)(tg iter:Expr)(im:IM):Prop where
 h:II X tg iter im
structure JO(X:Cx)(e:Option Expr)(m:OM):Prop where
 h:qw X e m
structure JF(X:Cx)(ifs:List Expr)(c:TM):Prop where
 h:PF X ifs (oo X.K c)
section
variable{X:Cx}{N:List Str}{sc:Scope}{k:Nat}{a b c e o:Expr}{es rest:List Expr}{ma mb mc m mo:EM}{ta tb t:TM}{am:AM}{sa sb:SM}{st:Stmt}{as bs body:List Stmt}{p p2 pos pos':Pos}{g:GM}{gs:List GM}{im:IM}{tg iter:Expr}
theorem fV.akf(B:fV X N sc)(i:Nat){x:Str}(hN:N[i]? =some x)(hv:aJ sc x)(hd:(x==("__debug__":Str))=false)(hcd:(x==("__classdict__":Str))=false):JE X (.Name x pos) (af i):=⟨B.var i hN hv hd hcd⟩
variable{j:Nat}
theorem ao{i:Int}:JE X (.Constant (.int i) j pos) (eC (.int i)):=⟨ago⟩
theorem aG{x:Str}:JE X (.Constant (.str x) j pos) (eC (.str x)):=⟨agp⟩
theorem gb{x:Bool}:JE X (.Constant (.bool x) j pos) (eC (.bl x)):=⟨aiH⟩
theorem iB:JE X (.Constant .none j pos) (eC .aE):=⟨agq⟩
theorem lR{x:Str}{i:Int}{tk:Tok}(hg:Gl X x)(hm:X.mg x=some (.int i tk))(hd:(x==("__debug__":Str))=false):JE X (.Name x pos) (eC (.int i)):=⟨qd (pk (v:=.int i) hg hm ⟨_,rfl⟩ hd) fun _ _ _=>.int i⟩
theorem aex{x y:Str}{tk:Tok}(hg:Gl X x)(hm:X.mg x=some (.str y tk))(hd:(x==("__debug__":Str))=false):JE X (.Name x pos) (eC (.str y)):=⟨qd (pk (v:=.str y) hg hm ⟨_,rfl⟩ hd) fun _ _ _=>.str y⟩
theorem jJ(ha:JE X a ma):JE X (.UnaryOp .USub a pos) (d5 dP ma):=⟨aiI af4 agI ha.h⟩
theorem cb(ha:JE X a ma)(hb:JE X b mb):JE X (.BinOp a .Add b pos) (ag addW ma mb):=⟨sA aeh agN ha.h hb.h⟩
theorem lS(ha:JE X a ma)(hb:JE X b mb):JE X (.BinOp a .Sub b pos) (ag iJ ma mb):=⟨sA af2 agJ ha.h hb.h⟩
theorem bQ(ha:JE X a ma)(hb:JE X b mb):JE X (.BinOp a .Mod b pos) (ag aR ma mb):=⟨sA adT agK ha.h hb.h⟩
theorem cx(ha:JE X a ma)(hb:JE X b mb):JE X (.BinOp a .FloorDiv b pos) (ag aZ ma mb):=⟨sA acW agL ha.h hb.h⟩
structure Cp(X:Cx)(op:CmpOp)(b:Expr)(f:W->W->Po W):Prop where
 ex:∃r,bI X (ami op) r/\cU X.K r f
 bm:amQ op b=false
theorem lZ:Cp X .Lt b hV:=⟨⟨_,aix,zi⟩,pB _⟩
theorem nE:Cp X .LtE b kz:=⟨⟨_,aiy,zi⟩,pB _⟩
theorem Dz:Cp X .Gt b vZ:=⟨⟨_,aiz,zi⟩,pB _⟩
theorem aiX:Cp X .GtE b AL:=⟨⟨_,aiA,zi⟩,pB _⟩
theorem BdT.eq(B:BdT X N sc k):Cp X .Eq b bh:=⟨⟨_,agP B.room.units,aiQ⟩,pB _⟩
theorem BdT.ne(B:BdT X N sc k):Cp X .NotEq b cS:=⟨⟨_,agQ B.room.units,aiR⟩,pB _⟩
theorem aiY:Cp X .Is b sY:=⟨⟨_,af5,agO⟩,pB _⟩
variable{f:W->W->Po W}
theorem uO{op:CmpOp}(hc:Cp X op b f)(ha:JE X a ma)(hb:JE X b mb):JE X (.Compare a [op] [b] pos) (ag f ma mb):=let ⟨_,h1,h2⟩:=hc.ex;⟨agr h1 h2 ha.h hb.h hc.bm⟩
theorem bt{op:CmpOp}(hc:Cp X op b f)(ha:JE X a ma)(hb:JE X b mb):JT X (.Compare a [op] [b] pos) (eT (ag f ma mb)):=let ⟨_,h1,h2⟩:=hc.ex;⟨ags h1 h2 ha.h hb.h hc.bm⟩
theorem J3{op d3:CmpOp}{f':W->W->Po W}(h1:Cp X op b f)(h2:Cp X d3 c f')(hm:aql [op,d3] [b,c]=false)(ha:JE X a ma)(hb:JE X b mb)(hc:JE X c mc):JE X (.Compare a [op,d3] [b,c] pos) (jI f f' ma mb mc):=
 let ⟨_,q1,q2⟩:=h1.ex;let ⟨_,q3,q4⟩:=h2.ex;⟨ac0 q1 q2 q3 q4 ha.h hb.h hc.h hm⟩
theorem J4{op d3:CmpOp}{f':W->W->Po W}(h1:Cp X op b f)(h2:Cp X d3 c f')(hm:aql [op,d3] [b,c]=false)(ha:JE X a ma)(hb:JE X b mb)(hc:JE X c mc):JT X (.Compare a [op,d3] [b,c] pos) (eT (jI f f' ma mb mc)):=
 let ⟨_,q1,q2⟩:=h1.ex;let ⟨_,q3,q4⟩:=h2.ex;⟨ac1 q1 q2 q3 q4 ha.h hb.h hc.h hm⟩
theorem C5{op:BoolOp}(ha:JE X a ma):JE X (.BoolOp op [a] pos) ma:=⟨agx ha.h⟩
theorem C6(ha:JE X a ma)(hb:JE X (.BoolOp .And (b::rest) pos) mb):JE X (.BoolOp .And (a::b::rest) pos) (lc ma mb):=⟨agw ha.h hb.h⟩
theorem fg{op:BoolOp}(ha:JT X a ta):JW X (.BoolOp op [a] pos) ta:=⟨agu ha.h⟩
theorem lT(ha:JT X a ta)(hb:JW X (.BoolOp .And (b::rest) pos) tb):JW X (.BoolOp .And (a::b::rest) pos) (dJ ta tb):=⟨agv ha.h hb.h⟩
theorem jj(ha:JT X a ta)(hb:JW X (.BoolOp .Or (b::rest) pos) tb):JW X (.BoolOp .Or (a::b::rest) pos) (dN ta tb):=⟨aiK ha.h hb.h⟩
theorem fj(h:JW X a ta):JT X a ta:=⟨h.h.pt⟩
theorem iC(ha:JT X a ta):JT X (.UnaryOp .Not a pos) (el ta):=⟨agt ha.h⟩
noncomputable def plainT:Expr->Bool
 | .Name .. =>true | .Call .. =>true | .Subscript .. =>true | .Constant .. =>true | .BinOp .. =>true
 | _=>false
theorem eW(hp:plainT a=true)(ha:JE X a ma):JT X a (cL ma):=⟨by
 cases a <;> first | cases hp;done | exact agy ha.h⟩
theorem zG(hc:JT X c ta)(ha:JE X a ma)(hb:JE X b mb):JE X (.IfExp c a b pos) (qr ta ma mb):=⟨aiL hc.h ha.h hb.h⟩
theorem aq:JA X [] aj:=⟨agE⟩
theorem ah(h:isStar e=false)(he:JE X e m)(hr:JA X es am):JA X (e::es) (ae m am):=⟨ake h he.h hr.h⟩
theorem bu{x1:Nat}(h:JA X es am):JE X (.Tuple es x1 pos) (aH am):=⟨agF h.h⟩
theorem bB(h:JA X es am):JE X (.List es pos) (aI am):=⟨agG h.h⟩
theorem Nr(hp:rT b)(ha:JE X a ma)(hb:JE X b mb):JE X (.Subscript a b pos) (ag c8 ma mb):=⟨aiN ha.h hb.h hp⟩
theorem jc:JO X none cB:=⟨aeu⟩
theorem gR(he:JE X e m):JO X (some e) (cc m):=⟨aev he.h⟩
theorem jk{lo hi:Option Expr}{ml mh:OM}(he:JE X e m)(hl:JO X lo ml)(hh:JO X hi mh):JE X (.Subscript e (.Slice lo hi none p2) pos) (cE m ml mh):=⟨aiU he.h hl.h hh.h⟩
theorem bS:JB X [] bv:=⟨ad6⟩
theorem aO{rs:List Stmt}(h1:JS X st sa)(h2:JB X rs sb):JB X (st::rs) (aD sa sb):=⟨acS h1.h h2.h⟩
theorem aN(h1:JS X st sa):JB X [st] sa:=⟨ad8 h1.h⟩
theorem bp(he:JE X e m):JS X (.Return (some e) pos) (aU m):=⟨agz he.h⟩
noncomputable def zj:Expr->Bool
 | .ListComp .. =>false | .SetComp .. =>false | .DictComp .. =>false
 | _=>true
theorem Cf{x:Option Expr}{n:Nat}{env:Env}(h:zj e=true):anl e x n env=pure false:=by
 cases e <;> first | rfl | cases h
theorem jd(hn:zj e=true)(he:JE X e m):JS X (.Expr e pos) (eo m):=⟨ad9 he.h (Cf hn)⟩
theorem bC(hc:JT X c t)(ha:JB X as sa)(hb:JB X bs sb):JS X (.If c as bs pos) (bf t sa sb):=⟨aiM hc.h ha.h hb.h⟩
theorem fV.bN(B:fV X N sc)(i:Nat){x:Str}(hN:N[i]? =some x)(hl:Loc sc x)(hn:zj e=true)(he:JE X e m):JS X (.Assign [.Name x pos'] e pos) (aP m (gN i)):=⟨B.set i hN hl he.h (Cf hn)⟩
theorem zk(he:JE X e m)(hg:JG X tg g)(hs:swapsWithSole [tg] e pos.line X.env=pure false:=by rfl)(hw:swappedStores [tg] e X.env=pure none:=by rfl)
  (h1:(amO [tg] X.env).map (·.2)=[aqF tg X.env]:=by rfl):JS X (.Assign [tg] e pos) (aP m g):=⟨agB he.h hg.h hs hw h1⟩
theorem fV.eY(B:fV X N sc)(i:Nat){x:Str}(hN:N[i]? =some x)(hl:Loc sc x):JG X (.Name x pos) (gN i):=⟨B.name i hN hl⟩
theorem CB:AN X [] []:=⟨aet⟩
theorem rL(h1:JG X e g)(h2:AN X es gs)(hs:(amO (e::es) X.env).map (·.2)=aqF e X.env::(amO es X.env).map (·.2):=by rfl):AN X (e::es) (g::gs):=⟨acY h1.h h2.h hs⟩
theorem C7{n:Nat}(hc:X.calm=true)(h:AN X es gs)(hn:(amO es X.env).length=n:=by rfl)(dg:(amO es X.env).findIdx? (·.1)=none:=by rfl):JG X (.Tuple es j pos) (iL n gs):=⟨agW hc h.h hn dg⟩
theorem Bd.nV(B:Bd X N sc k)(hi:JI X tg iter im)(hg:JG X tg g)(hb:JB X body sb)(hs:∀x,amn iter X.env x=pure x:=by intro _;rfl):JS X (.For tg iter body [] pos) (gj im g sb):=⟨B.akd hi.h hg.h hb.h hs⟩
theorem Bd.ag2(B:Bd X N sc k)(hc:JT X c t)(hb:JB X body sb):JS X (.While c body [] pos) (r9 t sb):=⟨B.agX hc.h hb.h⟩
theorem yy(hg:Gl X "range")(hm:X.mg "range"=none)(hn:isStar a=false)(ha:JA X [a] am):JI X tg (.Call (.Name "range" p) [a] [] pos) (jZ am):=⟨abg hg hm ha.h (dB hn)⟩
theorem abn(hg:Gl X "range")(hm:X.mg "range"=none)(hn:isStar a=false)(oa:isStar b=false)(ha:JA X [a,b] am):JI X tg (.Call (.Name "range" p) [a,b] [] pos) (tN am):=⟨abh hg hm ha.h (by rw[dB hn,dB oa];rfl) (dB oa)⟩
theorem bJ{k:Nat}{f:Addr}{fd:alM}{ps:List Str}{fm:List W->Mo W}{x:Str}(hn:dH (e::es)=true)(bU:(x==("__debug__":Str))=false)(F:bK X.prog X.w X.K X.mg X.base (bF X.prog X.w) k f fd ps (bY X.K X.mg ps.length fm))(hl:∀{xs:List W} {ph:PH},xs.length≠ps.length->fm xs ph=.no)(hr:cQ k X.A)(hg:Gl X x)(hm:X.mg x=some (.ref f))
  (hk:alm X.K (.ref f)=true) (hb:Binds X.K fd ps []) (ha:JA X (e::es) am):JE X (.Call (.Name x p) (e::es) [] pos) (aV fm am):=⟨agY hn bU F hl hr hg hm hk hb ha.h⟩
theorem dI{x:Str}{id:String}{r:List V->Hp->VK->Prop}{fp:List W->Po W}(bM:dH (e::es)=true)(hn:x≠"__name__")(bU:(x==("__debug__":Str))=false)(hc:cW X (.builtin id) r)(hi:ji X.K r fp)(hg:Gl X x)(hm:X.mg x=none)(hv:amo x=some (.builtin id))(ha:JA X (e::es) am):JE X (.Call (.Name x p) (e::es) [] pos) (bz fp am):=⟨agZ bM hn bU hc hi hg hm hv ha.h⟩
theorem sd{x:Str}{T:String}{r:List V->Hp->VK->Prop}{fp:List W->Po W}(bM:dH (e::es)=true)(hn:x≠"__name__")(bU:(x==("__debug__":Str))=false)(hc:cW X (.type T) r)(hi:ji X.K r fp)(hg:Gl X x)(hm:X.mg x=none)(hv:amo x=some (.type T))(ha:JA X (e::es) am):JE X (.Call (.Name x p) (e::es) [] pos) (bz fp am):=⟨ag0 bM hn bU hc hi hg hm hv ha.h⟩
theorem iD{name:Str}{T id:String}{r:V->List V->Hp->VK->Prop}{ty:W->PH->Bool}{f:W->List W->Po W}(bM:dH (e::es)=true)(b7:decide ((e::es).length<30)=true)(pa:ars T)(slot:Slot T name id)(mM:typeOf (.builtin id)=pure (.type "method_descriptor"))(hm:tJ X id r)(ht:qv X.K T ty)(hi:qu X.K T r f)(ho:JE X o mo)(ha:JA X (e::es) am)
  (lX:amY o name X.env (eval o X.env)=eval o X.env:=by rfl) (pM:(p.endLine==pos.line)=true:=by rfl):JE X (.Call (.Attribute o name p) (e::es) [] pos) (cX ty f mo am):=⟨ag1 bM b7 pa slot mM hm ht hi ho.h ha.h lX pM⟩
theorem kf{c:Str}{cn:String}{p2:Pos}(hk:nU X.K cn)(hv:amo c=some (.type cn))(hn:c≠"__name__")(hd:(c==("__debug__":Str))=false)(dg:isStar e=false)(hg:Gl X "isinstance")(hm:X.mg "isinstance"=none)(hW:Gl X c)(hX:X.mg c=none)(he:JE X e m) :
  JE X (.Call (.Name "isinstance" p) [e,.Name c p2] [] pos) (gG cn m):=⟨aiP hk hv hg hm hW hX he.h hn hd (by rw[dB dg,dB rfl];rfl) (dB rfl) (any_none rfl)⟩
theorem pF:JF X [] dz:=⟨agU⟩
theorem Mh(h:JT X c t):JF X [c] t:=⟨agV h.h⟩
theorem rV{scope:Scope}{ifs:List Expr}{N':List Str}{cap:List (Option Nat)}(hc:X.calm=true)(cp:mU X N' cap scope)(hi:JI X tg iter im)(hg:∀cl C aQ ba ex,JG (b8 X N' scope cl C aQ ba ex) tg g)(ht:∀cl C aQ ba ex,JF (b8 X N' scope cl C aQ ba ex) ifs t)
  (he:∀cl C aQ ba ex,JE (b8 X N' scope cl C aQ ba ex) e m) (hs:∀x,amn iter X.env x=pure x:=by intro _;rfl):JE X (.ListComp e [⟨tg,iter,ifs,0⟩] scope pos) (dn im cap g t m):=
 ⟨aer hc cp hi.h (fun cl C aQ ba ex=>(hg cl C aQ ba ex).h) (fun cl C aQ ba ex=>(ht cl C aQ ba ex).h) (fun cl C aQ ba ex=>(he cl C aQ ba ex).h) hs⟩
theorem CC{scope:Scope}{ifs:List Expr}{N':List Str}{cap:List (Option Nat)}{i:Nat}{x:Str}(hN:X.N.Nodup)(j3:X.N[i]? =some x)(js:jQ X x)(hx:X.env.scope.names.lookup x=some .local)
  (hc:X.calm=true) (cp:mU X N' cap scope) (hi:JI X tg iter im) (hg:∀cl C aQ ba ex,JG (b8 X N' scope cl C aQ ba ex) tg g) (ht:∀cl C aQ ba ex,JF (b8 X N' scope cl C aQ ba ex) ifs t)
  (he:∀cl C aQ ba ex,JE (b8 X N' scope cl C aQ ba ex) e m) (wc:anl (.ListComp e [⟨tg,iter,ifs,0⟩] scope p) (some (.Name x pos')) pos.line X.env=pure true) (hs:∀x,amn iter X.env x=pure x:=by intro _;rfl) :
  JS X (.Assign [.Name x pos'] (.ListComp e [⟨tg,iter,ifs,0⟩] scope p) pos) (aP (dn im cap g t m) (gN i)):=
 ⟨aes hN j3 js hx hc cp hi.h (fun cl C aQ ba ex=>(hg cl C aQ ba ex).h) (fun cl C aQ ba ex=>(ht cl C aQ ba ex).h) (fun cl C aQ ba ex=>(he cl C aQ ba ex).h) wc hs⟩
end
open PySem PySem.Spec PyProof.Rows L2 PySem.W Builtin.ObjectAttr Builtin.Getset_descriptor
noncomputable def lh(h:Heap)(x D:Addr):Prop:=∃o,h.get? x=some o/\o.cls=.ref D
section
variable{prog:amb}{w:World}{A:amz}{E:Value->ald->Prop}{s:ald}{K:acs}{x C D:Addr}
variable{M:Model}
theorem lh.nF{h:Heap}(I:lh h x D):Looks M h (typeOf (.ref x)) (.ref D):=let ⟨_,e,c⟩:=I;c▸(Looks.ld e).andThen .now
theorem Jg{Nt:Value}{Q:Unit->ald->Prop}(X:K.In s.heap)(I:lh s.heap x D)(hB:mroIn K D (.type "BaseException")=some true)(hq:Q () s) :
  wpAny M A (checkBuiltinCall "BaseException.__getattribute__" ⟨[.ref x,Nt],[]⟩) Q E s:=by
 have hk:builtinKind "BaseException.__getattribute__"=some .slot:=by decide +kernel
 have ag3:splitId "BaseException.__getattribute__"=some ("BaseException","__getattribute__"):=by decide +kernel
 obtain⟨hh,g,d,t,os⟩:=s;have LI:Looks M hh (aqz (.ref x) (.type "BaseException")) true:=(I.nF (M:=M)).andThen (looks_mroIn (M:=M) X hB);have ha:=F.args_bexc_ga (.ref x) Nt;simp only[checkBuiltinCall,hk,ag3];refine abB (LI.at ?_)
 repeat (first | with_reducible assumption | wp_step)
theorem ZZ{h:Heap}{name:Str}{a g:Value}(X:K.In h)(h1:arh K (.ref D) name=some (some a))(h2:specialIn K a "__get__"=some (some g))(h3:takesIn K a=some true) :
  Looks M h (find (.ref x) (.ref D) name) (.bind g a):=
 (aoM X h1).andThen ((show Looks M h (getOf (some a)) (some g) from looks_specialIn X h2).andThen
  ((show Looks M h (dataDescriptor? (some a) (some g)) (some (g,a)) from(looks_takesIn X h3).andThen .now).andThen (Looks.tag .now)))
theorem abo{g a:Value}{name:Str}{tk:Tok}{Q:Fin->ald->Prop}(I:lh s.heap x D)(L1:Looks (model prog w) s.heap (find (.ref x) (.ref D) name) (.bind g a))
  (h:wpAny (model prog w) A (call g [a,.ref x,.ref D]) (fun v s'=>Q (.done (.ret v)) s') E s) :
  wpAny (model prog w) A (apx.«object.__getattribute__» ⟨[.ref x,.str name tk],[]⟩) Q E s:=by
 obtain⟨hh,gg,d,t,os⟩:=s;have L0:=I.nF (M:=model prog w);unfold apx.«object.__getattribute__»;refine abB (alh ?_)
 dsimp only
 refine abB (alh ?_);refine abB (L0.at (abB (L1.at ?_)))
 dsimp only
 show wpAny _ _ (apu [a] (call g [a,.ref x,.ref D]) >>= PySem.ret) _ _ _;exact abB (amu (amr h (fun v s' z=>alh z) fun _ _ z=>z))
theorem YE{R:Result->ald->Prop}{tp:Value}(X:K.In s.heap)(I:lh s.heap x D)(hm:mroIn K D (.type "object")=some true)(h:R (.ok (.ret (.ref D))) s) :
  apv (model prog w) A (.call (.builtin "getset_descriptor.__get__") ⟨[.builtin "object.__class__",.ref x,tp],[]⟩) R s:=by
 obtain⟨hh,gg,d,t,os⟩:=s;have T0:=I.nF (M:=model prog w);have T1:=looks_mroIn (M:=model prog w) X hm;refine anx KF.slot_gs.plain KF.entry_gs (KF.slot_gs.check _ _ _ _ _ _ _ _ KF.type_class (KF.args_gs _ _ _) ?_);unfold apx.«getset_descriptor.__get__» descrGet;rw[dga_obj];refine abB (alh ?_);unfold descrGetter descrCheckInstance descrNameAndClass aqz;simp only[KF.owner_class]
 repeat lk
 refine⟨apo _ (by decide +kernel),codeAny_builtin KF.entry_class ?_⟩;unfold apx.«object.__class__» shownTypeOf
 repeat lk
 exact h
noncomputable def td(K:acs)(D:Addr):Bool:=
 arh K (.ref D) "__getattribute__"==some (some (.builtin "BaseException.__getattribute__"))&&arh K (.ref D) "__getattr__"==some none &&
 arh K (.ref D) "__class__"==some (some (.builtin "object.__class__"))&&specialIn K (.builtin "object.__class__") "__get__"==some (some (.builtin "getset_descriptor.__get__"))&&takesIn K (.builtin "object.__class__")==some true &&
 mroIn K D (.type "object")==some true&&mroIn K D (.type "BaseException")==some true&&(clsIn K D).isSome
structure fF(K:acs)(D:Addr):Prop where
 ga:arh K (.ref D) "__getattribute__"=some (some (.builtin "BaseException.__getattribute__"))
 gh:arh K (.ref D) "__getattr__"=some none
 cl:arh K (.ref D) "__class__"=some (some (.builtin "object.__class__"))
 cg:specialIn K (.builtin "object.__class__") "__get__"=some (some (.builtin "getset_descriptor.__get__"))
 ct:takesIn K (.builtin "object.__class__")=some true
 mo:mroIn K D (.type "object")=some true
 mb:mroIn K D (.type "BaseException")=some true
 cd:(clsIn K D).isSome=true
theorem fF.of(h:td K D=true):fF K D:=by
 unfold td at h;simp only[alo,beq_iff_eq] at h;obtain⟨⟨⟨⟨⟨⟨⟨h1,h2⟩,h3⟩,h4⟩,h5⟩,h6⟩,h7⟩,h8⟩:=h;exact⟨h1,h2,h3,h4,h5,h6,h7,h8⟩
theorem Le(v:Value):bindSpecial (.builtin "BaseException.__getattribute__") v=pure (.builtin "BaseException.__getattribute__",[v]):=apI.ga.bind v
theorem abp{Q:Option Value->ald->Prop}(X:K.In s.heap)(I:lh s.heap x D)(hK:fF K D)(h:Q (some (.ref D)) { s with toks:=s.toks+1 }) :
  wpAny (model prog w) A (getAttr? (.ref x) "__class__") Q E s:=by
 obtain⟨hh,gg,d,t,os⟩:=s;have L0:=I.nF (M:=model prog w);have L1:=aoM (M:=model prog w) X hK.ga;have L2:=aoM (M:=model prog w) X hK.gh;unfold getAttr? getAttrBy? getAttrBy;refine abB (wpAny_mkText (abB (aoV (amu (abB (L0.at (abB (L1.at ?_))))))));show wpAny _ _ (apc _ _ _ _ _ _) _ _ _;unfold apc;refine abB (show wpAny _ _ (apF (.ref D) "__getattr__") _ _ _ from L2.at ?_);refine abB (aoV (amu ?_));show wpAny _ _ (aqM _ _ _) _ _ _;unfold aqM;rw[Le];refine abB (alh ?_)
 dsimp only
 refine aoE (anx apI.ga.plain F.entry_bexc_ga (Jg (s:=⟨hh,gg,d,t+1,os⟩) X I hK.mb (abo (s:=⟨hh,gg,d,t+1,os⟩) I (ZZ X hK.cl hK.cg hK.ct) (aoE (YE (s:=⟨hh,gg,d,t+1,os⟩) X I hK.mo ?_)))))
 dsimp only
 exact alh (alh h)
theorem fF.isType{h:Heap}(hK:fF K D)(X:K.In h):∃c d cd sl,h.get? D=some ⟨c,d,.cls cd,sl⟩/\∀M,Looks M h (PySem.isType (.ref D)) true:=by
 have h8:=hK.cd;unfold clsIn at h8;split at h8
 ·rename_i c' d' cd' EC ho;refine⟨c',d',cd',EC,X _ _ ho,?_⟩;intro M A' Q' E' s' k q;unfold PySem.isType loadHead;exact abB (aqI (k _ _ (X _ _ ho)) (alh q))
 ·cases h8
theorem ac2(hK:fF K D):KitX K (.ref x) (.ref D) (fun h=>lh h x D) where
 ty:=fun M h X I=>I.nF (M:=M)
 it:=fun M h X _=>let ⟨_,_,_,_,_,z⟩:=hK.isType X;z M
 ne:=fun h tp dd its n sl X e=>by
  obtain⟨c,d,cd,og,z,_⟩:=hK.isType X;rw[Bool.eq_false_iff];intro q;cases beq_iff_eq.mp q;rw[e] at z;cases z
 ca:=fun{_ _ _ _ _ _} X I q=>abp X I hK q
end
noncomputable def tR(tb:List (Str×Bool))(w:W):Po W:=fun ph=>match w with
 | .exc c _ _=>(tb.lookup c).map fun b=>(.bl b,ph)
 | _=>none
noncomputable def eF(tb:List (Str×Bool))(m:EM):EM:=fun σ=>aA (m σ) fun w=>lift (tR tb w)
noncomputable def cm(K:acs)(cv:Value)(tb:List (Str×Bool)):Prop:=
 ∀c b,tb.lookup c=some b->∃C,ale K alc c=some (some (.ref C))/\fF K C/\alu K (.ref C) cv=some b
variable{cv:Value}
theorem cm.nil:cm K cv []:=fun c b e=>by cases e
theorem cm.cons{tb:List (Str×Bool)}{c:Str}(h1:ale K alc c=some (some (.ref C)))(h2:fF K C)(h3:alu K (.ref C) cv=some b)(h:cm K cv tb) :
  cm K cv ((c,b)::tb):=fun c' b' e=>by
 rw[alC] at e;split at e
 ·rename_i q;cases e;rw[beq_iff_eq] at q;subst q;exact⟨C,h1,h2,h3⟩
 ·exact h c' b' e
noncomputable def akg(K:acs)(v2:V)(cv:Value):List V->Hp->VK->Prop:=fun xs H Q=>∃a o u C b,xs=[.ref a,v2]/\H a=some (.bE o u)/\o.cls=.ref C/\fF K C/\alu K (.ref C) cv=some b/\Q (.bl b) H
theorem ac3{v2:V}(hv:∀u,RelV v2 u->u=cv):cW X (.builtin "isinstance") (akg X.K v2 cv):=by
 intro pins s σ H xs us Q I r h;obtain⟨a,o,u,C,b,rfl,hH,hc,hk,e,q⟩:=h;obtain⟨u1,u2,rfl,r1,r2⟩:=Vals.two r;obtain rfl:u1=alJ a:=r1;obtain rfl:=hv u2 r2;have ho:s.heap.get? a=some o:=(I.aM a _ hH).1;exact amU (ac2 hk) I.cD ⟨o,ho,hc⟩ e (fun z=>nomatch z) fun tk=>⟨.bl b,H,I.tok tk,rfl,q⟩
section
variable{X:Cx}{e:Expr}{m:EM}{p p2 pos:Pos}{c:Str}{tb:List (Str×Bool)}
theorem Mi{v2:V}{cv:Value}(hv:∀u,RelV v2 u->u=cv)(hT:cm X.K cv tb)(dg:isStar e=false)(hg:Gl X "isinstance")(hm:X.mg "isinstance"=none)(hc:PE X (.Name c p2) (tC v2))(he:IE X e m) :
  IE X (.Call (.Name "isinstance" p) [e,.Name c p2] [] pos) (eF tb m):=by
 refine PE.imp (B9 (ac3 hv) hg hm aoU (nu he (nu hc uM rfl) (dB dg)) (he:=dB dg) (hpl:=rfl)) fun σ H Q h=>?_
 obtain⟨φ,ph,ws,hH,hS,h⟩:=h;refine tM.bind hH hS h fun x ph1 aC H1 vx aF s1 rx h=>?_
 obtain⟨w,ph',e,k⟩:=run_lift h;unfold tR at e;cases rx with
 | exc h1 hc1 hn hk hf r=>
  obtain⟨b,eb,e2⟩:=alv.mp e;cases e2;obtain⟨C,t1,t2,t3⟩:=hT _ _ eb;rw[t1] at hn;cases hn;exact⟨_,_,_,_,b,rfl,h1,hc1,t2,t3,k aC H1 _ aF s1 (.bl b)⟩
 | _=>cases e
theorem pG{C:Addr}(hT:cm X.K (.ref C) tb)(dg:isStar e=false)(hg:Gl X "isinstance")(hm:X.mg "isinstance"=none)(hW:Gl X c)(hX:X.mg c=some (.ref C))(hd:(c==("__debug__":Str))=false)(he:JE X e m) :
  JE X (.Call (.Name "isinstance" p) [e,.Name c p2] [] pos) (eF tb m):=⟨Mi (v2:=.ref C) (fun _ r=>r) hT dg hg hm (pk hW hX rfl hd) he.h⟩
theorem ag4{cn:String}(hT:cm X.K (.type cn) tb)(dg:isStar e=false)(hg:Gl X "isinstance")(hm:X.mg "isinstance"=none)(hW:Gl X c)(hX:X.mg c=none)(hv:amo c=some (.type cn))(hn:c≠"__name__")(hd:(c==("__debug__":Str))=false)(he:JE X e m) :
  JE X (.Call (.Name "isinstance" p) [e,.Name c p2] [] pos) (eF tb m):=⟨Mi (v2:=.ty cn) (fun _ r=>r) hT dg hg hm (KJ hW hX hv rfl hn hd) he.h⟩
end
noncomputable def wk(x:XC):Mo α:=fun ph=>.ex x ph
noncomputable def uP(c:Str)(a:AM):SM:=fun σ=>aA (a σ) fun xs=>if xs.length<=1000 then wk ⟨c,[]⟩ else eK
theorem aey{iT:List Value}{newId:String}(dF:K.In h)(q:anK K C iT newId=true) :
  ∃bm N nm qn bs hd sn sub ab col dd k0 k1 k2 k3 k5 mN,h.get? C=some (apV nm qn C N bs bm hd sn sub ab col dd k0 k1 k2 k3 k5 newId)/\h.Ns N mN/\mN "__init__"=none/\OwnTail h iT bm:=by
 unfold anK at q;split at q
 case h_2=>cases q
 case h_1 dd cd sl ho=>
  split at q
  case h_2=>cases q
  case h_1 C' bm k0 k1 k2 k3 n k5 hm hs=>
   rw[alo,alo,alo,alo,alo] at q;obtain⟨⟨⟨⟨⟨q1,q2⟩,q3⟩,q4⟩,q5⟩,q6⟩:=q;cases beq_iff_eq.mp q1;cases beq_iff_eq.mp q2;have q3:cd.hasDel=false:=by simpa using q3
   cases cd with
   | mk nm bs mro ns qn hd sn sub ab col del=>
    cases(show mro=_ from hm);cases(show del=_ from q3);cases sl with
    | mk l=>
     cases(show l=_ from hs);exact⟨bm,ns,nm,qn,bs,hd,sn,sub,ab,col,dd,k0,k1,k2,k3,k5,_,dF _ _ ho,.of_isNs (PySem.W.isNs_of_in dF q5),PySem.W.nsMap_none_of_in dF q5 (beq_iff_eq.mp q6),ari dF q4⟩
abbrev fh:List Value:=[.type "ValueError",.type "Exception",.type "BaseException",.type "object"]
section
variable{X:Cx}{e:Expr}{es:List Expr}{a:AM}{np dq pos:Pos}{x:Str}{C:Addr}
theorem ac4(hq:anK X.K C fh "ValueError.__new__"=true)(hg:Gl X x)(hm:X.mg x=some (.ref C))(hc:X.calm=true)(hn:dH (e::es)=true)(bU:(x==("__debug__":Str))=false)(ha:IA X (e::es) a) :
  IS X (.Raise (some (.Call (.Name x np) (e::es) [] dq)) none pos) (uP x a):=by
 intro pins s σ H D I h;obtain⟨φ,ph,ws,hH,hS,h⟩:=h;obtain⟨bm,N,nm,qn,bs,hd,sn,sub,ab,col,dd,k0,k1,k2,k3,k5,mN,o1,o2,o3,o4⟩:=aey I.ok.mod.dF hq;have jq:=hn;unfold dH at jq;rw[amH,alo] at jq;have h0:isStar e=false:=by simpa using jq.1
 refine wpAny_Raise_call_subU (C:=C) (N:=N) (nm:=nm) (q:=qn) (bs:=bs) (bm:=bm) (hdct:=hd) (sn:=sn) (sub:=sub) (ab:=ab) (col:=col) (dd:=dd) (k0:=k0) (k1:=k1) (k2:=k2) (k3:=k3) (k5:=k5) amL (by rfl) amL (o4.hasType (by rfl)) (I.ok.hd hc) (any_none hn) o3 (pj I hg hm ⟨rfl,?_⟩ bU);have hA:tA X a σ H (fun vs H1=>vs.length<=1000/\∀e' s',(∃C,X.mg x=some (.ref C)/\Made X C none H1 e' s')->X.xe e' s'):=by
  refine tA.bind hH hS h fun xs ph1 aC H1 vs aF s1 r1 h=>?_
  by_cases hl:xs.length<=1000
  ·rw[if_pos hl] at h;exact⟨by rw[<- r1.length];exact hl,fun e' s' ⟨C,hm,t⟩=>h aC H1 e' s' aF Step.refl ⟨C,none,hm,.inl rfl,.inl t⟩⟩
  ·rw[if_neg hl] at h;exact h.elim
 have key:=ha dq pins s σ H _ I hA;rw[dB h0] at key ⊢;refine aqD (a8 key fun us s1 ⟨vs,H1,I1,r,q1,q2⟩=>⟨rfl,?_,I1.bk _ _ o1,o2.keeps I1.bk,o4.keeps I1.bk,fun h' e' E3=>?_⟩)
 ·show us.length<=_;rw[<- r.length,apa];exact alT q1 (by decide)
 ·exact q2 _ _ ⟨C,hm,pins,σ,s1,h',e',rfl,rfl,I1,.of E3⟩
theorem Cg(hq:anK X.K C fh "ValueError.__new__"=true)(hg:Gl X x)(hm:X.mg x=some (.ref C))(hc:X.calm=true)(hn:dH (e::es)=true)(bU:(x==("__debug__":Str))=false)(ha:JA X (e::es) a) :
  JS X (.Raise (some (.Call (.Name x np) (e::es) [] dq)) none pos) (uP x a):=⟨ac4 hq hg hm hc hn bU ha.h⟩
end
open PySem PySem.Spec PyProof.Rows L2 PySem.W
structure b6(X:Cx):Prop where
 st:X.stack=X.env::X.outer
 fr:X.env.frame=some X.env.locals
 ex:X.ex=[]
theorem Z0{M:Model}{A:amz}{E:Value->ald->Prop}{s:ald}{base:Heap}{outer:List Env}{L e:Addr}{dd:Option Addr}{Q:Unit->ald->Prop}
  (fT:A.frames=some (env::outer)) (hf:env.frame=some L) (fU:base.StaysIn h) (hl:h.FunFrames base (env::outer)) (hx:u3 h s.heap e C dd)
  (hQ:∀h' t,Heap.zE base (env::outer) e (.ref C,dd) (.ref t) L h'->s.heap.UpToSlots h'->Q () { s with heap:=h' }):wpAny M A (aoo (.ref e) env) Q E s:=by
 obtain⟨t,he⟩:=hx.there;have new:base.get? e=none:=by
  cases hq:base.get? e with
  | none=>rfl
  | some o'=>have:=fU e o' hq;rw[hx.new] at this;cases this
 unfold aoo;simp only[hf];refine abB (alY (x:=.none) he rfl rfl ?_);rw[if_neg (show ¬((alW != alW)=true) by decide)];refine Hv (a0:=.ref t) fT (hl.of_keeps fun b o hb _=>⟨o,hx.keeps b o hb,rfl⟩) hf he (fun b o hb=>hx.keeps b o (fU b o hb)) new rfl (show 1<6 by decide) rfl fun h' hN=>?_
 obtain⟨k1,k2,k3,k4⟩:=hN;exact hQ h' t ⟨k1,new,k2,k3⟩ k4
structure vD(X:Cx)(C a:Addr)(dd:Option Addr)(H':Hp)(B:Heap)(s':ald):Prop where
 ex:∃pins σ H s,Inv X pins σ H s/\s'.os=s.os/\Pc (df X.stack) H H' s.heap B s'.heap
 bare:apN s'.gens
 aM:cC X.prog X.w H' B
 note:∀{A:amz} {E:Value->ald->Prop} {Q:Unit->ald->Prop},A.frames=some X.stack->(∀h' a0,Heap.zE B X.stack a (.ref C,dd) a0 X.env.locals h'->s'.heap.UpToSlots h'->Q () { s' with heap:=h' }) →
  wpAny (model X.prog X.w) A (aoo (.ref a) X.env) Q E s'
variable{P:amb}
theorem ac5{w:World}(x:de P w H h a o):∃ob,h.get? a=some ob:=by
 cases o with
 | lst xs=>exact⟨_,x.2.choose_spec.choose_spec.2⟩
 | tup xs=>obtain⟨_,its,_,ob,e,_⟩:=x;exact⟨ob,e⟩
 | dK kvs=>obtain⟨_,_,_,_,ob,_,_,e,_⟩:=x;exact⟨ob,e⟩
 | dT kvs=>obtain⟨_,_,_,_,ob,_,_,e,_⟩:=x;exact⟨ob,e⟩
 | dU kvs=>obtain⟨_,_,ob,_,_,e,_⟩:=x;exact⟨ob,e⟩
 | set S n=>obtain⟨ob,_,_,_,e,_⟩:=x;exact⟨ob,e⟩
 | ins C dx fs=>exact⟨_,x.2.2.2.1⟩
 | own y=>exact x
 | xd fs=>obtain⟨_,⟨ob,_,_,e,_⟩,_⟩:=x;exact⟨ob,e⟩
 | Av lo hi=>obtain⟨_,_,_,e⟩:=x;exact⟨_,e⟩
 | bE ob u=>exact⟨ob,x.1⟩
 | iP ps=>exact⟨_,x⟩
 | met f y=>exact⟨_,x⟩
 | ext φ=>exact x.2.1
section
variable{X:Cx}{C a:Addr}{dd:Option Addr}{H':Hp}{B:Heap}{s':ald}{e:Value}
theorem abq(T:b6 X)(h:Made X C dd H' e s'):∃a B,e=.ref a/\vD X C a dd H' B s':=by
 obtain⟨pins,σ,s,h',a,rfl,rfl,I,hx⟩:=h;have sf:=I.uD;have hl:=I.stack;have E4:∀env∈X.stack,∀b,env.frame=some b->b∈df X.stack:=fun env he b hb=>aox.mpr ⟨env,he,hb⟩
 refine⟨a,anT s.heap (df X.stack),rfl,⟨pins,σ,H',s,I,rfl,⟨fun b o e n hb=>anf _ e hb,fun b o e n hb=>⟨o.slots,hx.keeps b o e⟩,fun b o e n=>n,fun b o e hb=>⟨o,anf _ e hb⟩,fun b xs e=>e,fun b o u e=>e,fun b ps e=>⟨#[],by simpa using e⟩⟩⟩,
  I.bare,KZ I.aM sf,fun{A E Q} hA hQ=>?_⟩
 have hl':=aqe hl E4;rw[T.st] at hA;have fH:s.heap.FunFrames (anT s.heap (df X.stack)) (X.env::X.outer):=by rw[<- T.st];exact hl'
 refine Z0 (base:=anT s.heap (df X.stack)) (h:=s.heap) hA T.fr (fun b o q=>apk _ q) fH hx fun E5 t f1 f2=>hQ E5 (.ref t) ?_ f2
 rw[T.st];rw[T.st] at f1;exact f1
theorem abr(T:b6 X){pins:List (Addr×Obj)}{σ:L2.St}{H:Hp}{s:ald}(I:Inv X pins σ H s)(h:Flew X.prog X.w X.stack H s C dd H' e s'):∃a B,e=.ref a/\vD X C a dd H' B s':=by
 obtain⟨a,a0,B,rfl,ho,u4,fq,aM,u⟩:=h;refine⟨a,B,rfl,⟨pins,σ,H,s,I,ho,u⟩,u4,aM,fun{A E Q} hA hQ=>?_⟩;rw[T.st] at hA fq;exact UT hA T.fr fq fun h' f1 f2=>hQ h' a0 (by rw[T.st];exact f1) f2
theorem took(T:b6 X){x:XC}{φ:Nat->Addr}{n:Nat}(h:mP X φ n x H' e s'):∃C dd,X.mg x.cls=some (.ref C)/\vY X.K φ n H' dd x.fs/\∃a B,e=.ref a/\vD X C a dd H' B s':=by
 obtain⟨C,dd,hm,hf,h⟩:=h;refine⟨C,dd,hm,hf,?_⟩
 rcases h with h | ⟨pins,σ,H,s,I,h⟩
 ·exact abq T h
 ·exact abr T I h
theorem vD.inv(T:b6 X)(K:vD X C a dd H' B s'){h:Heap}{a0:Value}(fq:Heap.j9 B X.stack a (.ref C,dd) a0 h)(sm:s'.heap.UpToSlots h) :
  ∃pins σ oe,h.get? a=some oe/\oe.cls=.ref C/\aqL oe=true/\H' a=none/\oe.dict=dd/\Inv X pins σ (upd H' a (.bE oe (.own a))) { s' with heap:=h }:=by
 obtain⟨⟨pins,σ,H,s,I,ho,u⟩,u4,aM,_⟩:=K;obtain⟨oe,vs,f1,f2,f3,_⟩:=fq.first;have Pr:B.get? a=none:=fq.2.1;have gH:H' a=none:=by
  cases q:H' a with
  | none=>rfl
  | some o=>
   obtain⟨ob,Pu⟩:=ac5 (aM a o q);rw[Pr] at Pu;cases Pu
 have Fj:∀b∈df X.stack,∀o,s.heap.get? b=some o->∃sl,h.get? b=some { o with slots:=sl }/\∀vs,o.data≠.fields vs:=fun b hb o e=>by
  obtain⟨_,o',eJ,cq⟩:=I.stack.mem hb;rw[e] at eJ;cases eJ;obtain⟨sl,e1⟩:=u.slot b o e (I.uD b hb) hb;obtain⟨og,e2⟩:=sm b _ e1 cq;exact⟨og,e2,cq⟩
 have ne:∀b o,s.heap.get? b=some o->b≠a:=fun b o e z=>by
  by_cases hb:b∈df X.stack
  ·obtain⟨sl,e1,cq⟩:=Fj b hb o e;rw[z,f1] at e1;cases e1;exact cq vs f3
  ·obtain⟨o',e1⟩:=u.there b o e hb;rw[z,Pr] at e1;cases e1
 have f2a:oe.cls=.ref C:=congrArg (·.1) f2;have f2b:oe.dict=dd:=congrArg (·.2) f2;refine⟨pins,σ,oe,f1,f2a,by unfold aqL;rw[f3],gH,f2b,I.Nb (ch:=[]) ho ⟨fun b o e n hb _=>fq.1 b o (u.keep b o e n hb),fun b o e n hb _=>(Fj b hb o e).imp fun sl q=>q.1,fun b o e n _=>by rw[bw (ne b o e)];exact u.free b o e n,fun b o e _=>?_,
  fun b xs e=>?_,fun b ob uu e=>?_,fun b ps e=>?_⟩ (fun b ob e=>?_) u4 fun b hb=>nomatch hb⟩
 ·by_cases hb:b∈df X.stack
  ·obtain⟨sl,e1,_⟩:=Fj b hb o e;exact⟨_,e1⟩
  ·obtain⟨o',e1⟩:=u.there b o e hb;exact⟨o',fq.1 b o' e1⟩
 ·have q:=u.gU b xs e;rw[bw (fun z=>by rw[z,gH] at q;cases q)];exact q
 ·have q:=u.fD b ob uu e;rw[bw (fun z=>by rw[z,gH] at q;cases q)];exact q
 ·obtain⟨m,q⟩:=u.gi b ps e;exact⟨m,by rw[bw (fun z=>by rw[z,gH] at q;cases q)];exact q⟩
 ·by_cases hb:b=a
  ·subst hb;rw[bP] at e;cases e;exact⟨f1,oe,f1⟩
  ·rw[bw hb] at e;refine(aM b ob e).jP (fun c u2 _ q=>fq.1 c u2 q) (fun c q=>?_) fun c xs q=>?_
   ·rw[bw (fun z=>by rw[z,gH] at q;cases q)];exact q
   ·rw[bw (fun z=>by rw[z,gH] at q;cases q)];exact q
theorem Jh{M:Model}{A:amz}{E:Value->ald->Prop}{K:acs}{s:ald}{D:Addr}{b:Bool}{Q:Bool->ald->Prop}(dF:K.In s.heap)(I:lh s.heap a C)(hD:fF K D)(mM:anM K (.ref D)=some (.type "type"))
  (hs:amS K (.ref C) (.ref D)=some b) (q:Q b s):wpAny M A (excMatches (.ref a) (.ref D)) Q E s:=by
 obtain⟨hh,g,d,t,os⟩:=s;have L1:=PySem.W.looks_typeIn (M:=M) dF mM;obtain⟨_,_,_,_,_,L2'⟩:=hD.isType dF;have L2:=L2' M;have L3:PySem.W.Looks M hh (isSubtype (.ref D) (.type "BaseException")) true:=PySem.W.looks_mroIn (M:=M) dF hD.mb;have L4:=I.nF (M:=M);have L5:=PySem.W.looks_subIn (M:=M) dF hs;have L6:PySem.W.Looks M hh (aqz (.ref D) (.type "tuple")) false:=L1.andThen (PySem.W.Looks.of_pure tc_notTuple);unfold excMatches;refine abB (L6.at ?_)
 dsimp only
 rw[if_neg alK];refine abB (alh ?_);rw[anW];refine abB (abB (abB ?_));unfold isExcClass;refine abB (L2.at ?_)
 dsimp only
 rw[if_pos rfl];refine L3.at ?_
 try dsimp only
 rw[if_neg (by decide)];refine alh ?_
 dsimp only
 rw[apy];refine alh (abB (L4.at ?_));rw[anW];refine abB (abB (abB (L5.at ?_)));cases b with
 | true=>
  rw[if_pos rfl];exact alh (alh (alh q))
 | false=>
  rw[if_neg alK];refine alh ?_
  dsimp only
  rw[apy];exact alh (alh q)
end
section
variable{X:Cx}{pins jh pn':List (Addr×Obj)}{σ:L2.St}{H:Hp}{s:ald}{A':amz}{xe':Value->ald->Prop}{calm':Bool}
abbrev eG(X:Cx)(A':amz)(pn':List (Addr×Obj))(xe':Value->ald->Prop)(calm':Bool):Cx:={ X with A:=A',pn:=pn',xe:=xe',calm:=calm' }
theorem ag5(ok:X.Ok)(hA:A'.frames=X.A.frames)(hh:calm'=true->A'.handled=none):(eG X A' pn' xe' calm').Ok:=
 ⟨ok.mod,ok.kind,ok.glob,ok.blt,ok.above,ok.inj,ok.has,ok.n4,hh,hA.trans ok.frames,ok.qi,ok.vO,ok.bs,ok.ku,ok.nI,ok.nJ,ok.fQ,ok.lr⟩
theorem uF(I:Inv X pins σ H s)(hA:A'.frames=X.A.frames)(hh:calm'=true->A'.handled=none)(hp:∀p∈pn'++jh,p∈X.pn++pins):Inv (eG X A' pn' xe' calm') jh σ H s:=
 ⟨ag5 I.ok hA hh,I.os,I.bare,I.base,I.loc,I.cell,I.free,I.iE,fun p h=>I.pin p (hp p h),I.aM,I.lk⟩
theorem BY(I:Inv (eG X A' pn' xe' calm') jh σ H s)(hA:X.A.frames=A'.frames)(hh:X.calm=true->X.A.handled=none)(hp:∀p∈X.pn++pins,p∈pn'++jh):Inv X pins σ H s:=
 uF (X:=eG X A' pn' xe' calm') (A':=X.A) (pn':=X.pn) (xe':=X.xe) (calm':=X.calm) I hA hh hp
end
variable{pos:Pos}
theorem name_goes{pins:List (Addr×Obj)}{σ:L2.St}{s:ald}{n:Str}{Q:Unit->ald->Prop}{M:Model}{A:amz}{E:Value->ald->Prop}(I:Inv X pins σ H s)(hN:X.N.Nodup)(hi:X.N[i]? =some n)
  (hl:X.env.scope.names.lookup n=some .local) (js:jQ X n) (h:∀s',Inv X pins (σ.set i none) H s'->Q () s'):wpAny M A (do bindName X.env n .none;unbindBehindTheSuite X.env n pos) Q E s:=by
 obtain⟨m,hn,hlk⟩:=id I.loc;have mj:(X.env.scope.kind==.class||(X.env.scope.kind==.module&&X.env.locals != X.env.globals))=false:=by rw[I.ok.kind];rfl
 have mH:∀b o,X.aQ.heap.get? b=some o->b≠X.env.locals:=fun b o e=>alV (alB (alp e) I.ok.above)
 refine wpAny_nameGoes_keeps hl hn mj fun h' v jq hs=>h _ ⟨I.ok,I.os,I.bare,⟨fun b o e n' hb hx=>(hs.2 b (mH b o e)).trans (I.base.keep b o e n' hb hx),fun b o e n' hb hx=>?_,I.base.free,fun b o e hx=>?_,I.base.gU,I.base.fD,I.base.gi⟩,
  ⟨_,jq,fun j y v' e1 e2 e3=>?_⟩,fun y c e=>?_,I.free,I.iE,fun p hp=>?_,fun b ob e=>?_,⟨by rw[amG];exact I.len,js i hi σ none I.lk.2⟩⟩
 ·obtain⟨sl,e1⟩:=I.base.slot b o e n' hb hx;exact⟨sl,(hs.2 b (mH b o e)).trans e1⟩
 ·obtain⟨o',e1⟩:=I.base.there b o e hx;exact⟨o',(hs.2 b (mH b o e)).trans e1⟩
 ·have hj:j≠i:=fun z=>by
   subst z;rw[List.getElem?_set] at e2;split at e2
   ·split at e2
    ·cases e2
    ·cases e2
   ·rename_i z;exact z rfl
  rw[amW (amT hj)] at e2;obtain⟨u',r',q⟩:=hlk j y v' e1 e2 e3;refine⟨u',r',?_⟩
  rcases q with⟨k,e⟩ | ⟨k,c,e,z⟩
  ·refine .inl ⟨k,?_⟩;have:y≠n:=fun e=>hj (B7 hN e1 (e▸hi))
   simp[this,e]
  ·exact .inr ⟨k,c,e,z.sameBut hs (I.mF y c e)⟩
 ·obtain⟨w',z⟩:=I.cell y c e;exact⟨w',z.sameBut hs (I.mF y c e)⟩
 ·obtain⟨e,n',ne,nf,d⟩:=I.pin p hp;exact⟨(hs.2 p.1 ne).trans e,n',ne,nf,d⟩
 ·refine(I.aM b ob e).jP (fun c w' hc q=>(hs.2 c ?_).trans q) (fun _ q=>q) fun _ _ q=>q
  rintro rfl
  rcases hc with rfl | hc
  ·rw[I.free] at e;cases e
  ·rw[I.free] at hc;cases hc
noncomputable def Fl.wo(i:Nat):Fl->Fl
 | .nx σ=>.nx (σ.set i none)
 | .bk σ=>.bk (σ.set i none)
 | .ct σ=>.ct (σ.set i none)
 | .rt w=>.rt w
noncomputable def wm(m:Mo α):Mo α:=fun ph=>match m ph with
 | .ok a ph'=>.ok a ph'
 | _=>.no
theorem bc.len{K:acs}{φ:Nat->Addr}{n:Nat}{H:Hp}:∀{ws:aT} {vs:L2.St},bc K φ n H ws vs->ws.length=vs.length
 | _,_,.nil=>rfl
 | _,_,.sm _ r=>by rw[alA,alA,bc.len r]
 | _,_,.nn r=>by rw[alA,alA,bc.len r]
theorem bc.none{K:acs}{φ:Nat->Addr}{n:Nat}{H:Hp}:∀(vs:L2.St),bc K φ n H (alj vs.length aqQ) vs
 | []=>.nil
 | _::vs=>.nn (bc.none vs)
theorem bc.unset{K:acs}{φ:Nat->Addr}{n:Nat}{H:Hp}:∀{ws:aT} {vs:L2.St} (i:Nat) {o:Option V},bc K φ n H ws vs->bc K φ n H (ws.set i aqQ) (vs.set i o)
 | _,_,_,_,.nil=>.nil
 | _,_,0,_,.sm _ r=>.nn r
 | _,_,0,_,.nn r=>.nn r
 | _,_,i+1,_,.sm h r=>.sm h (bc.unset i r)
 | _,_,i+1,_,.nn r=>.nn (bc.unset i r)
structure zH(K:acs)(D:Addr):Prop where
 ek:fF K D
 ty:anM K (.ref D)=some (.type "type")
theorem oZ(ha:H a=none):Step K φ n H φ n (upd H a o):=by
 refine⟨ali _,fun _ _=>rfl,fun c xs h=>?_,fun c ob u h=>by rw[bw (fun z=>by rw[z,ha] at h;cases h)];exact h⟩;rw[bw (fun z=>by rw[z,ha] at h;cases h)];exact h
noncomputable def gV(K:acs)(D:Addr)(tb:List (Str×Bool)):Prop:=
 ∀c b,tb.lookup c=some b->∃C,ale K alc c=some (some (.ref C))/\amS K (.ref C) (.ref D)=some b
theorem gV.nil{D:Addr}:gV K D []:=fun c b e=>by cases e
theorem gV.cons{D:Addr}{tb:List (Str×Bool)}{c:Str}(h1:ale K alc c=some (some (.ref C)))(h3:amS K (.ref C) (.ref D)=some b)(h:gV K D tb) :
  gV K D ((c,b)::tb):=fun c' b' e=>by
 rw[alC] at e;split at e
 ·rename_i q;cases e;rw[beq_iff_eq] at q;subst q;exact⟨C,h1,h3⟩
 ·exact h c' b' e
theorem yN(h:aS K φ ph H)(ha:H a=none):aS K φ ph (upd H a o):=
 ⟨fun i p e=>by
  obtain⟨x,hx,_⟩:=h.at (alf.mp e).1;exact(h.hp i p e).mono (oZ ha) (bw fun z=>by rw[z,ha] at hx;cases hx),h.inj,fun p hm=>(h.tb p hm).new ha⟩
section
variable{X:Cx}
theorem aez{pn':List (Addr×Obj)}{E:Value->ald->Prop}{x:XC}{φ:Nat->Addr}{k:Nat}{H':Hp}{e:Value}{s':ald}(hh:X.calm=true->X.A.handled=none)(h:mP (eG X X.A pn' E X.calm) φ k x H' e s'):mP (eG X X.A pn' X.xe X.calm) φ k x H' e s':=by
 obtain⟨C,dd,hm,hf,h⟩:=h;refine⟨C,dd,hm,hf,?_⟩
 rcases h with⟨pins,σ,s,h',a,e1,e2,I,hx⟩ | ⟨pins,σ,H,s,I,h⟩
 ·exact .inl ⟨pins,σ,s,h',a,e1,e2,uF (X:=eG X X.A pn' E X.calm) I rfl hh fun _ z=>z,hx⟩
 ·exact .inr ⟨pins,σ,H,s,uF (X:=eG X X.A pn' E X.calm) I rfl hh fun _ z=>z,h⟩
variable{body jN:List Stmt}{j5:Stmt}{c n:Str}{i:Nat}{tb:List (Str×Bool)}{D:Addr}{np nW pos:Pos}{mb mh:SM}
end
theorem cF{w:World}{mg:Str->Option Value}{base:Heap}{x qual:Str}{st:Stmt}{f:Addr}{fd:alM}{N ps:List Str}{k np:Nat}{body:SM}(hn:N.length=n)(hp:ps.length=np)(F:cw K x qual st f fd)(S:ck N ps (ak st))
  (uX:∀{X:Cx},X.prog=P->X.w=w->X.K=K->X.mg=mg->X.base=base->Bd X N (ak st) k->b6 X->X.env.scope=ak st->JB X (a9 st) body):bK P w K mg base (bF P w) (k+1) f fd ps (bY K mg np (fM body n np)):=by
 subst hn hp;exact agH F S fun bX A outer s H E hr=>(uX (X:=jS (bF P w) P w K mg base N qual (ak st) f bX A outer s H E) rfl rfl rfl rfl rfl ⟨⟨⟨rfl,fun _ z=>z,fun _ z=>z,fun _ z=>z,fun _ _=>⟨.inl rfl,fun _ _ _ _ _=>trivial⟩,S.nd⟩,rfl,hr⟩,PassesOwn.leaving⟩ ⟨rfl,rfl,rfl⟩ rfl).h
theorem UU:amo "ValueError"=some (.type "ValueError"):=by kernel_rfl
noncomputable def pR(K:acs)(b:Addr):Bool:=(kS K).any fun p=>p.2.2==b
theorem Ka{b:Addr}(h:pR K b=true):∃p∈kS K,p.2.2=b:=by
 obtain⟨p,h1,h2⟩:=aqa.mp h;exact⟨p,h1,eq_of_beq h2⟩
theorem abt{p:Str×Addr×Addr}(h:p∈kS K):pR K p.2.2=true:=aqa.mpr ⟨p,h,beq_self_eq_true _⟩
noncomputable def H0(K:acs)(a:Addr)(o:Obj)(xs:List V):Hp:=fun b=>if pR K b=true then some (.iP #[]) else if b=a/\K.lookup a=none then some (.bE o (.lst xs)) else none
section
variable{Pg:amb}{w:World}{K:acs}{mg mb:Str->Option Value}{k:Nat}{fa a:Addr}{fd:alM}{x:Str}{bO:ald}{vs:List Value}{ns:List Int}{fm:List W->Mo W}
theorem ac6(KX:K.In bO.heap)(bM:bO.heap.Ns alc mg)(hb:bO.heap.Ns aoY mb)(AI:∀x:Str,x≠"__name__"->mb x=amo x)(akh:bO.heap.NoLimit)
  (hbm:∃bm ob,mg "__builtins__"=some (.ref bm)/\bm≠aoY/\bO.heap.get? bm=some ob/\ob.cls=.type "module"/\ob.dict=some aoY/\ob.data=.plain) (hg:bO.gens= #[])
  (hT:∀p∈kS K,apz bO.heap p.2.1 p.2.2/\bO.heap.get? p.2.2=some (anN #[])) (hK:aqN K=true)
  (ha:bO.heap.get? a=some { cls:=.type "list",data:=.seq vs.toArray }) (hi:IntsAre vs ns) (hl:ns.length<=63) (hr:cQ k callerA)
  (F:∀base:Heap,K.In base->base.Ns alc mg->bK Pg w K mg base (bF Pg w) k fa fd [x] (bY K mg 1 fm)) (aiZ:∀(s:ald) (u:Value),BindsTo s fd ⟨[u],[]⟩ [(x,u)])
  (good:∃ph',fm [.fl (ns.map W.int)] []=.ok (.bl true) ph') :
  apv (model Pg w) callerA (.call (.ref fa) ⟨[.ref a],[]⟩) (fun r s'=>r=.ok (.ret (.bool true))/\OldK bO.heap s'.heap/\s'.os=bO.os/\apN s'.gens) bO:=by
 have rv:=Jb hi;have aki:=hi.length;have fH:ns.length<=sizeLine:=alT hl (by decide);have tabOf:∀{b:Addr},pR K b=true->bO.heap.get? b=some (anN #[]):=fun h=>by
  obtain⟨p,h1,rfl⟩:=Ka h;exact(hT p h1).2
 have free:∀{b:Addr} {o:Obj},bO.heap.get? b=some o->o≠anN #[]->(b=a->K.lookup a≠none)->H0 K a { cls:=.type "list",data:=.seq vs.toArray } (ns.map V.int) b=none:=fun{b o} e n1 n2=>by
  unfold H0;rw[if_neg (fun h=>n1 (amm (e.symm.trans (tabOf h)))),if_neg (fun h=>n2 h.1 h.2)]
 have DA:∀{b:Addr} {o:Obj},bO.heap.get? b=some o->o.cls≠.none->o.cls≠.type "list"->H0 K a { cls:=.type "list",data:=.seq vs.toArray } (ns.map V.int) b=none:=fun{b o} e n1 n2=>free e (fun z=>n1 (by rw[z])) fun z=>by
  subst z;rw[ha] at e;cases e;exact absurd rfl n2
 have DB:∀{b:Addr} {o:Obj} {es:Array DictEntry} {ep:Nat},bO.heap.get? b=some o->o.data=.dict es ep->H0 K a { cls:=.type "list",data:=.seq vs.toArray } (ns.map V.int) b=none:=fun{b o es ep} e d=>free e (fun z=>by rw[z] at d;cases d) fun z=>by
  subst z;rw[ha] at e;cases e;have d':Data.seq vs.toArray _=Data.dict es ep:=d;cases d'
 have na:pR K a=false:=by
  cases q:pR K a with
  | false=>rfl
  | true=>have:=tabOf q;rw[ha] at this;cases this
 revert free DA DB
 generalize eH:H0 K a { cls:=.type "list",data:=.seq vs.toArray } (ns.map V.int)=H;intro free DA DB;have Mj:∀b u,H b=some u->(pR K b=true/\u=.iP #[])\/(b=a/\u=.bE { cls:=.type "list",data:=.seq vs.toArray } (.lst (ns.map V.int))):=fun b u e=>by
  rw[<- eH] at e;unfold H0 at e;split at e
  ·rename_i h;cases e;exact .inl ⟨h,rfl⟩
  ·split at e
   ·rename_i h;cases e;exact .inr ⟨h.1,rfl⟩
   ·cases e
 have aM:cC Pg w H bO.heap:=fun b u e=>by
  rcases Mj b u e with⟨h,rfl⟩ | ⟨rfl,rfl⟩
  ·exact tabOf h
  ·exact⟨ha,by rw[alg];exact fH,vs,_,rv,ha⟩
 have tb:∀p∈kS K,nQ H p.1 p.2.2:=fun p hp=>⟨#[],by rw[<- eH];exact if_pos (abt hp),trivial,fun pos v e=>nomatch e⟩
 have hS:Aa K H a (ns.map V.int):=by
  cases q:K.lookup a with
  | some o=>
   have e:=KX a o q;rw[ha] at e;cases e;exact .inr ⟨_,vs.toArray,_,q,rfl,rfl,rfl,by rw[alq,aki];exact fH,by simpa using rv⟩
  | none=>exact .inl ⟨_,by rw[<- eH];unfold H0;rw[if_neg (by rw[na];simp),if_pos ⟨rfl,q⟩]⟩
 have mV:∀{b:Addr} {o:Obj},bO.heap.get? b=some o->H b=none->(mf bO.heap H).get? b=some o:=fun e n=>acG e n
 have AO:∀{b:Addr} {m:Str->Option Value},bO.heap.Ns b m->(mf bO.heap H).Ns b m:=fun{b m} ⟨o,es,ep,e,d,r⟩=>⟨o,es,ep,mV e (DB e d),d,r⟩
 have Pw:K.In (mf bO.heap H):=fun b o e=>mV (KX b o e) (free (KX b o e) (fun z=>by
  have h2:=amw.mp hK (b,o) (PySem.W.mem_of_lookupK e);subst z;exact absurd (show false=true from h2) alK) fun z q=>by rw[<- z,e] at q;cases q)
 have hM:Mod K mg (mf bO.heap H):=⟨Pw,AO bM,⟨mb,AO hb,AI⟩,let ⟨mc,h1,h2⟩:=akh;⟨mc,AO h1,h2⟩,
  let ⟨bm,ob,b1,b2,b3,b4,b5⟩:=hbm;⟨bm,ob,b1,b2,mV b3 (DA b3 (by rw[b4];exact fun z=>nomatch z) (by rw[b4];exact fun z=>absurd (Value.type.inj z) (by decide))),b4,b5⟩⟩
 have e0:pX Pg w K mg (mf bO.heap H) callerA [] bO H:=⟨rfl,hM,fun b o e=>adM e,apm (aa3 _ _),trivial,fun b hb=>absurd (show b∈([]:List Addr) from hb) (by simp),aM,.of_eq hg⟩
 obtain⟨ph',eg⟩:=good;refine aoK ((F _ Pw (AO bM)).run callerA [] bO H ⟨[.ref a],[]⟩ [.ref a] [.ref a] (fun v _=>v=.bl true) (fun _ _ _=>False) hr e0 (aiZ bO (.ref a)) (.cons rfl .nil)
  ⟨rfl,fun _=>0,[],[.fl (ns.map W.int)],⟨fun i o e=>by simp at e,fun i j hi=>absurd hi (by simp),tb⟩,.cons (.fl hS (La ns)) .nil,?_⟩) fun r s' h=>?_
 ·rw[eg];intro av H' v _ _ r;cases r;rfl
 ·cases r with
  | error e=>obtain⟨_,_,_,_,z⟩:=h;exact z.elim
  | ok fl=>
   cases fl with
   | next=>exact anc h
   | brk=>exact anc h
   | cont=>exact anc h
   | ret u=>
    obtain⟨v,H',os,bare,un,Om,r',q⟩:=h;have q':v=.bl true:=q;subst q';obtain rfl:u=aro true:=r';refine⟨rfl,⟨fun b o e=>?_,fun b o e=>un.there b o e (by simp)⟩,os,bare⟩;cases q:H b with
    | none=>exact .inl (un.keep b o e q (fun z=>absurd (show b∈([]:List Addr) from z) (by simp)) (by simp))
    | some u=>
     rcases Mj b u q with⟨h1,rfl⟩ | ⟨rfl,rfl⟩
     ·obtain⟨more,z⟩:=un.gi b _ q;have e2:s'.heap.get? b=some (anN (#[]++more)):=Om b _ z;obtain⟨p,hp,rfl⟩:=Ka h1;have e3:=(hT p hp).2;rw[e] at e3;cases e3;exact .inr (.inl ⟨((hT p hp).1.tab (hT p hp).2).isCodeTable,rfl,#[],more,rfl,e2⟩)
     ·obtain⟨e2,_⟩:=Om _ _ (un.fD _ _ _ q);rw[ha] at e;cases e;exact .inl e2
end
theorem aeA{l:aqs}{q:amb}{loose:List Str}{XP:(Str->Option Value)->Heap->Prop}{YP:World->Heap->Prop}{d:DefRec}{K:Params->acs}{x:Str}{fm:List W->Mo W}(k:Nat)
  (good:∀ns:List Int,ns.length<=63->∃ph',fm [.fl (ns.map W.int)] []=.ok (.bl true) ph') (hn:l.most=some 63) (vU:d.params.defaults=[]) (hr:cQ k callerA) (hY:∀(w:World) (h:Heap),YP w h->(K w.params).In h)
  (hK:∀w:World,aqN (K w.params)=true) (hT:∀(w:World) (h:Heap),YP w h->∀p∈kS (K w.params),apz h p.2.1 p.2.2/\h.get? p.2.2=some (anN #[]))
  (F:∀(w:World) (mg:Str->Option Value) (fa:Addr) (h:Heap),(K w.params).In h->h.Ns alc mg->mg d.name=some (.ref fa) →
   ∃fd:alM,(∀(s:ald) (u:Value),BindsTo s fd ⟨[u],[]⟩ [(x,u)])/\∀base:Heap,(K w.params).In base->base.Ns alc mg->bK l.prog w (K w.params) mg base (bF l.prog w) k fa fd [x] (bY (K w.params) mg 1 fm)) :
  PySem.W.WalkO q loose XP YP l.row.toRowW d [] (fun f vs=>PySem.call f vs):=by
 refine O9.YB hn vU fun w aQ bO mg mb fa o pm cd doc a vs ns G Y ho hd hcd hmg pY Dv b7 hg=>?_
 have KX:=hY w _ Y;obtain⟨fd,hb,hF⟩:=F w mg fa _ KX G.T.g hmg;exact ac6 KX G.T.g G.T.b G.T.builtins G.T.nolimit G.T.bmain hg (hT w _ Y) (hK w) pY Dv b7 hr hF hb (good ns b7)
noncomputable def AQ:W->Option Bool
 | .bl b=>some b
 | _=>none
noncomputable def tf(w:W)(ph:PH):Option (List Bool):=if eL w ph=true then(c7 w ph).bind (bW AQ) else none
noncomputable def ak2:List W->Po W:=fun xs ph=>match xs with
 | [w]=>(tf w ph).map fun bs=>(.bl (bs.any id),ph)
 | _=>none
noncomputable def lj:List W->Po W:=fun xs ph=>match xs with
 | [w]=>(tf w ph).map fun bs=>(.bl (bs.all id),ph)
 | _=>none
section
variable{X:Cx}
theorem aeB(bs:List Bool):((anj bs.length).all fun i=>(bs[i]?).getD true)=bs.all id:=by
 rw[Bool.eq_iff_iff,amw,amw];constructor
 ·intro h b hb;obtain⟨i,hi,q⟩:=aqS hb;have:=h i (apt.mpr hi);simp only[amV hi,aqb,q] at this;exact this
 ·intro h i hi;have hi:=apt.mp hi;simp only[amV hi,aqb];exact h _ (List.getElem_mem hi)
theorem ac7{h h':Heap}{o:Obj}(hk:∀b x,b∉[h.objs.size]->(h.push o).get? b=some x->h'.get? b=some x):∀b x,h.get? b=some x->h'.get? b=some x:=
 fun b x e=>hk b x (fun hm=>by rw[aly.mp hm] at e;exact amX _ (alp e)) (alb _ e)
theorem BQ(hc:X.calm=true):cW X (.builtin "all") (fun xs H Q=>∃p,∃bs:List Bool,xs=[.ref p]/\bL X.K H p (bs.map V.bl)/\Q (.bl (bs.all id)) H):=by
 intro pins s σ H xs us Q I r h;obtain⟨p,bs,rfl,hq,q⟩:=h;obtain⟨u,rfl,rx⟩:=vals1 r;cases rx;obtain⟨its,r',pl,hz⟩:=I.list hq;have b7:=r'.length;rw[alg] at b7;have Fi:p<s.heap.objs.size:=by obtain⟨_,e,_⟩:=pl.isList;exact alp e
 refine call_all_walk (wpAny_pyIter_list pl.isList ?_);refine⟨s.heap.objs.size,[s.heap.objs.size,p],[s.heap.objs.size],its.toArray.size,_,_,fun i=>(bs[i]?).getD true,rfl,Walks.list (A:=X.A.in1) (I.ok.hd hc) _ p (alV Fi) its.toArray,
  ⟨⟨_,alG _ rfl,rfl,rfl⟩,pl.isList.push _⟩,fun i v s' Q' E' hP hQ=>?_,fun h' tk hk=>?_⟩
 ·have hP:its[i]? =some v:=by simpa using hP
  have hi:i<bs.length:=by rw[b7];exact(alf.mp hP).1
  obtain⟨u,hu,ru⟩:=r'.get (i:=i) (x:=.bl bs[i]) (by simp[hi]);rw[hP] at hu;cases hu;have ru:v=.bool bs[i]:=ru;subst ru;simp only[amV hi,aqb] at hQ;exact amA hQ
 ·rw[alq,<- b7,aeB];exact⟨.bl _,H,I.kept (ac7 hk),rfl,q⟩
theorem CD{K:acs}{φ:Nat->Addr}{n:Nat}{H:Hp}:∀{ws:List W} {vs:List V} {bs:List Bool},bi K φ n H ws vs->bW AQ ws=some bs->vs=bs.map V.bl
 | _,_,_,.nil,e=>by cases e;rfl
 | w::ws,_,bs,.cons h r,e=>by
  unfold bW at e;split at e
  ·rename_i b bs' e1 e2;cases e;have q:=CD r e2;unfold AQ at e1;cases h <;> cases e1
   rw[q];rfl
  ·cases e
theorem ac8{K:acs}{φ:Nat->Addr}{ph:PH}{H:Hp}{w:W}{v:V}{bs:List Bool}(hH:aS K φ ph H)(r:aX K φ ph.length H w v)(e:tf w ph=some bs):∃p,v=.ref p/\bL K H p (bs.map V.bl):=by
 unfold tf at e;split at e
 ·rename_i hL;cases r with
  | ref hi=>
   unfold eL at hL;simp only at hL;split at hL
   ·rename_i ws hw;obtain⟨vs,hv,rs⟩:=hH.hp _ _ hw;simp only[c7,hw,amv] at e;rw[CD rs e] at hv;exact⟨_,rfl,bL.of hv⟩
   ·cases hL
  | fl h rs=>
   simp only[c7,amv] at e;have q:=CD rs e;subst q;exact⟨_,rfl,h.sq⟩
  | _=>cases hL
 ·cases e
theorem C8{K:acs}:ji K (fun xs H Q=>∃p,∃bs:List Bool,xs=[.ref p]/\bL K H p (bs.map V.bl)/\Q (.bl (bs.all id)) H) lj:=by
 intro φ ph H xs vs w ph' Q hH r e k;unfold lj at e;split at e
 ·rename_i x;cases q:tf x ph with
  | none=>rw[q] at e;cases e
  | some bs=>
   rw[q] at e;cases e;cases r with
   | cons r r'=>
    cases r';obtain⟨p,rfl,hs⟩:=ac8 hH r q;exact⟨p,bs,rfl,hs,k φ H _ hH Step.refl (.bl _)⟩
 ·cases e
end
noncomputable def zI(w:W):Po (List W×(PH->Bool)):=fun ph=>match w with
 | .tup ws=>some ((ws,fun _=>true),ph)
 | w=>nS w ph
noncomputable def er(m:EM):IM:=fun σ=>aA (m σ) fun w=>lift (zI w)
variable{m:EM}
theorem ai0{σ:L2.St}{R:It->Hp->Prop}(h:tI X (er m) σ H R):tI X (Ad m) σ H R\/tI X (Dy m) σ H R:=by
 obtain⟨φ,ph,ws,hH,hS,h⟩:=h;unfold er at h;rw[cV] at h;cases q:m ws ph with
 | no=>rw[q] at h;exact h.elim
 | ex x ph'=>
  refine .inl ⟨φ,ph,ws,hH,hS,?_⟩;unfold Ad;rw[cV,q];rw[q] at h;exact h
 | ok w ph'=>
  rw[q] at h;have h:(lift (zI w) ph').Run _ _:=h;by_cases hw:∃us,w=.tup us
  ·obtain⟨us,rfl⟩:=hw;refine .inr ⟨φ,ph,ws,hH,hS,?_⟩;unfold Dy;rw[cV,q];exact h
  ·refine .inl ⟨φ,ph,ws,hH,hS,?_⟩;unfold Ad;rw[cV,q];have e:zI w=nS w:=by
    funext p
    cases w <;> first | rfl | exact absurd ⟨_,rfl⟩ hw
   rw[e] at h;exact h
theorem pv{tg e:Expr}(hl:JE X e m):JI X tg e (er m):=⟨by
 intro pins s σ H R I h
 rcases ai0 h with h | h
 ·exact aed hl.h pins s σ H R I h
 ·exact agD hl.h pins s σ H R I h⟩
section
variable{X:Cx}{pins:List (Addr×Obj)}{σ:L2.St}{H:Hp}{s:ald}{h':Heap}
theorem Lf{t':Nat}{fp:List Addr}{T:Addr}{o:HO}(I:Inv X pins σ H s)(k:∀b u,b∉fp->s.heap.get? b=some u->h'.get? b=some u)(hf:∀b∈fp,jR X pins H b)(hp:s.heap.objs.size<=T)
  (new:de X.prog X.w (upd H T o) h' T o):Inv X pins σ (upd H T o) { s with heap:=h',toks:=t' }:=by
 have hn:=I.aM.fresh hp;have neT:∀b u,s.heap.get? b=some u->b≠T:=fun b u e=>alV (alB (alp e) hp)
 have n6:∀b u,H b=some u->b∉fp:=fun b u e z=>by rw[(hf b z).1] at e;cases e
 refine I.step (g':=s.gens) (d':=s.drawn) (ch:=fp) (fun b hb=>?_) (fun b u _ _ hc e _=>k b u hc e) (fun b u _ _ hc e _=>⟨u.slots,k b u hc e⟩) (fun b u _ e n=>by rw[bw (neT b u e)];exact n)
  (fun b u hc e=>⟨u,k b u hc e⟩) (fun b xs e=>by rw[bw (fY e hn)];exact e) (fun b u v e=>by rw[bw (fY e hn)];exact e) (fun b ps e=>⟨#[],by rw[bw (fY e hn),e];simp⟩) (fun m hm=>?_) (fun b u e=>?_) I.bare
 ·obtain⟨_,f1,_,f3,f4,f5⟩:=hf b hb;exact⟨f3,f1,f4,f5⟩
 ·obtain⟨u,es,ep,ho,r⟩:=hm;exact⟨u,es,ep,k _ u (fun z=>(hf _ z).2.1 rfl) ho,r⟩
 ·by_cases hb:b=T
  ·subst hb;rw[bP] at e;cases e;exact new
  ·rw[bw hb] at e;refine(I.aM b u e).jP (fun c v hc q=>k c v ?_ q) (fun c q=>by rw[bw (fY q hn)];exact q) fun c xs q=>by rw[bw (fY q hn)];exact q
   rcases hc with z | z
   ·rw[z];exact n6 b u e
   ·exact n6 c _ z
theorem Lg{t':Nat}{fp:List Addr}(I:Inv X pins σ H s)(k:∀b u,b∉fp->s.heap.get? b=some u->h'.get? b=some u)(hf:∀b∈fp,jR X pins H b):Inv X pins σ H { s with heap:=h',toks:=t' }:=by
 have n6:∀b u,H b=some u->b∉fp:=fun b u e z=>by rw[(hf b z).1] at e;cases e
 refine I.step (g':=s.gens) (d':=s.drawn) (ch:=fp) (fun b hb=>?_) (fun b u _ _ hc e _=>k b u hc e) (fun b u _ _ hc e _=>⟨u.slots,k b u hc e⟩) (fun b u _ e n=>n)
  (fun b u hc e=>⟨u,k b u hc e⟩) (fun b xs e=>e) (fun b u v e=>e) (fun b ps e=>⟨#[],by rw[e];simp⟩) (fun m hm=>?_) (fun b u e=>?_) I.bare
 ·obtain⟨_,f1,_,f3,f4,f5⟩:=hf b hb;exact⟨f3,f1,f4,f5⟩
 ·obtain⟨u,es,ep,ho,r⟩:=hm;exact⟨u,es,ep,k _ u (fun z=>(hf _ z).2.1 rfl) ho,r⟩
 ·refine(I.aM b u e).jP (fun c v hc q=>k c v ?_ q) (fun _ q=>q) fun _ _ q=>q
  rcases hc with z | z
  ·rw[z];exact n6 b u e
  ·exact n6 c _ z
end
noncomputable def Px(K:acs)(a:Addr):It:=
 ⟨fun i H=>∃xs x,bL K H a xs/\xs[i]? =some x,fun i H x H'=>∃T y,x=.ref T/\H T=none/\H'=upd H T (.tup [.int i,y])/\∀xs,bL K H a xs->xs[i]? =some y,fun i H=>∃xs,bL K H a xs/\xs.length<=i⟩
variable{j:Nat}
theorem abu{w:World}{iM:List Expr}(a e it:Addr)(Py:e≠it):Turn P w K (.Tuple iM j pos) (Px K a) [e,it] e (fun i h=>(∃old,IsEnum h e it (i:Int) old)/\h.IsListIter it a i) where
 mem:=by simp
 obj:=fun i h st b hb=>by
  obtain⟨⟨old,he⟩,o,e1,c,d⟩:=st
  rcases alD.mp hb with rfl | hb
  ·exact⟨_,he,fun v z=>by cases z⟩
  ·have:b=it:=by simpa using hb
   subst this;exact⟨o,e1,fun v z=>by rw[d] at z;cases z⟩
 keep:=fun i h h' st k=>⟨let ⟨old,he⟩:=st.1;⟨old,k e (by simp) _ he⟩,st.2.at fun o q=>k it (by simp) o q⟩
 item:=by
  intro X hP hw hK hc i pins s σ H E I hf st hg;subst hP hw hK;obtain⟨⟨old,he⟩,hit⟩:=st;obtain⟨xs,x,hq,hx⟩:=hg;obtain⟨its,rv,p,hz⟩:=I.list hq;obtain⟨u,hu,ru⟩:=rv.get hx;refine wpAny_pyNext_enum_item he hit p.isList (x:=u) (by simpa using hu) Py fun h1 ho akj hT hsz hk=>⟨_,rfl,?_⟩
  refine wpAny_letOwnedTupleGo_enum ho fun h2 Fm cY=>?_
  have kk:∀b o,b∉[e,it]->s.heap.get? b=some o->h2.get? b=some o:=fun b o hb q=>by
   have Pz:b≠e:=fun z=>hb (by simp[z])
   have hb2:b≠it:=fun z=>hb (by simp[z])
   exact(cY.2 b Pz).trans (hk b o Pz hb2 q)
  have gw:s.heap.objs.size≠e:=ana (alp he);have new:de X.prog X.w (upd H s.heap.objs.size (.tup [.int i,x])) h2 s.heap.objs.size (.tup [.int i,x]):=
   ⟨by show 2<=alz;decide,[.int i s.toks,u],.cons ⟨_,rfl⟩ (.cons ru .nil),_,(cY.2 _ gw).trans hT,rfl,_,rfl⟩
  refine⟨.ref s.heap.objs.size,_,Lf (s:=s) (h':=h2) (t':=s.toks+1) I kk hf (ali _) new,rfl,⟨_,x,rfl,I.aM.fresh (ali _),rfl,fun ys hy=>by rw[I.JM hy hq];exact hx⟩,⟨⟨_,by simpa using Fm⟩,akj.at fun o q=>(cY.2 it Py.symm).trans q⟩,fun b hb=>?_⟩;rw[bw (fun z=>?_)]
  ·exact(hf b hb).1
  ·subst z
   rcases alD.mp hb with z | z
   ·exact gw z
   ·have z:s.heap.objs.size=it:=by simpa using z
    obtain⟨o,e1,_⟩:=hit;exact ana (alp e1) z
 done:=by
  intro X hP hw hK hc i pins s σ H E I hf st hg;subst hP hw hK;obtain⟨⟨old,he⟩,hit⟩:=st;obtain⟨xs,hq,hx⟩:=hg;obtain⟨its,rv,p,hz⟩:=I.list hq;have hl:=rv.length;exact wpAny_pyNext_enum_end (I.ok.hd hc) he hit p.isList (by simp;omega) fun h1 eb=>⟨rfl,Lg (t':=s.toks) I (fun b o hb q=>eb b o (fun z=>hb (by simp[z])) q) hf⟩
 self:=fun _ _ _ _ _ st h=>let ⟨_,he⟩:=st.1;wpAny_pyIter_enum he h
noncomputable def akk(K:acs)(ta:TA):TI:=fun σ H R=>ta σ H fun vs H1=>∃a,vs=[.ref a]/\(∃xs,bL K H1 a xs)/\R (Px K a) H1
variable{p:Pos}
theorem aeC{a:Expr}{ta:TA}{iM:List Expr}{tp:Pos}(hg:Gl X "enumerate")(hm:X.mg "enumerate"=none)(ha:PA X [a] ta)(hs:alI [a] X.env=[(false,eval a X.env)]:=by rfl) :
  PI X (.Tuple iM j tp) (.Call (.Name "enumerate" p) [a] [] pos) (akk X.K ta):=by
 intro pins s σ H R I h;refine Call_ (pA I hg hm PyProof.Rows.boot_enumerate (amD (a8 (ha pos pins s σ H _ I h) fun us s1 ⟨vs,H1,I1,r1,q1⟩=>?_) hs rfl));obtain⟨a,e,⟨xs,hq⟩,q⟩:=q1;subst e;cases r1 with
 | cons r rr=>
  cases rr;cases r;obtain⟨its,rv,pl,hz⟩:=I1.list hq;refine call_enumerate_list pl.isList fun h' he hit hsz hk=>?_
  refine wpAny_pyIter_enum he ?_;have I2:Inv X pins σ H1 { s1 with heap:=h' }:=I1.kept (t':=s1.toks) hk;refine⟨s1.heap.objs.size+1,[s1.heap.objs.size+1,s1.heap.objs.size],_,_,H1,rfl,I2,abu a _ _ (Nat.succ_ne_self _),⟨⟨_,by simpa using he⟩,hit⟩,fun b hb=>?_,q⟩;have hb:s1.heap.objs.size<=b:=by
   rcases alD.mp hb with rfl | hb
   ·exact aoD _
   ·have:b=s1.heap.objs.size:=by simpa using hb
    exact apm this.symm
  exact I1.sQ hb (I1.aM.fresh hb)
noncomputable def gc(ws:List W):List W:=(anj ws.length).map fun(i:Nat)=>.tup [.int ((i:Nat):Int),ws.getD i .aE]
noncomputable def DC(xs:List W):Po (List W×(PH->Bool)):=fun ph=>match xs with
 | [w]=>(nS w ph).map fun r=>((gc r.1.1,r.1.2),r.2)
 | _=>none
noncomputable def sE(m:AM):IM:=fun σ=>aA (m σ) fun xs=>lift (DC xs)
theorem Ji{w:W}(h:(gc ws)[i]? =some w):∃x,ws[i]? =some x/\w=.tup [.int i,x]:=by
 unfold gc at h;rw[aln] at h;cases q:(anj ws.length)[i]? with
 | none=>rw[q] at h;cases h
 | some k=>
  rw[q] at h;obtain⟨hi,e⟩:=alf.mp q;rw[app] at e;subst e;rw[apJ] at hi;cases h;exact⟨ws[i],by simp[hi],by simp[hi]⟩
theorem Iu(h:(gc ws)[i]? =none):ws.length<=i:=by
 unfold gc at h
 simpa using h
theorem aeD{a:Expr}{am:AM}{iM:List Expr}{tp:Pos}(hg:Gl X "enumerate")(hm:X.mg "enumerate"=none)(ha:IA X [a] am)(hs:alI [a] X.env=[(false,eval a X.env)]:=by rfl) :
  II X (.Tuple iM j tp) (.Call (.Name "enumerate" p) [a] [] pos) (sE am):=by
 refine PI.imp (aeC hg hm ha hs) fun σ H R h=>?_
 obtain⟨φ,ph,ws,hH,hS,h⟩:=h;refine tA.bind hH hS h fun xs ph1 aC H1 vs aF s1 r1 h=>?_
 obtain⟨r,ph',e,k⟩:=run_lift h;unfold DC at e;split at e
 ·rename_i w;cases r1 with
  | cons r1 rr=>
   cases rr;unfold nS at e;cases r1 with
   | ref hi=>
    rename_i i;simp only at e;cases q:ph1[i]? with
    | none=>rw[q] at e;cases e
    | some o=>
     cases o with
     | dR _=>rw[q] at e;cases e
     | obj _ _=>rw[q] at e;cases e
     | qp _=>rw[q] at e;cases e
     | AH _=>rw[q] at e;cases e
     | lst items=>
      rw[q] at e;simp only[alS] at e;cases e;obtain⟨vs,hv,r⟩:=aF.hp _ _ q;refine⟨_,rfl,⟨vs,bL.of hv⟩,k aC H1 _ aF s1 ?_⟩;intro bg ph2 H2 bj s2 hc j;have n8:ph2[i]? =some (.lst items):=of_decide_eq_true hc;obtain⟨us,hu,ru⟩:=bj.hp _ _ n8;rw[s2.eq i hi] at hu;refine⟨fun w dG=>?_,fun hn=>?_⟩
      ·obtain⟨x,hx,rfl⟩:=Ji dG;obtain⟨u,eu,mS⟩:=ru.get hx;refine⟨⟨us,u,bL.of hu,eu⟩,fun y gx hy=>?_⟩;obtain⟨T,z,rfl,hT,rfl,hy⟩:=hy;have:=hy us (bL.of hu);rw[eu] at this;cases this;exact⟨bj.tup hT,f7 hT,.tup bP (.cons (.int _) (.cons (mS.mono (f7 hT)) .nil))⟩
      ·refine⟨us,bL.of hu,?_⟩;rw[<- ru.length];exact Iu hn
   | fl hq r=>
    simp only[alS] at e;cases e;refine⟨_,rfl,⟨_,hq.sq⟩,k aC H1 _ aF s1 ?_⟩;intro bg ph2 H2 bj s2 hc j;have h2:=aX.mono s2 (.fl hq r);cases h2 with
    | fl h2 r2=>
     refine⟨fun w dG=>?_,fun hn=>?_⟩
     ·obtain⟨x,hx,rfl⟩:=Ji dG;obtain⟨u,eu,mS⟩:=r2.get hx;refine⟨⟨_,u,h2.sq,eu⟩,fun y gx hy=>?_⟩;obtain⟨T,z,rfl,hT,rfl,hy⟩:=hy;have:=hy _ h2.sq;rw[eu] at this;cases this;exact⟨bj.tup hT,f7 hT,.tup bP (.cons (.int _) (.cons (mS.mono (f7 hT)) .nil))⟩
     ·refine⟨_,h2.sq,?_⟩;rw[<- r2.length];exact Iu hn
   | _=>cases e
 ·cases e
theorem aeE{a:Expr}{am:AM}{iM:List Expr}{tp:Pos}(hg:Gl X "enumerate")(hm:X.mg "enumerate"=none)(hn:isStar a=false)(ha:JA X [a] am) :
  JI X (.Tuple iM j tp) (.Call (.Name "enumerate" p) [a] [] pos) (sE am):=⟨aeD hg hm ha.h (dB hn)⟩
theorem BZ{e:Expr}{gens:List Comprehension}{scope:Scope}{pos':Pos}{x:Str}{line:Nat}(hk:env.scope.kind=.function)(hx:env.scope.names.lookup x=some .local)(hl:(pos'.line==p.line)=true)
  (hn:(scope.names.any fun y=>y.1==x&&(y.2==.local||y.2==.cell))=false):anl (.ListComp e gens scope p) (some (.Name x pos')) line env=pure true:=by
 have e1:(env.kindOf x==some .local)=true:=by unfold Env.kindOf;rw[hx];rfl
 have e2:(env.blockKind==.function)=true:=by unfold Env.blockKind;rw[hk];rfl
 show pure (env.blockKind==.function&&env.kindOf x==some .local&&pos'.line==p.line&& !(scope.names.any fun y=>y.1==x&&(y.2==.local||y.2==.cell)))=_;rw[e1,e2,hl,hn];rfl
noncomputable def newD:Po W:=fun ph=>some (.ref ph.length,ph++[.dR []])
noncomputable def vE:EM:=fun _=>lift newD
theorem ac9{p:Addr}(hH:aS K φ ph H)(hp:H p=none) :
  aS K (ext φ ph.length p) (ph++[.dR []]) (upd H p (.dK []))/\Step K φ ph.length H (ext φ ph.length p) (ph++[PO.dR []]).length (upd H p (.dK []))/\aX K (ext φ ph.length p) (ph++[PO.dR []]).length (upd H p (.dK [])) (.ref ph.length) (.ref p):=by
 have hl:(ph++[PO.dR []]).length=ph.length+1:=by simp
 rw[hl];have s:=yL (K:=K) (φ:=φ) (n:=ph.length) (o:=HO.dK []) hp;refine⟨hH.new hp (.inl ⟨[],bP,.nil⟩),s,?_⟩;have q:aX K (ext φ ph.length p) (ph.length+1) (upd H p (.dK [])) (.ref ph.length) (.ref (ext φ ph.length p ph.length)):=.ref (amK _);rw[nA] at q;exact q
theorem Ml:JE X (.Dict [] [] pos) vE:=⟨PE.imp acR fun σ H Q h p hp=>by
 obtain⟨φ,ph,ws,hH,hS,h⟩:=h;obtain⟨w,ph',e,k⟩:=run_lift h;cases e;obtain⟨q1,q2,q3⟩:=ac9 hH hp;exact k _ _ _ q1 q2 q3⟩
theorem yO{a b:Key}(h:cf a=cf b):a=b:=by
 cases a <;> cases b <;> simp_all [cf]
theorem yz:∀{a b:List Key},a.map cf=b.map cf->a=b
 | [],[],_=>rfl
 | [],_::_,e=>by simp at e
 | _::_,[],e=>by simp at e
 | x::xs,y::ys,e=>by
  rw[alO,alO] at e;injection e with e1 e2
  rw[yO e1,yz e2]
noncomputable def qe:W->Option Key
 | .int i=>some (.inl i)
 | .str x=>some (.inr x)
 | _=>none
noncomputable def D5:W->Option (List Key)
 | .tup ws=>bW qe ws
 | _=>none
variable{k:Key}
theorem CF{w:W}(h:qe w=some k):w=cf k:=by
 cases w <;> simp only[qe] at h <;> first | (cases h;done) | (cases h;rfl)
theorem Kb:∀{ws:List W} {ks:List Key},bW qe ws=some ks->ws=ks.map cf
 | [],ks,h=>by cases h;rfl
 | w::ws,ks,h=>by
  unfold bW at h;split at h
  ·rename_i b bs e1 e2;cases h;rw[CF e1,Kb e2];rfl
  ·cases h
theorem Lh{w:W}{ks:List Key}(h:D5 w=some ks):w=.tup (ks.map cf):=by
 cases w <;> simp only[D5] at h <;> first | (cases h;done) | rw[Kb h]
theorem DD(r:aX K φ n H (cf k) v):v=kV k:=by
 cases k with
 | inl i=>cases r;rfl
 | inr x=>cases r;rfl
theorem Mm{K:acs}{φ:Nat->Addr}{n:Nat}{H:Hp}:∀{ks:List Key} {vs:List V},bi K φ n H (ks.map cf) vs->vs=ks.map kV
 | [],_,r=>by cases r;rfl
 | k::ks,_,r=>by
  cases r with
  | cons h r=>rw[DD h,Mm r];rfl
theorem Mn{ks:List Key}(r:aX K φ n H (.tup (ks.map cf)) v):∃b,v=.ref b/\H b=some (.tup (ks.map kV)):=by
 cases r with
 | tup h r=>rw[Mm r] at h;exact⟨_,rfl,h⟩
noncomputable def kg(kws:List (W×W))(k:W):Option W:=(kws.find? fun p=>decide (p.1=k)).map (·.2)
noncomputable def l4(kws:List (W×W))(k w:W):List (W×W):=if(kws.any fun p=>decide (p.1=k))=true then kws.map (fun p=>if p.1=k then(p.1,w) else p) else kws++[(k,w)]
noncomputable def nX(K:acs)(φ:Nat->Addr)(n:Nat)(H:Hp):Option W->Option V->Prop
 | none,none=>True
 | some w,some v=>aX K φ n H w v
 | _,_=>False
section
variable{K:acs}{φ:Nat->Addr}{n:Nat}{H:Hp}
theorem ag6{a b:Key}:decide (cf a=cf b)=decide (a=b):=by
 rw[decide_eq_decide];exact⟨yO,fun e=>by rw[e]⟩
theorem aeF{a b:List Key}:decide (W.tup (a.map cf)=W.tup (b.map cf))=decide (a=b):=by
 rw[decide_eq_decide];exact⟨fun e=>yz (W.tup.inj e),fun e=>by rw[e]⟩
theorem cI.val(k:Key):∀{kws:List (W×W)} {kvs:List (Key×V)},cI K φ n H kws kvs->nX K φ n H (kg kws (cf k)) (jT kvs k)
 | _,_,.nil=>trivial
 | _,_,.cons (k:=j) (w:=w) (v:=v) h r=>by
  unfold kg;rw[ang];by_cases e:j=k
  ·rw[decide_eq_true (congrArg cf e),uy (p:=(j,v)) e];exact h
  ·rw[decide_eq_false (fun z=>e (yO z)),uz (p:=(j,v)) e];exact cI.val k r
theorem cK.val(k:List Key):∀{kws:List (W×W)} {kvs:List (List Key×V)},cK K φ n H kws kvs->nX K φ n H (kg kws (.tup (k.map cf))) (jT kvs k)
 | _,_,.nil=>trivial
 | _,_,.cons (k:=j) (w:=w) (v:=v) h r=>by
  unfold kg;rw[ang];by_cases e:j=k
  ·rw[decide_eq_true (by rw[e]),uy (p:=(j,v)) e];exact h
  ·rw[decide_eq_false (fun z=>e (yz (W.tup.inj z))),uz (p:=(j,v)) e];exact cK.val k r
theorem cI.len:∀{kws:List (W×W)} {kvs:List (Key×V)},cI K φ n H kws kvs->kws.length=kvs.length
 | _,_,.nil=>rfl
 | _,_,.cons _ r=>by rw[alA,alA,cI.len r]
theorem cK.len:∀{kws:List (W×W)} {kvs:List (List Key×V)},cK K φ n H kws kvs->kws.length=kvs.length
 | _,_,.nil=>rfl
 | _,_,.cons _ r=>by rw[alA,alA,cK.len r]
theorem cI.any(k:Key):∀{kws:List (W×W)} {kvs:List (Key×V)},cI K φ n H kws kvs->(kws.any fun p=>decide (p.1=cf k))=kvs.any fun p=>decide (p.1=k)
 | _,_,.nil=>rfl
 | _,_,.cons (k:=j) _ r=>by
  rw[amt,amt,cI.any k r];show(decide (cf j=cf k)||_)=(decide (j=k)||_);rw[ag6]
theorem cK.any(k:List Key):∀{kws:List (W×W)} {kvs:List (List Key×V)},cK K φ n H kws kvs->(kws.any fun p=>decide (p.1=.tup (k.map cf)))=kvs.any fun p=>decide (p.1=k)
 | _,_,.nil=>rfl
 | _,_,.cons (k:=j) _ r=>by
  rw[amt,amt,cK.any k r];show(decide (W.tup (j.map cf)=W.tup (k.map cf))||_)=(decide (j=k)||_);rw[aeF]
theorem cI.ki(k:Key){w:W}{v:V}(q:aX K φ n H w v):∀{kws:List (W×W)} {kvs:List (Key×V)},cI K φ n H kws kvs->cI K φ n H (kws.map fun p=>if p.1=cf k then(p.1,w) else p) (kvs.map fun p=>if p.1=k then(p.1,v) else p)
 | _,_,.nil=>.nil
 | _,_,.cons (k:=j) h r=>by
  rw[alO,alO];by_cases e:j=k
  ·rw[if_pos (show cf j=cf k by rw[e]),if_pos (show j=k from e)];exact .cons q (cI.ki k q r)
  ·rw[if_neg (show ¬cf j=cf k from fun z=>e (yO z)),if_neg (show ¬j=k from e)];exact .cons h (cI.ki k q r)
theorem cK.ki(k:List Key){w:W}{v:V}(q:aX K φ n H w v):∀{kws:List (W×W)} {kvs:List (List Key×V)},cK K φ n H kws kvs->cK K φ n H (kws.map fun p=>if p.1=.tup (k.map cf) then(p.1,w) else p) (kvs.map fun p=>if p.1=k then(p.1,v) else p)
 | _,_,.nil=>.nil
 | _,_,.cons (k:=j) h r=>by
  rw[alO,alO];by_cases e:j=k
  ·rw[if_pos (show W.tup (j.map cf)=W.tup (k.map cf) by rw[e]),if_pos (show j=k from e)];exact .cons q (cK.ki k q r)
  ·rw[if_neg (show ¬W.tup (j.map cf)=W.tup (k.map cf) from fun z=>e (yz (W.tup.inj z))),if_neg (show ¬j=k from e)];exact .cons h (cK.ki k q r)
theorem cI.snoc(k:Key){w:W}{v:V}(q:aX K φ n H w v):∀{kws:List (W×W)} {kvs:List (Key×V)},cI K φ n H kws kvs->cI K φ n H (kws++[(cf k,w)]) (kvs++[(k,v)])
 | _,_,.nil=>.cons q .nil
 | _,_,.cons h r=>.cons h (cI.snoc k q r)
theorem cK.snoc(k:List Key){w:W}{v:V}(q:aX K φ n H w v):∀{kws:List (W×W)} {kvs:List (List Key×V)},cK K φ n H kws kvs->cK K φ n H (kws++[(.tup (k.map cf),w)]) (kvs++[(k,v)])
 | _,_,.nil=>.cons q .nil
 | _,_,.cons h r=>.cons h (cK.snoc k q r)
theorem cI.put(k:Key){w:W}{v:V}(q:aX K φ n H w v){kws:List (W×W)}{kvs:List (Key×V)}(r:cI K φ n H kws kvs):cI K φ n H (l4 kws (cf k) w) (putK kvs k v):=by
 unfold l4 putK;rw[r.any k];by_cases e:(kvs.any fun kv=>decide (kv.1=k))=true
 ·rw[if_pos e,if_pos e];exact r.ki k q
 ·rw[if_neg e,if_neg e];exact r.snoc k q
theorem cK.put(k:List Key){w:W}{v:V}(q:aX K φ n H w v){kws:List (W×W)}{kvs:List (List Key×V)}(r:cK K φ n H kws kvs):cK K φ n H (l4 kws (.tup (k.map cf)) w) (putK kvs k v):=by
 unfold l4 putK;rw[r.any k];by_cases e:(kvs.any fun kv=>decide (kv.1=k))=true
 ·rw[if_pos e,if_pos e];exact r.ki k q
 ·rw[if_neg e,if_neg e];exact r.snoc k q
end
section
variable{X:Cx}{pins:List (Addr×Obj)}{σ:L2.St}{H:Hp}{s:ald}{a:Addr}
theorem lU(I:Inv X pins σ H s)(e:H a=some (.dK [])):Inv X pins σ (upd H a (.dT [])) s:=by
 obtain⟨z,hd,vs,rel,o,es,ep,h1,h2,h3,h4,h5,h6⟩:=uY I.aM e;cases rel;have he:es.toList=[]:=by
  generalize es.toList=l at h5;cases h5;rfl
 exact I.write (x:=a) (e:=a) (h':=s.heap) (t':=s.toks) (o:=.dT []) (by rw[e];trivial) (.inl rfl) (fun _ _ _ q=>q) ⟨o,h1⟩ ⟨ant _,hd,[],.nil,o,es,ep,h1,h2,h3,by rw[he];rfl,apA⟩
theorem kW(I:Inv X pins σ H s)(e:H a=some (.dT [])):Inv X pins σ (upd H a (.dK [])) s:=by
 obtain⟨z,hd,xs,rel,o,es,ep,h1,h2,h3,h4,h5,h6⟩:=Dw I.aM e;cases rel;have he:es= #[]:=by
  have:es.toList=[]:=h4
  simpa using this
 subst he;exact I.write (x:=a) (e:=a) (h':=s.heap) (t':=s.toks) (o:=.dK []) (by rw[e];trivial) (.inl rfl) (fun _ _ _ q=>q) ⟨o,h1⟩ ⟨ant _,hd,[],.nil,o,#[],ep,h1,h2,h3,fun x hx=>by simp at hx,.nil,apA⟩
theorem nq{o u:HO}(e:H a=some o):upd (upd H a u) a o=H:=by
 rw[Ct]
 funext b
 unfold upd;split
 ·rename_i q;rw[q,e]
 ·rfl
end
noncomputable def u5(H:Hp)(a:Addr)(y:V)(o:Option V):Prop:=fR H a y o\/(o=none/\((H a=some (.dK [])/\∃(k:List Key) (b:Addr),y=.ref b/\H b=some (.tup (k.map kV)))\/(H a=some (.dT [])/\∃k:Key,y=kV k)))
noncomputable def Nu(H:Hp)(a:Addr)(y v:V)(H':Hp):Prop:=z9 H a y v H'\/(H a=some (.dK [])/\∃(k:List Key) (b:Addr),y=.ref b/\H b=some (.tup (k.map kV))/\H'=upd H a (.dT [(k,v)]))\/(H a=some (.dT [])/\∃k:Key,y=kV k/\H'=upd H a (.dK [(k,v)]))
section
variable{X:Cx}
theorem akT(hu:X.A.units+1<cLine):bI X (ami .In) (fun y x H Q=>∃a o,x=.ref a/\u5 H a y o/\Q (.bl o.isSome) H):=by
 intro pins s σ H y x u v Q I ry rx h;obtain⟨a,o,rfl,g,q⟩:=h;cases rx
 rcases g with g | ⟨rfl,⟨e,k,b,ey,eb⟩ | ⟨e,k,ey⟩⟩
 ·exact DX hu I g ry fun s3 I3=>⟨.bl o.isSome,H,I3,rfl,q⟩
 ·subst ey;have g:fR (upd H a (.dT [])) a (.ref b) none:=.inr ⟨[],k,b,.inl bP,rfl,by rw[bw (nC eb e (fun z=>nomatch z))];exact eb,rfl⟩;exact DX hu (lU I e) g ry fun s3 I3=>⟨.bl false,H,by have:=kW I3 bP;rwa [nq e] at this,rfl,q⟩
 ·subst ey;have g:fR (upd H a (.dK [])) a (kV k) none:=.inl ⟨[],k,.inl bP,rfl,rfl⟩;exact DX hu (kW I e) g ry fun s3 I3=>⟨.bl false,H,by have:=lU I3 bP;rwa [nq e] at this,rfl,q⟩
theorem aeG(hu:X.A.units+1<cLine):bI X (ami .NotIn) (fun y x H Q=>∃a o,x=.ref a/\u5 H a y o/\Q (.bl (!o.isSome)) H):=by
 intro pins s σ H y x u v Q I ry rx h;obtain⟨a,o,rfl,g,q⟩:=h;cases rx
 rcases g with g | ⟨rfl,⟨e,k,b,ey,eb⟩ | ⟨e,k,ey⟩⟩
 ·exact Cy hu I g ry fun s3 I3=>⟨.bl (!o.isSome),H,I3,rfl,q⟩
 ·subst ey;have g:fR (upd H a (.dT [])) a (.ref b) none:=.inr ⟨[],k,b,.inl bP,rfl,by rw[bw (nC eb e (fun z=>nomatch z))];exact eb,rfl⟩;exact Cy hu (lU I e) g ry fun s3 I3=>⟨.bl true,H,by have:=kW I3 bP;rwa [nq e] at this,rfl,q⟩
 ·subst ey;have g:fR (upd H a (.dK [])) a (kV k) none:=.inl ⟨[],k,.inl bP,rfl,rfl⟩;exact Cy hu (kW I e) g ry fun s3 I3=>⟨.bl true,H,by have:=lU I3 bP;rwa [nq e] at this,rfl,q⟩
theorem set_dict(hu:X.A.units+1<cLine):nK X (fun o i v H Q=>∃a H',o=.ref a/\Nu H a i v H'/\Q H'):=by
 intro pins s σ H o i v ov iv u Q I ro ri rv h;obtain⟨a,H',rfl,g,q⟩:=h;cases ro
 rcases g with g | ⟨e,k,b,ey,eb,eH⟩ | ⟨e,k,ey,eH⟩
 ·exact BW hu I g ri rv fun s3 I3=>⟨H',I3,q⟩
 ·subst ey eH;have g:z9 (upd H a (.dT [])) a (.ref b) v (upd (upd H a (.dT [])) a (.dT (putK [] k v))):=.inr ⟨[],k,b,bP,rfl,by rw[bw (nC eb e (fun z=>nomatch z))];exact eb,by decide,rfl⟩;refine BW hu (lU I e) g ri rv fun s3 I3=>⟨_,?_,q⟩
  rw[Ct] at I3;exact I3
 ·subst ey eH;have g:z9 (upd H a (.dK [])) a (kV k) v (upd (upd H a (.dK [])) a (.dK (putK [] k v))):=.inl ⟨[],k,bP,rfl,by decide,rfl⟩;refine BW hu (kW I e) g ri rv fun s3 I3=>⟨_,?_,q⟩
  rw[Ct] at I3;exact I3
theorem aeH(hu:X.A.units+1<cLine):ky X (fun x y H Q=>∃a v,x=.ref a/\fR H a y (some v)/\Q v H):=by
 intro value slice pins s σ H x y v u Q I rx ry h hs;obtain⟨a,w,rfl,g,q⟩:=h;cases rx;have hT:=YC I g;unfold apQ;refine abB ?_;rw[getitemInPython_of_ne hT.not_modules];refine abB (wpAny_specialOf hT PySem.F.slot_dict_getitem.lookup ?_);have fin:wpAny (model X.prog X.w) X.A (aqP slice false (.ref a) u) (fun r F8=>wpAny (model X.prog X.w) X.A (letTemporaryGo value (.ref a) r >>= fun _=>pure r) (EP X pins σ Q) X.xe F8) X.xe s:=by
  rw[hs];exact wpAny_operating (abf hu I g ry fun w' s3 I3 hU=>abB (wpAny_letTemporaryGo (alh ⟨w,H,I3,hU,q⟩)))
 first
  | exact alh (abB fin)
  | exact abB (alh (abB fin))
  | exact abB fin
end
noncomputable def gI:W->Bool
 | .tup _=>true
 | _=>false
noncomputable def k8(kws:List (W×W))(x:W):Bool:=((qe x).isSome&&kws.all fun p=> !gI p.1)||((D5 x).isSome&&kws.all fun p=>gI p.1)
noncomputable def iF(y:W)(ph:PH):Option (Nat×List (W×W)):=match y with
 | .ref i=>match ph[i]? with
  | some (.dR kws)=>some (i,kws)
  | _=>none
 | _=>none
section
variable{K:acs}{φ:Nat->Addr}{ph:PH}{H:Hp}
variable{kws:List (W×W)}
theorem cI.PB{kvs:List (Key×V)}{n:Nat}(r:cI K φ n H kws kvs)(h:kws.all (fun p=>gI p.1)=true):kws=[]/\kvs=[]:=by
 cases r with
 | nil=>exact⟨rfl,rfl⟩
 | cons h' r=>
  rename_i k w v kws kvs;rw[amH] at h;have:gI (cf k)=true:=by simp only[alo] at h;exact h.1
  cases k <;> cases this
theorem cK.D6{kvs:List (List Key×V)}{n:Nat}(r:cK K φ n H kws kvs)(h:kws.all (fun p=> !gI p.1)=true):kws=[]/\kvs=[]:=by
 cases r with
 | nil=>exact⟨rfl,rfl⟩
 | cons h' r=>
  rw[amH] at h;have h:=(alo _ _▸h).1;cases h
variable{v:V}{i:Nat}
theorem rB{y:W}(hH:aS K φ ph H)(r:aX K φ ph.length H y v)(e:iF y ph=some (i,kws)):y=.ref i/\i<ph.length/\ph[i]? =some (.dR kws)/\v=.ref (φ i):=by
 unfold iF at e;cases r with
 | ref hi=>
  simp only at e;split at e
  ·rename_i ak3 hw;cases e;exact⟨rfl,hi,hw,rfl⟩
  ·cases e
 | _=>cases e
theorem yP{x:W}(hH:aS K φ ph H)(hd:ph[i]? =some (.dR kws))(r:aX K φ ph.length H x v)(hk:k8 kws x=true):∃o,u5 H (φ i) v o/\nX K φ ph.length H (kg kws x) o:=by
 unfold k8 at hk;rw[aoy,alo,alo] at hk
 rcases hk with⟨h1,h2⟩ | ⟨h1,h2⟩
 ·obtain⟨k,hk⟩:=amB.mp h1;have:=CF hk;subst this;have:=DD r;subst this
  rcases hH.hp _ _ hd with⟨kvs,q,rd⟩ | ⟨kvs,q,rd⟩
  ·exact⟨_,.inl (.inl ⟨kvs,k,.inl q,rfl,rfl⟩),rd.val k⟩
  ·obtain⟨rfl,rfl⟩:=rd.D6 h2;exact⟨none,.inr ⟨rfl,.inr ⟨q,k,rfl⟩⟩,trivial⟩
 ·obtain⟨ks,hk⟩:=amB.mp h1;have:=Lh hk;subst this;obtain⟨b,rfl,hb⟩:=Mn r
  rcases hH.hp _ _ hd with⟨kvs,q,rd⟩ | ⟨kvs,q,rd⟩
  ·obtain⟨rfl,rfl⟩:=rd.PB h2;exact⟨none,.inr ⟨rfl,.inl ⟨q,ks,b,rfl,hb⟩⟩,trivial⟩
  ·exact⟨_,.inl (.inr ⟨kvs,ks,b,.inl q,rfl,hb,rfl⟩),rd.val ks⟩
theorem ada{x w:W}{u:V}(hH:aS K φ ph H)(hi:i<ph.length)(hd:ph[i]? =some (.dR kws))(r:aX K φ ph.length H x v)(rw:aX K φ ph.length H w u)(hk:k8 kws x=true)(hz:kws.length<alz) :
  ∃H',Nu H (φ i) v u H'/\aS K φ (ph.set i (.dR (l4 kws x w))) H'/\Step K φ ph.length H φ (ph.set i (.dR (l4 kws x w))).length H':=by
 obtain⟨y,ey,my⟩:=hH.mu hd rfl;rw[amG];unfold k8 at hk;rw[aoy,alo,alo] at hk
 rcases hk with⟨h1,h2⟩ | ⟨h1,h2⟩
 ·obtain⟨k,hk⟩:=amB.mp h1;have:=CF hk;subst this;have:=DD r;subst this
  rcases hH.hp _ _ hd with⟨kvs,q,rd⟩ | ⟨kvs,q,rd⟩
  ·have s:=nh (K:=K) (φ:=φ) (n:=ph.length) (y:=HO.dK (putK kvs k u)) ey my;exact⟨_,.inl (.inl ⟨kvs,k,q,rfl,by rw[<- rd.len];exact hz,rfl⟩),hH.put hd rfl (.inl ⟨_,bP,(rd.put k rw).mono s⟩),s⟩
  ·obtain⟨rfl,rfl⟩:=rd.D6 h2;have s:=nh (K:=K) (φ:=φ) (n:=ph.length) (y:=HO.dK [(k,u)]) ey my;exact⟨_,.inr (.inr ⟨q,k,rfl,rfl⟩),hH.put hd rfl (.inl ⟨_,bP,((cI.nil).put k rw).mono s⟩),s⟩
 ·obtain⟨ks,hk⟩:=amB.mp h1;have:=Lh hk;subst this;obtain⟨b,rfl,hb⟩:=Mn r
  rcases hH.hp _ _ hd with⟨kvs,q,rd⟩ | ⟨kvs,q,rd⟩
  ·obtain⟨rfl,rfl⟩:=rd.PB h2;have s:=nh (K:=K) (φ:=φ) (n:=ph.length) (y:=HO.dT [(ks,u)]) ey my;exact⟨_,.inr (.inl ⟨q,ks,b,rfl,hb,rfl⟩),hH.put hd rfl (.inr ⟨_,bP,((cK.nil).put ks rw).mono s⟩),s⟩
  ·have s:=nh (K:=K) (φ:=φ) (n:=ph.length) (y:=HO.dT (putK kvs ks u)) ey my;exact⟨_,.inl (.inr ⟨kvs,ks,b,q,rfl,hb,by rw[<- rd.len];exact hz,rfl⟩),hH.put hd rfl (.inr ⟨_,bP,(rd.put ks rw).mono s⟩),s⟩
end
noncomputable def qo:W->W->Po W:=fun x y ph=>match iF y ph with
 | some p=>if k8 p.2 x=true then some (.bl (kg p.2 x).isSome,ph) else none
 | none=>om x y ph
noncomputable def kj:W->W->Po W:=fun x y ph=>match iF y ph with
 | some p=>if k8 p.2 x=true then some (.bl (!(kg p.2 x).isSome),ph) else none
 | none=>Ae x y ph
noncomputable def ax:W->W->Po W:=fun x y ph=>match iF x ph with
 | some p=>if k8 p.2 y=true then(kg p.2 y).map fun w=>(w,ph) else none
 | none=>c8 x y ph
noncomputable def D7(o i v:W):Po Unit:=fun ph=>match iF o ph with
 | some p=>if k8 p.2 i=true/\p.2.length<alz then some ((),ph.set p.1 (.dR (l4 p.2 i v))) else none
 | none=>Ol o i v ph
theorem nX.isSome{K:acs}{φ:Nat->Addr}{n:Nat}{H:Hp}{a:Option W}{b:Option V}(h:nX K φ n H a b):a.isSome=b.isSome:=by
 cases a <;> cases b <;> first | rfl | exact h.elim
theorem ag7:cU K (fun x y H Q=>D2 K (fun b=> !b) x y H Q\/∃a o,y=.ref a/\u5 H a x o/\Q (.bl (!o.isSome)) H) kj:=by
 intro φ ph H x y vx vy w ph' Q hH rx ry e k;unfold kj at e;split at e
 ·rename_i p hp;obtain⟨i,kws⟩:=p;obtain⟨rfl,hi,hd,rfl⟩:=rB hH ry hp;split at e
  ·rename_i hk;cases e;obtain⟨o,g,ro⟩:=yP hH hd rx hk;exact .inr ⟨_,o,rfl,g,by rw[<- ro.isSome];exact k φ H _ hH Step.refl (.bl _)⟩
  ·cases e
 ·exact .inl (agR hH rx ry e k)
theorem ai1:cU K (fun x y H Q=>ER K x y H Q\/∃a v,x=.ref a/\fR H a y (some v)/\Q v H) ax:=by
 intro φ ph H x y vx vy w ph' Q hH rx ry e k;unfold ax at e;split at e
 ·rename_i p hp;obtain⟨i,kws⟩:=p;obtain⟨rfl,hi,hd,rfl⟩:=rB hH rx hp;split at e
  ·rename_i hk;cases q:kg kws y with
   | none=>rw[q] at e;cases e
   | some u=>
    rw[q] at e;cases e;obtain⟨o,g,ro⟩:=yP hH hd ry hk;rw[q] at ro;cases o with
    | none=>exact ro.elim
    | some v=>
     rcases g with g | ⟨z,_⟩
     ·exact .inr ⟨_,v,rfl,g,k φ H _ hH Step.refl ro⟩
     ·cases z
  ·cases e
 ·exact .inl (Nj hH rx ry e k)
section
variable{X:Cx}{a b o i:Expr}{ma mb mo mi:EM}{pos:Pos}{N:List Str}{sc:Scope}{k:Nat}
theorem BdT.ag8(B:BdT X N sc k)(hp:rT b)(ha:JE X a ma)(hb:JE X b mb):JE X (.Subscript a b pos) (ag ax ma mb):=
 ⟨PE.imp (Ng (ky.or Ma (aeH (zD B.room))) ha.h hb.h hp) fun _ _ _ h=>uE ai1 h⟩
theorem BdT.Nv(B:BdT X N sc k)(h:amQ .NotIn b=false):Cp X .NotIn b kj:=⟨⟨_,bI.or (aem B.room.units) (aeG (zD B.room)),ag7⟩,h⟩
theorem nK.or{t t':zX}(h:nK X t)(h':nK X t'):nK X (fun o i v H Q=>t o i v H Q\/t' o i v H Q):=by
 intro pins s σ H o i v ov iv u Q I ro ri rv q
 rcases q with q | q
 ·exact h pins s σ H o i v ov iv u Q I ro ri rv q
 ·exact h' pins s σ H o i v ov iv u Q I ro ri rv q
noncomputable def sF(o i:EM):GM:=fun v σ=>aA (o σ) fun ow=>aA (i σ) fun iw=>aA (lift (D7 ow iw v)) fun _=>aK σ
theorem BdT.yZ(B:BdT X N sc k)(ho:JE X o mo)(hi:JE X i mi)(ha:∀v,aqF (.Subscript o i pos) X.env v=(do
   let ov <- apu [v] (eval o X.env)
   let iv <- apu [v,ov] (eval i X.env)
   standAt pos
   apu [v,ov,iv] (setItem ov iv v)
   release [v,ov,iv] []):=by intro _;rfl):JG X (.Subscript o i pos) (sF mo mi):=
 ⟨PG.imp (afW ho.h hi.h (nK.or set_list (set_dict (zD B.room))) ha) fun v σ H Q h=>by
  obtain⟨φ,ph,ws,w,hH,hS,rv,h⟩:=h;refine tM.bind hH hS h fun ow ph1 aC H1 vo aF s1 ro h=>tM.bind aF (hS.mono s1) h fun iw ph2 bg H2 vi bj s2 ri h=>?_
  rw[cV] at h;obtain⟨_,fI,e,k⟩:=run_lift h;have PC:=ro.mono s2;have PD:=(rv.mono s1).mono s2;unfold D7 at e;split at e
  ·rename_i p hp;obtain⟨r,kws⟩:=p;obtain⟨rfl,hr,hd,rfl⟩:=rB bj PC hp;split at e
   ·rename_i hk;cases e;obtain⟨H',g,q1,q2⟩:=ada bj hr hd ri PD hk.1 hk.2;exact .inr ⟨_,H',rfl,g,k bg _ σ q1 ((s1.trans s2).trans q2) (((hS.mono s1).mono s2).mono q2)⟩
   ·cases e
  ·unfold Ol at e;split at e
   ·rename_i r k';split at e
    ·rename_i cR hw;split at e
     ·rename_i j hj;cases e;cases PC with
      | ref Fi=>
       cases ri;obtain⟨us,hu,ru⟩:=bj.hp _ _ hw;obtain⟨q1,q2⟩:=Cd bj hw (ru.set PD j);exact .inl ⟨_,us,_,j,rfl,rfl,hu,by rw[<- ru.length];exact hj,k bg _ σ q1 ((s1.trans s2).trans q2) (((hS.mono s1).mono s2).mono q2)⟩
     ·cases e
    ·cases e
   ·cases e⟩
end
noncomputable def ak4:W->Option Int
 | .int i=>some i
 | _=>none
noncomputable def u6(f:Nat->Int):Nat->Int
 | 0=>f 0
 | k+1=>if f (k+1)<u6 f k then f (k+1) else u6 f k
section
variable{X:Cx}
theorem adb(f:Nat->Int):∀k,f (argBest (fun i j=>decide (f i<f j)) k)=u6 f k
 | 0=>rfl
 | k+1=>by
  have ih:=adb f k;unfold argBest u6;rw[ih];by_cases h:f (k+1)<u6 f k
  ·simp[h]
  ·simp[h,ih]
end
noncomputable def cJ:W->W->Po W:=fun x y ph=>match x,y with
 | .ref i,.int k=>match ph[i]? with
  | some (.lst ws)=>if -(2 ^ 63)<=k/\k<2 ^ 63/\ws.length*k.toNat<=alz then some (.ref ph.length,ph++[.lst (alj k.toNat ws).flatten]) else none
  | _=>none
 | x,y=>sX x y ph
theorem bi.rep{K:acs}{φ:Nat->Addr}{n:Nat}{H:Hp}{ws:List W}{vs:List V}(r:bi K φ n H ws vs):∀k:Nat,bi K φ n H (alj k ws).flatten (alj k vs).flatten
 | 0=>.nil
 | k+1=>by
  rw[amx,amx,anF,anF];exact r.append (bi.rep r k)
theorem ag9:cU K (fun x y H Q=>(rI vq fun i j=>.int (i*j)) x y H Q\/Og x y H Q) cJ:=by
 intro φ ph H x y vx vy w ph' Q hH rx ry e k;unfold cJ at e;split at e
 ·rename_i i j;split at e
  ·rename_i ws hw;split at e
   ·rename_i hz;cases e;cases rx with
    | ref hi=>
     cases ry;obtain⟨us,hu,ru⟩:=hH.hp _ _ hw;refine .inr ⟨_,_,us,rfl,rfl,hu,hz.1,hz.2.1,by rw[<- ru.length];exact hz.2.2,fun p hp=>?_⟩;obtain⟨q1,q2,q3⟩:=nj hH (ru.rep j.toNat) hp;exact k _ _ _ q1 q2 q3
   ·cases e
  ·cases e
 ·exact .inl (agM hH rx ry e k)
theorem je{a b:Expr}{ma mb:EM}(ha:JE X a ma)(hb:JE X b mb):JE X (.BinOp a .Mult b pos) (ag cJ ma mb):=⟨sA (bI.or af3 agk) ag9 ha.h hb.h⟩
noncomputable def ai2:HO->Prop
 | .dK _=>True
 | .dT _=>True
 | _=>False
section
variable{K:acs}{φ:Nat->Addr}{n:Nat}{H:Hp}{d:Addr}{o:Obj}{u:HO}(e:H d=some (.bE o u))(hu:ai2 u)(hc:o.cls=.type "dict")
include e hu hc
omit hc in
end
noncomputable def aha(kws:List (W×W)):List W:=kws.map fun p=>.tup [p.1,p.2]
noncomputable def ai3(i:Nat)(kws:List (W×W))(L:Nat):Mo W:=fun ph=>if ph[i]? =some (.qp kws) then .ok (.ref L) (ph.set i (.dR kws)) else .no
noncomputable def akU(m:EM)(cap:List (Option Nat))(g:GM)(c:TM)(e:EM):EM:=fun σ=>aA (m σ) fun w ph=>match iF w ph with
 | some p=>aA (eX (fun _=>true) g c e ph.length (aha p.2) (jl cap σ)) (fun _=>ai3 p.1 p.2 ph.length) (ph.set p.1 (.qp p.2)++[.lst []])
 | none=>.no
noncomputable def D8(w:W)(ph:PH):Bool:=(iF w ph).isSome
theorem ahb:qv K "dict" D8:=by
 intro φ ph H x vx hH rx e;unfold D8 at e;obtain⟨⟨i,kws⟩,hp⟩:=amB.mp e;obtain⟨rfl,hi,hd,rfl⟩:=rB hH rx hp
 rcases hH.hp i _ hd with⟨kvs,q,_⟩ | ⟨kvs,q,_⟩
 ·exact .inr (.inr (.inl ⟨rfl,.inl ⟨kvs,q⟩⟩))
 ·exact .inr (.inr (.inl ⟨rfl,.inr ⟨kvs,q⟩⟩))
noncomputable def Oo:V->List V->Hp->VK->Prop:=fun x ys H Q=>∃a y o,x=.ref a/\u5 H a y o/\((ys=[y]/\Q (o.getD .aE) H)\/∃d,ys=[y,d]/\Q (o.getD d) H)
noncomputable def D9:W->List W->Po W:=fun x xs ph=>match iF x ph with
 | some p=>match xs with
  | [y]=>if k8 p.2 y=true then some ((kg p.2 y).getD .aE,ph) else none
  | [y,z]=>if k8 p.2 y=true then some ((kg p.2 y).getD z,ph) else none
  | _=>none
 | none=>none
theorem nX.getD{K:acs}{φ:Nat->Addr}{n:Nat}{H:Hp}{a:Option W}{b:Option V}{z:W}{y:V}(h:nX K φ n H a b)(r:aX K φ n H z y):aX K φ n H (a.getD z) (b.getD y):=by
 cases a <;> cases b <;> first | exact r | exact h | exact h.elim
theorem ahc(hu:X.A.units+1<cLine):tJ X "dict.get" Oo:=by
 intro pins s σ H x xs v us Q I rx rv h;obtain⟨a,y,o,rfl,g,h⟩:=h;obtain rfl:v=alJ a:=rx
 rcases h with⟨rfl,q⟩ | ⟨d,rfl,q⟩
 ·obtain⟨u,rfl,ru⟩:=rv.one
  rcases g with g | ⟨rfl,⟨e,k,b,ey,eb⟩ | ⟨e,k,ey⟩⟩
  ·exact C1 hu I g ru fun w' s' I' r'=>⟨_,H,I',r',q⟩
  ·subst ey;have g:fR (upd H a (.dT [])) a (.ref b) none:=.inr ⟨[],k,b,.inl bP,rfl,by rw[bw (nC eb e (fun z=>nomatch z))];exact eb,rfl⟩;exact C1 hu (lU I e) g ru fun w' s3 I3 r'=>⟨_,H,by have:=kW I3 bP;rwa [nq e] at this,r',q⟩
  ·subst ey;have g:fR (upd H a (.dK [])) a (kV k) none:=.inl ⟨[],k,.inl bP,rfl,rfl⟩;exact C1 hu (kW I e) g ru fun w' s3 I3 r'=>⟨_,H,by have:=lU I3 bP;rwa [nq e] at this,r',q⟩
 ·obtain⟨u,u2,rfl,ru,rd⟩:=Vals.two rv
  rcases g with g | ⟨rfl,⟨e,k,b,ey,eb⟩ | ⟨e,k,ey⟩⟩
  ·exact C3 hu I g ru rd fun w' s' I' r'=>⟨_,H,I',r',q⟩
  ·subst ey;have g:fR (upd H a (.dT [])) a (.ref b) none:=.inr ⟨[],k,b,.inl bP,rfl,by rw[bw (nC eb e (fun z=>nomatch z))];exact eb,rfl⟩;exact C3 hu (lU I e) g ru rd fun w' s3 I3 r'=>⟨_,H,by have:=kW I3 bP;rwa [nq e] at this,r',q⟩
  ·subst ey;have g:fR (upd H a (.dK [])) a (kV k) none:=.inl ⟨[],k,.inl bP,rfl,rfl⟩;exact C3 hu (kW I e) g ru rd fun w' s3 I3 r'=>⟨_,H,by have:=lU I3 bP;rwa [nq e] at this,r',q⟩
theorem ahd:qu K "dict" Oo D9:=by
 intro φ ph H x xs vx vs w ph' Q hH rx rs e k;unfold D9 at e;split at e
 ·rename_i p hp;obtain⟨i,kws⟩:=p;obtain⟨rfl,hi,hd,rfl⟩:=rB hH rx hp;split at e
  ·split at e
   ·rename_i hk;cases e;cases rs with
    | cons r0 rr=>
     cases rr;obtain⟨o,g,ro⟩:=yP hH hd r0 hk;exact⟨_,_,o,rfl,g,.inl ⟨rfl,k φ H _ hH Step.refl (ro.getD .aE)⟩⟩
   ·cases e
  ·split at e
   ·rename_i hk;cases e;cases rs with
    | cons r0 rr=>
     cases rr with
     | cons r1 rr=>
      cases rr;obtain⟨o,g,ro⟩:=yP hH hd r0 hk;exact⟨_,_,o,rfl,g,.inr ⟨_,rfl,k φ H _ hH Step.refl (ro.getD r1)⟩⟩
   ·cases e
  ·cases e
 ·cases e
noncomputable def sG(f:Str)(w:W):List (Str×W)->List (Str×W)
 | []=>[(f,w)]
 | (g,x)::r=>if g=f then(g,w)::r else(g,x)::sG f w r
section
variable{K:acs}{φ:Nat->Addr}{n:Nat}{H:Hp}
theorem fE.lookup(f:Str):∀{ws:List (Str×W)} {vs:List (Str×V)},fE K φ n H ws vs->nX K φ n H (ws.lookup f) (vs.lookup f)
 | _,_,.nil=>trivial
 | _,_,.cons (f:=g) h r=>by
  rw[alC,alC];cases f==g with
  | true=>exact h
  | false=>exact fE.lookup f r
theorem fE.len:∀{ws:List (Str×W)} {vs:List (Str×V)},fE K φ n H ws vs->ws.length=vs.length
 | _,_,.nil=>rfl
 | _,_,.cons _ r=>by rw[alA,alA,fE.len r]
theorem fE.put(f:Str){w:W}{v:V}(q:aX K φ n H w v):∀{ws:List (Str×W)} {vs:List (Str×V)},fE K φ n H ws vs->fE K φ n H (sG f w ws) (dM f v vs)
 | _,_,.nil=>.cons q .nil
 | _,_,.cons (f:=g) h r=>by
  unfold sG dM;by_cases e:g=f
  ·rw[if_pos e,if_pos e];exact .cons q r
  ·rw[if_neg e,if_neg e];exact .cons h (fE.put f q r)
end
noncomputable def Ah(c f:Str)(w:W):Po W:=fun ph=>match w with
 | .ref i=>match ph[i]? with
  | some (.obj c' fs)=>if c'=c then(fs.lookup f).map fun x=>(x,ph) else none
  | _=>none
 | _=>none
noncomputable def eZ(c f:Str)(m:EM):EM:=fun σ=>aA (m σ) fun w=>lift (Ah c f w)
noncomputable def Ai(c f:Str)(x y:W):Po Unit:=fun ph=>match x with
 | .ref i=>match ph[i]? with
  | some (.obj c' fs)=>if c'=c/\fs.length<1000 then some ((),ph.set i (.obj c' (sG f y fs))) else none
  | _=>none
 | _=>none
noncomputable def iG(c f:Str)(o v:EM):SM:=fun σ=>aA (v σ) fun y=>aA (o σ) fun x=>aA (lift (Ai c f x y)) fun _=>aK (.nx σ)
noncomputable def ai4:W->Mo W->Mo W
 | .aE,m=>m
 | _,_=>eK
section
variable{X:Cx}{e o value:Expr}{m mo mv:EM}{c f:Str}{C:Addr}{pos pos' p:Pos}
theorem ahe(bM:ale X.K alc c=some (some (.ref C)))(hc:iR X.K C)(hn:eU X.K C f)(he:IE X e m)(hb:amY e f X.env (eval e X.env)=eval e X.env:=by rfl):IE X (.Attribute e f pos) (eZ c f m):=by
 refine PE.imp (af7 he hb) fun σ H Q h=>?_
 obtain⟨φ,ph,ws,hH,hS,h⟩:=h;refine tM.bind hH hS h fun x ph1 aC H1 vx aF s1 rx h=>?_
 obtain⟨w,ph',e,k⟩:=run_lift h;unfold Ah at e;cases rx with
 | ref hi=>
  simp only at e;split at e
  ·rename_i c' fs hw;split at e
   ·rename_i n9;subst n9;obtain⟨C',dx,vs,q1,q2,r⟩:=aF.hp _ _ hw;rw[bM] at q1;cases q1;have ro:=r.lookup f;cases q:fs.lookup f with
    | none=>rw[q] at e;cases e
    | some y=>
     rw[q] at e ro;cases e;cases q':vs.lookup f with
     | none=>rw[q'] at ro;exact ro.elim
     | some v=>rw[q'] at ro;exact⟨_,C,dx,vs,v,rfl,q2,hc,hn,q',k aC H1 v aF s1 ro⟩
   ·cases e
  ·cases e
 | _=>cases e
theorem ahf(bM:ale X.K alc c=some (some (.ref C)))(hc:iR X.K C)(hn:eU X.K C f)(ho:IE X o mo)(hv:IE X value mv)(hs:anl value (some (.Attribute o f pos')) pos.line X.env=pure false):IS X (.Assign [.Attribute o f pos'] value pos) (iG c f mo mv):=by
 refine PS.imp (af8 ho hv hs) fun D σ H h=>?_
 obtain⟨φ,ph,ws,hH,hS,h⟩:=h;refine tM.bind hH hS h fun y ph1 aC H1 vy aF s1 ry h=>tM.bind aF (hS.mono s1) h fun x ph2 bg H2 vx bj s2 rx h=>?_
 rw[cV] at h;obtain⟨_,fI,e,k⟩:=run_lift h;have ry':=ry.mono s2;unfold Ai at e;cases rx with
 | ref hi=>
  simp only at e;split at e
  ·rename_i c' fs hw;split at e
   ·rename_i n9;obtain⟨rfl,hz⟩:=n9;cases e;obtain⟨C',dx,vs,q1,q2,r⟩:=bj.hp _ _ hw;rw[bM] at q1;cases q1;have s3:=nh (K:=X.K) (φ:=bg) (n:=ph2.length) (y:=HO.ins C dx (dM f vy vs)) q2 trivial;refine⟨_,C,dx,vs,rfl,q2,hc,hn,by rw[<- r.len];exact hz,?_⟩;have dr:=bj.put hw rfl (x:=HO.ins C dx (dM f vy vs)) (o:=.obj c' (sG f y fs)) ⟨C,dx,_,bM,bP,(r.put f ry').mono s3⟩;exact k bg _ dr (by rw[amG];exact(s1.trans s2).trans s3) σ (by rw[amG];exact((hS.mono s1).mono s2).mono s3)
   ·cases e
  ·cases e
 | _=>cases e
theorem fC(bM:ale X.K alc c=some (some (.ref C)))(hc:iR X.K C)(hn:eU X.K C f)(he:JE X e m)(hb:amY e f X.env (eval e X.env)=eval e X.env:=by rfl):JE X (.Attribute e f pos) (eZ c f m):=⟨ahe bM hc hn he.h hb⟩
theorem jK(bM:ale X.K alc c=some (some (.ref C)))(hc:iR X.K C)(hn:eU X.K C f)(hnc:zj value=true)(ho:JE X o mo)(hv:JE X value mv):JS X (.Assign [.Attribute o f pos'] value pos) (iG c f mo mv):=⟨ahf bM hc hn ho.h hv.h (Cf hnc)⟩
end
noncomputable def Aj:W->W->Po W:=qq fun i j=>i+j
noncomputable def Ea:W->W->Po W:=qq fun i j=>i-j
noncomputable def bD(x:Str):Bool:= !(x==("__debug__":Str))&& !(x==("__classdict__":Str))
section
variable{X:Cx}{N:List Str}{sc:Scope}{k:Nat}{b:Expr}
theorem fV.jv{pos:Pos}(B:fV X N sc)(i:Nat){x:Str}(hN:N[i]? =some x)(hv:aJ sc x)(hk:bD x=true):JE X (.Name x pos) (af i):=by
 unfold bD at hk;rw[alo] at hk;exact B.akf i hN hv (by simpa using hk.1) (by simpa using hk.2)
theorem BdT.ax{pos:Pos}{a:Expr}{ma mb:EM}(B:BdT X N sc k)(ha:JE X a ma)(hb:JE X b mb)(hp:rT b:=by intro _ _;rfl):JE X (.Subscript a b pos) (ag ax ma mb):=B.ag8 hp ha hb
end
noncomputable def hQ(P:amb)(w:World):Option (Key ⊕ List Key)->Int
 | none=>0xFCA86420
 | some (.inl k)=>DQ w k
 | some (.inr ks)=>tupleKeyHash (dC P w) ks
theorem Kc:∀{xs:List V} {us:List Value},xs.length=us.length->(∀(j:Nat) x u,xs[j]? =some x->us[j]? =some u->L2.RelV x u)->Vals xs us
 | [],[],_,_=>.nil
 | [],_::_,h,_=>by simp at h
 | _::_,[],h,_=>by simp at h
 | x::xs,u::us,h,k=>.cons (k 0 x u rfl rfl) (Kc (by simpa using h) fun j y v h1 h2=>k (j+1) y v (by simpa using h1) (by simpa using h2))
theorem abv{w:World}{u:Value}(h:(dC P w).is k u=true):L2.RelV (kV k) u:=by
 rcases kK h with⟨i,t,rfl,rfl⟩ | ⟨x,t,rfl,rfl⟩
 ·exact⟨t,rfl⟩
 ·exact⟨t,rfl⟩
section
variable{X:Cx}{pins:List (Addr×Obj)}{σ:L2.St}{H:Hp}{s:ald}
theorem aeI(I:Inv X pins σ H s){d:Addr}{kvs:List (Key×V)}(hd:H d=some (.dK kvs)\/(H d=some (.dT [])/\kvs=[])):∃vs,KV kvs vs/\s.heap.DictOf (dC X.prog X.w) d vs/\(d==anz)=false/\kvs.length<=sizeLine:=by
 rcases hd with e | ⟨e,rfl⟩
 ·obtain⟨z,y,vs,rel,dd⟩:=uY I.aM e;exact⟨vs,rel,dd,y,z⟩
 ·obtain⟨z,y,vs,rel,dd⟩:=uY (kvs:=[]) (kW I e).aM bP;exact⟨vs,rel,dd,y,z⟩
theorem abw{kvs:List (Key×V)}{vs:List (Key×Value)}{acc:Array Value}(rel:KV kvs vs)(Ak:ItemsOf (fun i v=>∃k x,vs[i]? =some (k,x)/\(dC X.prog X.w).is k v=true) acc vs.length):Vals (kvs.map fun kv=>kV kv.1) acc.toList:=by
 have hk:=rel.keys;refine Kc (by have e1:=rel.length;have e2:=Ak.1;have e3:acc.toList.length=acc.size:=anI;rw[alg];omega) fun j x u h1 h2=>?_
 obtain⟨k,y,e,hi⟩:=Ak.2 j u (by simpa using h2);rw[aln] at h1;obtain⟨kv,e1,rfl⟩:=alv.mp h1;have e2:(kvs.map (·.1))[j]? =some kv.1:=by rw[aln,e1];rfl
 rw[hk,aln,e] at e2;have e3:k=kv.1:=by simpa using e2
 rw[<- e3];exact abv hi
end
noncomputable def C9:List V->Hp->VK->Prop:=fun xs H Q=>∃d kvs,xs=[.ref d]/\(H d=some (.dK kvs)\/(H d=some (.dT [])/\kvs=[]))/\∀p,H p=none->Q (.ref p) (upd H p (.lst (kvs.map fun kv=>kV kv.1)))
section
variable{X:Cx}
theorem Z1(hc:X.calm=true):cW X (.type "list") C9:=by
 intro pins s σ H xs us Q I r h;obtain⟨d,kvs,rfl,hd,h⟩:=h;obtain⟨u,rfl,rx⟩:=vals1 r;obtain rfl:u=alJ d:=rx;obtain⟨vs,rel,dd,y,z⟩:=aeI I hd;obtain⟨ep,jt⟩:=dd.dictAt;refine PySem.W.kdl_call (PySem.W.kdl_dict (knd:=dC X.prog X.w) (kvs:=vs) (ep:=ep) y) (I.ok.hd hc) jt (by rw[<- rel.length];exact z) fun h' tk acc c hk hD Ak=>⟨.ref s.heap.objs.size,_,I.laid (t':=tk) (a:=s.heap.objs.size) (o:=.lst (kvs.map fun kv=>kV kv.1)) (fun b u q=>hk b u q) (ali _) ⟨by simpa using z,acc.toList,c,abw rel Ak,by simpa using hD⟩,rfl,h _ (I.aM.fresh (ali _))⟩
end
noncomputable def DE(kws:List (W×W)):Option (List W):=if kws.all (fun p=> !gI p.1)=true then some (kws.map (·.1)) else none
noncomputable def l5:List W->Po W:=fun xs ph=>match xs with
 | [w]=>match iF w ph with
  | some p=>(DE p.2).map fun ks=>(.ref ph.length,ph++[.lst ks])
  | none=>sD [w] ph
 | _=>none
section
variable{K:acs}{φ:Nat->Addr}{n:Nat}{H:Hp}
theorem Kd:∀{kws:List (W×W)} {kvs:List (Key×V)},cI K φ n H kws kvs->bi K φ n H (kws.map (·.1)) (kvs.map fun kv=>kV kv.1)
 | _,_,.nil=>.nil
 | _,_,.cons (k:=k) h r=>.cons (by cases k with | inl i=>exact .int i | inr x=>exact .str x) (Kd r)
theorem abx{ph:PH}{y:W}{v:V}{p:Nat×List (W×W)}{ks:List W}(hH:aS K φ ph H)(r:aX K φ ph.length H y v)(e:iF y ph=some p)(hk:DE p.2=some ks) :
  ∃d kvs,v=.ref d/\(H d=some (.dK kvs)\/(H d=some (.dT [])/\kvs=[]))/\bi K φ ph.length H ks (kvs.map fun kv=>kV kv.1):=by
 unfold DE at hk;split at hk
 ·rename_i ha;cases hk;obtain⟨rfl,hi,hd,rfl⟩:=rB (i:=p.1) (kws:=p.2) hH r e
  rcases hH.hp _ _ hd with⟨kvs,q,rd⟩ | ⟨kvs,q,rt⟩
  ·exact⟨_,kvs,rfl,.inl q,Kd rd⟩
  ·obtain⟨e1,e2⟩:=rt.D6 ha;subst e2;rw[e1];exact⟨_,[],rfl,.inr ⟨q,rfl⟩,.nil⟩
 ·cases hk
end
theorem CG:ji K (fun xs H Q=>(∃p ys,xs=[.ref p]/\(bL K H p ys\/bT K H p ys)/\∀l,H l=none->Q (.ref l) (upd H l (.lst ys)))\/C9 xs H Q) l5:=by
 intro φ ph H xs vs w ph' Q hH r e k;unfold l5 at e;split at e
 ·rename_i x;cases hd:iF x ph with
  | none=>rw[hd] at e;exact .inl (aew hH r e k)
  | some p=>
   rw[hd] at e;obtain⟨ks,hk,e⟩:=alv.mp e;cases e;cases r with
   | cons r rn=>
    cases rn;obtain⟨d,kvs,rfl,hdk,rr⟩:=abx hH r hd hk;refine .inr ⟨d,kvs,rfl,hdk,fun p hp=>?_⟩;obtain⟨q1,q2,q3⟩:=nj hH rr hp;exact k _ _ _ q1 q2 q3
 ·cases e
theorem BR(hc:X.calm=true):cW X (.type "list") (fun xs H Q=>(∃p ys,xs=[.ref p]/\(bL X.K H p ys\/bT X.K H p ys)/\∀l,H l=none->Q (.ref l) (upd H l (.lst ys)))\/C9 xs H Q):=cW.or XB (Z1 hc)
open PySem L2
section
variable{α β γ:Type}
theorem uG(a:α)(f:α->Mo β):aA (aK a) f=f a:=rfl
theorem Li(f:α->Mo β):aA (eK:Mo α) f=eK:=rfl
theorem Lj(x:XC)(f:α->Mo β):aA (wk x:Mo α) f=wk x:=rfl
theorem i9(m:Mo α)(f:α->Mo β)(g:β->Mo γ):aA (aA m f) g=aA m fun a=>aA (f a) g:=by
 funext ph;unfold aA;cases m ph <;> rfl
theorem Lk{c:Prop}[Decidable c](a b:Mo α)(f:α->Mo β):aA (if c then a else b) f=if c then aA a f else aA b f:=by split <;> rfl
theorem cu{m:Mo α}{f:α->Mo β}{ph ph':PH}{a:α}(h:m ph=.ok a ph'):aA m f ph=f a ph':=by unfold aA;rw[h]
theorem Mp(a:α)(ph:PH):aK a ph=.ok a ph:=rfl
theorem Mq(x:XC)(ph:PH):(wk x:Mo α) ph=.ex x ph:=rfl
theorem Ke(a:α):lift (ret a)=aK a:=rfl
theorem Mr{c:Prop}[Decidable c](a b:Mo α)(ph:PH):(if c then a else b) ph=if c then a ph else b ph:=by split <;> rfl
end
theorem Ms(w:W)(σ:aT):af 0 (some w::σ)=aK w:=rfl
theorem Mt(i:Nat)(x:Option W)(σ:aT):af (i+1) (x::σ)=af i σ:=rfl
theorem Nw(w:W)(σ:aT):eC w σ=aK w:=rfl
theorem Nx(i:Nat)(w:W)(σ:aT):gN i w σ=aK (σ.set i (some w)):=rfl
theorem uQ(f:W->W->Po W)(a b:EM)(σ:aT):ag f a b σ=aA (a σ) fun x=>aA (b σ) fun y=>lift (f x y):=rfl
theorem Mu(f:W->Po W)(a:EM)(σ:aT):d5 f a σ=aA (a σ) fun x=>lift (f x):=rfl
theorem u7(m:EM)(σ:aT):eT m σ=aA (m σ) fun w=>lift (match w with
 | .bl b=>ret b
 | _=>fS):=rfl
theorem Ll(m:EM)(σ:aT):cL m σ=aA (m σ) fun w=>lift (sW w):=rfl
theorem Ci(a b:TM)(σ:aT):dJ a b σ=aA (a σ) fun c=>if c=true then b σ else aK false:=rfl
theorem Lm(a b:TM)(σ:aT):dN a b σ=aA (a σ) fun c=>if c=true then aK true else b σ:=rfl
theorem Kf(a:TM)(σ:aT):el a σ=aA (a σ) fun c=>aK (!c):=rfl
theorem Mv(t:TM)(a b:EM)(σ:aT):qr t a b σ=aA (t σ) fun c=>if c=true then a σ else b σ:=rfl
theorem nv(a b:SM)(σ:aT):aD a b σ=aA (a σ) fun f=>match f with
 | .nx az=>b az
 | f=>aK f:=rfl
theorem zl(t:TM)(a b:SM)(σ:aT):bf t a b σ=aA (t σ) fun c=>if c=true then a σ else b σ:=rfl
theorem uH(e:EM)(σ:aT):aU e σ=aA (e σ) fun w=>aK (.rt w):=rfl
theorem Kg(σ:aT):bv σ=aK (.nx σ):=rfl
theorem Cj(e:EM)(σ:aT):eo e σ=aA (e σ) fun _=>aK (.nx σ):=rfl
theorem CH(e:EM)(g:GM)(σ:aT):aP e g σ=aA (e σ) fun w=>aA (g w σ) fun az=>aK (.nx az):=rfl
theorem Ck(f:List W->Mo W)(a:AM)(σ:aT):aV f a σ=aA (a σ) f:=rfl
theorem Jj(f:List W->Po W)(a:AM)(σ:aT):bz f a σ=aA (a σ) fun xs=>lift (f xs):=rfl
theorem CI(σ:aT):aj σ=aK []:=rfl
theorem Cm(e:EM)(r:AM)(σ:aT):ae e r σ=aA (e σ) fun w=>aA (r σ) fun ws=>aK (w::ws):=rfl
theorem Ln(a:AM)(σ:aT):aH a σ=aA (a σ) fun ws=>lift (lg ws):=rfl
theorem CJ(a:AM)(σ:aT):aI a σ=aA (a σ) fun ws=>lift (vB ws):=rfl
theorem Mw(c:String)(m:EM)(σ:aT):gG c m σ=aA (m σ) fun w=>lift (du c w):=rfl
theorem Lo(a b:EM)(σ:aT):lc a b σ=aA (a σ) fun w=>match w with
 | .bl c=>if c=true then b σ else aK (.bl false)
 | _=>eK:=rfl
theorem Mx(a b:EM)(σ:aT):eOr a b σ=aA (a σ) fun w=>match w with
 | .bl c=>if c=true then aK (.bl true) else b σ
 | _=>eK:=rfl
theorem Lp(a:EM)(σ:aT):aj6 a σ=aA (a σ) fun w=>match w with
 | .bl c=>aK (.bl (!c))
 | _=>eK:=rfl
theorem Jk(f f':W->W->Po W)(a b c:EM)(σ:aT):jI f f' a b c σ=aA (a σ) fun x=>aA (b σ) fun y=>aA (lift (f x y)) fun z=>match z with
 | .bl k=>if k=true then aA (c σ) fun u=>lift (f' y u) else aK (.bl false)
 | _=>eK:=rfl
theorem yQ(ty:W->PH->Bool)(f:W->List W->Po W)(o:EM)(a:AM)(σ:aT):cX ty f o a σ=aA (o σ) fun x=>aA (lift (vC (ty x))) fun _=>aA (a σ) fun xs=>lift (f x xs):=rfl
theorem Lq(w:W):dO (.rt w)=aK w:=rfl
theorem Lr(σ:aT):dO (.nx σ)=aK .aE:=rfl
theorem fk(b:SM)(n:Nat)(x:W):fM b n 1 [x]=aA (b (some x::alj (n-1) none)) dO:=rfl
theorem dQ(b:SM)(n:Nat)(x y:W):fM b n 2 [x,y]=aA (b (some x::some y::alj (n-2) none)) dO:=rfl
theorem gW(b:SM)(n:Nat)(x y z:W):fM b n 3 [x,y,z]=aA (b (some x::some y::some z::alj (n-3) none)) dO:=rfl
theorem vF(b:SM)(n:Nat)(x y z u:W):fM b n 4 [x,y,z,u]=aA (b (some x::some y::some z::some u::alj (n-4) none)) dO:=rfl
theorem Ny(i j:Int):lift (addW (.int i) (.int j))=aK (.int (i+j)):=rfl
theorem Nz(i j:Int):lift (iJ (.int i) (.int j))=aK (.int (i-j)):=rfl
theorem NA(i:Int):lift (dP (.int i))=aK (.int (-i)):=rfl
theorem ai5{i j:Int}(h:mulC i j=true):lift (sX (.int i) (.int j))=aK (.int (i*j)):=by
 unfold sX;simp only[h,if_true];rfl
theorem ai6{i j:Int}(h:j≠0):lift (aR (.int i) (.int j))=aK (.int (i.fmod j)):=by
 unfold aR sU;simp only[ne_eq,h,not_false_eq_true,decide_true,if_true];rfl
theorem ai7{i j:Int}(h:j≠0)(h':j.natAbs<2 ^ 64):lift (aZ (.int i) (.int j))=aK (.int (i.fdiv j)):=by
 unfold aZ sU;simp only[ne_eq,h,h',not_false_eq_true,decide_true,arf,if_true];rfl
theorem Al(i j:Int):lift (hV (.int i) (.int j))=aK (.bl (decide (i<j))):=rfl
theorem Eb(i j:Int):lift (kz (.int i) (.int j))=aK (.bl (decide (i<=j))):=rfl
theorem tm(i j:Int):lift (vZ (.int i) (.int j))=aK (.bl (decide (j<i))):=rfl
theorem Ec(i j:Int):lift (AL (.int i) (.int j))=aK (.bl (decide (j<=i))):=rfl
theorem NB(i:Int):lift (nT [.int i])=aK (.int i):=rfl
theorem My(b:Bool):lift (nT [.bl b])=aK (.int (if b then 1 else 0)):=rfl
theorem NC(i:Int):lift (aj8 [.int i])=aK (.int (if i<0 then -i else i)):=rfl
theorem ND(i j:Int):lift (aiV [.int i,.int j])=aK (.int (if j>i then j else i)):=rfl
theorem NE(i j:Int):lift (aiW [.int i,.int j])=aK (.int (if j<i then j else i)):=rfl
theorem Oq(b:Bool):lift (match W.bl b with
 | .bl b=>ret b
 | _=>fS)=aK b:=rfl
theorem Mz(b:Bool):lift (sW (.bl b))=aK b:=rfl
theorem MA(i:Int):lift (sW (.int i))=aK (i != 0):=rfl
theorem MB(ws:List W):lift (sW (.tup ws))=aK (!ws.isEmpty):=rfl
theorem NF(i j:Int):lift (bh (.int i) (.int j))=aK (.bl (decide (i=j))):=by
 funext ph;unfold bh fJ lift;simp only[dat];rfl
theorem u9(i j:Int):lift (cS (.int i) (.int j))=aK (.bl (!decide (i=j))):=by
 funext ph;unfold cS fJ lift;simp only[dat];rfl
theorem so(s:String):anq (ala s)=true:=by
 unfold anq;rw[aoB];simp only[aoQ,amw,aow,decide_eq_true_eq];rintro n ⟨c,_,rfl⟩;have h:=c.valid;simp only[UInt32.isValidChar,Nat.isValidChar] at h;show c.val.toNat<_;omega
theorem Dc{a b:String}:ala a=ala b↔a=b:=by
 constructor
 ·intro h;rw[aoB,aoB] at h;have h:=congrArg arA (Str.mk.inj h);simp only[List.toList_toArray] at h;have mi:∀l l':List Char,l.map Char.toNat=l'.map Char.toNat->l=l':=by
   intro l
   induction l with
   | nil=>intro l' h;cases l' with
    | nil=>rfl
    | cons _ _=>cases h
   | cons x l ih=>intro l' h;cases l' with
    | nil=>cases h
    | cons y l'=>
     have:=ard h;rw[ih l' this.2,Char.ext (UInt32.toNat_inj.mp this.1)]
  have q:a.toList=b.toList:=mi _ _ h;exact String.toList_inj.mp q
 ·intro h;rw[h]
theorem ai8{a b:Str}(ha:anq a=true)(hb:anq b=true):lift (bh (.str a) (.str b))=aK (.bl (decide (a=b))):=by
 funext ph;unfold bh fJ lift;simp only[dat,ha,hb,if_true];rfl
theorem ai9{a b:Str}(ha:anq a=true)(hb:anq b=true):lift (cS (.str a) (.str b))=aK (.bl (!decide (a=b))):=by
 funext ph;unfold cS fJ lift;simp only[dat,ha,hb,if_true];rfl
theorem vc(a b:String):lift (bh (.str (ala a)) (.str (ala b)))=aK (.bl (decide (a=b))):=by
 rw[ai8 (so a) (so b)];simp only[Dc]
theorem vd(a b:String):lift (cS (.str (ala a)) (.str (ala b)))=aK (.bl (!decide (a=b))):=by
 rw[ai9 (so a) (so b)];simp only[Dc]
theorem NG(a b:Bool):lift (cS (.bl a) (.bl b))=aK (.bl (!(a==b))):=by
 funext ph;unfold cS fJ lift;simp only[dat];rfl
theorem vG(c:String)(w:W)(t:String)(h:∀ph,sC w ph=some t):lift (du c w)=aK (.bl (dZ t c)):=by
 funext ph;unfold lift du;rw[h];rfl
theorem Ot(c:String)(i:Int):lift (du c (.int i))=aK (.bl (dZ "int" c)):=vG _ _ _ fun _=>rfl
theorem Ou(c:String)(b:Bool):lift (du c (.bl b))=aK (.bl (dZ "bool" c)):=vG _ _ _ fun _=>rfl
theorem Ov(c:String):lift (du c .aE)=aK (.bl (dZ "NoneType" c)):=vG _ _ _ fun _=>rfl
theorem Ow(c:String)(x:Str):lift (du c (.str x))=aK (.bl (dZ "str" c)):=vG _ _ _ fun _=>rfl
theorem Ox(c:String)(ws:List W):lift (du c (.tup ws))=aK (.bl (dZ "tuple" c)):=vG _ _ _ fun _=>rfl
theorem se{c:String}(h:ph[i]? =some (.lst ws)):lift (du c (.ref i)) ph=.ok (.bl (dZ "list" c)) ph:=by
 unfold lift du sC;simp only[h]
theorem Oy:dZ "int" "int"=true:=by decide +kernel
theorem Oz:dZ "int" "bool"=false:=by decide +kernel
theorem OA:dZ "bool" "int"=true:=by decide +kernel
theorem OB:dZ "bool" "bool"=true:=by decide +kernel
theorem OC:dZ "NoneType" "int"=false:=by decide +kernel
theorem OD:dZ "str" "int"=false:=by decide +kernel
theorem OE:dZ "list" "int"=false:=by decide +kernel
theorem OF:dZ "list" "list"=true:=by decide +kernel
theorem OG:dZ "tuple" "tuple"=true:=by decide +kernel
theorem MC:lift (lg [])=aK (.tup []):=rfl
theorem MD(a:W):lift (lg [a])=aK (.tup [a]):=rfl
theorem ME(a b:W):lift (lg [a,b])=aK (.tup [a,b]):=rfl
theorem MF(a b c:W):lift (lg [a,b,c])=aK (.tup [a,b,c]):=rfl
theorem MG(a b c d:W):lift (lg [a,b,c,d])=aK (.tup [a,b,c,d]):=rfl
theorem MH(a b c d e:W):lift (lg [a,b,c,d,e])=aK (.tup [a,b,c,d,e]):=rfl
theorem sH(a:W)(l:List W):lift (c8 (.tup (a::l)) (.int 0))=aK a:=by
 funext ph;unfold lift c8 cZ iS;simp[c7,aK]
theorem NH(a b:W)(l:List W):lift (c8 (.tup (a::b::l)) (.int 1))=aK b:=by
 funext ph;unfold lift c8 cZ iS;simp[c7,aK];rw[if_pos (by omega)];simp
theorem NJ(a b c:W)(l:List W):lift (c8 (.tup (a::b::c::l)) (.int 2))=aK c:=by
 funext ph;unfold lift c8 cZ iS;simp[c7,aK];rw[if_pos (by omega)];simp
theorem NK(a b c d:W)(l:List W):lift (c8 (.tup (a::b::c::d::l)) (.int 3))=aK d:=by
 funext ph;unfold lift c8 cZ iS;simp[c7,aK];rw[if_pos (by omega)];simp
theorem NL(a b c d e:W)(l:List W):lift (c8 (.tup (a::b::c::d::e::l)) (.int 4))=aK e:=by
 funext ph;unfold lift c8 cZ iS;simp[c7,aK];rw[if_pos (by omega)];simp
noncomputable def sI:W->Bool
 | .aE=>true
 | _=>false
theorem MI(w:W):lift (Nn w .aE)=aK (.bl (!sI w)):=by
 unfold Nn;cases w <;> rfl
theorem NM(w:W):lift (sY w .aE)=aK (.bl (sI w)):=by
 unfold sY;cases w <;> rfl
theorem Ls(i:Int):sI (.int i)=false:=rfl
theorem Lu:sI .aE=true:=rfl
theorem Lv(ws:List W):sI (.tup ws)=false:=rfl
theorem Lw(i:Nat):sI (.ref i)=false:=rfl
noncomputable def Ex(ph ph':PH):Prop:=∃m,ph'=ph++m
theorem Ex.refl(ph:PH):Ex ph ph:=⟨[],by simp⟩
theorem Ex.trans{a b c:PH}(h:Ex a b)(h':Ex b c):Ex a c:=by
 obtain⟨m,rfl⟩:=h;obtain⟨m',rfl⟩:=h';exact⟨m++m',by simp⟩
theorem Ex.one(ph:PH)(o:PO):Ex ph (ph++[o]):=⟨[o],rfl⟩
theorem Ex.get{a b:PH}(h:Ex a b){o:PO}(e:a[i]? =some o):b[i]? =some o:=by
 obtain⟨m,rfl⟩:=h;rw[alR (alf.mp e).1];exact e
theorem aY(ph:PH)(o:PO):(ph++[o])[ph.length]? =some o:=by simp
theorem small(h:n<=1000000):n<=sizeLine:=alT h (by decide)
section
variable{β:Type}{ph:PH}{i:Nat}{ws:List W}
theorem dw(ws:List W)(ph:PH)(h:ws.length<=alz):lift (vB ws) ph=.ok (.ref ph.length) (ph++[.lst ws]):=by
 unfold lift vB;rw[if_pos h]
theorem Dd(h:ph[i]? =some (.lst ws)){k:Int}{w:W}(hk:cZ ws k=some w):lift (c8 (.ref i) (.int k)) ph=.ok w ph:=by
 unfold lift c8;simp only[c7,h,amv,hk,alS]
theorem gS(h:ph[i]? =some (.lst ws)):lift (bR [.ref i]) ph=.ok (.int ws.length) ph:=by
 unfold lift bR;simp only[c7,h,alS]
theorem Lx(h:ph[i]? =some (.lst ws)):eL (.ref i) ph=true:=by unfold eL;simp only[h]
theorem aeJ(h:ph[i]? =some (.lst ws)):lift (vC (eL (.ref i))) ph=.ok () ph:=by
 unfold lift vC;rw[if_pos (Lx h)]
theorem Iv(h:ph[i]? =some (.lst ws))(hz:ws.length<alz)(w:W):lift (dY (.ref i) [w]) ph=.ok .aE (ph.set i (.lst (ws++[w]))):=by
 unfold lift dY;simp only[h,hz,if_true]
theorem ade(h:ph[i]? =some (.lst ws)):lift (sD [.ref i]) ph=.ok (.ref ph.length) (ph++[.lst ws]):=by
 unfold lift sD;simp only[c7,h]
theorem jG{j:Nat}{us:List W}(h:ph[i]? =some (.lst ws))(h':ph[j]? =some (.lst us))(hz:ws.length+us.length<=alz):lift (addW (.ref i) (.ref j)) ph=.ok (.ref ph.length) (ph++[.lst (ws++us)]):=by
 unfold lift addW;simp only[h,h',hz,if_true]
end
theorem um(a b:Int)(h:0<b):0<=a.fmod b/\a.fmod b<b:=by
 rw[Int.fmod_eq_emod_of_nonneg _ (by omega)];exact⟨Int.emod_nonneg _ (by omega),Int.emod_lt_of_pos _ h⟩
theorem jH(ws:List α)(k:Nat)(h:k<ws.length):cZ ws (k:Int)=ws[k]? :=by
 unfold cZ iS;rw[if_pos (by omega),if_pos (by omega)];rfl
theorem akl(ws:List W):lift (bR [.fl ws])=aK (.int ws.length):=by funext ph;rfl
theorem ixF{i:Int}{w:W}(h:cZ ws i=some w):lift (c8 (.fl ws) (.int i))=aK w:=by
 funext ph;unfold lift c8;simp only[c7,amv,h,alS];rfl
theorem Kh{chk:PH->Bool}{g:GM}{b:SM}(R:W->PH->Prop)(I:Nat->aT->PH->Prop):∀(items:List W) (k:Nat) (σ:aT) (ph:PH),
  (∀j σ ph,I j σ ph->chk ph=true) →
  (∀j x σ ph,items[j]? =some x->I (k+j) σ ph->∃σ1 ph1,g x σ ph=.ok σ1 ph1/\∃f ph2,b σ1 ph1=.ok f ph2/\((∃bo,(f=.nx bo\/f=.ct bo)/\I (k+j+1) bo ph2)\/∃w,f=.rt w/\R w ph2)) →
  I k σ ph->(∃az ph',cM chk g b items σ ph=.ok (.nx az) ph'/\I (k+items.length) az ph')\/∃w ph',cM chk g b items σ ph=.ok (.rt w) ph'/\R w ph'
 | [],k,σ,ph,hc,hs,h0=>by
  refine .inl ⟨σ,ph,?_,h0⟩;unfold cM;rw[if_pos (hc _ _ _ h0)]
 | x::xs,k,σ,ph,hc,hs,h0=>by
  obtain⟨σ1,ph1,e1,f,ph2,e2,h⟩:=hs 0 x σ ph rfl h0;have e:cM chk g b (x::xs) σ ph=(match f with
   | .nx az=>cM chk g b xs az
   | .ct az=>cM chk g b xs az
   | .bk az=>aK (.nx az)
   | .rt w=>aK (.rt w)) ph2:=by
   conv=>lhs;unfold cM
   rw[if_pos (hc _ _ _ h0),cu e1,cu e2]
   all_goals (cases f <;> rfl)
  rcases h with⟨bo,hf,hI⟩ | ⟨w,rfl,hR⟩
  ·have e:cM chk g b (x::xs) σ ph=cM chk g b xs bo ph2:=by
    rcases hf with rfl | rfl <;> exact e
   rw[e];have ih:=Kh R I xs (k+1) bo ph2 hc (fun j y σ ph hj hI=>by
    have:=hs (j+1) y σ ph (by simpa using hj) (by rw[show k+(j+1)=k+1+j by omega];exact hI);rw[show k+(j+1)+1=k+1+j+1 by omega] at this;exact this) hI
   rw[show k+1+xs.length=k+(x::xs).length by simp;omega] at ih;exact ih
  ·exact .inr ⟨w,ph2,e,hR⟩
theorem pb{chk:PH->Bool}{g:GM}{b:SM}(I:Nat->aT->PH->Prop)(items:List W)(σ:aT)(ph:PH)
  (hc:∀j σ ph,I j σ ph->chk ph=true)
  (hs:∀j x σ ph,items[j]? =some x->I j σ ph->∃σ1 ph1,g x σ ph=.ok σ1 ph1/\∃f ph2,b σ1 ph1=.ok f ph2/\∃bo,(f=.nx bo\/f=.ct bo)/\I (j+1) bo ph2)
  (h0:I 0 σ ph):∃az ph',cM chk g b items σ ph=.ok (.nx az) ph'/\I items.length az ph':=by
 have:=Kh (fun _ _=>False) I items 0 σ ph hc (fun j x σ ph hj hI=>by
  rw[anY] at hI ⊢;obtain⟨σ1,ph1,e1,f,ph2,e2,h⟩:=hs j x σ ph hj hI;exact⟨σ1,ph1,e1,f,ph2,e2,.inl h⟩) h0
 rw[anY] at this
 rcases this with h | ⟨_,_,_,h⟩
 ·exact h
 ·exact h.elim
theorem B0{chk:PH->Bool}{g:GM}{c:TM}{e:EM}(L:Nat)(I:Nat->List W->aT->PH->Prop):∀(items:List W) (k:Nat) (acc:List W) (σ:aT) (ph:PH),
  (∀j acc σ ph,I j acc σ ph->chk ph=true) →
  (∀j x acc σ ph,items[j]? =some x->I (k+j) acc σ ph->∃σ1 ph1,g x σ ph=.ok σ1 ph1/\∃t ph2,c σ1 ph1=.ok t ph2/\((t=false/\I (k+j+1) acc σ1 ph2)\/(t=true/\∃w fI,e σ1 ph2=.ok w fI/\fI[L]? =some (.lst acc)/\acc.length<alz/\I (k+j+1) (acc++[w]) σ1 (fI.set L (.lst (acc++[w])))))) →
  I k acc σ ph->∃vH az ph',eX chk g c e L items σ ph=.ok () ph'/\I (k+items.length) vH az ph'
 | [],k,acc,σ,ph,hc,hs,h0=>by
  refine⟨acc,σ,ph,?_,h0⟩;unfold eX;rw[if_pos (hc _ _ _ _ h0)]
 | x::xs,k,acc,σ,ph,hc,hs,h0=>by
  obtain⟨σ1,ph1,e1,t,ph2,e2,h⟩:=hs 0 x acc σ ph rfl h0;have next:∀Ed oi,I (k+1) Ed σ1 oi->∃vH az ph',eX chk g c e L xs σ1 oi=.ok () ph'/\I (k+(x::xs).length) vH az ph':=fun Ed oi hI=>by
   have ih:=B0 L I xs (k+1) Ed σ1 oi hc (fun j y acc σ ph hj hI=>by
    have:=hs (j+1) y acc σ ph (by simpa using hj) (by rw[show k+(j+1)=k+1+j by omega];exact hI);rw[show k+(j+1)+1=k+1+j+1 by omega] at this;exact this) hI
   rw[show k+1+xs.length=k+(x::xs).length by simp;omega] at ih;exact ih
  have n1:iK (g x σ) ph=.ok σ1 ph1:=by unfold iK;rw[e1]
  have n2:iK (c σ1) ph1=.ok t ph2:=by unfold iK;rw[e2]
  rcases h with⟨rfl,hI⟩ | ⟨rfl,w,fI,e3,hL,hz,hI⟩
  ·have e:eX chk g c e L (x::xs) σ ph=eX chk g c e L xs σ1 ph2:=by
    conv=>lhs;unfold eX
    rw[if_pos (hc _ _ _ _ h0),cu n1,cu n2];rfl
   rw[e];exact next _ _ hI
  ·have n3:iK (e σ1) ph2=.ok w fI:=by unfold iK;rw[e3]
   have e:eX chk g c e L (x::xs) σ ph=eX chk g c e L xs σ1 (fI.set L (.lst (acc++[w]))):=by
    conv=>lhs;unfold eX
    rw[if_pos (hc _ _ _ _ h0),cu n1,cu n2];show aA (iK (e σ1)) _ ph2=_;rw[cu n3];exact cu (Iv hL hz w)
   rw[e];exact next _ _ hI
theorem Ki(im:IM)(cap:List (Option Nat))(g:GM)(c:TM)(e:EM)(σ:aT):dn im cap g c e σ=aA (im σ) fun r ph=>aA (eX r.2 g c e ph.length r.1 (jl cap σ)) (fun _=>aK (.ref ph.length)) (ph++[.lst []]):=rfl
theorem aeK(ph m:PH)(o o':PO):(ph++[o]++m).set ph.length o'=ph++[o']++m:=by
 rw[aoh,aqt _ _ (ali _)];simp
variable{σ:aT}
theorem lP(as:List α)(h:α->W){im:IM}{cap:List (Option Nat)}{g:GM}{c:TM}{e:EM}{ph0:PH}{chk:PH->Bool}(mW:im σ ph0=.ok (as.map h,chk) ph)(Fo:∀ph',Ex ph ph'->chk ph'=true)(hz:as.length<=alz)
  (F:α->Option W) (S:aT->Prop) (h0:S (jl cap σ))
  (step:∀x∈as,∀σ H,S σ->Ex ph H->∃σ1,g (h x) σ H=.ok σ1 H/\S σ1/\∃t H1,c σ1 H=.ok t H1/\Ex H H1/\((t=false/\F x=none)\/(t=true/\∃w H2,e σ1 H1=.ok w H2/\Ex H1 H2/\F x=some w))) :
  ∃ph',dn im cap g c e σ ph0=.ok (.ref ph.length) ph'/\Ex (ph++[.lst (as.filterMap F)]) ph':=by
 rw[Ki,cu mW];have key:=B0 (chk:=chk) (g:=g) (c:=c) (e:=e) ph.length (fun k acc σ H=>S σ/\acc=(as.take k).filterMap F/\Ex (ph++[.lst acc]) H) (as.map h) 0 [] (jl cap σ) (ph++[.lst []])
  (fun j acc σ H hI=>Fo _ ((Ex.one _ _).trans hI.2.2))
  (fun j y acc σ H hj hI=>by
   rw[anY] at hI ⊢;obtain⟨hS,ha,hE⟩:=hI;rw[aln] at hj;cases hx:as[j]? with
   | none=>rw[hx] at hj;cases hj
   | some x=>
    rw[hx] at hj;cases hj;have tk:(as.take (j+1)).filterMap F=acc++(F x).toList:=by
     rw[aoH,hx,List.filterMap_append,ha];cases hF:F x <;> simp[hF]
    obtain⟨σ1,e1,mQ,t,H1,e2,x2,h⟩:=step x (alF hx) σ H hS ((Ex.one _ _).trans hE);refine⟨σ1,H,e1,t,H1,e2,?_⟩
    rcases h with⟨rfl,hF⟩ | ⟨rfl,w,H2,e3,x3,hF⟩
    ·exact .inl ⟨rfl,mQ,by rw[tk,hF];simp,hE.trans x2⟩
    ·have x4:=(hE.trans x2).trans x3;refine .inr ⟨rfl,w,H2,e3,x4.get (aY _ _),?_,mQ,by rw[tk,hF];rfl,?_⟩
     ·have hl:acc.length<=j:=by
       rw[ha];exact alT (List.length_filterMap_le _ _) (by simp;omega)
      have:=(alf.mp hx).1;omega
     ·obtain⟨m,rfl⟩:=x4;rw[aeK];exact⟨m,rfl⟩)
  ⟨h0,by simp,Ex.refl _⟩
 obtain⟨acc,az,ph',e1,_,ha,hE⟩:=key;refine⟨ph',?_,?_⟩
 ·show aA (eX chk g c e ph.length (as.map h) (jl cap σ)) _ _=_;rw[cu e1];rfl
 ·rw[anY,alg,anL] at ha;rw[<- ha];exact hE
theorem pw{α β:Type}(f:α->β):∀l:List α,l.filterMap (fun a=>some (f a))=l.map f
 | []=>rfl
 | a::l=>by
  rw[List.filterMap_cons_some (f:=fun a=>some (f a)) (b:=f a) rfl,pw f l];rfl
theorem Ly{w:W}(h:(gc ws)[i]? =some w):∃x,ws[i]? =some x/\w=.tup [.int i,x]:=by
 unfold gc at h;rw[aln] at h;cases q:(anj ws.length)[i]? with
 | none=>rw[q] at h;cases h
 | some k=>
  rw[q] at h;obtain⟨hi,e⟩:=alf.mp q;rw[app] at e;subst e;rw[apJ] at hi;cases h;exact⟨ws[i],by simp[hi],by simp[hi]⟩
theorem Lz(ws:List W):(gc ws).length=ws.length:=by unfold gc;simp
theorem oX(h:m σ ph=.ok (.ref i) ph')(hi:ph'[i]? =some (.lst ws)):er m σ ph=.ok (ws,fun p=>decide (p[i]? =some (.lst ws))) ph':=by
 unfold er;rw[cu h];unfold lift zI nS;simp only[hi]
theorem De{m:AM}{j:Int}(h:m σ ph=.ok [.int j] ph')(h1: -(2 ^ 62)<=j)(h2:j<2 ^ 62):jZ m σ ph=.ok (gn 0 j.toNat,fun _=>true) ph':=by
 unfold jZ;rw[cu h];unfold lift DZ;simp only[h1,h2,and_self,if_true]
theorem ahg{m:AM}{i j:Int}(h:m σ ph=.ok [.int i,.int j] ph')(h1: -(2 ^ 62)<=i)(h2:i<2 ^ 62)(h3: -(2 ^ 62)<=j)(h4:j<2 ^ 62):tN m σ ph=.ok (gn i (j-i).toNat,fun _=>true) ph':=by
 unfold tN;rw[cu h];unfold lift D0;simp only[h1,h2,h3,h4,and_self,if_true]
theorem Jl{m:AM}(h:m σ ph=.ok [.ref i] ph')(hi:ph'[i]? =some (.lst ws)):sE m σ ph=.ok (gc ws,fun p=>decide (p[i]? =some (.lst ws))) ph':=by
 unfold sE;rw[cu h];unfold lift DC nS;simp only[hi,alS]
theorem Kj{lo:Int}{k:Nat}{w:W}(h:(gn lo n)[k]? =some w):k<n/\w=.int (lo+(k:Int)):=by
 unfold gn at h;rw[aln] at h;cases q:(anj n)[k]? with
 | none=>rw[q] at h;cases h
 | some j=>
  rw[q] at h;obtain⟨hi,e⟩:=alf.mp q;rw[app] at e;subst e;rw[apJ] at hi;cases h;exact⟨hi,rfl⟩
theorem Kk(lo:Int)(n:Nat):(gn lo n).length=n:=by unfold gn;simp
variable{ds:List aoz}
theorem ahh{x:W}{d:aoz}(h1:bW (dat ph 40) ws=some ds)(h2:dat ph 40 x=some d):lift (om x (.tup ws)) ph=.ok (.bl (ds.any fun e=>amh e d)) ph:=by
 unfold lift om inD;simp only[c7,h1,h2,alS]
theorem DF(a b:Str):amh (.str a) (.str b)=decide (a=b):=by
 unfold amh;rfl
theorem pd{α β γ:Type}(f:β->Option γ)(g:α->β)(h:α->γ)(hf:∀a,f (g a)=some (h a)):∀l:List α,bW f (l.map g)=some (l.map h)
 | []=>rfl
 | a::l=>by
  show bW f (g a::l.map g)=_;unfold bW;rw[hf a,pd f g h hf l];rfl
theorem LA(x:String)(ss:List String):lift (om (.str (ala x)) (.tup (ss.map fun s=>.str (ala s))))=aK (.bl (ss.any fun s=>decide (s=x))):=by
 funext ph
 rw[ahh (pd _ _ (fun s=>aqA (ala s)) (fun s=>by simp only[dat,so,if_true]) ss) (d:=.str (ala x)) (by simp only[dat,so,if_true])];rw[List.any_map];simp only[arx,DF,Dc];rfl
theorem NN(x a b:String):lift (om (.str (ala x)) (.tup [.str (ala a),.str (ala b)]))=aK (.bl (decide (a=x)||decide (b=x))):=by
 have:=LA x [a,b];simp only[alO,aqp,amt,List.any_nil,arc] at this;exact this
theorem NO(x a b c:String):lift (om (.str (ala x)) (.tup [.str (ala a),.str (ala b),.str (ala c)]))=aK (.bl (decide (a=x)||(decide (b=x)||decide (c=x)))):=by
 have:=LA x [a,b,c];simp only[alO,aqp,amt,List.any_nil,arc] at this;exact this
theorem y4{bs:List Bool}(h:ph[i]? =some (.lst (bs.map W.bl))):lift (lj [.ref i]) ph=.ok (.bl (bs.all id)) ph:=by
 unfold lift lj tf;simp only[Lx h,if_true,c7,h,amv,pd AQ W.bl id (fun _=>rfl),alS,aqu,id]
theorem sJ(ws:List W)(y:W):ax (.tup ws) y=c8 (.tup ws) y:=rfl
theorem NP(ws:List W)(y:W):ax (.fl ws) y=c8 (.fl ws) y:=rfl
theorem DG(x:Str)(y:W):ax (.str x) y=c8 (.str x) y:=rfl
theorem NQ(x:W)(ws:List W):qo x (.tup ws)=om x (.tup ws):=rfl
theorem NR(x:W)(ws:List W):qo x (.fl ws)=om x (.fl ws):=rfl
theorem MJ(x:W)(ws:List W):kj x (.tup ws)=Ae x (.tup ws):=rfl
theorem Df(i:Int)(y:W):cJ (.int i) y=sX (.int i) y:=by
 funext ph;unfold cJ;cases y <;> rfl
theorem Kl(o i:EM)(v:W)(σ:aT):sF o i v σ=aA (o σ) fun ow=>aA (i σ) fun iw=>aA (lift (D7 ow iw v)) fun _=>aK σ:=rfl
section
variable{ph:PH}{i:Nat}{ws:List W}{kws:List (W×W)}
theorem DH(h:ph[i]? =some (.lst ws)):iF (.ref i) ph=none:=by unfold iF;simp only[h]
theorem ej(h:ph[i]? =some (.lst ws)){k:Int}{w:W}(hk:cZ ws k=some w):lift (ax (.ref i) (.int k)) ph=.ok w ph:=by
 have:=Dd h hk;unfold lift at this ⊢;unfold ax;rw[DH h];exact this
theorem adf{ds:List aoz}{x:W}{d:aoz}(h:ph[i]? =some (.lst ws))(h1:bW (dat ph 40) ws=some ds)(h2:dat ph 40 x=some d):lift (kj x (.ref i)) ph=.ok (.bl (!(ds.any fun e=>amh e d))) ph:=by
 unfold lift kj;rw[DH h];unfold Ae inD;simp only[c7,h,h1,h2,alS]
theorem yR(h:ph[i]? =some (.lst ws)){k:Int}(h1: -(2 ^ 63)<=k)(h2:k<2 ^ 63)(hz:ws.length*k.toNat<=alz):lift (cJ (.ref i) (.int k)) ph=.ok (.ref ph.length) (ph++[.lst (alj k.toNat ws).flatten]):=by
 unfold lift cJ;simp only[h,h1,h2,hz,and_self,if_true]
end
theorem LB(σ:aT):vE σ=lift newD:=rfl
theorem Am(b:SM)(n:Nat)(x y z u v:W):fM b n 5 [x,y,z,u,v]=aA (b (some x::some y::some z::some u::some v::alj (n-5) none)) dO:=rfl
theorem OH(b:SM)(n:Nat)(x y z u v w:W):fM b n 6 [x,y,z,u,v,w]=aA (b (some x::some y::some z::some u::some v::some w::alj (n-6) none)) dO:=rfl
theorem ve(ph:PH)(n:Nat)(i:Int):dat ph n (.int i)=some (.int i):=by cases n <;> rfl
theorem Hy:∀ds:List aoz,(∀d∈ds,amh d d=true)->aoi ds ds=true
 | [],_=>by unfold aoi;rfl
 | d::ds,h=>by
  simp only[aoi,h d (by simp),Hy ds (fun e he=>h e (by simp[he])),arf]
theorem Km{α β:Type}{f:α->Option β}:∀{l:List α} {m:List β},bW f l=some m->∀b∈m,∃a∈l,f a=some b
 | [],m,h,b,hb=>by cases h;cases hb
 | a::l,m,h,b,hb=>by
  unfold bW at h;split at h
  ·rename_i b' m' e1 e2;cases h
   rcases alD.mp hb with rfl | hb
   ·exact⟨a,by simp,e1⟩
   ·obtain⟨c,hc,e⟩:=Km e2 b hb;exact⟨c,by simp[hc],e⟩
  ·cases h
theorem adg:∀(n:Nat) (w:W) (d:aoz),dat ph n w=some d->amh d d=true:=by
 intro n
 induction n with
 | zero=>
  intro w d h;cases w <;> simp only[dat] at h <;> first | (cases h;simp[amh];done) | skip
  ·split at h
   ·cases h;simp[amh]
   ·cases h
  all_goals cases h
 | succ n ih=>
  have key:∀(ws:List W) (ds:List aoz),bW (dat ph n) ws=some ds->aoi ds ds=true:=fun ws ds h=>
   Hy ds fun d hd=>let ⟨w,_,e⟩:=Km h d hd;ih w d e
  intro w d h;cases w with
  | aE=>cases h;simp[amh]
  | bl b=>cases h;simp[amh]
  | int i=>cases h;simp[amh]
  | str x=>
   simp only[dat] at h;split at h
   ·cases h;simp[amh]
   ·cases h
  | tup ws=>
   simp only[dat] at h;cases q:bW (dat ph n) ws with
   | none=>rw[q] at h;cases h
   | some ds=>rw[q] at h;cases h;simp only[amh,key ws ds q]
  | fl ws=>
   simp only[dat] at h;cases q:bW (dat ph n) ws with
   | none=>rw[q] at h;cases h
   | some ds=>rw[q] at h;cases h;simp only[amh,key ws ds q]
  | ref i=>
   simp only[dat] at h;split at h
   ·rename_i ws hw;cases q:bW (dat ph n) ws with
    | none=>rw[q] at h;cases h
    | some ds=>rw[q] at h;cases h;simp only[amh,key ws ds q]
   ·cases h
  | exc c ns ws=>simp only[dat] at h;cases h
  | fn x ws=>simp only[dat] at h;cases h
  | kt ws=>simp only[dat] at h;cases h
theorem y6(hi:ph[i]? =some (.lst ws))(hj:ph[j]? =some (.lst ws))(hd:bW (dat ph 39) ws=some ds):fJ ph (.ref i) (.ref j)=some true:=by
 unfold fJ;have e1:dat ph 40 (.ref i)=some (.list ds):=by simp only[dat,hi,hd,alS]
 have e2:dat ph 40 (.ref j)=some (.list ds):=by simp only[dat,hj,hd,alS]
 rw[e1,e2];simp only[adg 40 _ _ e1]
theorem zJ{x:W}(h:fJ ph x y=some b):lift (bh x y) ph=.ok (.bl b) ph:=by
 unfold lift bh;simp only[h,alS]
theorem DI{x:W}(h:fJ ph x y=some b):lift (cS x y) ph=.ok (.bl (!b)) ph:=by
 unfold lift cS;simp only[h,alS]
theorem eq_nil(hi:ph[i]? =some (.lst ws))(hj:ph[j]? =some (.lst []))(hd:bW (dat ph 39) ws=some ds):fJ ph (.ref i) (.ref j)=some ws.isEmpty:=by
 unfold fJ;have e1:dat ph 40 (.ref i)=some (.list ds):=by simp only[dat,hi,hd,alS]
 have e2:dat ph 40 (.ref j)=some (.list []):=by simp only[dat,hj,bW,alS]
 rw[e1,e2];cases ws with
 | nil=>cases hd;simp[amh,aoi]
 | cons w ws=>
  unfold bW at hd;split at hd
  ·cases hd;simp[amh,aoi]
  ·cases hd
theorem zm(m:EM)(lo hi:OM)(σ:aT):cE m lo hi σ=aA (m σ) fun w=>aA (lo σ) fun l=>aA (hi σ) fun h=>lift (kC w l h):=rfl
theorem ahi(h:ph[i]? =some (.lst ws))(k:Nat):lift (kC (.ref i) none (some (k:Int))) ph=.ok (.ref ph.length) (ph++[.lst (ws.take k)]):=by
 have:jo ws none (some (k:Int))=ws.take k:=by
  unfold jo HT.bA;simp;rw[if_neg (by omega)];omega
 unfold lift kC;simp only[h,this]
section
variable{ph:PH}{i:Nat}{kws:List (W×W)}
theorem aeL{ws:List W}(h:ph[i]? =some (.lst ws))(k:Nat):lift (kC (.ref i) (some (k:Int)) none) ph=.ok (.ref ph.length) (ph++[.lst (ws.drop k)]):=by
 have:jo ws (some (k:Int)) none=ws.drop k:=by
  unfold jo HT.bA;simp;rw[if_neg (by omega)];by_cases hk:k<=ws.length
  ·rw[aqv hk,List.take_of_length_le (by simp)]
  ·rw[Nat.min_eq_right (by omega),aqf (ali _),aqf (by omega),List.take_nil]
 unfold lift kC;simp only[h,this]
end
section
variable{X:Cx}{pins:List (Addr×Obj)}{σ:L2.St}{H:Hp}{s:ald}
noncomputable def mX(sc:Scope)(n:Str):Scope:={ sc with names:=sc.names.map fun p=>if p.1==n then(p.1,.free) else p }
theorem Iw{n x:Str}:∀{l:List (Str×aog)},(l.map fun p=>if p.1==n then(p.1,alL) else p).lookup x=if x==n then(l.lookup x).map fun _=>.free else l.lookup x
 | []=>by simp
 | p::l=>by
  rw[alO];obtain⟨y,k⟩:=p;have ih:=Iw (n:=n) (x:=x) (l:=l);by_cases hy:y=n
  ·subst hy;simp only[beq_self_eq_true,if_true];rw[alC,alC,ih];by_cases hx:x=y
   ·subst hx;simp
   ·have:(x==y)=false:=by simpa using hx
    simp[this]
  ·have PJ:(y==n)=false:=by simpa using hy
   simp only[PJ,apq,if_false];rw[alC,alC,ih];by_cases hx:x=y
   ·subst hx;simp[PJ]
   ·have:(x==y)=false:=by simpa using hx
    simp[this]
end
noncomputable def zK(j:Nat)(w:W)(σ:aT):aT:=(alj σ.length none).set j (some w)
noncomputable def zL(tb:List (Str×Bool))(j:Nat)(b h:SM):SM:=fun σ=>match σ[j]? with
 | some (some w)=>fun ph=>match b σ ph with
  | .ex x ph'=>if tb.lookup x.cls=some true/\x.fs.isEmpty=true then wm (h (zK j w σ)) ph' else .no
  | .ok f ph'=>.ok f ph'
  | .no=>.no
 | _=>eK
section
variable{X:Cx}
abbrev mr(X:Cx)(pn':List (Addr×Obj))(E:Value->ald->Prop)(j:Nat)(v:V):Cx:={ X with pn:=pn',xe:=E,kp:=fun σ=>X.kp σ/\σ[j]? =some (some v) }
variable{σ:L2.St}{H:Hp}{E:Value->ald->Prop}
theorem aeM{pins jh pn':List (Addr×Obj)}{s:ald}{j:Nat}{v:V}(I:Inv X pins σ H s)(hv:σ[j]? =some (some v))(hp:∀p∈pn'++jh,p∈X.pn++pins):Inv (mr X pn' E j v) jh σ H s:=
 ⟨⟨I.ok.mod,I.ok.kind,I.ok.glob,I.ok.blt,I.ok.above,I.ok.inj,I.ok.has,I.ok.n4,I.ok.hd,I.ok.frames,I.ok.qi,I.ok.vO,I.ok.bs,I.ok.ku,I.ok.nI,I.ok.nJ,I.ok.fQ,I.ok.lr⟩,I.os,I.bare,I.base,I.loc,I.cell,I.free,I.iE,fun p h=>I.pin p (hp p h),I.aM,⟨I.lk.1,I.lk.2,hv⟩⟩
theorem Jm{pins jh pn':List (Addr×Obj)}{s:ald}{j:Nat}{v:V}{A':amz}{xe':Value->ald->Prop}{calm':Bool}{pn2:List (Addr×Obj)}(I:Inv (mr X pn' E j v) jh σ H s)(hA:A'.frames=X.A.frames)(hh:calm'=true->A'.handled=none)(hp:∀p∈pn2++pins,p∈pn'++jh):Inv (eG X A' pn2 xe' calm') pins σ H s:=
 ⟨⟨I.ok.mod,I.ok.kind,I.ok.glob,I.ok.blt,I.ok.above,I.ok.inj,I.ok.has,I.ok.n4,hh,hA.trans I.ok.frames,I.ok.qi,I.ok.vO,I.ok.bs,I.ok.ku,I.ok.nI,I.ok.nJ,I.ok.fQ,I.ok.lr⟩,I.os,I.bare,I.base,I.loc,I.cell,I.free,I.iE,fun p h=>I.pin p (hp p h),I.aM,⟨I.lk.1,I.lk.2.1⟩⟩
theorem MK{Y:Cx}{pins:List (Addr×Obj)}{s:ald}(I:Inv Y pins σ H s):Inv { Y with xe:=E } pins σ H s:=
 ⟨⟨I.ok.mod,I.ok.kind,I.ok.glob,I.ok.blt,I.ok.above,I.ok.inj,I.ok.has,I.ok.n4,I.ok.hd,I.ok.frames,I.ok.qi,I.ok.vO,I.ok.bs,I.ok.ku,I.ok.nI,I.ok.nJ,I.ok.fQ,I.ok.lr⟩,I.os,I.bare,I.base,I.loc,I.cell,I.free,I.iE,I.pin,I.aM,I.lk⟩
theorem ahj{Y:Cx}{x:XC}{φ:Nat->Addr}{k:Nat}{H':Hp}{e:Value}{s':ald}(h:mP Y φ k x H' e s'):mP { Y with xe:=E } φ k x H' e s':=by
 obtain⟨C,dd,hm,hf,h⟩:=h;refine⟨C,dd,hm,hf,?_⟩
 rcases h with⟨pins,σ,s,h',a,e1,e2,I,hx⟩ | ⟨pins,σ,H,s,I,h⟩
 ·exact .inl ⟨pins,σ,s,h',a,e1,e2,MK I,hx⟩
 ·exact .inr ⟨pins,σ,H,s,MK I,h⟩
theorem ahk{j:Nat}{o:Option V}(h:σ[j]? =some o):σ.set j o=σ:=by
 obtain⟨hl,e⟩:=alf.mp h;rw[<- e];exact List.set_getElem_self hl
variable{body jN:List Stmt}{j5:Stmt}{c n:Str}{j:Nat}{tb:List (Str×Bool)}{D:Addr}{np nW pos:Pos}{mb mh:SM}
theorem ahl(T:b6 X)(aja:X.calm=true)(hW:Gl X c)(hX:X.mg c=some (.ref D))(bU:(c==("__debug__":Str))=false)(hk:zH X.K D)(hT:gV X.K D tb)
  (hb:∀(pn:List (Addr×Obj)) (K0 E0:Value->ald->Prop) (v:V),gy (mr X pn (fun e s'=>wpAny (model X.prog X.w) X.A (aoo e X.env) (fun _ gv=>K0 e gv) E0 s') j v) body mb) (hh:∀a E,gy (eG X (X.A.mark (some (.ref a))) X.pn E false) (j5::jN) mh) :
  IS X (.Try body [.ExceptHandler (some (.Name c np)) none (j5::jN) nW] [] [] pos) (zL tb j mb mh):=by
 intro pins s σ H Dn I h;obtain⟨φ,ph,ws,hH,hS,h⟩:=h;have qx:=I.ok.hd;unfold zL at h;cases ew:ws[j]? with
 | none=>simp only[ew] at h;exact h.elim
 | some ow=>
 cases ow with
 | none=>simp only[ew] at h;exact h.elim
 | some wj=>
 simp only[ew] at h;obtain⟨va,ev,ra⟩:=hS.get ew
 let X0:Cx:=mr X (X.pn++pins) X.xe j va
 let K0:Value->ald->Prop:=fun e wR=>wpAny (model X.prog X.w) X.A (apH e none) (fun _ F8=>wpAny (model X.prog X.w) X.A (handleBy e X.env [.ExceptHandler (some (.Name c np)) none (j5::jN) nW]) (SP X pins Dn) X.xe F8) X.xe wR
 let E1:Value->ald->Prop:=fun e s'=>wpAny (model X.prog X.w) X.A (aoo e X.env) (fun _ gv=>K0 e gv) X.xe s'
 have I1:Inv (mr X (X.pn++pins) E1 j va) [] σ H s:=aeM I ev fun p hp=>by simpa using hp
 have back:∀{az:L2.St} {H':Hp} {s':ald},Inv (mr X (X.pn++pins) E1 j va) [] az H' s'->Inv X pins az H' s':=fun{az H' s'} J=>Jm (A':=X.A) (xe':=X.xe) (calm':=X.calm) (pn2:=X.pn) J rfl qx fun p hp=>by simpa using hp
 have DJ:tS (mr X (X.pn++pins) E1 j va) mb Dn σ H:=by
  refine⟨φ,ph,ws,hH,hS,?_⟩;cases q:mb ws ph with
  | ok f ph'=>rw[q] at h;exact h
  | no=>rw[q] at h;exact h
  | ex x ph'=>
   rw[q] at h
   dsimp only at h
   intro av H' e s' rH st th;by_cases hx:tb.lookup x.cls=some true/\x.fs.isEmpty=true
   case neg=>rw[if_neg hx] at h;exact h.elim
   rw[if_pos hx] at h;have th:mP X0 av ph'.length x H' e s':=ahj (E:=X.xe) th;obtain⟨C,dd,Fp,AJ,a,B,rfl,K⟩:=took (X:=X0) ⟨T.st,T.fr,T.ex⟩ th;obtain⟨C',tn,Ee⟩:=hT _ _ hx.1;have vI:=alk I.ok.mod.dF I.ok.mod.glob tn;have Ef:X.mg x.cls=some (.ref C):=Fp;rw[Ef] at vI;cases vI;refine K.note (A:=X.A) I.ok.frames fun h4 a0 DK wq=>?_
   refine Hw DK fun h5 wt wu=>?_
   obtain⟨ajb,gK,Fq,Fs,Ft,_,gH,_,J5⟩:=K.inv (X:=X0) ⟨T.st,T.fr,T.ex⟩ wt (wq.trans wu)
   let X2:Cx:=eG X (X.A.mark (some (.ref a))) X.pn (fun _ _=>False) false
   have to2:∀{p5:List (Addr×Obj)} {az:L2.St} {H2:Hp} {s':ald},Inv X0 p5 az H2 s'->Inv X2 pins az H2 s':=fun{p5 az H2 s'} J=>Jm J rfl (fun z=>nomatch z) fun p hp=>aom _ hp
   have wz:=to2 J5;refine wpAny_handleBy_cons (codeAny_handlers_test (pj (X:=X2) wz hW hX ?_ bU)) (by intro z;cases z);refine Jh wz.cD ⟨Fq,Fs,Ft⟩ hk.ek hk.ty Ee (codeAny_handlers_suite ?_);refine Hx wt fun h6 Fu Fv=>?_
   obtain⟨ajc,ij,wA,ge6,PK,PL,_,_,J6⟩:=K.inv (X:=X0) ⟨T.st,T.fr,T.ex⟩ Fu ((wq.trans wu).trans Fv);have Fw:=to2 J6;have b7:ws.length=ij.length:=by rw[hS.len,I.len];exact J6.len.symm
   have hj6:ij[j]? =some (some va):=J6.lk.2.2;have PM:=st.trans (oZ (K:=X.K) (φ:=av) (n:=ph'.length) (o:=HO.bE wA (.own a)) gH);have rs:bc X.K av ph'.length (upd H' a (.bE wA (.own a))) (zK j wj ws) ij:=by
    have:=bc.set (ws:=alj ws.length none) (ra.mono PM) j (by rw[b7];exact bc.none ij);rw[ahk hj6] at this;exact this
   have Dg:tS X2 mh Dn ij (upd H' a (.bE wA (.own a))):=by
    refine⟨av,ph',zK j wj ws,yN rH gH,rs,?_⟩;unfold wm at h;cases q2:mh (zK j wj ws) ph' with
    | no=>rw[q2] at h;exact h.elim
    | ex y p2=>rw[q2] at h;exact h.elim
    | ok f p2=>
     rw[q2] at h;exact fun bg H2 r2 s2=>h bg H2 r2 (PM.trans s2)
   have l6:∀{az:L2.St} {H2:Hp} {s':ald},Inv X2 pins az H2 s'->Inv X pins az H2 s':=fun{az H2 s'} J=>BY J rfl qx fun p hp=>hp
   refine amr (hh a (fun _ _=>False) pins _ _ _ Dn Fw Dg) (fun f s8 z=>?_) fun _ _ z=>z.elim
   cases f with
   | next=>obtain⟨az,H2,J8,q8⟩:=z;exact⟨_,H2,l6 J8,q8⟩
   | brk=>obtain⟨az,H2,J8,q8⟩:=z;exact⟨_,H2,l6 J8,q8⟩
   | cont=>obtain⟨az,H2,J8,q8⟩:=z;exact⟨_,H2,l6 J8,q8⟩
   | ret u=>obtain⟨v,az,H2,J8,r8,q8⟩:=z;exact⟨v,_,H2,l6 J8,r8,q8⟩
 refine wpAny_Try_except (amr (hb (X.pn++pins) K0 X.xe va [] s σ H Dn I1 DJ) (fun f s1 z=>?_) fun e s1 z=>z);cases f with
 | next=>
  obtain⟨az,H',J,q⟩:=z;exact anU ⟨az,H',back J,q⟩
 | brk=>obtain⟨az,H',J,q⟩:=z;exact⟨az,H',back J,q⟩
 | cont=>obtain⟨az,H',J,q⟩:=z;exact⟨az,H',back J,q⟩
 | ret u=>obtain⟨v,az,H',J,r,q⟩:=z;exact⟨v,az,H',back J,r,q⟩
end
noncomputable def zM(c:Str)(fm:List W->Mo W)(a:AM):EM:=fun σ=>aA (a σ) fun ws ph=>aA (iK (fm (.ref ph.length::ws))) (fun w=>ai4 w (aK (.ref ph.length))) (ph++[.obj c []])
noncomputable def vg(g:W->W->Po W)(c f:Str)(o v:EM):SM:=fun σ=>aA (o σ) fun x=>aA (lift (Ah c f x)) fun y=>aA (v σ) fun z=>aA (lift (g y z)) fun u=>aA (lift (Ai c f x u)) fun _=>aK (.nx σ)
section
variable{X:Cx}{e o value:Expr}{es:List Expr}{m mo mv:EM}{a:AM}{c f:Str}{C:Addr}{pos pos' z7 p:Pos}
variable{k:Nat}
theorem aeN{g:Addr}{fd:alM}{ps:List Str}{fm:List W->Mo W}(bM:ale X.K alc c=some (some (.ref C)))(M:Mk X.K C g)(F:bK X.prog X.w X.K X.mg X.base (bF X.prog X.w) k g fd ps (bY X.K X.mg ps.length fm))(hl:∀{xs:List W} {ph:PH},xs.length≠ps.length->fm xs ph=.no)(hr:cQ (k+1) X.A)
  (hg:Gl X c) (hm:X.mg c=some (.ref C)) (hb:Binds X.K fd ps []) (bU:(c==("__debug__":Str))=false) (hn:dH (e::es)=true) (ha:IA X (e::es) a):IE X (.Call (.Name c p) (e::es) [] pos) (zM c fm a):=by
 unfold dH at hn;rw[amH,alo] at hn;refine PE.imp (adX (E:=fun _ _ _=>False) (dvs:=[]) M F hr hg hm hb .nil (fun pins σ H s e s' I z=>by obtain⟨_,_,_,_,z⟩:=z;exact z.elim) ha bU (dB (by simpa using hn.1)) (any_none (by unfold dH;exact hn.2))) fun σ H Q h=>?_
 obtain⟨φ,ph,ws,hH,hS,h⟩:=h;unfold zM at h;refine tA.bind hH hS h fun xs ph1 aC H1 vs aF st1 PN h=>?_
 rw[cV] at h;intro x dx hx PP ly;rw[anC];have PQ:upd H1 dx (.own x) x=none:=by rw[bw (amT ly)];exact hx
 have Fx:(ph1++[PO.obj c []]).length=ph1.length+1:=by simp
 have s1:=oZ (K:=X.K) (φ:=aC) (n:=ph1.length) (o:=HO.own x) PP;have s2:=yL (K:=X.K) (φ:=aC) (n:=ph1.length) (o:=HO.ins C dx []) PQ;have bj:=(yN (o:=HO.own x) aF PP).new PQ (o:=PO.obj c []) (x:=HO.ins C dx []) ⟨C,dx,[],bM,bP,.nil⟩;have q:aX X.K (ext aC ph1.length x) (ph1.length+1) (upd (upd H1 dx (.own x)) x (.ins C dx [])) (.ref ph1.length) (.ref (ext aC ph1.length x ph1.length)):=.ref (amK _);rw[nA] at q;have b7:xs.length=vs.length:=PN.length;by_cases hz:(W.ref ph1.length::xs).length=ps.length
 case neg=>
  have h:=uB (E':=fun _ _=>False) h;rw[hl hz] at h;exact h.elim
 refine⟨by rw[alA] at hz ⊢;omega,ext aC ph1.length x,ph1++[.obj c []],.ref ph1.length::xs,bj,.cons (by rw[Fx];exact q) (by rw[Fx];exact(PN.mono s1).mono s2),(uB (E':=fun _ _=>False) h).mono (fun w ph' h av H' v hH' s' rv=>?_) fun _ _ z=>anc z⟩;rw[Fx] at s';cases rv with
 | aE=>exact⟨rfl,h av H' _ hH' (st1.trans ((s1.trans s2).trans s')) (q.mono s')⟩
 | _=>exact h.elim
theorem aeO{g:Addr}{fd:alM}{ps:List Str}{fm:List W->Mo W}(bM:ale X.K alc c=some (some (.ref C)))(M:Mk X.K C g)(F:bK X.prog X.w X.K X.mg X.base (bF X.prog X.w) k g fd ps (bY X.K X.mg ps.length fm))(hl:∀{xs:List W} {ph:PH},xs.length≠ps.length->fm xs ph=.no)(hr:cQ (k+1) X.A)
  (hg:Gl X c) (hm:X.mg c=some (.ref C)) (hb:Binds X.K fd ps []) (bU:(c==("__debug__":Str))=false) (hn:dH (e::es)=true) (ha:JA X (e::es) a):JE X (.Call (.Name c p) (e::es) [] pos) (zM c fm a):=⟨aeN bM M F hl hr hg hm hb bU hn ha.h⟩
noncomputable def An(g:W->W->Po W)(rd:V->V->Hp->VK->Prop):Prop:=∀{y z w:W} {ph ph':PH},g y z ph=some (w,ph')->∃i j k:Int,y=.int i/\z=.int j/\w=.int k/\ph'=ph/\∀H Q,Q (.int k) H->rd (.int i) (.int j) H Q
theorem aeP{g:W->W->Po W}{op:aqZ}{rd:V->V->Hp->VK->Prop}(vR:vt X op rd)(ho:An g rd)(bM:ale X.K alc c=some (some (.ref C)))(hc:iR X.K C)(hn:eU X.K C f)(pY:IE X o mo)(hv:IE X value mv):IS X (.AugAssign (.Attribute o f z7) op value pos) (vg g c f mo mv):=by
 refine PS.imp (aa9 pY hv vR) fun D σ H h=>?_
 obtain⟨φ,ph,ws,hH,hS,h⟩:=h;refine tM.bind hH hS h fun x ph1 aC H1 vx aF s1 rx h=>?_
 rw[cV] at h;obtain⟨y,ak5,e1,h⟩:=run_lift h;unfold Ah at e1;cases rx with
 | @ref i hi=>
  simp only at e1;split at e1
  ·rename_i c' fs hw;split at e1
   ·rename_i n9;subst n9;obtain⟨C',dx,vs,q1,q2,r⟩:=aF.hp _ _ hw;rw[bM] at q1;cases q1;have ro:=r.lookup f;cases q:fs.lookup f with
    | none=>rw[q] at e1;cases e1
    | some y0=>
     rw[q] at e1 ro;cases e1;cases q':vs.lookup f with
     | none=>rw[q'] at ro;exact ro.elim
     | some v=>
      rw[q'] at ro;refine⟨_,C,dx,vs,v,rfl,q2,hc,hn,q',?_⟩;refine tM.bind aF (hS.mono s1) h fun z ph2 bg H2 vz bj s2 rz h=>?_
      rw[cV] at h;obtain⟨u,fI,e3,h⟩:=run_lift h;obtain⟨a1,a2,a3,rfl,rfl,rfl,rfl,Pa⟩:=ho e3;cases rz;cases ro;refine Pa _ _ ?_;rw[cV] at h;obtain⟨_,oi,e4,k⟩:=run_lift h;unfold Ai at e4;simp only at e4;split at e4
      ·rename_i c2 fs2 dG;split at e4
       ·rename_i akm;obtain⟨rfl,hz⟩:=akm;cases e4;obtain⟨C2,AR,Fy,p1,p2,r2⟩:=bj.hp _ _ dG;rw[bM] at p1;cases p1;have hφ:aC i=bg i:=(s2.eq i hi).symm;have s3:=nh (K:=X.K) (φ:=bg) (n:=fI.length) (y:=HO.ins C AR (dM f (.int a3) Fy)) p2 trivial;have dr:=bj.put dG rfl (x:=HO.ins C AR (dM f (.int a3) Fy)) (o:=.obj c2 (sG f (.int a3) fs2)) ⟨C,AR,_,bM,bP,(r2.put f (.int a3)).mono s3⟩;rw[hφ];exact⟨AR,Fy,p2,by rw[<- r2.len];exact hz,k bg _ dr (by rw[amG];exact(s1.trans s2).trans s3) σ (by rw[amG];exact((hS.mono s1).mono s2).mono s3)⟩
       ·cases e4
      ·cases e4
   ·cases e1
  ·cases e1
 | _=>cases e1
theorem CK{g:W->W->Po W}{op:aqZ}{rd:V->V->Hp->VK->Prop}(vR:vt X op rd)(ho:An g rd)(bM:ale X.K alc c=some (some (.ref C)))(hc:iR X.K C)(hn:eU X.K C f)(pY:JE X o mo)(hv:JE X value mv):JS X (.AugAssign (.Attribute o f z7) op value pos) (vg g c f mo mv):=⟨aeP vR ho bM hc hn pY.h hv.h⟩
theorem NT:An Aj N8:=fun{y z w ph ph'} h=>by
 unfold Aj qq at h;split at h
 ·cases h;exact⟨_,_,_,rfl,rfl,rfl,rfl,fun H Q q=>⟨_,_,rfl,rfl,q⟩⟩
 ·cases h
theorem ajd:An Ea N9:=fun{y z w ph ph'} h=>by
 unfold Ea qq at h;split at h
 ·cases h;exact⟨_,_,_,rfl,rfl,rfl,rfl,fun H Q q=>⟨_,_,rfl,rfl,q⟩⟩
 ·cases h
variable{sc:Scope}
theorem sh{n x:Str}{kd:aog}(h:(mX sc n).names.lookup x=some kd):(x=n/\kd=.free)\/(x≠n/\sc.names.lookup x=some kd):=by
 unfold mX at h;simp only[Iw] at h;by_cases hx:x=n
 ·subst hx;simp only[beq_self_eq_true,if_true] at h;obtain⟨_,_,h⟩:=alv.mp h;exact .inl ⟨rfl,h.symm⟩
 ·have:(x==n)=false:=by simpa using hx
  rw[this] at h;exact .inr ⟨hx,h⟩
theorem Bd.akn{N:List Str}{j:Nat}{n:Str}{v:V}{pn:List (Addr×Obj)}{E:Value->ald->Prop}(B:Bd X N sc k)(hj:N[j]? =some n)(hv:aJ sc n)(hp:aqk (model X.prog X.w) X.A X.env E):Bd (mr X pn E j v) N (mX sc n) k:=by
 have ql:∀x,Loc (mX sc n) x->x≠n/\Loc sc x:=fun x h=>by
  rcases h with h | h
  ·rcases sh h with⟨_,z⟩ | ⟨z,h⟩
   ·cases z
   ·exact⟨z,.inl h⟩
  ·rcases sh h with⟨_,z⟩ | ⟨z,h⟩
   ·cases z
   ·exact⟨z,.inr h⟩
 exact⟨⟨⟨B.hN,fun x h=>by
   rcases h with h | h | h
   ·rcases sh h with⟨_,z⟩ | ⟨_,h⟩
    ·cases z
    ·exact B.j4 x (.inl h)
   ·rcases sh h with⟨_,z⟩ | ⟨_,h⟩
    ·cases z
    ·exact B.j4 x (.inr (.inl h))
   ·rcases sh h with⟨z,_⟩ | ⟨_,h⟩
    ·rw[z];exact B.j4 n hv
    ·exact B.j4 x (.inr (.inr h)),fun x h=>B.loc x (ql x h).2,fun x h=>by
   rcases sh h with⟨_,z⟩ | ⟨_,h⟩
   ·cases z
   ·exact B.gl x h,fun x h=>⟨(B.fn x (ql x h).2).1,fun i hi σ o hk=>⟨(B.fn x (ql x h).2).2 i hi σ o hk.1,by
   have hi:X.N[i]? =some x:=hi;rw[B.hN] at hi;rw[amW (fun z=>(ql x h).1 (by rw[z,hj] at hi;exact(amm hi).symm))];exact hk.2⟩⟩,B.nd⟩,B.calm,B.room⟩,hp⟩
variable{body jN:List Stmt}{j5:Stmt}{n:Str}{tb:List (Str×Bool)}{D:Addr}{np nW:Pos}{mb mh:SM}
theorem ahm{N:List Str}(B:Bd X N sc k)(T:b6 X)(aL:X.env.scope=sc)(hW:Gl X c)(hX:X.mg c=some (.ref D))(bU:(c==("__debug__":Str))=false)(hk:zH X.K D)(hT:gV X.K D tb)(j:Nat)(hj:N[j]? =some n)(hv:aJ sc n)
  (hb:∀{X':Cx},X'.K=X.K->X'.mg=X.mg->Bd X' N (mX sc n) k->b6 X'->X'.env.scope=sc->JB X' body mb) (hh:∀{X':Cx},X'.K=X.K->X'.mg=X.mg->fV X' N sc->JB X' (j5::jN) mh) :
  JS X (.Try body [.ExceptHandler (some (.Name c np)) none (j5::jN) nW] [] [] pos) (zL tb j mb mh):=
 ⟨ahl T B.calm hW hX bU hk hT (fun pn K0 E0 v=>(hb (X':=mr X pn _ j v) rfl rfl (B.akn hj hv PassesOwn.looking) ⟨T.st,T.fr,T.ex⟩ aL).h)
  (fun a E=>(hh (X':=eG X (X.A.mark (some (.ref a))) X.pn E false) rfl rfl ⟨B.hN,B.j4,B.loc,B.gl,B.fn,B.nd⟩).h)⟩
end
theorem aeQ(e:kS K=[]):∀p∈kS K,apz h p.2.1 p.2.2/\h.get? p.2.2=some (anN #[]):=fun p hp=>by
 rw[e] at hp;exact nomatch hp
noncomputable def PR(z:Str):It:=⟨fun i _=>i<z.cps.size,fun i H x H'=>H'=H/\∃c,z.cps[i]? =some c/\x=.str ⟨#[c]⟩,fun i _=>z.cps.size<=i⟩
theorem adh{w:World}{tg:Expr}(z:Str)(t:Tok)(it:Addr):Turn P w K tg (PR z) [it] it (fun i h=>h.IsStrIter it "str_ascii_iterator" z t i) where
 mem:=by simp
 obj:=fun i h st b hb=>by
  have e:b=it:=by simpa using hb
  subst e;obtain⟨o,e,c,d⟩:=st;exact⟨o,e,fun v z=>by rw[d] at z;cases z⟩
 keep:=fun i h h' st k=>let ⟨o,ho,r⟩:=st;⟨o,k it (by simp) o ho,r⟩
 item:=by
  intro X hP hw hK hc i pins s σ H E I hf st hg;subst hP hw hK;obtain⟨f0,f1,f2,f3,f4,f5⟩:=hf it (by simp);obtain⟨c0,hx⟩:∃c,z.cps[i]? =some c:=⟨_,Array.getElem?_eq_getElem (show i<z.cps.size from hg)⟩
  refine wpAny_pyNext_ascii_item st hx fun h' d0 sb=>?_
  have I1:Inv X pins σ H { s with heap:=h',toks:=s.toks+1 }:=I.turned (t':=s.toks+1) (fun b o hb e=>(sb.2 b hb).trans e) f0 f1 f3 f4 f5;obtain⟨o,e,c,d⟩:=id d0;exact⟨_,rfl,zB (s:={ s with heap:=h',toks:=s.toks+1 }) e c d (by decide) ⟨.str ⟨#[c0]⟩,H,I1,⟨_,rfl⟩,⟨rfl,_,hx,rfl⟩,d0,fun b hb=>(hf b hb).1⟩⟩
 done:=by
  intro X hP hw hK hc i pins s σ H E I hf st hg;subst hP hw hK;obtain⟨f0,f1,f2,f3,f4,f5⟩:=hf it (by simp);exact wpAny_pyNext_ascii_end (I.ok.hd hc) st (by simpa using(show z.cps.size<=i from hg)) fun h' eb=>⟨rfl,I.turned (t':=s.toks) (fun b o hb e=>eb b o hb e) f0 f1 f3 f4 f5⟩
 self:=fun _ _ _ _ _ st h=>wpAny_pyIter_striter_ascii st h
section
variable{X:Cx}{tg:Expr}
noncomputable def aje(tl:TE):TI:=fun σ H R=>tl σ H fun v H1=>∃z,v=.str z/\z.cps.all (· <128)=true/\R (PR z) H1
variable{l:Expr}
theorem ahn{tl:TE}(hl:PE X l tl):PI X tg l (aje tl):=by
 intro pins s σ H R I h;refine a8 (hl pins s σ H _ I h) fun v s1 ⟨x,H1,I1,r1,q1⟩=>?_
 obtain⟨z,e,ha,q⟩:=q1;subst e;obtain⟨t,rfl⟩:=r1;refine wpAny_pyIter_ascii ha ?_;refine⟨s1.heap.objs.size,[s1.heap.objs.size],_,_,H1,rfl,I1.kept (t':=s1.toks) fun b o e=>alb _ e,adh z t _,⟨_,alG _ rfl,rfl,rfl⟩,fun b hb=>?_,q⟩;have e:b=s1.heap.objs.size:=by simpa using hb
 subst e;exact I1.sQ (ali _) (I1.aM.fresh (ali _))
noncomputable def vJ(z:Str):List W:=z.cps.toList.map fun c=>.str ⟨#[c]⟩
noncomputable def nY(w:W):Po (List W×(PH->Bool)):=fun ph=>match w with
 | .str z=>if z.cps.all (· <128)=true then some ((vJ z,fun _=>true),ph) else none
 | _=>none
noncomputable def jU(m:EM):IM:=fun σ=>aA (m σ) fun w=>lift (nY w)
theorem aho{m:EM}(hl:IE X l m):II X tg l (jU m):=by
 refine PI.imp (ahn hl) fun σ H R h=>?_
 obtain⟨φ,ph,ws,hH,hS,h⟩:=h;refine tM.bind hH hS h fun w ph1 aC H1 v aF s1 r1 h=>?_
 obtain⟨r,ph',e,k⟩:=run_lift h;unfold nY at e;cases r1 with
 | str z=>
  simp only at e;split at e
  ·rename_i ha;cases e;refine⟨z,rfl,ha,k aC H1 _ aF s1 ?_⟩;intro bg ph2 H2 bj s2 hc j;refine⟨fun w dG=>?_,fun hn=>?_⟩
   ·unfold vJ at dG;rw[aln] at dG;obtain⟨c,tH,rfl⟩:=alv.mp dG;have PU:z.cps[j]? =some c:=by rw[<- tH];simp
    refine⟨(amk.mp PU).1,fun x gx hy=>?_⟩;obtain⟨rfl,d,hd,rfl⟩:=hy;rw[PU] at hd;cases hd;exact⟨bj,Step.refl,.str _⟩
   ·unfold vJ at hn;show z.cps.size<=j
    simpa using hn
  ·cases e
 | _=>cases e
theorem ML{m:EM}(hl:JE X l m):JI X tg l (jU m):=⟨aho hl.h⟩
end
noncomputable def kl(w:W)(_:PH):Bool:=match w with
 | .str _=>true
 | _=>false
theorem zo:qv K "str" kl:=by
 intro φ ph H x vx hH rx e;unfold kl at e;cases rx with
 | str z=>rfl
 | _=>cases e
noncomputable def strOf:W->Option Str
 | .str z=>some z
 | _=>none
noncomputable def iH:W->List W->Po W:=fun x xs ph=>match x,xs with
 | .str z,[.ref i]=>match ph[i]? with
  | some (.lst ws)=>match bW strOf ws with
   | some zs=>if zs.length<=1048576/\(∀y∈zs,y.length<=10)/\z.length<=6 then some (.str (arG z zs),ph) else none
   | none=>none
  | _=>none
 | _,_=>none
noncomputable def rJoin(K:acs):V->List V->Hp->VK->Prop:=fun x ys H Q=>∃z p zs,x=.str z/\ys=[.ref p]/\bL K H p (zs.map V.str)/\zs.length<=1048576/\(∀y∈zs,y.length<=10)/\z.length<=6/\Q (.str (arG z zs)) H
theorem Hz:∀{zs:List Str} {us:List Value},Vals (zs.map V.str) us->CarriedAll us (zs.map aqA)
 | [],us,r=>by cases r;exact .nil
 | z::zs,us,r=>by
  cases r with
  | cons h r=>
   obtain⟨t,rfl⟩:=h;exact .cons (.str z t) (Hz r)
theorem y8:tJ X "str.join" (rJoin X.K):=by
 intro pins s σ H x xs v us Q I rx rv h;obtain⟨z,p,zs,rfl,rfl,hq,hn,hB,hz,q⟩:=h;obtain⟨t,rfl⟩:=rx;obtain⟨u,rfl,ru⟩:=Vals.one rv;cases ru;obtain⟨its,ri,pl,_⟩:=I.list hq;refine PySem.W.KT.join_B (l:=zs) (g:=fun y=>y) 10 pl.isList (Hz ri) hB hn (by omega) fun t' k=>?_
 rw[List.map_id'];exact⟨.str (arG z zs),H,I.tok k,⟨t',rfl⟩,q⟩
theorem Cn{K:acs}{φ:Nat->Addr}{n:Nat}{H:Hp}:∀{ws:List W} {zs:List Str} {vs:List V},bW strOf ws=some zs->bi K φ n H ws vs->vs=zs.map V.str
 | [],zs,vs,e,r=>by cases r;cases e;rfl
 | w::ws,zs,vs,e,r=>by
  cases r with
  | cons h r=>
   unfold bW at e;cases h with
   | str z=>
    simp only[strOf] at e;cases q:bW strOf ws with
    | none=>rw[q] at e;cases e
    | some us=>rw[q] at e;cases e;rw[Cn q r];rfl
   | _=>cases e
theorem y9:qu K "str" (rJoin K) iH:=by
 intro φ ph H x xs vx vs w ph' Q hH rx rs e k;unfold iH at e;cases rx with
 | str z=>
  split at e
  ·rename_i z' i hx;cases hx;cases rs with
   | cons r0 rr=>
    cases rr;cases r0 with
    | ref hi=>
     split at e
     ·rename_i ws hw;split at e
      ·rename_i zs hzs;split at e
       ·rename_i hc;cases e;obtain⟨vs,hv,r⟩:=hH.hp _ _ hw;rw[Cn hzs r] at hv;exact⟨z,_,zs,rfl,rfl,bL.of hv,hc.1,hc.2.1,hc.2.2,k φ H _ hH Step.refl (.str _)⟩
       ·cases e
      ·cases e
     ·cases e
  ·cases e
 | _=>cases e
end IL
namespace PySem
open Sem (wp)
namespace ZT
section
variable{prog:amb}{w:World}{A:amz}{E:Value->ald->Prop}{s:ald}
variable{xs:Array Value}
theorem Z2{h:Heap}{a:Addr}(x:h.IsTuple a xs)(ob:Obj):(h.push ob).IsTuple a xs:=let ⟨o,ho,r⟩:=x;⟨o,alb _ ho,r⟩
variable{Q:Value->ald->Prop}
theorem Bk{it l:Addr}{i:Nat}{items}{x:Value}(hit:s.heap.IsTupleIter it l i)
  (hl:s.heap.IsTuple l items) (hx:items[i]? =some x)
  (hQ:∀h',h'.IsTupleIter it l (i+1)->aoJ it s.heap h'->Q x { s with heap:=h' }) :
  wpAny (model prog w) A (amg (.ref it)) Q E s:=by
 obtain⟨o,ho,hc,hd⟩:=id hit;obtain⟨ol,Fz,_,nl,FA⟩:=hl;unfold amg;refine abB (amF (name:=ala "__next__") hit.typeIs ani
  (ank ani hit.typeIs apd ?_ (aoW _)))
 show wpAny _ _ (field (.ref it) 0 >>= _) _ _ s;refine abB (alY ho hd (x:=.ref l) rfl ?_);show wpAny _ _ (if(alJ l==alW)=true then _ else _) _ _ s;rw[if_neg (show ¬((alJ l==alW)=true) from alK)];show wpAny _ _ (field (.ref it) 1 >>= _) _ _ s;refine abB (alY ho hd (x:=.int i 0) rfl ?_);show wpAny _ _ (seqItems? (.ref l) >>= _) _ _ s;refine abB (anw Fz FA ?_);simp only[apK,hx];refine abB (anb ho hd (by simp) (alh ⟨x,rfl,alh (hQ _ ?_ (aqT ..))⟩));exact⟨_,amj _ ho (anp (amJ hd _)),(Obj.cls_mapFields ..).trans hc,by
  rw[amJ hd];simp[aok]⟩
theorem GO{it l:Addr}{i:Nat}{items}(hh:A.handled=none)
  (hit:s.heap.IsTupleIter it l i) (hl:s.heap.IsTuple l items) (hx:items[i]? =none)
  (hE:∀h' e,Heap.ExtBut it s.heap h'->(∃o,h'.get? e=some o/\o.cls=.type "StopIteration")->E (.ref e) { s with heap:=h' }) :
  wpAny (model prog w) A (amg (.ref it)) Q E s:=by
 obtain⟨o,ho,hc,hd⟩:=id hit;obtain⟨ol,Fz,_,nl,FA⟩:=hl;unfold amg;refine abB (amF (name:=ala "__next__") hit.typeIs ani
  (ank ani hit.typeIs apd ?_ (aoW _)))
 show wpAny _ _ (field (.ref it) 0 >>= _) _ _ s;refine abB (alY ho hd (x:=.ref l) rfl ?_);show wpAny _ _ (if(alJ l==alW)=true then _ else _) _ _ s;rw[if_neg (show ¬((alJ l==alW)=true) from alK)];show wpAny _ _ (field (.ref it) 1 >>= _) _ _ s;refine abB (alY ho hd (x:=.int i 0) rfl ?_);show wpAny _ _ (seqItems? (.ref l) >>= _) _ _ s;refine abB (anw Fz FA ?_);simp only[apK,hx];refine abB (wpAny_rule (abB (anb ho hd (by simp) ?_)));show wpAny _ _ (newExc (.type "StopIteration") [] >>= _) _ _ _;refine abB ?_;simp only[newExc,newTuple];refine abB (ams ?_ (by size_fits));refine abB (m:=firstArgMember _ _) (wpAny_of_eq (a:=alW) (by first | rfl | (simp only[firstArgMember];rfl)) ?_);refine ams ?_ (by size_fits);simp only[raiseNew];refine abB (wpAny_handled ?_)
 first | rw[show A.in1.handled=none from hh] | rw[hh]
 refine abB (alh (wpAny_throw ?_));exact hE _ _ (((aqT ..).extBut.push _).push _) ⟨_,alG _ rfl,rfl⟩
variable{z i1 i2 l1 l2:Addr}{k1 k2:Nat}{ys:Array Value}{a b:Value}
theorem VB{TI TO:Addr}{x y:Value}(D:arj z TI TO i1 i2 l1 l2)
  (hz:IsZip s.heap z TI TO .none) (ft:aop s.heap TI (.ref i1) (.ref i2)) (fK:aop s.heap TO a b)
  (h1:s.heap.IsTupleIter i1 l1 k1) (h2:s.heap.IsTupleIter i2 l2 k2) (iU:s.heap.IsTuple l1 xs) (fH:s.heap.IsTuple l2 ys) (hx:xs[k1]? =some x) (hy:ys[k2]? =some y)
  (hQ:∀h',IsZip h' z TI TO (aok s.heap.objs.size)->aop h' TO x y->h'.IsTupleIter i1 l1 (k1+1)->h'.IsTupleIter i2 l2 (k2+1)->aop h' s.heap.objs.size x y->h'.objs.size=s.heap.objs.size+1 →
   (∀c o,c≠z->c≠TO->c≠i1->c≠i2->s.heap.get? c=some o->h'.get? c=some o)->Q (.ref s.heap.objs.size) { s with heap:=h' }) :
  wpAny (model prog w) A (apx.«zip.__next__» ⟨[.ref z],[]⟩) (fun fin s'=>∃v,fin=.done (.ret v)/\Q v s') E s:=by
 show wpAny _ _ (field (.ref z) 2 >>= _) _ _ _;refine abB (alY hz rfl (x:=.bool false) rfl ?_);show wpAny _ _ (field (.ref z) 3 >>= _) _ _ _;refine abB (alY hz rfl (x:=.ref TI) rfl ?_);refine abB (anw ft rfl ?_);show wpAny _ _ (amy (.ref z) >>= _) _ _ _;refine abB ?_;unfold amy;refine abB (alY hz rfl (x:=.none) rfl (alh ?_));simp only[if_true];refine abB (wpAny_rule ?_);refine abB (alY hz rfl (x:=.ref TO) rfl ?_);refine abB (anr hz (by simp) fun bZ oq dh=>?_)
 replace oq:IsZip bZ z TI TO .ellipsis:=oq
 refine abB ?_;simp only[List.zipIdx_cons,List.zipIdx_nil,anW,apy];refine abB (abB (apW ?_));show wpAny _ _ (amg (.ref i1) >>= _) _ _ _;refine abB (Bk (h1.extBut dh.extBut D.i1z) (iU.extBut dh.extBut D.l1z) hx fun wU PV hZ=>alh ?_);have vK:aop wU TO a b:=hZ.extBut _ _ D.TOi1 (dh.extBut _ _ D.TOz fK);refine abB (anw vK rfl ?_);refine abB (aoS vK fun Ba Ao iV=>?_)
 replace Ao:aop Ba TO x b:=Ao
 refine abB (aqU (alh ?_));refine abB (abB (apW ?_));show wpAny _ _ (amg (.ref i2) >>= _) _ _ _;refine abB (Bk (((h2.extBut dh.extBut D.i2z).extBut hZ.extBut D.i12.symm).extBut iV.extBut D.TOi2.symm)
  (((fH.extBut dh.extBut D.l2z).extBut hZ.extBut D.l2i1).extBut iV.extBut D.l2TO) hy fun F9 akN ot=>alh ?_)
 have OI:aop F9 TO x b:=ot.extBut _ _ D.TOi2 Ao;refine abB (anw OI rfl ?_);refine abB (aoS OI fun e9 vL ou=>?_)
 replace vL:aop e9 TO x y:=vL
 refine abB (aqU (alh (alh ?_)));refine abB (anw vL rfl ?_);refine abB (wpAny_newTuple ?_);have hsz:e9.objs.size=s.heap.objs.size:=by rw[ou.1,ot.1,iV.1,hZ.1,dh.1]
 have PX:IsZip e9 z TI TO .ellipsis:=ou.extBut _ _ D.TOz.symm (ot.extBut _ _ D.i2z.symm (iV.extBut _ _ D.TOz.symm (hZ.extBut _ _ D.i1z.symm oq)));have akO:∀c o,c≠z->c≠TO->c≠i1->c≠i2->s.heap.get? c=some o->e9.get? c=some o:=fun c o c1 c2 c3 c4 e=>
  ou.extBut _ _ c2 (ot.extBut _ _ c4 (iV.extBut _ _ c2 (hZ.extBut _ _ c3 (dh.extBut _ _ c1 e))))
 have PY:e9.IsTupleIter i1 l1 (k1+1):=((PV.extBut iV.extBut D.TOi1.symm).extBut ot.extBut D.i12).extBut ou.extBut D.TOi1.symm;have PZ:e9.IsTupleIter i2 l2 (k2+1):=akN.extBut ou.extBut D.TOi2.symm;have OJ:z<e9.objs.size:=alp PX;have akW:TO<e9.objs.size:=alp vL;have akX:i1<e9.objs.size:=by obtain⟨_,e,_⟩:=PY;exact alp e
 have akY:i2<e9.objs.size:=by obtain⟨_,e,_⟩:=PZ;exact alp e
 show wpAny _ _ (aoq (.ref z) (.ref e9.objs.size) >>= _) _ _ _;refine abB ?_;unfold aoq;have akP:IsZip (e9.push { cls:=.type "tuple",data:=.seq #[x,y] }) z TI TO .ellipsis:=alb _ PX;refine abB (anr akP (by simp) fun akR FC FD=>?_)
 replace FC:IsZip akR z TI TO (aok e9.objs.size):=FC
 refine anr FC (by simp) fun wV AS FE=>?_
 replace AS:IsZip wV z TI TO (aok e9.objs.size):=AS
 have up:∀c o,c≠z->e9.get? c=some o->wV.get? c=some o:=fun c o c1 e=>FE.extBut _ _ c1 (FD.extBut _ _ c1 (alb _ e))
 have P0:aop wV e9.objs.size x y:=FE.extBut _ _ (ana OJ) (FD.extBut _ _ (ana OJ) (alG _ rfl));have P1:wV.objs.size=e9.objs.size+1:=by rw[FE.1,FD.1,amR]
 rw[hsz] at AS P0 P1;refine alh ⟨_,rfl,?_⟩;show Q (.ref e9.objs.size) _;rw[hsz];exact hQ wV AS (up _ _ D.TOz vL) (PY.at fun o e=>up _ o D.i1z e) (PZ.at fun o e=>up _ o D.i2z e) P0 P1 fun c o c1 c2 c3 c4 e=>up c o c1 (akO c o c1 c2 c3 c4 e)
theorem WE{TI TO:Addr}{Q:Fin->ald->Prop}(hh:A.handled=none)(D:arj z TI TO i1 i2 l1 l2)
  (hz:IsZip s.heap z TI TO .none) (ft:aop s.heap TI (.ref i1) (.ref i2)) (fK:aop s.heap TO a b)
  (h1:s.heap.IsTupleIter i1 l1 k1) (h2:s.heap.IsTupleIter i2 l2 k2) (iU:s.heap.IsTuple l1 xs) (fH:s.heap.IsTuple l2 ys) (Eg:xs[k1]? =none\/ys[k2]? =none)
  (hE:∀h' e,(∀c o,c≠z->c≠TO->c≠i1->c≠i2->s.heap.get? c=some o->h'.get? c=some o)->(∃o,h'.get? e=some o/\o.cls=.type "StopIteration")->E (.ref e) { s with heap:=h' }) :
  wpAny (model prog w) A (apx.«zip.__next__» ⟨[.ref z],[]⟩) Q E s:=by
 show wpAny _ _ (field (.ref z) 2 >>= _) _ _ _;refine abB (alY hz rfl (x:=.bool false) rfl ?_);show wpAny _ _ (field (.ref z) 3 >>= _) _ _ _;refine abB (alY hz rfl (x:=.ref TI) rfl ?_);refine abB (anw ft rfl ?_);show wpAny _ _ (amy (.ref z) >>= _) _ _ _;refine abB ?_;unfold amy;refine abB (alY hz rfl (x:=.none) rfl (alh ?_));simp only[if_true];refine abB (wpAny_rule ?_);refine abB (alY hz rfl (x:=.ref TO) rfl ?_);refine abB (anr hz (by simp) fun bZ oq dh=>?_)
 replace oq:IsZip bZ z TI TO .ellipsis:=oq
 refine abB ?_;simp only[List.zipIdx_cons,List.zipIdx_nil,anW,apy];refine abB (abB (apW ?_));show wpAny _ _ (amg (.ref i1) >>= _) _ _ _;cases hx:xs[k1]? with
 | none=>
  refine abB (GO hh (h1.extBut dh.extBut D.i1z) (iU.extBut dh.extBut D.l1z) hx fun wU e hZ he=>?_);obtain⟨oe,qy,wB⟩:=he;have P2:IsZip wU z TI TO .ellipsis:=hZ _ _ D.i1z.symm oq;have FF:e≠z:=fun x=>by subst x;rw[P2] at qy;cases qy;simp at wB
  refine anr P2 (by simp) fun Ba _ iV=>hE Ba e (fun c o c1 _ c3 _ x=>iV.extBut _ _ c1 (hZ _ _ c3 (dh.extBut _ _ c1 x))) ⟨oe,iV.extBut _ _ FF qy,wB⟩
 | some x=>
  have hy:ys[k2]? =none:=by rcases Eg with h | h;rw[hx] at h;cases h;exact h
  refine abB (Bk (h1.extBut dh.extBut D.i1z) (iU.extBut dh.extBut D.l1z) hx fun wU PV hZ=>alh ?_);have vK:aop wU TO a b:=hZ.extBut _ _ D.TOi1 (dh.extBut _ _ D.TOz fK);refine abB (anw vK rfl ?_);refine abB (aoS vK fun Ba Ao iV=>?_);refine abB (aqU (alh ?_));refine abB (abB (apW ?_));show wpAny _ _ (amg (.ref i2) >>= _) _ _ _;refine abB (GO hh (((h2.extBut dh.extBut D.i2z).extBut hZ.extBut D.i12.symm).extBut iV.extBut D.TOi2.symm)
   (((fH.extBut dh.extBut D.l2z).extBut hZ.extBut D.l2i1).extBut iV.extBut D.l2TO) hy fun F9 e ot he=>?_)
  obtain⟨oe,qy,wB⟩:=he;have P4:IsZip F9 z TI TO .ellipsis:=ot _ _ D.i2z.symm (iV.extBut _ _ D.TOz.symm (hZ.extBut _ _ D.i1z.symm oq));have FF:e≠z:=fun x=>by subst x;rw[P4] at qy;cases qy;simp at wB
  refine anr P4 (by simp) fun e9 _ ou=>hE e9 e (fun c o c1 c2 c3 c4 x=>ou.extBut _ _ c1 (ot _ _ c4 (iV.extBut _ _ c2 (hZ.extBut _ _ c3 (dh.extBut _ _ c1 x))))) ⟨oe,ou.extBut _ _ FF qy,wB⟩
theorem SO{TI TO:Addr}{x y:Value}{Q:Option Value->ald->Prop}(D:arj z TI TO i1 i2 l1 l2)
  (hz:IsZip s.heap z TI TO .none) (ft:aop s.heap TI (.ref i1) (.ref i2)) (fK:aop s.heap TO a b)
  (h1:s.heap.IsTupleIter i1 l1 k1) (h2:s.heap.IsTupleIter i2 l2 k2) (iU:s.heap.IsTuple l1 xs) (fH:s.heap.IsTuple l2 ys) (hx:xs[k1]? =some x) (hy:ys[k2]? =some y)
  (hQ:∀h',IsZip h' z TI TO (aok s.heap.objs.size)->aop h' TO x y->h'.IsTupleIter i1 l1 (k1+1)->h'.IsTupleIter i2 l2 (k2+1)->aop h' s.heap.objs.size x y->h'.objs.size=s.heap.objs.size+1 →
   (∀c o,c≠z->c≠TO->c≠i1->c≠i2->s.heap.get? c=some o->h'.get? c=some o)->Q (some (.ref s.heap.objs.size)) { s with heap:=h' }) :
  wpAny (model prog w) A (pyNext (.ref z)) Q E s:=by
 have hT:s.TypeIs (.ref z) "zip":=⟨_,hz,rfl⟩
 unfold pyNext;exact abB (aoV (amF (name:=ala "__next__") hT ape
  (ank ape hT F.entry_zip_next
   (VB D hz ft fK h1 h2 iU fH hx hy fun h' a1 a2 a3 a4 a5 a6 a7=>alh (hQ h' a1 a2 a3 a4 a5 a6 a7)) (F.args_zip_next_1 _))))
theorem Tp{TI TO:Addr}{Q:Option Value->ald->Prop}(hh:A.handled=none)(D:arj z TI TO i1 i2 l1 l2)
  (hz:IsZip s.heap z TI TO .none) (ft:aop s.heap TI (.ref i1) (.ref i2)) (fK:aop s.heap TO a b)
  (h1:s.heap.IsTupleIter i1 l1 k1) (h2:s.heap.IsTupleIter i2 l2 k2) (iU:s.heap.IsTuple l1 xs) (fH:s.heap.IsTuple l2 ys) (Eg:xs[k1]? =none\/ys[k2]? =none)
  (hQ:∀h',(∀c o,c≠z->c≠TO->c≠i1->c≠i2->s.heap.get? c=some o->h'.get? c=some o)->Q none { s with heap:=h' }):wpAny (model prog w) A (pyNext (.ref z)) Q E s:=by
 have hT:s.TypeIs (.ref z) "zip":=⟨_,hz,rfl⟩
 unfold pyNext;refine abB (aoV (amF (name:=ala "__next__") hT ape
  (ank ape hT F.entry_zip_next (WE hh D hz ft fK h1 h2 iU fH Eg fun h' e hk he=>?_) (F.args_zip_next_1 _))))
 obtain⟨o,ho,hc⟩:=he;refine abB (wpAny_isInstance (T:="StopIteration") (b:=true) ⟨o,ho,hc⟩ isSubtype_stop ?_);exact alh (hQ _ hk)
end
abbrev zp(h:Heap)(l1:Addr):Heap:=h.push { cls:=.type "tuple_iterator",data:=.fields #[.ref l1,.int 0 0] }
abbrev zq(h:Heap)(l1 l2:Addr):Heap:=(zp h l1).push { cls:=.type "tuple_iterator",data:=.fields #[.ref l2,.int 0 0] }
abbrev zr(h:Heap)(l1 l2:Addr):Heap:=(zq h l1 l2).push { cls:=.type "tuple",data:=.seq #[.ref h.objs.size,.ref (zp h l1).objs.size] }
abbrev zt(h:Heap)(l1 l2:Addr):Heap:=(zr h l1 l2).push { cls:=.type "tuple",data:=.seq #[.none,.none] }
abbrev pH(h:Heap)(l1 l2:Addr):Heap:=(zt h l1 l2).push { cls:=.type "zip",data:=.fields #[.none,.bool false,.bool false,.ref (zq h l1 l2).objs.size,.ref (zr h l1 l2).objs.size] }
theorem VC(l1 l2:Addr)(xs ys:Array Value) :
  Meets (apx.«zip.__new__» ⟨[.type "zip",.ref l1,.ref l2],[]⟩) (fun _ R s=>s.heap.IsTuple l1 xs/\s.heap.IsTuple l2 ys /\
   R (.ok (.ret (.ref (zt s.heap l1 l2).objs.size))) { s with heap:=pH s.heap l1 l2 }):=
 .of_wp fun prog w A R s h=>by
  obtain⟨hp,g,d,tk,os⟩:=s;obtain⟨iU,fH,h⟩:=h;have ak6:=sub_zip;have hL1:anZ (Shared.heap ⟨hp,g,d,tk,os⟩) l1 xs:=iU;have hL2:anZ (Shared.heap ⟨hp.push { cls:=.type "tuple_iterator",data:=.fields #[.ref l1,.int 0 0] },g,d,tk,os⟩) l2 ys:=Z2 fH _
  wp_walk using apl hL1,apl hL2
  exact⟨_,rfl,h⟩
section
variable{prog:amb}{w:World}{A:amz}{E:Value->ald->Prop}{s:ald}
theorem YF{l1 l2:Addr}{xs ys:Array Value}{Q:Value->ald->Prop}(iU:s.heap.IsTuple l1 xs)(fH:s.heap.IsTuple l2 ys)
  (h:∀h',IsZip h' (s.heap.objs.size+4) (s.heap.objs.size+2) (s.heap.objs.size+3) .none->aop h' (s.heap.objs.size+2) (.ref s.heap.objs.size) (.ref (s.heap.objs.size+1)) →
   aop h' (s.heap.objs.size+3) .none .none->h'.IsTupleIter s.heap.objs.size l1 0->h'.IsTupleIter (s.heap.objs.size+1) l2 0->h'.objs.size=s.heap.objs.size+5 →
   (∀c o,s.heap.get? c=some o->h'.get? c=some o)->Q (.ref (s.heap.objs.size+4)) { s with heap:=h' }) :
  wpAny (model prog w) A (call (.type "zip") [.ref l1,.ref l2]) Q E s:=by
 refine callType_new F.called_zip (by decide) (F.typeCall_zip_2 _ _) (F.newCall_zip_2 _ _) (fun obj=>F.args_object_init_3 obj _ _) F.entry_zip_new
  (VC l1 l2 xs ys) ⟨iU,fH,?_⟩
 have z1:(zp s.heap l1).objs.size=s.heap.objs.size+1:=amR ..;have z2:(zq s.heap l1 l2).objs.size=s.heap.objs.size+2:=by rw[amR,z1]
 have z3:(zr s.heap l1 l2).objs.size=s.heap.objs.size+3:=by rw[amR,z2]
 have z4:(zt s.heap l1 l2).objs.size=s.heap.objs.size+4:=by rw[amR,z3]
 have z5:(pH s.heap l1 l2).objs.size=s.heap.objs.size+5:=by rw[amR,z4]
 have g5:(pH s.heap l1 l2).get? (zt s.heap l1 l2).objs.size=some _:=alG _ rfl;have g4:(pH s.heap l1 l2).get? (zr s.heap l1 l2).objs.size=some _:=alb _ (alG _ rfl);have g3:(pH s.heap l1 l2).get? (zq s.heap l1 l2).objs.size=some _:=alb _ (alb _ (alG _ rfl));have g2:(pH s.heap l1 l2).get? (zp s.heap l1).objs.size=some _:=alb _ (alb _ (alb _ (alG _ rfl)));have g1:(pH s.heap l1 l2).get? s.heap.objs.size=some _:=alb _ (alb _ (alb _ (alb _ (alG _ rfl))));show _/\_;rw[z2,z3,z4] at g5;rw[z1,z2] at g3;rw[z3] at g4;rw[z1] at g2;rw[z4];exact⟨⟨_,g5,rfl⟩,h _ g5 g3 g4 ⟨_,g1,rfl,rfl⟩ ⟨_,g2,rfl,rfl⟩ z5 fun c o x=>
  alb _ (alb _ (alb _ (alb _ (alb _ x))))⟩
end
end ZT
end PySem
namespace IL
open PySem PySem.Spec PyProof.Rows L2
theorem aby:amo "zip"=some (.type "zip"):=by kernel_rfl
theorem ahp{n a b:Nat}(ha:a<n)(hb:b<n):arj (n+4) (n+2) (n+3) n (n+1) a b:=by
 constructor <;> (intro h;change @Eq Nat _ _ at h;omega)
noncomputable def OK(K:acs)(a b:Addr):It:=
 ⟨fun i H=>∃xs ys x y,bT K H a xs/\bT K H b ys/\xs[i]? =some x/\ys[i]? =some y,fun i H v H'=>∃T x y,v=.ref T/\H T=none/\H'=upd H T (.tup [x,y])/\∀xs ys,bT K H a xs->bT K H b ys->xs[i]? =some x/\ys[i]? =some y,fun i H=>∃xs ys,bT K H a xs/\bT K H b ys/\(xs.length<=i\/ys.length<=i)⟩
variable{j:Nat}
theorem abz{P:amb}{w:World}{K:acs}{iM:List Expr}{pos:Pos}(a b z TI TO i1 i2:Addr)(D:arj z TI TO i1 i2 a b):Turn P w K (.Tuple iM j pos) (OK K a b) [z,TI,TO,i1,i2] z
  (fun i h=>IsZip h z TI TO .none/\aop h TI (.ref i1) (.ref i2)/\(∃x y,aop h TO x y)/\h.IsTupleIter i1 a i/\h.IsTupleIter i2 b i) where
 mem:=by simp
 obj:=fun i h st c hc=>by
  obtain⟨hz,ft,⟨x,y,fK⟩,⟨o1,e1,c1,d1⟩,o2,e2,c2,d2⟩:=st;have:c=z\/c=TI\/c=TO\/c=i1\/c=i2:=by simpa using hc
  rcases this with rfl | rfl | rfl | rfl | rfl
  ·exact⟨_,hz,fun v q=>by cases q⟩
  ·exact⟨_,ft,fun v q=>by cases q⟩
  ·exact⟨_,fK,fun v q=>by cases q⟩
  ·exact⟨_,e1,fun v q=>by rw[d1] at q;cases q⟩
  ·exact⟨_,e2,fun v q=>by rw[d2] at q;cases q⟩
 keep:=fun i h h' st k=>by
  obtain⟨hz,ft,⟨x,y,fK⟩,h1,h2⟩:=st;exact⟨k z (by simp) _ hz,k TI (by simp) _ ft,⟨x,y,k TO (by simp) _ fK⟩,h1.at fun o q=>k i1 (by simp) o q,h2.at fun o q=>k i2 (by simp) o q⟩
 item:=by
  intro X hP hw hK hc i pins s σ H E I hf st hg;subst hP hw hK;obtain⟨hz,ft,⟨x0,y0,fK⟩,h1,h2⟩:=st;obtain⟨xs,ys,x,y,qa,qb,hx,hy⟩:=hg;obtain⟨tU,AU,px,_⟩:=I.tuple qa;obtain⟨tV,AV,py,_⟩:=I.tuple qb;obtain⟨u,hu,ru⟩:=AU.get hx;obtain⟨v,hv,rv⟩:=AV.get hy;refine PySem.ZT.SO D hz ft fK h1 h2 (show anZ _ _ tU.toArray from px) (show anZ _ _ tV.toArray from py) (x:=u) (y:=v) (by simpa using hu) (by simpa using hv) fun g1 a1 a2 a3 a4 a5 a6 hk=>⟨_,rfl,?_⟩
  refine wpAny_letOwnedTupleGo_zip a1 fun g2 b1 cY=>?_
  have kk:∀c o,c∉[z,TI,TO,i1,i2]->s.heap.get? c=some o->g2.get? c=some o:=fun c o hc q=>by
   have n:c≠z/\c≠TI/\c≠TO/\c≠i1/\c≠i2:=by simpa using hc
   exact(cY.2 c n.1).trans (hk c o n.1 n.2.2.1 n.2.2.2.1 n.2.2.2.2 q)
  have lt:∀{c o},s.heap.get? c=some o->s.heap.objs.size≠c:=fun e=>ana (alp e)
  have P5:s.heap.objs.size≠z:=lt hz;have new:de X.prog X.w (upd H s.heap.objs.size (.tup [x,y])) g2 s.heap.objs.size (.tup [x,y]):=
   ⟨by show 2<=alz;decide,[u,v],.cons ru (.cons rv .nil),_,(cY.2 _ P5).trans a5,rfl,_,rfl⟩
  refine⟨.ref s.heap.objs.size,_,Lf (s:=s) (h':=g2) (t':=s.toks) I kk hf (ali _) new,rfl,⟨_,x,y,rfl,I.aM.fresh (ali _),rfl,fun xs' ys' h3 h4=>by rw[I.BU h3 qa,I.BU h4 qb];exact⟨hx,hy⟩⟩,
   ⟨b1,cY.extBut _ _ D.TIz (hk _ _ D.TIz D.TITO D.TIi1 D.TIi2 ft),⟨u,v,cY.extBut _ _ D.TOz a2⟩,a3.extBut cY.extBut D.i1z,a4.extBut cY.extBut D.i2z⟩,fun c hc=>?_⟩
  rw[bw (fun q=>?_)]
  ·exact(hf c hc).1
  ·have:c=z\/c=TI\/c=TO\/c=i1\/c=i2:=by simpa using hc
   rcases this with e | e | e | e | e
   ·exact P5 (by rw[<- q,e])
   ·exact lt ft (by rw[<- q,e])
   ·exact lt fK (by rw[<- q,e])
   ·obtain⟨o,e1,_⟩:=h1;exact lt e1 (by rw[<- q,e])
   ·obtain⟨o,e1,_⟩:=h2;exact lt e1 (by rw[<- q,e])
 done:=by
  intro X hP hw hK hc i pins s σ H E I hf st hg;subst hP hw hK;obtain⟨hz,ft,⟨x0,y0,fK⟩,h1,h2⟩:=st;obtain⟨xs,ys,qa,qb,hx⟩:=hg;obtain⟨tU,AU,px,_⟩:=I.tuple qa;obtain⟨tV,AV,py,_⟩:=I.tuple qb;have l1:=AU.length;have l2:=AV.length;refine PySem.ZT.Tp (I.ok.hd hc) D hz ft fK h1 h2 (show anZ _ _ tU.toArray from px) (show anZ _ _ tV.toArray from py) (hx.elim (fun hx=>.inl (by simp;omega)) fun hx=>.inr (by simp;omega)) fun g1 hk=>⟨rfl,Lg (t':=s.toks) I (fun c o hc q=>?_) hf⟩
  have n:c≠z/\c≠TI/\c≠TO/\c≠i1/\c≠i2:=by simpa using hc
  exact hk c o n.1 n.2.2.1 n.2.2.2.1 n.2.2.2.2 q
 self:=fun _ _ _ _ _ st h=>wpAny_pyIter_zip st.1 h
noncomputable def ahq(K:acs)(ta:TA):TI:=fun σ H R=>ta σ H fun vs H1=>∃a b,vs=[.ref a,.ref b]/\(∃xs,bT K H1 a xs)/\(∃ys,bT K H1 b ys)/\R (OK K a b) H1
theorem aeR{X:Cx}{a b:Expr}{ta:TA}{iM:List Expr}{tp p pos:Pos}(hg:Gl X "zip")(hm:X.mg "zip"=none)(ha:PA X [a,b] ta)(hs:alI [a,b] X.env=[(false,eval a X.env),(false,eval b X.env)]:=by rfl)(cY:alI [b] X.env=[(false,eval b X.env)]:=by rfl) :
  PI X (.Tuple iM j tp) (.Call (.Name "zip" p) [a,b] [] pos) (ahq X.K ta):=by
 intro pins s σ H R I h;refine Call_ (pA I hg hm aby (amD (a8 (ha pos pins s σ H _ I h) fun us s1 ⟨vs,H1,I1,r1,q1⟩=>?_) (by rw[hs,cY]) (by rw[cY];rfl)));obtain⟨a,b,e,⟨xs,qa⟩,⟨ys,qb⟩,q⟩:=q1;subst e;obtain⟨u1,u2,rfl,r1,r2⟩:=Vals.two r1;cases r1;cases r2;obtain⟨tU,AU,px,_⟩:=I1.tuple qa;obtain⟨tV,AV,py,_⟩:=I1.tuple qb;refine PySem.ZT.YF (show anZ _ _ tU.toArray from px) (show anZ _ _ tV.toArray from py) fun h' hz ft fK h1 h2 hsz hk=>?_
 refine wpAny_pyIter_zip hz ?_;have I2:Inv X pins σ H1 { s1 with heap:=h' }:=I1.kept (t':=s1.toks) hk;have la:a<s1.heap.objs.size:=by obtain⟨o,e,_⟩:=(show s1.heap.IsTuple a tU.toArray from px);exact alp e
 have lb:b<s1.heap.objs.size:=by obtain⟨o,e,_⟩:=(show s1.heap.IsTuple b tV.toArray from py);exact alp e
 refine⟨s1.heap.objs.size+4,[s1.heap.objs.size+4,s1.heap.objs.size+2,s1.heap.objs.size+3,s1.heap.objs.size,s1.heap.objs.size+1],_,_,H1,rfl,I2,
  abz a b (s1.heap.objs.size+4) (s1.heap.objs.size+2) (s1.heap.objs.size+3) s1.heap.objs.size (s1.heap.objs.size+1) (ahp la lb),⟨hz,ft,⟨_,_,fK⟩,h1,h2⟩,fun c hc=>?_,q⟩
 have hc:s1.heap.objs.size<=c:=by
  have:c=s1.heap.objs.size+4\/c=s1.heap.objs.size+2\/c=s1.heap.objs.size+3\/c=s1.heap.objs.size\/c=s1.heap.objs.size+1:=by simpa using hc
  rcases this with e | e | e | e | e <;> rw[e] <;> first | exact ali _ | exact Nat.le_add_right _ _
 exact I1.sQ hc (I1.aM.fresh hc)
noncomputable def vh:W->Option (List W)
 | .tup ws=>some ws
 | .kt ws=>some ws
 | _=>none
noncomputable def qf(us vs:List W):List W:=(us.zip vs).map fun p=>.tup [p.1,p.2]
theorem adi{us vs:List W}{w:W}(h:(qf us vs)[j]? =some w):∃x y,us[j]? =some x/\vs[j]? =some y/\w=.tup [x,y]:=by
 unfold qf at h;rw[aln] at h;obtain⟨p,hp,rfl⟩:=alv.mp h;have:=List.getElem?_zip_eq_some.mp hp;exact⟨p.1,p.2,this.1,this.2,rfl⟩
theorem abA{us vs:List W}(h:(qf us vs)[j]? =none):us.length<=j\/vs.length<=j:=by
 unfold qf at h;have:=List.getElem?_eq_none_iff.mp h;rw[alg,List.length_zip] at this;omega
theorem Jn{K:acs}{φ:Nat->Addr}{n:Nat}{H:Hp}{w:W}{v:V}{ws:List W}(r:aX K φ n H w v)(e:vh w=some ws) :
  ∃a vs,v=.ref a/\∀av n' H',Step K φ n H av n' H'->bT K H' a vs/\bi K av n' H' ws vs:=by
 cases r with
 | tup h r=>cases e;exact⟨_,_,rfl,fun av n' H' s=>⟨bT.of (s.tup _ _ h),r.mono s⟩⟩
 | kt h r=>cases e;exact⟨_,_,rfl,fun av n' H' s=>⟨.inr h,r.mono s⟩⟩
 | _=>cases e
noncomputable def sL(xs:List W):Po (List W×(PH->Bool)):=fun ph=>match xs with
 | [a,b]=>match vh a,vh b with
  | some us,some vs=>some ((qf us vs,fun _=>true),ph)
  | _,_=>none
 | _=>none
noncomputable def pS(m:AM):IM:=fun σ=>aA (m σ) fun xs=>lift (sL xs)
section
variable{X:Cx}{a b:Expr}{am:AM}{iM:List Expr}{j:Nat}{tp p pos:Pos}
theorem aeS(hg:Gl X "zip")(hm:X.mg "zip"=none)(ha:IA X [a,b] am)(hs:alI [a,b] X.env=[(false,eval a X.env),(false,eval b X.env)])(cY:alI [b] X.env=[(false,eval b X.env)]) :
  II X (.Tuple iM j tp) (.Call (.Name "zip" p) [a,b] [] pos) (pS am):=by
 refine PI.imp (aeR hg hm ha hs cY) fun σ H R h=>?_
 obtain⟨φ,ph,ws,hH,hS,h⟩:=h;refine tA.bind hH hS h fun xs ph1 aC H1 vs aF s1 r1 h=>?_
 obtain⟨r,ph',e,k⟩:=run_lift h;unfold sL at e;split at e
 ·rename_i wa wb;split at e
  ·rename_i us vs' qa qb;cases e;cases r1 with
   | cons ra rr=>
    cases rr with
    | cons rb rr=>
     cases rr;obtain⟨aa,va,rfl,fa⟩:=Jn ra qa;obtain⟨bb,vb,rfl,fb⟩:=Jn rb qb;refine⟨aa,bb,rfl,⟨_,(fa _ _ _ Step.refl).1⟩,⟨_,(fb _ _ _ Step.refl).1⟩,k aC H1 _ aF s1 ?_⟩;intro bg ph2 H2 bj s2 hc j;obtain⟨sa,P6⟩:=fa _ _ _ s2;obtain⟨sb,P7⟩:=fb _ _ _ s2;refine⟨fun w dG=>?_,fun hn=>?_⟩
     ·obtain⟨x,y,hx,hy,rfl⟩:=adi dG;obtain⟨u,eu,ru⟩:=P6.get hx;obtain⟨v,ev,rv⟩:=P7.get hy;refine⟨⟨_,_,u,v,sa,sb,eu,ev⟩,fun z gx hz=>?_⟩;obtain⟨T,x',y',rfl,hT,rfl,hz⟩:=hz;obtain⟨z1,z2⟩:=hz _ _ sa sb;rw[eu] at z1;cases z1;rw[ev] at z2;cases z2;exact⟨bj.tup hT,f7 hT,.tup bP (.cons (ru.mono (f7 hT)) (.cons (rv.mono (f7 hT)) .nil))⟩
     ·refine⟨_,_,sa,sb,?_⟩;rw[<- P6.length,<- P7.length];exact abA hn
  ·cases e
 ·cases e
theorem LC(hg:Gl X "zip")(hm:X.mg "zip"=none)(hn:isStar a=false)(oa:isStar b=false)(ha:JA X [a,b] am):JI X (.Tuple iM j tp) (.Call (.Name "zip" p) [a,b] [] pos) (pS am):=⟨aeS hg hm ha.h (by rw[dB hn,dB oa];rfl) (by rw[dB oa];rfl)⟩
end
end IL
namespace PySem
open Sem (wp)
namespace ZL
end ZL
end PySem
namespace IL
open PySem PySem.Spec PyProof.Rows L2
theorem aeT{H:Hp}{a b:Addr}{o u o':HO}(h:b≠a):upd (upd (upd H a o) b u) a o'=upd (upd H b u) a o':=by
 funext c
 by_cases h1:c=a
 ·rw[h1,bP,bP]
 ·rw[bw h1,bw h1];by_cases h2:c=b
  ·rw[h2,bP,bP]
  ·rw[bw h2,bw h2,bw h1]
end IL
namespace PyProof.Rows
open PySem PySem.Spec PySem.Calls PyProof.V
namespace KTD
section
variable{prog:amb}{w:World}{A:amz}{E:Value->ald->Prop}{s:ald}{δ:Type}{R:δ->Value->Prop}{a:Addr}{D:List (Str×δ)}{k:Str}{tk:Tok}
theorem qz(T:TabOf R s.heap a D):s.TypeIs (.ref a) "dict":=let ⟨_,o,_,_,ho,hc,_⟩:=T;⟨o,ho,hc.1⟩
theorem Ha{Q:Option Value->ald->Prop}(T:TabOf R s.heap a D)(h1:∀d v,datumAt k D=some d->R d v->Q (some v) { s with toks:=s.toks+1 })(h2:datumAt k D=none->Q none { s with toks:=s.toks+1 }) :
  wpAny (model prog w) A (dictGet a (.str k tk)) Q E s:=by
 obtain⟨_,o,es,ep,ho,hc,hd,hr⟩:=T;unfold dictGet
 try with_reducible refine amu ?_
 refine abB (wpAny_pyHash_str (abB (kt_dictFind_strs (s:={ s with toks:=s.toks+1 }) ho hd (by obtain⟨l⟩:=es;simpa using hr.exact) ?_)));have hq:Q (findBy (fun k v=>v.isStr k) es k) { s with toks:=s.toks+1 }:=by
  have hf:findBy (fun k v=>v.isStr k) es k=(es.toList.find? fun e=>e.key.isStr k).map (·.val):=by
   obtain⟨l⟩:=es;simp[findBy]
  rw[hf];cases jt:datumAt k D with
  | some d=>obtain⟨v,hv,fq⟩:=hr.find_some jt;rw[hv];exact h1 d v jt fq
  | none=>rw[hr.find_none jt];exact h2 jt
 rw[findBy_of_findIdx?] at hq;cases hi:es.findIdx? fun e=>e.key.isStr k with
 | none=>rw[hi] at hq;exact alh hq
 | some i=>rw[hi] at hq;exact abB (wpAny_dictEntries (s:={ s with toks:=s.toks+1 }) ho hd (alh hq))
theorem YG{value slice:Expr}{Q:Value->ald->Prop}(T:TabOf R s.heap a D)(ako:inKeys k D=true)(h:∀d v,datumAt k D=some d->R d v->Q v { s with toks:=s.toks+1 })
  (hs:aqP slice false (.ref a) (.str k tk)=operate [.ref a,.str k tk] (aqO (.ref a) (.str k tk)):=by with_unfolding_all rfl) (hg:∀r,letTemporaryGo value (.ref a) r=pure ():=by intro _;with_unfolding_all rfl) :
  wpAny (model prog w) A (apQ value slice (.ref a) (.str k tk)) Q E s:=by
 refine subscriptTail_builtin (qz T) apL.lookup ?_ hs hg;unfold aqO
 try with_reducible refine amu ?_
 refine abB (wpAny_sequenceKey (qz T) (by decide) ?_);refine abB (amF (name:=ala "__getitem__") (qz T) apL
  (ank apL (qz T) entry_dict_getitem ?_ (args_dict_getitem _ _)))
 show wpAny _ _ (dictGet a (.str k tk) >>= _) _ _ s;exact abB (Ha T (fun d v ha hv=>alh ⟨v,rfl,alh (h d v ha hv)⟩) fun hn=>absurd hn (at_of_mem ako))
theorem XF{Q:Value->ald->Prop}(T:TabOf R s.heap a D)(h:Q (.bool (!inKeys k D)) { s with toks:=s.toks+1 }):wpAny (model prog w) A (ami .NotIn (.str k tk) (.ref a)) Q E s:=by
 show wpAny _ _ (do return .bool (!(<- contains (.ref a) (.str k tk)))) Q E s;refine abB ?_;unfold contains
 try with_reducible refine amu ?_
 refine abB (wpAny_specialOf (qz T) apr.lookup ?_);show wpAny _ _ (if(some (Value.builtin "dict.__contains__")==some alW)=true then _ else _) _ E s;rw[if_neg (by rw[beq_builtin_none];exact alK)];refine abB (wpAny_callSpecialUnlessNone?_slot (name:=ala "__contains__") (qz T) apr
  (ank apr (qz T) entry_dict_contains ?_ (args_dict_contains _ _)))
 show wpAny _ _ (dictGet a (.str k tk) >>= _) _ _ s;refine abB (Ha T (fun d v ha _=>?_) fun hn=>?_)
 ·have hb:inKeys k D=true:=by rw[<- isSome_datumAt,ha];rfl
  rw[hb] at h;show wpAny _ _ (ret (.bool true)) _ _ _;exact alh ⟨_,rfl,amA (alh h)⟩
 ·have hb:inKeys k D=false:=by rw[<- isSome_datumAt,hn];rfl
  rw[hb] at h;show wpAny _ _ (Builtin.Dict.pendingKey? a (.str k tk) >>= _) _ _ _;exact abB (wpAny_pendingKey_other T.1 (alh ⟨_,rfl,amA (alh h)⟩))
end
end KTD
end PyProof.Rows
namespace PySem.Txt
theorem join_eq(z:Str)(l:List Str):arG z l=Str.join z l:=StrLaws.glued_eq_join z l
end PySem.Txt
namespace IL
open PySem PySem.Spec PyProof.Rows L2
noncomputable def dD(k:Str):List (Str×List Str)->Option (List Str)
 | []=>none
 | (x,d)::D=>if decide (k=x)=true then some d else dD k D
noncomputable def sM(D:List (Str×List Str))(w:W):Po W:=fun ph=>match w with
 | .str k=>(dD k D).map fun l=>(.kt (l.map W.str),ph)
 | _=>none
noncomputable def zN(D:List (Str×List Str))(m:EM):EM:=fun σ=>aA (m σ) fun w=>lift (sM D w)
noncomputable def ll(f:Bool->Bool)(D:List (Str×List Str))(w:W):Po W:=fun ph=>match w with
 | .str k=>some (.bl (f (dD k D).isSome),ph)
 | _=>none
noncomputable def NU(D:List (Str×List Str))(m:EM):EM:=fun σ=>aA (m σ) fun w=>lift (ll (fun b=> !b) D w)
noncomputable def nZ(x y:W):Po W:=fun ph=>match x,y with
 | .str k,.kt ws=>(bW strOf ws).map fun zs=>(.bl (decide (k∈zs)),ph)
 | _,_=>none
noncomputable def qg(x y:W):Po W:=fun ph=>match x,y with
 | .str k,.str z=>some (.bl (!(amE z k 0 z.length 1).isEmpty),ph)
 | _,_=>none
noncomputable def akV(d k1 v1 k2 v2:W):Po W:=fun ph=>match d with
 | .ref i=>match ph[i]? with
  | some (.dR [])=>if(qe k1).isSome=true/\(qe k2).isSome=true then some (.ref i,ph.set i (.dR (l4 (l4 [] k1 v1) k2 v2))) else none
  | _=>none
 | _=>none
theorem BS(k:Str):∀D:List (Str×List Str),KTD.datumAt k D=dD k D
 | []=>rfl
 | (x,d)::D=>by unfold KTD.datumAt dD;rw[BS k D]
theorem Jo(k:Str)(D:List (Str×List Str)):KTD.inKeys k D=(dD k D).isSome:=by rw[<- KTD.isSome_datumAt,BS]
noncomputable def pT:List Str->List Value->Bool
 | [],[]=>true
 | x::xs,.str y _::vs=>(y==x)&&pT xs vs
 | _,_=>false
theorem Iy:∀{l:List Str} {vs:List Value},pT l vs=true->Vals (l.map V.str) vs
 | [],[],_=>.nil
 | [],_::_,h=>by simp[pT] at h
 | _::_,[],h=>by simp[pT] at h
 | x::xs,v::vs,h=>by
  cases v with
  | str y t=>
   unfold pT at h;rw[alo] at h;obtain⟨h1,h2⟩:=h;obtain rfl:=beq_iff_eq.mp h1;exact .cons ⟨t,rfl⟩ (Iy h2)
  | _=>simp[pT] at h
noncomputable def tW(K:acs)(l:List Str)(v:Value):Bool:=match v with
 | .ref a=>match K.lookup a with
  | some o=>(o.cls==.type "tuple")&&(match o.data with
   | .seq its _=>Nat.ble its.size alz&&pT l its.toList
   | _=>false)
  | none=>false
 | _=>false
variable{K:acs}
theorem LD{l:List Str}{a:Addr}(h:tW K l (.ref a)=true):pZ K a (l.map V.str):=by
 unfold tW at h;simp only at h;split at h
 ·rename_i o ho;rw[alo] at h;obtain⟨h1,h2⟩:=h;split at h2
  ·rename_i its n hd;rw[alo] at h2;exact⟨o,its,n,ho,beq_iff_eq.mp h1,hd,alx h2.1,Iy h2.2⟩
  ·cases h2
 ·cases h
theorem aeU{l:List Str}{v:Value}(h:tW K l v=true):∃a,v=.ref a/\pZ K a (l.map V.str):=by
 cases v with
 | ref a=>exact⟨a,rfl,LD h⟩
 | _=>cases h
noncomputable def KTab(K:acs)(a:Addr)(D:List (Str×List Str)):Prop:=
 ∀h:Heap,(∀b o,K.lookup b=some o->h.get? b=some o)->KTD.TabOf (fun(l:List Str) v=>∃b,v=.ref b/\pZ K b (l.map V.str)) h a D
theorem aeV{a:Addr}{D:List (Str×List Str)}(h:KTD.tabLook (tW K) (fun b=>K.lookup b) a D=true):KTab K a D:=fun _ hg=>KTD.tab_of_look (fun _ _ q=>aeU q) hg h
theorem B1{K:acs}{φ:Nat->Addr}{n:Nat}{H:Hp}:∀{l:List Str},bi K φ n H (l.map W.str) (l.map V.str)
 | []=>.nil
 | x::_=>.cons (.str x) B1
section
variable{X:Cx}{x:Str}{ka:Addr}{D:List (Str×List Str)}{l:List Str}{b:Expr}{m:EM}{p pos:Pos}
theorem ahr(hg:Gl X x)(hm:X.mg x=some (.ref ka))(hk:pZ X.K ka (l.map V.str))(hd:(x==("__debug__":Str))=false):JE X (.Name x pos) (eC (.kt (l.map W.str))):=⟨qd (pk (v:=.ref ka) hg hm rfl hd) fun _ _ _=>.kt hk B1⟩
theorem LF(hg:Gl X x)(hm:X.mg x=some (.ref ka))(T:KTab X.K ka D)(hd:(x==("__debug__":Str))=false)(hs:rT b)(hb:JE X b m):JE X (.Subscript (.Name x p) b pos) (zN D m):=by
 refine⟨?_⟩;intro pins s σ H Q I h;refine Subscript_ (zZ (R:=fun x y H2=>x=.ref ka/\∃k l,y=.str k/\dD k D=some l/\∀b,pZ X.K b (l.map V.str)->Q (.ref b) H2) (pk (v:=.ref ka) hg hm rfl hd) hb.h I ?_ fun v u s2 x y H2 I2 rx ry q=>?_)
 ·obtain⟨φ,ph,ws,hH,hS,h⟩:=h;show tM X m σ H _;refine tM.bind hH hS h fun w ph1 aC H1 v aF s1 r1 h=>⟨rfl,?_⟩
  obtain⟨w2,ph2,e,k⟩:=run_lift h;unfold sM at e;cases r1 with
  | str z=>
   simp only at e;cases q:dD z D with
   | none=>rw[q] at e;cases e
   | some l=>rw[q] at e;cases e;exact⟨z,l,rfl,q,fun b hb=>k aC H1 _ aF s1 (.kt hb B1)⟩
  | _=>cases e
 ·obtain⟨rfl,k,l,rfl,hl,q⟩:=q;cases rx;obtain⟨t,rfl⟩:=ry;refine KTD.YG (T s2.heap fun b o e=>I2.cD b o e) (by rw[Jo,hl];rfl) (fun d v mG hv=>?_) (hs _ _);rw[BS,hl] at mG;cases mG;obtain⟨b,rfl,hk⟩:=hv;exact⟨.ref b,H2,I2.tok _,rfl,q b hk⟩
abbrev Eh(ka:Addr)(D:List (Str×List Str))(f:Bool->Bool):R2:=fun x y H Q=>∃k,x=.str k/\y=.ref ka/\Q (.bl (f (dD k D).isSome)) H
theorem aeW(T:KTab X.K ka D):bI X (ami .NotIn) (Eh ka D fun b=> !b):=by
 intro pins s σ H x y v u Q I rx ry h;obtain⟨k,rfl,rfl,q⟩:=h;cases ry;obtain⟨t,rfl⟩:=rx;exact KTD.XF (T s.heap fun b o e=>I.cD b o e) ⟨.bl _,H,I.tok _,rfl,by rw[Jo];exact q⟩
theorem aeX{f:Bool->Bool}{σ:L2.St}{H:Hp}{Q:VK}(h:tM X (fun σ=>aA (m σ) fun w=>lift (ll f D w)) σ H Q):qm (Eh ka D f) (tM X m) (tC (.ref ka)) σ H Q:=by
 obtain⟨φ,ph,ws,hH,hS,h⟩:=h;refine tM.bind hH hS h fun w ph1 aC H1 v aF s1 r1 h=>?_
 obtain⟨w2,ph2,e,k⟩:=run_lift h;unfold ll at e;cases r1 with
 | str z=>cases e;exact⟨z,rfl,rfl,k aC H1 _ aF s1 (.bl _)⟩
 | _=>cases e
theorem adj{f:Bool->Bool}{σ:L2.St}{H:Hp}{Q:Bool->Hp->Prop}(h:tT X (eT (fun σ=>aA (m σ) fun w=>lift (ll f D w))) σ H Q):Dt (qm (Eh ka D f) (tM X m) (tC (.ref ka))) σ H Q:=by
 obtain⟨φ,ph,ws,hH,hS,h⟩:=h;refine aeX (tM.bind hH hS h fun x ph1 aC H1 vx aF s1 rx h=>?_);obtain⟨w,ph',e,k⟩:=run_lift h;split at e
 ·cases e;cases rx;exact⟨_,rfl,k aC H1 aF s1⟩
 ·cases e
theorem aeY(hg:Gl X x)(hm:X.mg x=some (.ref ka))(T:KTab X.K ka D)(hd:(x==("__debug__":Str))=false)(hk:amQ .NotIn (.Name x p)=false)(hb:JE X b m):JT X (.Compare b [.NotIn] [.Name x p] pos) (eT (NU D m)):=
 ⟨PT.imp (KP (aeW T) hb.h (pk (v:=.ref ka) hg hm rfl hd) hk) fun _ _ _ h=>adj h⟩
end
theorem LG(k:Str):∀zs:List Str,L2.qo (.str k) (zs.map V.str)=decide (k∈zs)
 | []=>rfl
 | z::zs=>by
  have ih:=LG k zs;unfold L2.qo at ih ⊢;rw[alO,amt,ih];show((z==k)||_)=_;by_cases h:z=k
  ·subst h;simp
  ·have h':¬k=z:=fun e=>h e.symm
   simp[h,h']
theorem abC(zs:List Str):(zs.map V.str).all lW=true:=by
 rw[amw];intro x hx;obtain⟨z,_,rfl⟩:=aow.mp hx;rfl
theorem ahs:cU K (O6 K false) nZ:=by
 intro φ ph H x y vx vy w ph' Q hH rx ry e k;unfold nZ at e;cases rx with
 | str z=>
  cases ry with
  | kt h r=>
   simp only at e;rename_i ws a vs;cases q:bW strOf ws with
   | none=>rw[q] at e;cases e
   | some zs=>
    rw[q] at e;cases e;have:=Cn q r;subst this;refine⟨a,_,rfl,.inr (.inr h),rfl,abC zs,?_⟩;have e2:=LG z zs;simp only[apq,if_false];rw[e2];exact k φ H _ hH Step.refl (.bl _)
  | _=>cases e
 | _=>cases e
theorem aht:cU K (fun x y H Q=>∃i j,x=.str i/\y=.str j/\Q (.bl (!(amE j i 0 j.length 1).isEmpty)) H) qg:=by
 intro φ ph H x y vx vy w ph' Q hH rx ry e k;unfold qg at e;cases rx with
 | str z=>
  cases ry with
  | str y=>cases e;exact⟨z,y,rfl,rfl,k φ H _ hH Step.refl (.bl _)⟩
  | _=>cases e
 | _=>cases e
theorem ahu{X:Cx}{b:Expr}(h:amQ .In b=false):Cp X .In b nZ:=⟨⟨_,abc,ahs⟩,h⟩
theorem ahv{X:Cx}{b:Expr}(h:amQ .In b=false):Cp X .In b qg:=⟨⟨_,aa8,aht⟩,h⟩
end IL
namespace PySem
open Sem (wp)
namespace W
section
variable{prog:amb}{w:World}{A:amz}{R:Result->ald->Prop}{h:Heap}{g:Array GenState}{d:Drawn}{t:Nat}{os:OsState}
variable{nm q:Str}{C N f:Addr}{bs bm iT:List Value}{hdct:Bool}{sn:List Str}{sub:List Value}{ab:Bool}{col:Option Bool}{dd:Option Addr}{k0 k1 k2 k3 k5:Option Value}{B Bn newId P8 MM P9:String}{Qa:List Value}
theorem WG(Fn:aqw Bn newId P9 Qa)(AW:iT.contains (.type Bn)=true)(F:aqw B P8 MM iT)(T:OwnTail h iT bm){rest:List Value}{Q:Fin->ald->Prop}{E:Value->ald->Prop}
  (hC:h.get? C=some (apV nm q C N bs bm hdct sn sub ab col dd k0 k1 k2 k3 k5 newId)) (hi:Looks (model prog w) h (apF (.ref C) "__init__") (some (.ref f))) (hb:∀self,Looks (model prog w) h (bindSpecial (.ref f) self) (.ref f,[self]))
  (hq:wpAny (model prog w) A (call (.ref f) (.ref (h.objs.size+1)::rest)) (fun v s'=>v=.none/\Q (.done (.ret (.ref (h.objs.size+1)))) s') E
   ⟨(h.push { cls:=.type "tuple",data:=.seq rest.toArray }).push { cls:=.ref C,data:=.fields #[.ref h.objs.size,.none,.none,.none,.bool false,.none] },g,d,t,os⟩) (hrest:rest.length<=sizeLine:=by size_fits) :
  wpAny (model prog w) A (apx.«type.__call__» ⟨.ref C::rest,[]⟩) Q E ⟨h,g,d,t,os⟩:=by
 repeat (first | with_reducible refine aoj hC ?_ | with_reducible refine wpAny_madeBy_exc hC ?_ | wp_step)
 refine codeAny_call_builtin_code (apo _ Fn.quiet) (wpAny_check_new_subU Fn AW T hC ?_);refine codeAny_exc_new_subU Fn AW F T hC ?_ hrest;show wpAny _ _ _ _ _ _;have k:∀b o,h.get? b=some o->((h.push { cls:=.type "tuple",data:=.seq rest.toArray }).push { cls:=.ref C,data:=.fields #[.ref h.objs.size,.none,.none,.none,.bool false,.none] }).get? b=some o:=fun b o e=>alb _ (alb _ e)
 have akQ:=k _ _ hC;have Ei:((h.push { cls:=.type "tuple",data:=.seq rest.toArray }).push
   { cls:=.ref C,data:=.fields #[.ref h.objs.size,.none,.none,.none,.bool false,.none] }).get? (h.objs.size+1)=some
   { cls:=.ref C,data:=.fields #[.ref h.objs.size,.none,.none,.none,.bool false,.none] }:=by heap_get
 have hcC:(alJ C::bm).contains (.ref C)=true:=by simp
 have i1:=hi.keeps k;have b1:=(hb (.ref (h.objs.size+1))).keeps k;unfold aqz
 repeat (first | with_reducible refine aoj Ei ?_ | (with_reducible refine wpAny_isSubtype_exc akQ ?_;rw[hcC]) | wp_step)
 show wpAny _ _ (apF (.ref C) _) _ _ _;refine i1.at ?_;refine amu (abB (b1.at ?_));refine abB (amr hq (fun v s' z=>?_) fun _ _ z=>z);obtain⟨rfl,z⟩:=z;exact alh (alh z)
theorem adk(Fn:aqw Bn newId P9 Qa)(AW:iT.contains (.type Bn)=true)(F:aqw B P8 MM iT)(T:OwnTail h iT bm){rest:List Value}{Q:Value->ald->Prop}{E:Value->ald->Prop}
  (hC:h.get? C=some (apV nm q C N bs bm hdct sn sub ab col dd k0 k1 k2 k3 k5 newId)) (hi:Looks (model prog w) h (apF (.ref C) "__init__") (some (.ref f))) (hb:∀self,Looks (model prog w) h (bindSpecial (.ref f) self) (.ref f,[self]))
  (hq:apv (model prog w) (A.under (.builtin "type.__call__" ⟨.ref C::rest,[]⟩)) (.call (.ref f) ⟨.ref (h.objs.size+1)::rest,[]⟩) (fun r s'=>match r with
    | .error e=>E e s'
    | .ok (.ret v)=>v=.none/\Q (.ref (h.objs.size+1)) s'
    | .ok _=>False)
   ⟨(h.push { cls:=.type "tuple",data:=.seq rest.toArray }).push { cls:=.ref C,data:=.fields #[.ref h.objs.size,.none,.none,.none,.bool false,.none] },g,d,t,os⟩) (hrest:rest.length<=sizeLine:=by size_fits) :
  wpAny (model prog w) A (call (.ref C) rest) Q E ⟨h,g,d,t,os⟩:=by
 have f1:=tc_lookup;have f2:=tc_bind (.ref C);have hT:(⟨h,g,d,t,os⟩:ald).TypeIs (.ref C) "type":=⟨_,hC,rfl⟩
 refine aoE (codeAny_of_tree ?_);show wpAny _ _ (callAny (.ref C) _) _ _ _
 repeat (any_goals (first | assumption | with_reducible refine aoj hC ?_ | wp_step))
 refine⟨rfl,?_⟩;refine codeAny_call_builtin_at (apo _ (by decide +kernel)) entry_typeCall (wpAny_check_type_call_sub hC (WG (hrest:=hrest) Fn AW F T hC hi hb ?_));refine aoE (aoK hq fun r s' z=>?_)
 rcases r with e | (v | _ | _ | _) <;> exact z
end
end W
end PySem
namespace IL
open PySem PySem.Spec PyProof.Rows L2
noncomputable def kX(K:acs)(C f:Addr)(iT:List Value)(newId:String):Bool:=match K.lookup C with
 | some ⟨.type "type",_,.cls cd,sl⟩=>(match cd.mro,sl.toList with
  | .ref C'::bm,[_,_,_,_,some (.builtin n),_]=>C'==C&&n==newId&& !cd.hasDel&&PySem.W.tailIn K iT bm&&cd.hasDict&&ale K cd.ns "__init__"==some (some (.ref f))
  | _,_=>false)
 | _=>false
variable{K:acs}{h:Heap}{C f:Addr}
theorem Co{iT:List Value}{newId:String}(dF:K.In h)(q:kX K C f iT newId=true) :
  ∃bm N nm qn bs sn sub ab col dd k0 k1 k2 k3 k5,h.get? C=some (apV nm qn C N bs bm true sn sub ab col dd k0 k1 k2 k3 k5 newId)/\OwnTail h iT bm:=by
 unfold kX at q;split at q
 case h_2=>cases q
 case h_1 dd cd sl ho=>
  split at q
  case h_2=>cases q
  case h_1 C' bm k0 k1 k2 k3 n k5 hm hs=>
   rw[alo,alo,alo,alo,alo] at q;obtain⟨⟨⟨⟨⟨q1,q2⟩,q3⟩,q4⟩,q5⟩,q6⟩:=q;cases beq_iff_eq.mp q1;cases beq_iff_eq.mp q2;have q3:cd.hasDel=false:=by simpa using q3
   cases cd with
   | mk nm bs mro ns qn hd sn sub ab col del=>
    cases(show mro=_ from hm);cases(show del=_ from q3);cases(show hd=true from q5);cases sl with
    | mk l=>
     cases(show l=_ from hs);exact⟨bm,ns,nm,qn,bs,sn,sub,ab,col,dd,k0,k1,k2,k3,k5,dF _ _ ho,ari dF q4⟩
noncomputable def fG(C x:Addr)(dd:Option Addr):HO:=.ext fun h=>∃t,h.get? x=some (f9 C dd t)
variable{H:Hp}{dd:Option Addr}
theorem CL{P:amb}{w:World}{x t:Addr}(e:h.get? x=some (f9 C dd t)):de P w H h x (fG C x dd):=
 ⟨⟨t,e⟩,⟨_,e⟩,fun _ _ ⟨t,q⟩ k=>⟨t,k _ q⟩⟩
theorem za{P:amb}{w:World}{x:Addr}(ok:cC P w H h)(e:H x=some (fG C x dd)):∃t,h.get? x=some (f9 C dd t):=(ok x _ e).1
section
variable{X:Cx}{pins:List (Addr×Obj)}{σ:L2.St}{H:Hp}{s:ald}{C x f:Addr}{A:amz}{E:Value->ald->Prop}
theorem abD{Q:Value->ald->Prop}{us:List Value}(hC:kX X.K C f fh "ValueError.__new__"=true)(I:Inv X pins σ H s)(e:H x=some (fG C x none))(hl:us.length<=1000)
  (h:∀s',Inv X pins σ (upd H x (fG C x none)) s'->Q .none s'):wpAny (model X.prog X.w) A (call (.builtin "ValueError.__init__") (.ref x::us)) Q E s:=by
 obtain⟨bm,N,nm,qn,bs,sn,sub,ab,col,dd,k0,k1,k2,k3,k5,o1,T⟩:=Co I.cD hC;obtain⟨t,ex⟩:=za I.aM e;have F:=amL;obtain⟨hh,g,d,tk,os⟩:=s;refine aoE (anx F.init.plain F.initEntry (wpAny_check_init_subU F T o1 ex rfl ?_));unfold apx.«BaseException.__init__»
 dsimp only
 rw[if_neg (by simp)];unfold newTuple arF;have FG:=alb (h:=hh) { cls:=.type "tuple",data:=.seq us.toArray } ex;refine abB (ams (abB (abB (alY FG rfl (x:=.ref t) rfl (abB (anb FG rfl (by simp) ?_))))) (by show us.toArray.size<=alz;rw[alq,apa];omega));refine aqU (alh (h _ ?_));have Qb:((hh.push { cls:=.type "tuple",data:=.seq us.toArray }).update x (amI (·.setIfInBounds 0 (.ref hh.objs.size)))).get? x=some (f9 C none hh.objs.size):=amj _ FG rfl;have I1:Inv X pins σ H { heap:=hh.push { cls:=.type "tuple",data:=.seq us.toArray },gens:=g,drawn:=d,toks:=tk,os:=os }:=I.kept (t':=tk) fun b u q=>alb _ q
 exact I1.write (x:=x) (e:=x) (t':=tk) (by rw[e];trivial) (.inl rfl) (fun b u hb q=>(alP _ _ (amT hb)).trans q) ⟨_,Qb⟩ (CL Qb)
end
theorem CM(a b:Str):(a++b).length=a.length+b.length:=strLen_append a b
theorem ahw{a:Int}(h:a.natAbs<2 ^ 64):(ala (toString a)).length<=1000/\a.natAbs.log2<1920:=by
 have h0:a.natAbs.log2<64:=by
  by_cases z:a.natAbs=0
  ·rw[z];decide
  ·exact(Nat.log2_lt z).mpr h
 have:=int_text_length_le (a:=a) (k:=64) (by decide) h0;refine⟨?_,by omega⟩;rw[PySem.ofString_length];omega
section
variable{X:Cx}{e:Expr}{tv:TE}{z:Str}{j:Nat}{p1 p2 pos:Pos}
noncomputable def aeZ(tv:TE):TE:=fun σ H Q=>tv σ H fun v H1=>((∃a:Int,v=.int a/\a.natAbs<2 ^ 64)\/v=.aE)/\∀y,Q (.str y) H1
theorem abE(hz:z.length<=1000)(hv:PE X e tv):PE X (.JoinedStr [.Constant (.str z) j p1,.FormattedValue e (-1) none p2] pos) (aeZ tv):=by
 intro pins s σ H Q I h;refine JoinedStr_many (joinParts_cons ?_);refine a8 (LY (x:=z) pins s σ H (fun v H1=>v=.str z/\H1=H) I ⟨rfl,rfl⟩) fun u s1 ⟨v,H1,I1,r,e1,e2⟩=>?_
 subst e1 e2;obtain⟨t,rfl⟩:=r;have l0:(arb++z).length<=1000:=by rw[CM];show 0+z.length<=1000;omega
 have big:∀{n:Nat},n<=2000->n<=sizeLine:=fun h=>alT h (by decide)
 refine⟨big (by omega),joinParts_cons (FormattedValue_plain (a8 (hv pins s1 σ H1 _ I1 h) fun u s2 ⟨v,H2,I2,r,hv,q⟩=>?_))⟩
 rcases hv with⟨a,rfl,ha⟩ | rfl
 ·obtain⟨t',rfl⟩:=r;obtain⟨l1,l2⟩:=ahw ha;have l3:((arb++z)++ala (toString a)).length<=sizeLine:=big (by rw[CM];omega);exact formatField_int_small l2 ⟨l3,joinParts_nil ⟨.str _,H2,I2.tok _,⟨_,rfl⟩,q _⟩ l3⟩
 ·cases r;have l3:((arb++z)++ala "None").length<=sizeLine:=big (by rw[CM];show _+4<=2000;omega);exact wpAny_formatField_none ⟨l3,joinParts_nil ⟨.str _,H2,I2.tok _,⟨_,rfl⟩,q _⟩ l3⟩
end
section
variable{X:Cx}{c:Str}{C C0 f:Addr}{a b:Expr}{ta:TA}{np apos pos:Pos}{pl:Sem Bool}
noncomputable def ahx(C:Addr)(ta:TA):TE:=fun σ H Q=>ta σ H fun vs H1=>∃x u,vs=[.ref x,u]/\H1 x=some (fG C x none)/\Q .aE (upd H1 x (fG C x none))
structure DL(K:acs)(C0:Addr):Prop where
 ga:ary K (.ref C0) "__getattribute__"=some (some (.builtin "type.__getattribute__"))
 rd:PySem.W.readsIn K C0 (.type "type")=true
 fi:PySem.W.findCls K (.ref C0) (.type "type") "__init__"=some (.val (.builtin "ValueError.__init__"))
theorem YH:apY (.builtin "ValueError.__init__")=true:=by decide +kernel
theorem adl(B:DL X.K C0)(hC:kX X.K C f fh "ValueError.__new__"=true)(hg:Gl X c)(hm:X.mg c=some (.ref C0))(bU:(c==("__debug__":Str))=false)(ha:PA X [a,b] ta)
  (dg:alI [a,b] X.env=(false,eval a X.env)::alI [b] X.env) (hpl:(aou pos (alI [b] X.env)).any (·.1)=false)
  (ht:eval (.Call (.Attribute (.Name c np) "__init__" apos) [a,b] [] pos) X.env=(do
   let ov <- eval (.Name c np) X.env
   standAt apos.atName
   let (f,first) <- apu [ov] (getMethod ov "__init__" pl)
   callWith pos f first (aou pos (alI [a,b] X.env)) (backToKw pos (apR [] X.env)))) :
  PE X (.Call (.Attribute (.Name c np) "__init__" apos) [a,b] [] pos) (ahx C ta):=by
 intro pins s σ H Q I h;refine PySem.W.methodCall_KW (pl:=pl) (a8 (pk (v:=.ref C0) hg hm rfl bU pins s σ H (fun v H1=>v=.ref C0/\H1=H) I ⟨rfl,rfl⟩) fun u s1 ⟨v,H1,I1,rx,e1,e2⟩=>?_) ht;subst e1 e2;obtain rfl:u=alJ C0:=rx;refine PySem.W.method_cls I1.cD B.ga (PySem.W.cls_value I1.cD B.rd B.fi YH ?_);have I2:=I1.tok (s1.toks+1);refine aoL (a8 (ha pos pins _ σ H1 _ I2 h) fun us s2 ⟨vs,H2,I3,r1,x,u,ev,ex,q⟩=>?_) dg hpl;subst ev;obtain⟨u1,u2,rfl,r1,r2⟩:=Vals.two r1;cases r1;exact abD hC I3 ex (by show 1<=1000;decide) fun s' I4=>⟨.aE,_,I4,rfl,q⟩
end
open PySem PySem.Spec PyProof.Rows L2 PySem.W
open Builtin Builtin.ObjectAttr
noncomputable def uR:List Value->List Value
 | .ref _::r=>uR r
 | l=>l
theorem Hm(self:Value)(Ej:Str):∀l:List Value,refuseLoop self Ej l=refuseLoop self Ej (uR l)
 | []=>rfl
 | v::r=>by
  cases v with
  | ref c=>rw[refuseLoop_ref];exact Hm self Ej r
  | _=>rfl
theorem abF(self:Value):refuseLoop self "__setattr__" fh=pure ():=PySem.F.store_ValueError.passes self
theorem Iz:∀{l:List Value},uR l=fh->l.contains (.type "object")=true
 | [],h=>by cases h
 | v::r,h=>by
  cases v with
  | ref c=>rw[List.contains_cons,Iz (l:=r) h,Bool.or_true]
  | _=>
   have h:(_:Value)::r=fh:=h;rw[h]
   decide
structure wC(K:acs)(C:Addr)(name:Str):Prop where
 sa:arh K (.ref C) "__setattr__"=some (some (.builtin "object.__setattr__"))
 cd:∃cd,clsIn K C=some cd/\cd.hasDict=true/\uR cd.mro=fh
 ta:takerIn K C name=some none
section
variable{prog:amb}{w:World}{A:amz}{E:Value->ald->Prop}{s:ald}{K:acs}{x C t:Addr}{name:Str}{v:Value}
theorem ae0{ox:Obj}{od:Option Obj}{tk:Tok}{R:Result->ald->Prop}(X:K.In s.heap)(I:InstAt s.heap x ox C od)(S:wC K C name)
  (h:∀b,wpAny (model prog w) A.in1 (storeInOwnDict (.ref x) (.ref C) (.str name tk) name v b)
   (fun fin s'=>match fin with | .done f=>R (.ok f) s' | .again c'=>c'.quiet=true/\apv (model prog w) A c' R s') (fun e s'=>R (.error e) s') s) :
  apv (model prog w) A (.call (.builtin "object.__setattr__") ⟨[.ref x,.str name tk,v],[]⟩) R s:=by
 have SF:=PySem.F.store_object;obtain⟨cd,hc,hd,hn⟩:=S.cd;have ho:=Iz hn;have ne:cd.mro.isEmpty=false:=by cases q:cd.mro with | nil=>rw[q] at ho;cases ho | cons _ _=>rfl
 have sub:Looks (model prog w) s.heap (aqz (.ref x) (.type "object")) true:=I.type.andThen (looks_mroIn X (by unfold mroIn;rw[hc,amv,if_neg (by rw[ne];decide),ho]));refine anx SF.slot.plain SF.entry (@check_slot (model prog w) _ _ s "object.__setattr__" "object" "__setattr__" (.ref x) [.str name tk,v] [] _ SF.kind SF.split sub (SF.args (.ref x) (.str name tk) v) ?_);obtain⟨attr,ha,hr⟩:=Option.bind_eq_some_iff.mp S.ta;have hm:Looks (model prog w) s.heap (mroOf (.ref C)) cd.mro:=(looks_clsIn X hc).andThen .now;have L3:Looks (model prog w) s.heap (storeTaker? attr) none:=by
  cases attr with
  | none=>exact .now
  | some a=>
   obtain⟨b,hb,q⟩:=alv.mp hr;refine(looks_takesIn X hb).andThen ?_;cases b with
   | true=>cases q
   | false=>exact .now
 rw[osa_eq,refuse_eq];refine abB (abB (I.type.here (abB (hm.here ?_))));rw[Hm,hn,abF];refine alh (abB (I.type.here (abB ((aoM X ha).here (abB (L3.here ?_))))));exact h _
theorem ae1{Q:Unit->ald->Prop}(X:K.In s.heap)(hx:s.heap.get? x=some (f9 C none t))(S:wC K C name)
  (h:∀h' tk,h'.get? x=some (f9 C (some s.heap.objs.size) t)->h'.Ns1 s.heap.objs.size (fun y=>if y=name then some v else none)->(∀b o,b≠x->s.heap.get? b=some o->h'.get? b=some o)->Q () { s with heap:=h',toks:=tk }) :
  wpAny (model prog w) A (setAttr (.ref x) name v) Q E s:=by
 have J:InstAt s.heap x (f9 C none t) C none:=⟨hx,rfl,rfl,trivial⟩
 refine set_plain X J S.sa (ae0 (s:={ s with toks:=s.toks+1 }) X J S fun b=>?_);obtain⟨cd,hc,hd,hn⟩:=S.cd;refine abB (alh (abB (abB (aqI hx (abB (ara (s:={ s with toks:=s.toks+1 }) (looks_clsIn X hc) ?_))))));rw[hd]
 dsimp only
 simp only[Bool.not_true,apq,if_false];have Qc:(s.heap.push { cls:=.type "dict",data:=.dict #[] }).get? x=some (f9 C none t):=alb _ hx;have lx:x≠s.heap.objs.size:=alV (alp hx);refine abB (wpAny_alloc ?_);refine abB (wpAny_update Qc ?_);refine alh ?_;have hgd:((s.heap.push { cls:=.type "dict",data:=.dict #[] }).update x fun o=>{ cls:=o.cls,dict:=some s.heap.objs.size,data:=o.data,slots:=o.slots }).get? s.heap.objs.size
   = some { cls:=.type "dict",data:=.dict #[] }:=
  (aqV _ _ _ _ lx.symm).trans (Heap.get?_push_at rfl rfl)
 have qA:((s.heap.push { cls:=.type "dict",data:=.dict #[] }).update x fun o=>{ cls:=o.cls,dict:=some s.heap.objs.size,data:=o.data,slots:=o.slots }).Ns s.heap.objs.size (fun _=>none):=
  ⟨_,#[],_,hgd,rfl,fun e he=>absurd he (by simp),fun _=>rfl⟩
 show wpAny _ _ (storeInDict s.heap.objs.size (.str name s.toks) name v) _ _ _;unfold storeInDict newKeyGuard;refine abB (alh (abB (wpAny_nsSet1 (arp qA) fun h' jq hs=>?_)));obtain⟨oD,esD,epD,EH,EI,EJ⟩:=jq.count (Within.cons name v Within.nil);refine abB (wpAny_lookBehind EH (by rw[EI];exact pastItsLine_dict (alT EJ (by rw[alA,aqq,apa];omega))) ?_);refine alh (h h' _ ?_ ?_ fun b o hb q=>?_)
 ·exact(hs.2 x lx).trans (amj _ Qc rfl)
 ·obtain⟨o',es,ep,e1,e2,e3,eu,e4⟩:=jq;exact⟨o',es,ep,e1,e2,e3,eu,fun y=>by rw[e4 y]⟩
 ·exact(hs.2 b (alV (alp q))).trans ((aqV _ _ _ _ hb).trans (alb _ q))
end
section
variable{X:Cx}{C:Addr}{f:Str}{o value:Expr}{ta tv:TE}{pos' pos:Pos}
noncomputable def ajf(C:Addr)(f:Str)(ta tv:TE):TS:=fun D σ H=>tv σ H fun y H1=>ta σ H1 fun xv H2=>∃x,xv=.ref x/\H2 x=some (fG C x none)/\∀d od,H2 d=none->d≠x->D.nx σ (upd (upd H2 d (.bE od (.xd [(f,y)]))) x (fG C x (some d)))
theorem ae2 (S : wC X.K C f) (ha : PE X o ta) (hv : PE X value tv) (hs : anl value (some (.Attribute o f pos')) pos.line X.env = pure false) : PS X (.Assign [.Attribute o f pos'] value pos) (ajf C f ta tv) := by
  intro pins s σ H D I h;refine aoC (a8 (hv pins s σ H _ I h) fun u s1 ⟨y, H1, I1, ry, q⟩ => a8 (ha pins s1 σ H1 _ I1 q) fun ov s2 ⟨xv, H2, I2, rx, x, ex, ea, q2⟩ => ?_) hs;subst ex;obtain rfl : ov = alJ x := rx;obtain ⟨t, hx⟩ := za I2.aM ea;refine ae1 I2.cD hx S fun h' tk e1 e2 e3 => ?_
  have AX : s2.heap.objs.size ≠ x := ana (alp hx);have hn := I2.aM.fresh (ali s2.heap.objs.size);obtain ⟨od, es, ep, f1, f2, f3, f4, f5⟩ := e2;have a1 : (h'.update x fun _ => f9 C none t).get? x = some (f9 C none t) := amj (fun _ => f9 C none t) e1 rfl;have a2 : ∀ b, b ≠ x -> (h'.update x fun _ => f9 C none t).get? b = h'.get? b := fun b hb => alP _ _ (amT hb)
  have J1 := I2.laid (a := s2.heap.objs.size) (o := .bE od (.xd [(f, y)])) (h' := h'.update x fun _ => f9 C none t) (t' := tk) (fun b u z => by
      by_cases hb : b = x
      · rw [hb] at z ⊢
        rw [hx] at z;rw [a1];exact z
      · rw [a2 b hb]
        exact e3 b u hb z) (ali _)
    ⟨(a2 _ AX).trans f1, fun z => if z = f then some u else none, ⟨od, es, ep, (a2 _ AX).trans f1, f2, f3, f4, f5⟩, fun g => by
      show fP (aml g [(f, y)]) (if g = f then some u else none);by_cases hg : g = f
      · rw [if_pos hg, aml, show (g == f) = true from beq_iff_eq.mpr hg]
        exact ry
      · rw [if_neg hg, aml, show (g == f) = false from beq_eq_false_iff_ne.mpr hg]
        trivial⟩
  have e4 : upd H2 s2.heap.objs.size (.bE od (.xd [(f, y)])) x = some (fG C x none) := (bw (amT AX)).trans ea;have J2 := J1.write (x := x) (e := x) (h' := h') (t' := tk) (o := fG C x (some s2.heap.objs.size)) (by rw [e4]; trivial) (.inl rfl) (fun b u hb z => by rw [<- a2 b hb]; exact z) ⟨_, e1⟩ (CL e1);exact ⟨σ, _, J2, q2 _ od hn AX⟩
end
abbrev adm(c0 z f:Str)(np apos p1 p2 p3 p4 p5 p6 p7 p8 p9 AY AZ:Pos)(j:Nat):List Stmt:=
 [.Expr (.Call (.Attribute (.Name c0 np) "__init__" apos) [.Name "self" p1,.JoinedStr [.Constant (.str z) j p2,.FormattedValue (.Name f p3) (-1) none p4] p5] [] p6) p7,.Assign [.Attribute (.Name "self" p8) f p9] (.Name f AY) AZ]
noncomputable def OL(v:V):Prop:=(∃a:Int,v=.int a/\a.natAbs<2 ^ 64)\/v=.aE
noncomputable def sj(C:Addr)(f:Str):Sp:=fun vs H Q _=>∃x v,vs=[.ref x,v]/\H x=some (fG C x none)/\OL v/\∀d od,H d=none->d≠x->Q .aE (upd (upd H d (.bE od (.xd [(f,v)]))) x (fG C x (some d)))
variable{a:Addr}
theorem ahy{o:HO}(h:H a=some o):upd H a o=H:=by
 funext b
 by_cases hb:b=a
 ·rw[hb,bP,h]
 ·rw[bw hb]
structure vM(K:acs)(x qual:Str)(st:Stmt)(f:Addr)(fd:alM):Prop where
 ex:∃(oc:Value) (od:Option Addr) (T:Addr) (o:Obj) (n:Nat) (kV doc pm:Value) (an:Option Addr) (bX ct:Value) (hO:Array (Option Value)),
  fd=alw x qual (b0 st) (a9 st) (ak st) (.ref T) kV doc pm an bX ct/\K.lookup f=some ⟨oc,od,.func fd,hO⟩/\als K bX qual=true/\K.lookup T=some o/\o.data=.seq #[.none] n
theorem vM.binds{x qual:Str}{st:Stmt}{fd:alM}{ps:List Str}(F:vM K x qual st f fd)
  (h:∀(T:Addr) (kV doc pm:Value) (an:Option Addr) (bX ct:Value) (us:List Value),us.length=ps.length->∃k:Option (Array Value)->Sem (List (Str×Value)),bindArgs (alw x qual (b0 st) (a9 st) (ak st) (.ref T) kV doc pm an bX ct) ⟨us,[]⟩=seqItems? (.ref T) >>= k/\k (some #[.none])=pure (ps.zip us)):Binds K fd ps []:=by
 obtain⟨oc,od,T,o,n,kV,doc,pm,an,bX,ct,hO,rfl,lk,hcd,lt,dt⟩:=F.ex;intro s us dF hl;rw[anC] at hl ⊢;obtain⟨k,h1,h2⟩:=h T kV doc pm an bX ct us hl;exact .of_defaults rfl (dF _ _ lt) dt h1 h2
variable{n:Nat}
theorem ae3{x qual:Str}{st:Stmt}{T:Addr}{o:Obj}{oc:Value}{od an:Option Addr}{hO:Array (Option Value)}{kV doc pm bX ct:Value}(l:K.lookup f=some ⟨oc,od,.func (alw x qual (b0 st) (a9 st) (ak st) (.ref T) kV doc pm an bX ct),hO⟩)
  (c:als K bX qual=true) (lt:K.lookup T=some o) (dt:o.data=.seq #[.none] n):vM K x qual st f (alw x qual (b0 st) (a9 st) (ak st) (.ref T) kV doc pm an bX ct):=⟨oc,od,T,o,n,kV,doc,pm,an,bX,ct,hO,rfl,l,c,lt,dt⟩
section
variable{P:amb}{w:World}{K:acs}{mg:Str->Option Value}{base:Heap}{qual c0 z fl:Str}{st:Stmt}{f C C0 g:Addr}{fd:alM}{np apos p1 p2 p3 p4 p5 p6 p7 p8 p9 AY AZ:Pos}{j:Nat}{pl:Env->Sem Bool}
theorem ae4(F:vM K "__init__" qual st f fd)(S:ck ["self",fl] ["self",fl] (ak st))(hb:a9 st=adm c0 z fl np apos p1 p2 p3 p4 p5 p6 p7 p8 p9 AY AZ j)(B:DL K C0)(hC:kX K C g fh "ValueError.__new__"=true)
  (hg:(ak st).names.lookup c0=some .globalImplicit) (hm:mg c0=some (.ref C0)) (bU:(c0==("__debug__":Str))=false) (hf1:(fl==("__debug__":Str))=false) (hf2:(fl==("__classdict__":Str))=false) (T:wC K C fl) (hz:z.length<=1000)
  (ht:∀env:Env,eval (.Call (.Attribute (.Name c0 np) "__init__" apos) [.Name "self" p1,.JoinedStr [.Constant (.str z) j p2,.FormattedValue (.Name fl p3) (-1) none p4] p5] [] p6) env=(do
   let ov <- eval (.Name c0 np) env
   standAt apos.atName
   let (f,first) <- apu [ov] (getMethod ov "__init__" (pl env))
   callWith p6 f first (aou p6 (alI [.Name "self" p1,.JoinedStr [.Constant (.str z) j p2,.FormattedValue (.Name fl p3) (-1) none p4] p5] env)) (backToKw p6 (apR [] env))))
  (hs1:∀env:Env,anl (.Call (.Attribute (.Name c0 np) "__init__" apos) [.Name "self" p1,.JoinedStr [.Constant (.str z) j p2,.FormattedValue (.Name fl p3) (-1) none p4] p5] [] p6) none p7.line env=pure false)
  (cY:∀env:Env,anl (.Name fl AY) (some (.Attribute (.Name "self" p8) fl p9)) AZ.line env=pure false) :
  bK P w K mg base (bF P w) 1 f fd ["self",fl] (sj C fl):=by
 obtain⟨oc,od,T0,o0,n0,kV,doc,pm,an,bX,ct,hO,rfl,lk,hcd,_⟩:=F.ex;refine Nd lk hcd S (fun vs H Q E h=>by obtain⟨x,v,rfl,_⟩:=h;rfl) fun A outer s H vs Q E hr h=>?_
 obtain⟨x,v,rfl,hx,hv,q⟩:=h;rw[hb];have j4:∀y∈(["self",fl]:List Str),aJ (ak st) y:=fun y hy=>by
  rcases S.EL y hy with q | q
  ·exact .inl q
  ·exact .inr (.inl q)
 have vS:∀{p:Pos},PE (jS (bF P w) P w K mg base ["self",fl] qual (ak st) f bX A outer s H E) (.Name "self" p) (DR 0):=fun{p}=>CW rfl (j4 _ (by simp))
 have vA:∀{p:Pos},PE (jS (bF P w) P w K mg base ["self",fl] qual (ak st) f bX A outer s H E) (.Name fl p) (DR 1):=fun{p}=>CW rfl (j4 _ (by simp)) hf1 hf2
 refine⟨_,JN (KO (adl (X:=jS (bF P w) P w K mg base ["self",fl] qual (ak st) f bX A outer s H E) B hC hg hm bU (nu vS (nu (abE hz vA) uM)) rfl rfl (ht _)) (hs1 _)) (KN (ae2 T vS vA (cY _))),?_⟩;refine⟨.ref x,rfl,v,rfl,hv,fun y=>⟨x,.str y,rfl,hx,?_⟩⟩;rw[ahy hx];exact⟨v,rfl,.ref x,rfl,x,rfl,hx,q⟩
end
noncomputable def del(H:Hp)(a:Addr):Hp:=fun b=>if b=a then none else H b
theorem Kn:del H a a=none:=by unfold del;rw[if_pos rfl]
theorem nB{b:Addr}(h:b≠a):del H a b=H b:=by unfold del;rw[if_neg h]
section
variable{X:Cx}{pins:List (Addr×Obj)}{σ:L2.St}{H:Hp}{s:ald}{C a:Addr}{dd:Option Addr}
theorem adn(I:Inv X pins σ H s)(e:H a=some (fG C a dd))(ha:X.aQ.heap.objs.size<=a):Inv X pins σ (del H a) { s with heap:=s.heap.hide a }:=by
 have mV:∀b,b≠a->(s.heap.hide a).get? b=s.heap.get? b:=fun b hb=>Heap.hide_ne s.heap hb
 have neN:∀{b:Addr},H b=none->b≠a:=fun n z=>by rw[z,e] at n;cases n
 refine I.step (g':=s.gens) (d':=s.drawn) (t':=s.toks) (ch:=[a]) (fun b hb=>?_) (fun b o _ _ hc q _=>?_) (fun b o _ _ hc q _=>⟨o.slots,?_⟩) (fun b o hc q n=>?_) (fun b o hc q=>⟨o,?_⟩) (fun b xs q=>?_) (fun b o u q=>?_) (fun b ps q=>⟨#[],?_⟩) (fun m hm=>?_) (fun b o q=>?_) I.bare
 ·have hb:b=a:=by simpa using hb
  subst hb;refine⟨.inr ha,fun z=>?_,fun x c hx z=>?_,fun p hp z=>?_⟩
  ·have:=I.free;rw[<- z,e] at this;cases this
  ·rcases(I.iE x c hx).2 with n | ⟨o,n⟩
   ·rw[z,e] at n;cases n
   ·rw[z,e] at n;cases n
  ·have:=(I.pin p hp).2.1;rw[z,e] at this;cases this
 ·rw[mV b (by simpa using hc)];exact q
 ·rw[mV b (by simpa using hc)];exact q
 ·rw[nB (by simpa using hc)];exact n
 ·rw[mV b (by simpa using hc)];exact q
 ·rw[nB (fun z=>by rw[z,e] at q;cases q)];exact q
 ·rw[nB (fun z=>by rw[z,e] at q;cases q)];exact q
 ·rw[nB (fun z=>by rw[z,e] at q;cases q),q];simp
 ·obtain⟨o,es,ep,ho,r⟩:=hm;exact⟨o,es,ep,(mV _ (neN I.free)).trans ho,r⟩
 ·have hb:b≠a:=fun z=>by rw[z,Kn] at q;cases q
  rw[nB hb] at q;refine(I.aM b o q).jP (fun c v hc z=>?_) (fun c z=>?_) fun c xs z=>?_
  ·have:c≠a:=by
    rcases hc with k | k
    ·rw[k];exact hb
    ·exact fun y=>by rw[y,e] at k;cases k
   exact(mV c this).trans z
  ·rw[nB (fun y=>by rw[y,e] at z;cases z)];exact z
  ·rw[nB (fun y=>by rw[y,e] at z;cases z)];exact z
theorem ae5(I:Inv X pins σ H s)(e:H a=some (fG C a dd))(ha:X.aQ.heap.objs.size<=a):Made X C dd (del H a) (.ref a) s:=by
 obtain⟨t,ex⟩:=za I.aM e;refine⟨pins,σ,{ s with heap:=s.heap.hide a },s.heap,a,rfl,rfl,adn I e ha,fun b o q=>?_,Heap.hide_self s.heap a,t,ex⟩;have hb:b≠a:=fun z=>by rw[z] at q;have:=Heap.hide_self s.heap a;rw[this] at q;cases q
 rw[<- Heap.hide_ne s.heap hb];exact q
end
section
variable{M:Model}{A:amz}{E:Value->ald->Prop}{s:ald}{env:Env}{nm q:Str}{C N:Addr}{bs bm:List Value}{hdct:Bool}{sn:List Str}{sub:List Value}{ab:Bool}{col:Option Bool}{dd:Option Addr}{k0 k1 k2 k3 k5:Option Value}{newId:String}
theorem ado{x:Sem Value}{Q:Flow->ald->Prop}(lX:bm.contains (.type "BaseException")=true)(hh:A.handled=none)
  (h:wpAny M A x (fun v bO=>∃e t d2,v=.ref e/\bO.heap.get? C=some (apV nm q C N bs bm hdct sn sub ab col dd k0 k1 k2 k3 k5 newId)/\bO.heap.get? e=some (f9 C d2 t)/\E (.ref e) bO) E s) :
  wpAny M A (raiseStmt env (some x) none) Q E s:=by
 have hcB:(alJ C::bm).contains (.type "BaseException")=true:=by rw[List.contains_cons,lX,Bool.or_true]
 unfold raiseStmt;refine abB (amr h (fun v bO bZ=>?_) fun _ _ x=>x);obtain⟨e,t,d2,rfl,hC,he,hE⟩:=bZ;obtain⟨hp,g,d,tk,os⟩:=bO
 repeat (first | with_reducible refine aoj he ?_ | with_reducible refine aoj hC ?_ | (with_reducible refine wpAny_isSubtype_exc hC ?_;rw[hcB]) | wp_step)
 exact wpAny_raiseNew_none hh hE
end
section
variable{X:Cx}{x fl:Str}{C f:Addr}{fd:alM}{k:Nat}{e:Expr}{ta:TA}{m:EM}{p np dq pos:Pos}
noncomputable def MN(C:Addr)(fl:Str)(s0:Nat)(ta:TA):TE:=fun σ H Q=>ta σ H fun vs H1=>∃v,vs=[v]/\OL v/\∀x d od,s0<=x->H1 x=none->H1 d=none->d≠x->Q (.ref x) (upd (upd H1 d (.bE od (.xd [(fl,v)]))) x (fG C x (some d)))
theorem Z3(hC:kX X.K C f fh "ValueError.__new__"=true)(hi:alN X.K (.ref C) "__init__"=some (some (.ref f)))(hf:aov X.K (.ref f)=true)(kp:alm X.K (.ref C)=true)
  (F:bK X.prog X.w X.K X.mg X.base (bF X.prog X.w) k f fd ["self",fl] (sj C fl)) (hr:cQ (k+1) X.A) (hb:Binds X.K fd ["self",fl] []) (hg:Gl X x) (hm:X.mg x=some (.ref C)) (bU:(x==("__debug__":Str))=false) (ha:PA X [e] ta)
  (he:alI [e] X.env=(false,eval e X.env)::alI [] X.env):PE X (.Call (.Name x p) [e] [] pos) (MN C fl X.aQ.heap.objs.size ta):=by
 intro pins s σ H Q I h;refine anS (pj I hg hm ?_ bU);refine apn (h₀:=X.base) I.ok.mod.dF kp (a8 (ha pos pins s σ H _ I h) fun us s1 ⟨vs,H1,I1,r,v,ev,hv,q⟩=>⟨I1.cD,?_⟩) he rfl;subst ev;obtain⟨u,rfl,ru⟩:=Vals.one r;obtain⟨bm,N,nm,qn,bs,sn,sub,ab,col,dd,k0,k1,k2,k3,k5,o1,T⟩:=Co I1.cD hC;obtain⟨hh,g,d,tk,os⟩:=s1;have hsz:X.aQ.heap.objs.size<=hh.objs.size:=I1.sz;have hn:H1 (hh.objs.size+1)=none:=I1.aM.fresh (aoD _);refine PySem.W.adk amL (by rfl) amL T o1 (aqC I1.cD hi) (fun self=>PySem.W.bind_fn I1.cD self (beq_iff_eq.mp hf)) ?_ (by show 1<=alz;decide);have Ei:((hh.push { cls:=.type "tuple",data:=.seq [u].toArray }).push { cls:=.ref C,data:=.fields #[.ref hh.objs.size,.none,.none,.none,.bool false,.none] }).get? (hh.objs.size+1)=some (f9 C none hh.objs.size):=Heap.get?_push_at (by simp only[amR]) rfl;have I2:Inv X pins σ (upd H1 (hh.objs.size+1) (fG C (hh.objs.size+1) none)) ⟨(hh.push { cls:=.type "tuple",data:=.seq [u].toArray }).push { cls:=.ref C,data:=.fields #[.ref hh.objs.size,.none,.none,.none,.bool false,.none] },g,d,tk,os⟩:=
  I1.laid (a:=hh.objs.size+1) (t':=tk) (fun b w z=>alb _ (alb _ z)) (aoD _) (CL Ei)
 have r2:Vals [V.ref (hh.objs.size+1),v] [alJ (hh.objs.size+1),u]:=.cons rfl (.cons ru .nil);have hq:sj C fl [V.ref (hh.objs.size+1),v] (upd H1 (hh.objs.size+1) (fG C (hh.objs.size+1) none)) (fun w H2=>w=.aE/\Q (.ref (hh.objs.size+1)) H2) (fun _ _ _=>False):=by
  refine⟨_,v,rfl,bP,hv,fun d od hd ly=>⟨rfl,?_⟩⟩;rw[bw ly] at hd;rw[aeT ly];exact q _ d od (Nat.le_succ_of_le hsz) hn hd ly
 refine aoK (F.run _ X.stack _ _ ⟨[alJ (hh.objs.size+1),u],[]⟩ [alJ (hh.objs.size+1),u] _ _ (fun _ _ _=>False) (hr.make C [u] []) (I2.DT.make C [u] []) (hb _ [alJ (hh.objs.size+1),u] I2.cD rfl) r2 hq) fun r s' kx=>?_
 cases r with
 | error e=>obtain⟨_,_,_,_,z⟩:=kx;exact z.elim
 | ok fl=>
  cases fl with
  | ret u=>
   obtain⟨w,H',I3,rv,ev,q3⟩:=I2.after kx;subst ev;exact⟨rv,⟨V.ref (hh.objs.size+1),H',I3,rfl,q3⟩⟩
  | next=>exact anc kx
  | brk=>exact anc kx
  | cont=>exact anc kx
noncomputable def A0:W->Bool
 | .int a=>decide (a.natAbs<2 ^ 64)
 | .aE=>true
 | _=>false
noncomputable def pz(c fl:Str)(m:EM):SM:=fun σ=>aA (m σ) fun w=>if A0 w=true then wk ⟨c,[(fl,w)]⟩ else eK
theorem ae6{H:Hp}{a:Addr}{o:HO}(h:H a=none):del (upd H a o) a=H:=by
 funext b
 by_cases hb:b=a
 ·rw[hb,Kn,h]
 ·rw[nB hb,bw hb]
theorem abG(hC:kX X.K C f fh "ValueError.__new__"=true)(hi:alN X.K (.ref C) "__init__"=some (some (.ref f)))(hf:aov X.K (.ref f)=true)(kp:alm X.K (.ref C)=true)
  (F:bK X.prog X.w X.K X.mg X.base (bF X.prog X.w) k f fd ["self",fl] (sj C fl)) (hr:cQ (k+1) X.A) (hb:Binds X.K fd ["self",fl] []) (hg:Gl X x) (hm:X.mg x=some (.ref C)) (hc:X.calm=true) (dg:isStar e=false) (bU:(x==("__debug__":Str))=false) (he:IE X e m) :
  IS X (.Raise (some (.Call (.Name x np) [e] [] dq)) none pos) (pz x fl m):=by
 intro pins s σ H D I h;obtain⟨φ,ph,ws,hH,hS,h⟩:=h;obtain⟨bm,N,nm,qn,bs,sn,sub,ab,col,dd,k0,k1,k2,k3,k5,o1,T⟩:=Co I.ok.mod.dF hC;have hq:MN C fl X.aQ.heap.objs.size (Nc (tM X m) Oa) σ H (fun vx H'=>∃y d od v H1 w aC ph1,vx=.ref y/\H'=upd (upd H1 d (.bE od (.xd [(fl,v)]))) y (fG C y (some d))/\X.aQ.heap.objs.size<=y/\H1 y=none/\H1 d=none/\d≠y/\aS X.K aC ph1 H1/\aX X.K aC ph1.length H1 w v /\
   ∀av H' e' s',aS X.K av ph1 H'->Step X.K aC ph1.length H1 av ph1.length H'->mP X av ph1.length ⟨x,[(fl,w)]⟩ H' e' s'->X.xe e' s'):=by
  refine tM.bind hH hS h fun w ph1 aC H1 v aF s1 r1 h=>?_
  by_cases hw:A0 w=true
  ·rw[if_pos hw] at h;refine⟨v,rfl,?_,fun y d od h0 hy hd ly=>⟨y,d,od,v,H1,w,aC,ph1,rfl,rfl,h0,hy,hd,ly,aF,r1,h⟩⟩;cases r1 with
   | int a=>exact .inl ⟨a,rfl,of_decide_eq_true hw⟩
   | aE=>exact .inr rfl
   | _=>cases hw
  ·rw[if_neg hw] at h;exact h.elim
 have hE:=Z3 (p:=np) (pos:=dq) hC hi hf kp F hr hb hg hm bU (nu he uM (dB dg)) (dB dg) pins s σ H _ I hq;rw[arm_exec_Raise];refine abB (aoT (ado (C:=C) (nm:=nm) (q:=qn) (N:=N) (bs:=bs) (bm:=bm) (hdct:=true) (sn:=sn) (sub:=sub) (ab:=ab) (col:=col) (dd:=dd) (k0:=k0) (k1:=k1) (k2:=k2) (k3:=k3) (k5:=k5) (newId:="ValueError.__new__") (T.hasType (by rfl)) (I.ok.hd hc) (abB (a8 hE fun u s1 ⟨vx,H',I1,rv,y,d,od,v,H1,w,aC,ph1,ey,eH,h0,hy,hd,ly,aF,r1,k⟩=>abB (aoT (alh ?_))))));subst ey eH;obtain rfl:u=alJ y:=rv;obtain⟨t,ex⟩:=za I1.aM bP;have md:=ae5 I1 bP h0;rw[ae6 ((bw (amT ly)).trans hy)] at md;exact⟨y,t,some d,rfl,I1.bk _ _ o1,ex,k aC _ _ _ (yN aF hd) (oZ hd) ⟨C,some d,hm,.inr ⟨d,od,fl,w,v,rfl,rfl,bP,r1.mono (oZ hd)⟩,.inl md⟩⟩
theorem B2(hC:kX X.K C f fh "ValueError.__new__"=true)(hi:alN X.K (.ref C) "__init__"=some (some (.ref f)))(hf:aov X.K (.ref f)=true)(kp:alm X.K (.ref C)=true)
  (F:bK X.prog X.w X.K X.mg X.base (bF X.prog X.w) k f fd ["self",fl] (sj C fl)) (hr:cQ (k+1) X.A) (hb:Binds X.K fd ["self",fl] []) (hg:Gl X x) (hm:X.mg x=some (.ref C)) (hc:X.calm=true) (dg:isStar e=false) (bU:(x==("__debug__":Str))=false) (he:JE X e m) :
  JS X (.Raise (some (.Call (.Name x np) [e] [] dq)) none pos) (pz x fl m):=⟨abG hC hi hf kp F hr hb hg hm hc dg bU he.h⟩
end
open PySem PySem.Spec PyProof.Rows L2 PySem.W Builtin.ObjectAttr
section
variable{prog:amb}{w:World}{A:amz}{E:Value->ald->Prop}{s:ald}{K:acs}{x D:Addr}
theorem abH{v:Value}{name:Str}{tk:Tok}{Q:Fin->ald->Prop}(I:lh s.heap x D)(L1:Looks (model prog w) s.heap (find (.ref x) (.ref D) name) (.value v))
  (h:Q (.done (.ret v)) s):wpAny (model prog w) A (apx.«object.__getattribute__» ⟨[.ref x,.str name tk],[]⟩) Q E s:=by
 obtain⟨hh,gg,d,t,os⟩:=s;have L0:=I.nF (M:=model prog w);unfold apx.«object.__getattribute__»;refine abB (alh ?_)
 dsimp only
 refine abB (alh ?_);refine abB (L0.at (abB (L1.at ?_)));exact alh h
theorem ae7{expr:Bool}{name:Str}{v:Value}{Q:Value->ald->Prop}(X:K.In s.heap)(I:lh s.heap x D)(hK:fF K D)(L1:∀M,Looks M s.heap (find (.ref x) (.ref D) name) (.value v))(hv:handedIn v=true)(h:Q v { s with toks:=s.toks+1 }) :
  wpAny (model prog w) A (getAttr (.ref x) name expr) Q E s:=by
 obtain⟨hh,gg,d,t,os⟩:=s;have L0:=I.nF (M:=model prog w);have L2:=aoM (M:=model prog w) X hK.ga;have L3:=aoM (M:=model prog w) X hK.gh;unfold getAttr getAttrBy;refine abB (wpAny_mkText (amu (abB (L0.at (abB (L2.at ?_))))));show wpAny _ _ (apc _ _ _ _ _ _) _ _ _;unfold apc;refine abB (show wpAny _ _ (apF (.ref D) "__getattr__") _ _ _ from L3.at ?_);refine abB (aoV (amu ?_));unfold callGetattribute;rw[show(expr&&onTheHeap (Value.builtin "BaseException.__getattribute__"))=false from aqK _,if_neg (by decide)];unfold aqM;rw[Le];refine abB (alh ?_)
 dsimp only
 refine aoE (anx apI.ga.plain F.entry_bexc_ga (Jg (s:=⟨hh,gg,d,t+1,os⟩) X I hK.mb (abH (s:=⟨hh,gg,d,t+1,os⟩) I (L1 _) ?_)))
 dsimp only
 show wpAny _ _ (handedOut v) _ _ _;rw[handedOut_of hv];exact alh h
end
noncomputable def wD(c0 f:Str)(w:W):Po W:=fun ph=>match w with
 | .exc c [g] [v]=>if c=c0/\g=f then some (v,ph) else none
 | _=>none
noncomputable def pU(c0 f:Str)(m:EM):EM:=fun σ=>aA (m σ) fun w=>lift (wD c0 f w)
section
variable{X:Cx}{c0 f:Str}{C:Addr}{e:Expr}{m:EM}{pos:Pos}
theorem ae8(bM:nsIn X.K alc c0=some (some (.ref C)))(hK:fF X.K C)(hh:hasDictIn X.K C=true)(hn:arh X.K (.ref C) f=some none)(he:IE X e m)(hb:amY e f X.env (eval e X.env)=eval e X.env):IE X (.Attribute e f pos) (pU c0 f m):=by
 intro pins s σ H Q I h;refine KR hb (a8 (he pins s σ H (fun vx H1=>∃a d o u od v,vx=.ref a/\H1 a=some (.bE o u)/\o.cls=.ref C/\notCls o=true/\o.dict=some d/\H1 d=some (.bE od (.xd [(f,v)]))/\Q v H1) I ?_) fun u s1 ⟨vx,H1,I1,rx,a,d,o,u0,od,v,ex,ea,ec,en,ed,hd,q⟩=>?_)
 ·obtain⟨φ,ph,ws,hH,hS,h⟩:=h;refine tM.bind hH hS h fun w ph1 aC H1 vx aF s1 rx h=>?_
  obtain⟨w2,ph2,e2,k⟩:=run_lift h;unfold wD at e2;split at e2
  ·rename_i c g v;split at e2
   ·rename_i hc;obtain⟨rfl,rfl⟩:=hc;cases e2;cases rx with
    | @exc _ _ _ a C' vs o u hfz kA jq hk hf r=>
     rw[bM] at jq;cases jq;cases r with
     | cons r1 r2=>
      cases r2
      rcases hf with⟨z,_⟩ | ⟨d,od,e3,_,e4⟩
      ·cases z
      ·exact⟨a,d,o,u,od,_,rfl,hfz,kA,hk,e3,e4,k aC H1 _ aF s1 r1⟩
   ·cases e2
  ·cases e2
 ·subst ex;obtain rfl:u=alJ a:=rx;have ga:s1.heap.get? a=some o:=(I1.aM a _ ea).1;obtain⟨gd,mA,akp,hr⟩:=I1.aM d _ hd;obtain⟨od',ho,hl⟩:=IV akp;have J:InstAt s1.heap a o C (some od'):=⟨ga,ec,en,by rw[ed];exact ho⟩
  have Qd:=hr f;rw[show aml f [(f,v)]=some v by rw[aml,show(f==f)=true from beq_self_eq_true f]] at Qd;obtain⟨u1,hu1,Qe⟩:=fP.some_of Qd;exact ae7 I1.cD ⟨o,ga,ec⟩ hK (fun M=>looks_find I1.cD J (findObj_own hh hn rfl (by rw[hl,hu1]))) (IW Qe) ⟨v,H1,I1.tok _,Qe,q⟩
theorem LH(bM:nsIn X.K alc c0=some (some (.ref C)))(hK:fF X.K C)(hh:hasDictIn X.K C=true)(hn:arh X.K (.ref C) f=some none)(he:JE X e m)(hb:amY e f X.env (eval e X.env)=eval e X.env:=by rfl):JE X (.Attribute e f pos) (pU c0 f m):=⟨ae8 bM hK hh hn he.h hb⟩
end
noncomputable def kT(tb:List (Str×Bool))(i:Nat)(b h:SM):SM:=fun σ ph=>match b σ ph with
 | .ex x ph'=>if tb.lookup x.cls=some true then wm (aA (h ((alj σ.length none).set i (some (.exc x.cls (x.fs.map (·.1)) (x.fs.map (·.2)))))) fun f=>aK (f.wo i)) ph' else .no
 | .ok f ph'=>.ok f ph'
 | .no=>.no
theorem ae9{φ:Nat->Addr}{H':Hp}{oe:Obj}{u:HO}{fs:List (Str×W)}(gH:H' a=none)(gd:oe.dict=dd)(h:vY K φ n H' dd fs) :
  ∃vs,vv (upd H' a (.bE oe u)) oe (fs.map (·.1)) vs/\bi K φ n (upd H' a (.bE oe u)) (fs.map (·.2)) vs:=by
 rcases h with rfl | ⟨d,od,f,w,v,ed,rfl,hd,r⟩
 ·exact⟨[],.inl ⟨rfl,rfl⟩,.nil⟩
 ·exact⟨[v],.inr ⟨d,od,gd.trans ed,rfl,(bw (fun z=>by rw[z,gH] at hd;cases hd)).trans hd⟩,.cons (r.mono (oZ gH)) .nil⟩
section
variable{X:Cx}{body jN:List Stmt}{j5:Stmt}{c n:Str}{i:Nat}{tb:List (Str×Bool)}{D:Addr}{np nW pos:Pos}{mb mh:SM}
theorem Z4(T:b6 X)(aja:X.calm=true)(hW:Gl X c)(hX:X.mg c=some (.ref D))(bU:(c==("__debug__":Str))=false)(hk:zH X.K D)(hT:gV X.K D tb)(hN:X.N.Nodup)(hi:X.N[i]? =some n)(hl:X.env.scope.names.lookup n=some .local)(js:jQ X n)
  (hb:∀pn E,gy (eG X X.A pn E X.calm) body mb) (hh:∀a E,gy (eG X (X.A.mark (some (.ref a))) X.pn E false) (j5::jN) mh) :
  IS X (.Try body [.ExceptHandler (some (.Name c np)) (some n) (j5::jN) nW] [] [] pos) (kT tb i mb mh):=by
 intro pins s σ H Dn I h;obtain⟨φ,ph,ws,hH,hS,h⟩:=h;have qx:=I.ok.hd
 let X0:Cx:=eG X X.A (X.pn++pins) X.xe X.calm
 let E1:Value->ald->Prop:=fun e s'=>∃x ph' av H',mb ws ph=.ex x ph'/\aS X.K av ph' H'/\Step X.K φ ph.length H av ph'.length H'/\mP X0 av ph'.length x H' e s'
 have I1:Inv (eG X X.A (X.pn++pins) E1 X.calm) [] σ H s:=uF I rfl qx fun p hp=>by simpa using hp
 have back:∀{az:L2.St} {H':Hp} {s':ald},Inv (eG X X.A (X.pn++pins) E1 X.calm) [] az H' s'->Inv X pins az H' s':=fun{az H' s'} J=>BY J rfl qx fun p hp=>by simpa using hp
 have DJ:tS (eG X X.A (X.pn++pins) E1 X.calm) mb Dn σ H:=by
  refine⟨φ,ph,ws,hH,hS,?_⟩;unfold kT at h;cases q:mb ws ph with
  | ok f ph'=>rw[q] at h;exact h
  | no=>rw[q] at h;exact h
  | ex x ph'=>exact fun av H' e s' r st th=>⟨x,ph',av,H',q,r,st,aez qx th⟩
 refine wpAny_Try_except (amr (hb (X.pn++pins) E1 [] s σ H Dn I1 DJ) (fun f s1 z=>?_) fun e s1 z=>?_)
 ·cases f with
  | next=>
   obtain⟨az,H',J,q⟩:=z;exact anU ⟨az,H',back J,q⟩
  | brk=>obtain⟨az,H',J,q⟩:=z;exact⟨az,H',back J,q⟩
  | cont=>obtain⟨az,H',J,q⟩:=z;exact⟨az,H',back J,q⟩
  | ret u=>obtain⟨v,az,H',J,r,q⟩:=z;exact⟨v,az,H',back J,r,q⟩
 ·obtain⟨x,ph',av,H',q,rH,st,th⟩:=z;unfold kT at h;rw[q] at h
  dsimp only at h
  by_cases hx:tb.lookup x.cls=some true
  case neg=>rw[if_neg hx] at h;exact h.elim
  rw[if_pos hx] at h;obtain⟨C,dd,Fp,AJ,a,B,rfl,K⟩:=took (X:=X0) ⟨T.st,T.fr,T.ex⟩ th;obtain⟨C',tn,Ee⟩:=hT _ _ hx;have vI:=alk I.ok.mod.dF I.ok.mod.glob tn;have Ef:X.mg x.cls=some (.ref C):=Fp;rw[Ef] at vI;cases vI;refine K.note (A:=X.A) I.ok.frames fun h4 a0 DK wq=>?_
  refine Hw DK fun h5 wt wu=>?_
  obtain⟨ajb,gK,Fq,Fs,Ft,_,gH,_,J5⟩:=K.inv (X:=X0) ⟨T.st,T.fr,T.ex⟩ wt (wq.trans wu)
  let X2:Cx:=eG X (X.A.mark (some (.ref a))) X.pn (fun _ _=>False) false
  have to2:∀{p5:List (Addr×Obj)} {az:L2.St} {H2:Hp} {s':ald},Inv X0 p5 az H2 s'->Inv X2 pins az H2 s':=fun{p5 az H2 s'} J=>uF (X:=X0) J rfl (fun z=>nomatch z) fun p hp=>aom _ hp
  have wz:=to2 J5;refine wpAny_handleBy_cons (codeAny_handlers_test (pj (X:=X2) wz hW hX ?_ bU)) (by intro z;cases z);refine Jh wz.cD ⟨Fq,Fs,Ft⟩ hk.ek hk.ty Ee (codeAny_handlers_suite_as ?_);refine Hx wt fun h6 Fu Fv=>?_
  obtain⟨ajc,ij,wA,ge6,PK,PL,_,gd6,J6⟩:=K.inv (X:=X0) ⟨T.st,T.fr,T.ex⟩ Fu ((wq.trans wu).trans Fv);have Fw:=to2 J6;refine B8 (X:=X2) Fw hN hi (.inl hl) (v:=.ref a) rfl (fun s7 J7=>?_) ⟨.inr hl,js⟩;have b7:ws.length=ij.length:=by rw[hS.len,I.len];exact J6.len.symm
  let D':Ends:={ nx:=fun az H'=>Dn.nx (az.set i none) H',bk:=fun az H'=>Dn.bk (az.set i none) H',ct:=fun az H'=>Dn.ct (az.set i none) H',rt:=Dn.rt }
  obtain⟨vf,xf,rf⟩:=ae9 (u:=HO.own a) gH gd6 AJ;have Dg:tS X2 mh D' (ij.set i (some (.ref a))) (upd H' a (.bE wA (.own a))):=by
   refine⟨av,ph',(alj ws.length none).set i (some (.exc x.cls (x.fs.map (·.1)) (x.fs.map (·.2)))),yN rH gH,bc.set (ws:=alj ws.length none) (.exc bP PK tn PL xf rf) i (by rw[b7];exact bc.none ij),?_⟩;unfold wm aA at h;cases q2:mh ((alj ws.length none).set i (some (.exc x.cls (x.fs.map (·.1)) (x.fs.map (·.2))))) ph' with
   | no=>rw[q2] at h;exact h.elim
   | ex y p2=>rw[q2] at h;exact h.elim
   | ok f p2=>
    rw[q2] at h;intro bg H2 r2 s2;have h2:=h bg H2 r2 ((st.trans (oZ gH)).trans s2);cases f with
    | nx cR=>exact fun az r=>h2 (az.set i none) (bc.unset i r)
    | bk cR=>exact fun az r=>h2 (az.set i none) (bc.unset i r)
    | ct cR=>exact fun az r=>h2 (az.set i none) (bc.unset i r)
    | rt w=>exact h2
  have l6:∀{az:L2.St} {H2:Hp} {s':ald},Inv X2 pins az H2 s'->Inv X pins az H2 s':=fun{az H2 s'} J=>BY J rfl qx fun p hp=>hp
  refine amr (hh a (fun _ _=>False) pins s7 _ _ D' J7 Dg) (fun f s8 z=>?_) fun _ _ z=>z.elim
  cases f with
  | next=>
   obtain⟨az,H2,J8,q8⟩:=z;exact name_goes (l6 J8) hN hi hl js fun s9 J9=>⟨_,H2,J9,q8⟩
  | brk=>
   obtain⟨az,H2,J8,q8⟩:=z;exact name_goes (l6 J8) hN hi hl js fun s9 J9=>⟨_,H2,J9,q8⟩
  | cont=>
   obtain⟨az,H2,J8,q8⟩:=z;exact name_goes (l6 J8) hN hi hl js fun s9 J9=>⟨_,H2,J9,q8⟩
  | ret u=>
   obtain⟨v,az,H2,J8,r8,q8⟩:=z;exact name_goes (l6 J8) hN hi hl js fun s9 J9=>⟨v,_,H2,J9,r8,q8⟩
theorem Z5{N:List Str}{sc:Scope}{k:Nat}(B:BdT X N sc k)(T:b6 X)(aL:X.env.scope=sc)(hW:Gl X c)(hX:X.mg c=some (.ref D))(bU:(c==("__debug__":Str))=false)(hk:zH X.K D)(hT:gV X.K D tb)(i:Nat)(hi:N[i]? =some n)(hl:sc.names.lookup n=some .local)
  (hb:∀{X':Cx},X'.K=X.K->X'.mg=X.mg->X'.prog=X.prog->X'.w=X.w->X'.base=X.base->BdT X' N sc k->JB X' body mb) (hh:∀{X':Cx},X'.K=X.K->X'.mg=X.mg->fV X' N sc->JB X' (j5::jN) mh) :
  JS X (.Try body [.ExceptHandler (some (.Name c np)) (some n) (j5::jN) nW] [] [] pos) (kT tb i mb mh):=
 ⟨Z4 T B.calm hW hX bU hk hT (by rw[B.hN];exact B.nd) (by rw[B.hN];exact hi) (by rw[aL];exact hl) (B.fn n (.inl hl)).2
  (fun pn E=>(hb (X':=eG X X.A pn E X.calm) rfl rfl rfl rfl rfl ⟨⟨B.hN,B.j4,B.loc,B.gl,B.fn,B.nd⟩,B.calm,B.room⟩).h)
  (fun a E=>(hh (X':=eG X (X.A.mark (some (.ref a))) X.pn E false) rfl rfl ⟨B.hN,B.j4,B.loc,B.gl,B.fn,B.nd⟩).h)⟩
end
noncomputable def Ap(t:Str):Str:=⟨(t.cps.toList.take 1).toArray⟩
noncomputable def akq:V->Option Int->Option Int->Hp->VK->Prop:=fun x lo hi H Q=>∃t,x=.str t/\lo=none/\hi=some 1/\1<=t.length/\t.length<=alz/\Q (.str (Ap t)) H
theorem ajg(h:1<=n):apf none (some 1) 1 n=[0]:=by
 have e2:max (0:Int) (min (1:Int) (n:Int))=1:=by omega
 simp only[apf,sliceRange,show ¬((1:Int)<0) by decide,if_false,e2,show((1:Int)>0)=True from by simp,if_true];rfl
theorem afa{X:Cx}:mK X akq:=by
 intro pins s σ H x v vl vu lo hi sl Q I rx hs pl pu h;obtain⟨t,rfl,rfl,rfl,h1,hz,q⟩:=h;obtain⟨tk,rfl⟩:=rx;cases pl;cases pu with
 | int _ ut=>
  refine⟨"str",_,F.slot_str_getitem.lookup,typeIs_str _ _ _,wpAny_getItem_str_slice (l:=none) (u:=some (1,ut)) (st:=none) hs rfl ?_⟩;have e0:slicePicked t none (some (1,ut)) none=[0]:=ajg h1;have e:(if((1:Int)==1&&(slicePicked t none (some (1,ut)) none).length==t.length)=true then t else⟨((slicePicked t none (some (1,ut)) none).filterMap (t.cps[·]?)).toArray⟩)=Ap t:=by
   rw[e0];obtain⟨⟨l⟩⟩:=t;cases l with
   | nil=>exact absurd h1 (by decide)
   | cons a l=>
    cases l with
    | nil=>rfl
    | cons b l=>rfl
  unfold sliceMade;refine post_val_or_str ⟨?_,fun t' k=>⟨.str (Ap t),H,I.tok _,⟨t',?_⟩,q⟩⟩
  ·refine alT (apm (congrArg Str.length e)) ?_;refine alT ?_ hz;show(t.cps.toList.take 1).toArray.size<=t.cps.size;rw[alq,alX,anI];omega
  ·exact congrArg (fun z=>aqh z t') e
noncomputable def Ek:W->Option Int->Option Int->Po W:=fun w lo hi ph=>match w with
 | .str t=>if lo=none/\hi=some 1/\1<=t.length/\t.length<=alz then some (.str (Ap t),ph) else none
 | _=>none
noncomputable def tq(m:EM)(lo hi:OM):EM:=fun σ=>aA (m σ) fun w=>aA (lo σ) fun l=>aA (hi σ) fun h=>lift (Ek w l h)
noncomputable def El(t:Str)(k:Nat):Str:=⟨(alj k t.cps).foldl (· ++ ·) #[]⟩
theorem Ko(a:Array Nat):∀(k:Nat) (b:Array Nat),((alj k a).foldl (· ++ ·) b).size=b.size+k*a.size
 | 0,b=>by simp
 | k+1,b=>by
  rw[amx,aqo,Ko a k,Array.size_append,Nat.succ_mul];omega
noncomputable def NV:R2:=fun x y H Q=>∃t k,x=.str t/\y=.int k/\2<=k/\k<1000/\t.length≠0/\t.length<=1000/\Q (.str (El t k.toNat)) H
theorem afb{X:Cx}:bI X (aoe .Mult) NV:=by
 intro pins s σ H x y v u Q I rx ry h;obtain⟨t,k,rfl,rfl,h1,h2,h3,h4,q⟩:=h;obtain⟨tk,rfl⟩:=rx;obtain⟨tj,rfl⟩:=ry;have n1:¬k<1:=by omega
 have n2:(k==1||t.length==0)=false:=by
  rw[Bool.or_eq_false_iff];exact⟨beq_eq_false_iff_ne.mpr (by omega),beq_eq_false_iff_ne.mpr h3⟩
 have hm:t.length*k.toNat<=1000*1000:=Nat.mul_le_mul h4 (by omega);refine P.mul_str (by rw[decide_eq_false (by omega),decide_eq_false (by omega)];rfl) (fun _ _=>?_) (fun _ _=>?_) ?_
 ·rw[Int.not_lt,Int.le_ediv_iff_mul_le (by omega)];have e:(t.length:Int)*k=((t.length*k.toNat:Nat):Int):=by
   rw[Int.natCast_mul,Int.toNat_of_nonneg (by omega)]
  rw[e];omega
 ·exact decide_eq_false (by
   have:(1000*1000:Nat)<=sizeLine:=by decide
   omega)
 ·rw[if_neg n1,if_neg (by rw[n2];exact alK)];refine⟨?_,⟨.str (El t k.toNat),H,I.tok _,⟨_,rfl⟩,q⟩⟩;refine alT (apm (Ko t.cps k.toNat #[])) ?_;have:(1000*1000:Nat)<=sizeLine:=by decide
  have e:k.toNat*t.cps.size=t.length*k.toNat:=Nat.mul_comm _ _;rw[e];simp;omega
noncomputable def gp:W->W->Po W:=fun x y ph=>match x,y with
 | .str t,.int k=>if 2<=k/\k<1000/\t.length≠0/\t.length<=1000 then some (.str (El t k.toNat),ph) else none
 | _,_=>none
theorem ahz:cU K NV gp:=by
 intro φ ph H x y vx vy w ph' Q hH rx ry e k;unfold gp at e;split at e
 ·split at e
  ·rename_i h;cases e;cases rx;cases ry;exact⟨_,_,rfl,rfl,h.1,h.2.1,h.2.2.1,h.2.2.2,k φ H _ hH Step.refl (.str _)⟩
  ·cases e
 ·cases e
section
variable{X:Cx}{a b e:Expr}{m ma mb:EM}{lo hi:Option Expr}{ml mh:OM}{p2 pos:Pos}
theorem MO(ha:JE X a ma)(hb:JE X b mb):JE X (.BinOp a .Mult b pos) (ag gp ma mb):=⟨sA afb ahz ha.h hb.h⟩
theorem ahA(he:IE X e m)(hl:qw X lo ml)(hh:qw X hi mh):IE X (.Subscript e (.Slice lo hi none p2) pos) (tq m ml mh):=
 PE.imp (JR afa he hl hh) fun σ H Q h=>by
  obtain⟨φ,ph,ws,hH,hS,h⟩:=h;refine tM.bind hH hS h fun w ph1 aC H1 v aF s1 r1 h=>tO.bind aF (hS.mono s1) h fun l ph2 bg H2 bj s2 h=>tO.bind bj ((hS.mono s1).mono s2) h fun u fI fu H3 dr s3 h=>?_
  obtain⟨w',ph',e,k⟩:=run_lift h;have r3:=(r1.mono s2).mono s3;have wg:=(s1.trans s2).trans s3;unfold Ek at e;split at e
  ·split at e
   ·rename_i hc;cases e;cases r3;exact⟨_,rfl,hc.1,hc.2.1,hc.2.2.1,hc.2.2.2,k fu _ _ dr wg (.str _)⟩
   ·cases e
  ·cases e
theorem ahB(he:JE X e m)(hl:JO X lo ml)(hh:JO X hi mh):JE X (.Subscript e (.Slice lo hi none p2) pos) (tq m ml mh):=⟨ahA he.h hl.h hh.h⟩
end
end IL
local macro_rules | `(tactic| ac_nf) => `(tactic| try simp only [IL.uG, IL.Lj, IL.Li, IL.i9, IL.Lk, IL.Ms, IL.Mt, IL.Nw, IL.Nx, IL.uQ, IL.Mu, IL.u7, IL.Ll, IL.Ci, IL.Lm, IL.Kf, IL.Mv, IL.nv, IL.zl, IL.uH, IL.Kg, IL.Cj, IL.CH, IL.Ck, IL.Jj, IL.CI, IL.Cm, IL.Ln, IL.CJ, IL.Mw, IL.Lo, IL.Mx, IL.Lp, IL.Jk, IL.yQ, IL.Lq, IL.Lr, IL.fk, IL.dQ, IL.gW, IL.vF, IL.Ny, IL.Nz, IL.NA, IL.Al, IL.Eb, IL.tm, IL.Ec, IL.NB, IL.My, IL.NC, IL.ND, IL.NE, IL.Oq, IL.Mz, IL.MA, IL.MB, IL.NF, IL.u9, IL.Ke, IL.Mp, IL.Mq, IL.Mr, decide_true, decide_false, Bool.false_eq_true, Bool.not_true, Bool.not_false, IL.vc, IL.vd, IL.NG, IL.Ot, IL.Ou, IL.Ov, IL.Ow, IL.Ox, IL.Oy, IL.Oz, IL.OA, IL.OB, IL.OC, IL.OD, IL.OE, IL.OF, IL.OG, IL.MC, IL.MD, IL.ME, IL.MF, IL.MG, IL.MH, IL.sH, IL.NH, IL.NJ, IL.NK, IL.NL, IL.MI, IL.NM, IL.Ls, IL.Lu, IL.Lv, IL.Lw, IL.Am, IL.OH, IL.sJ, IL.NP, IL.DG, IL.NQ, IL.NR, IL.MJ, IL.Df, IL.Kl, IL.LB, IL.NN, IL.NO, Bool.or_false, Bool.false_or, Bool.or_true, Bool.true_or, Bool.and_true, Bool.true_and, Bool.and_false, Bool.false_and, Nat.reduceSub, List.reduceReplicate, List.set_cons_zero, List.set_cons_succ, if_true, if_false, ↓reduceIte, String.reduceEq, reduceCtorEq])
local macro_rules | `(tactic| push_cast [$as:simpLemma,*]) => `(tactic| try simp only [IL.uG, IL.Lj, IL.Li, IL.i9, IL.Lk, IL.Ms, IL.Mt, IL.Nw, IL.Nx, IL.uQ, IL.Mu, IL.u7, IL.Ll, IL.Ci, IL.Lm, IL.Kf, IL.Mv, IL.nv, IL.zl, IL.uH, IL.Kg, IL.Cj, IL.CH, IL.Ck, IL.Jj, IL.CI, IL.Cm, IL.Ln, IL.CJ, IL.Mw, IL.Lo, IL.Mx, IL.Lp, IL.Jk, IL.yQ, IL.Lq, IL.Lr, IL.fk, IL.dQ, IL.gW, IL.vF, IL.Ny, IL.Nz, IL.NA, IL.Al, IL.Eb, IL.tm, IL.Ec, IL.NB, IL.My, IL.NC, IL.ND, IL.NE, IL.Oq, IL.Mz, IL.MA, IL.MB, IL.NF, IL.u9, IL.Ke, IL.Mp, IL.Mq, IL.Mr, decide_true, decide_false, Bool.false_eq_true, Bool.not_true, Bool.not_false, IL.vc, IL.vd, IL.NG, IL.Ot, IL.Ou, IL.Ov, IL.Ow, IL.Ox, IL.Oy, IL.Oz, IL.OA, IL.OB, IL.OC, IL.OD, IL.OE, IL.OF, IL.OG, IL.MC, IL.MD, IL.ME, IL.MF, IL.MG, IL.MH, IL.sH, IL.NH, IL.NJ, IL.NK, IL.NL, IL.MI, IL.NM, IL.Ls, IL.Lu, IL.Lv, IL.Lw, IL.Am, IL.OH, IL.sJ, IL.NP, IL.DG, IL.NQ, IL.NR, IL.MJ, IL.Df, IL.Kl, IL.LB, IL.NN, IL.NO, Bool.or_false, Bool.false_or, Bool.or_true, Bool.true_or, Bool.and_true, Bool.true_and, Bool.and_false, Bool.false_and, Nat.reduceSub, List.reduceReplicate, List.set_cons_zero, List.set_cons_succ, if_true, if_false, ↓reduceIte, String.reduceEq, reduceCtorEq, $as,*])
local macro_rules | `(term| nofun) => `(by decide +kernel)
namespace IL.K02
open PySem PySem.Spec PyProof.Rows L2
theorem km(us:List Value)(hl:us.length=1):∃a,us=[a]:=List.length_eq_one_iff.mp hl
theorem gX(us:List Value)(hl:us.length=2):∃a1 a2,us=[a1,a2]:=by
 cases us with
 | nil=>cases hl
 | cons a1 us=>
  obtain⟨a2,rfl⟩:=km us (aqx hl);exact⟨a1,a2,rfl⟩
theorem ms(us:List Value)(hl:us.length=3):∃a1 a2 a3,us=[a1,a2,a3]:=by
 cases us with
 | nil=>cases hl
 | cons a1 us=>
  obtain⟨a2,a3,rfl⟩:=gX us (aqx hl);exact⟨a1,a2,a3,rfl⟩
theorem Em(us:List Value)(hl:us.length=4):∃a1 a2 a3 a4,us=[a1,a2,a3,a4]:=by
 cases us with
 | nil=>cases hl
 | cons a1 us=>
  obtain⟨a2,a3,a4,rfl⟩:=ms us (aqx hl);exact⟨a1,a2,a3,a4,rfl⟩
theorem akr(us:List Value)(hl:us.length=5):∃a1 a2 a3 a4 a5,us=[a1,a2,a3,a4,a5]:=by
 cases us with
 | nil=>cases hl
 | cons a1 us=>
  obtain⟨a2,a3,a4,a5,rfl⟩:=Em us (aqx hl);exact⟨a1,a2,a3,a4,a5,rfl⟩
noncomputable def top(i:Nat):Stmt:=PySem.Challenge.pw_boxwright_k02_programs_refused.main.body.getD i (.Pass ⟨0,0,0,0⟩)
abbrev jA:Stmt:=top 40
abbrev c5:Stmt:=top 41
abbrev kH:Stmt:=top 42
abbrev ip:Stmt:=top 43
abbrev cT:Stmt:=top 44
abbrev dW:Stmt:=top 45
abbrev gO:Stmt:=top 20
abbrev ir:Stmt:=top 10
abbrev ja:Stmt:=top 21
abbrev jD:Stmt:=top 22
abbrev fZ:Stmt:=top 23
abbrev fe:Stmt:=top 24
abbrev jz:Stmt:=top 25
abbrev ik:Stmt:=top 26
abbrev fL:Stmt:=top 27
abbrev dj:Stmt:=top 28
abbrev fN:Stmt:=top 37
abbrev iZ:Stmt:=inClass (top 31) 0
abbrev ke:Stmt:=top 32
abbrev kh:Stmt:=top 11
abbrev jb:Stmt:=top 12
abbrev iu:Stmt:=top 13
abbrev kb:Stmt:=top 33
abbrev kL:Stmt:=top 34
abbrev gP:Stmt:=top 35
abbrev fc:Stmt:=top 36
abbrev gM:Stmt:=top 38
abbrev c6:Stmt:=top 53
abbrev eN:Stmt:=top 48
abbrev gL:Stmt:=top 50
abbrev ix:Stmt:=top 51
abbrev iq:Stmt:=top 47
abbrev dc:Stmt:=top 52
abbrev cy:Stmt:=top 54
abbrev qJ:Stmt:=inClass (top 2) 0
noncomputable def cP:List (Str×List Str):=[("set",["name","number"]),("copy",["name","name"]),("do",["name","word","name","name"]),("take",["name"]),("tell",["name"]),("turn",[]),("if",["name","place"]),("go",["place"]),("end",[])]
noncomputable def kU:List Str:=["sum","less","times","part","below","alike"]
noncomputable def iX:SM:=(aD (bf (eT (ag hV (af 1) (bz bR (ae (af 0) aj)))) (aU (ag ax (af 0) (af 1))) bv) (aU (eC (.int (0)))))
noncomputable def dX:List W->Mo W:=fM iX 2 2
noncomputable def Bp:SM:=(aD (aP (dn (jZ (ae (eC (.int (6))) aj)) [none,some 2,some 6,some 0] (gN 0) dz (ag ax (af 1) (ag aR (ag addW (ag addW (ag aZ (af 3) (eC (.int (18)))) (ag cJ (eC (.int (5))) (af 0))) (ag aZ (af 2) (eC (.int (6))))) (eC (.int (26)))))) (gN 7)) (bf (eT (ag bh (ag aR (af 0) (eC (.int (3)))) (eC (.int (0))))) (eo (cX eL dY (af 5) (ae (cX kl iH (eC (.str "")) (ae (cE (af 7) cB (cc (ag addW (eC (.int (1))) (ag aR (ag addW (ag aZ (af 0) (eC (.int (3)))) (af 6)) (eC (.int (6))))))) aj)) aj))) (bf (eT (ag bh (ag aR (af 0) (eC (.int (3)))) (eC (.int (1))))) (aD (aP (dn (jZ (ae (eC (.int (6))) aj)) [none,some 2,some 0] (gN 0) dz (ag ax (af 1) (ag aR (ag addW (ag aZ (af 2) (eC (.int (18)))) (ag cJ (eC (.int (5))) (af 0))) (eC (.int (26)))))) (gN 7)) (aD (aP (ag ax (af 2) (ag aR (ag addW (ag aZ (af 0) (eC (.int (108)))) (af 6)) (eC (.int (26))))) (gN 8)) (aD (aP (cX kl iH (eC (.str "")) (ae (cE (af 7) (cc (ag addW (af 4) (eC (.int (1))))) (cc (af 3))) aj)) (gN 9)) (eo (cX eL dY (af 5) (ae (ag addW (ag addW (cX kl iH (eC (.str "")) (ae (cE (af 7) cB (cc (af 4))) aj)) (af 8)) (af 9)) aj)))))) (eo (cX eL dY (af 5) (ae (cX kl iH (eC (.str "")) (ae (ag addW (cE (af 7) (cc (ag aR (af 6) (eC (.int (6))))) cB) (cE (af 7) cB (cc (ag aR (af 6) (eC (.int (6))))))) aj)) aj))))))
noncomputable def oI:SM:=(aD (aP (eC (.str "abcdefghijklmnopqrstuvwxyz")) (gN 2)) (aD (aP (ag addW (eC (.int (1))) (ag aR (ag aZ (af 0) (eC (.int (3)))) (eC (.int (6))))) (gN 3)) (aD (aP (ag aR (ag aZ (af 0) (eC (.int (18)))) (af 3)) (gN 4)) (aD (aP (aI aj) (gN 5)) (aD (gj (jZ (ae (af 1) aj)) (gN 6) Bp) (aU (af 5)))))))
noncomputable def xn:List W->Mo W:=fM oI 10 2
noncomputable def oE:SM:=(aD (bf (eT (ag bh (ag aR (af 0) (eC (.int (4)))) (eC (.int (3))))) (aU (ag ax (aI (ae (eC (.int (2147483647))) (ae (d5 dP (eC (.int (2147483648)))) (ae (eC (.int (65536))) (ae (d5 dP (eC (.int (1)))) (ae (eC (.int (46341))) (ae (d5 dP (eC (.int (65537)))) (ae (eC (.int (1))) (ae (eC (.int (0))) aj))))))))) (ag aR (ag aZ (af 0) (eC (.int (4)))) (eC (.int (8)))))) bv) (aD (bf (eT (ag bh (ag aR (af 0) (eC (.int (4)))) (eC (.int (2))))) (aU (ag iJ (ag aR (ag cJ (ag aZ (af 0) (eC (.int (4)))) (eC (.int (48271)))) (eC (.int (4294967296)))) (eC (.int (2147483648))))) bv) (aD (bf (eT (ag bh (ag aR (af 0) (eC (.int (4)))) (eC (.int (1))))) (aU (ag iJ (ag aR (ag aZ (af 0) (eC (.int (4)))) (eC (.int (100003)))) (eC (.int (1000))))) bv) (aU (ag iJ (ag aR (ag aZ (af 0) (eC (.int (4)))) (eC (.int (19)))) (eC (.int (6))))))))
noncomputable def Bt:List W->Mo W:=fM oE 1 1
noncomputable def lE:SM:=(aD (bf (dJ (eT (ag cS (af 3) (aI aj))) (eT (ag bh (ag aR (af 0) (eC (.int (2)))) (eC (.int (1)))))) (aU (ag ax (af 3) (ag aR (ag aZ (af 0) (eC (.int (2)))) (bz bR (ae (af 3) aj))))) bv) (aU (ag addW (ag addW (af 1) (eC (.int (1)))) (ag aR (ag aZ (af 0) (eC (.int (2)))) (ag iJ (af 2) (af 1))))))
noncomputable def oN:List W->Mo W:=fM lE 4 4
noncomputable def oR:SM:=(aD (aP (ag aR (ag cJ (af 0) (eC (.int (48271)))) (eC (.int (2147483647)))) (gN 0)) (aD (aP (ag aZ (af 0) (eC (.int (16)))) (gN 5)) (aD (aP (ag ax (af 3) (ag aR (af 5) (bz bR (ae (af 3) aj)))) (gN 6)) (aD (aP (ag ax (af 3) (ag aR (ag aZ (af 5) (eC (.int (6)))) (bz bR (ae (af 3) aj)))) (gN 7)) (aD (aP (ag ax (af 3) (ag aR (ag aZ (af 5) (eC (.int (36)))) (bz bR (ae (af 3) aj)))) (gN 8)) (aD (aP (ag aR (af 0) (eC (.int (16)))) (gN 9)) (aD (bf (eT (ag hV (af 9) (eC (.int (3))))) (aU (ag ax (aI (ae (aH (ae (eC (.str "set")) (ae (af 6) (ae (aV Bt (ae (ag aZ (af 5) (eC (.int (6)))) aj)) aj)))) (ae (aH (ae (eC (.str "copy")) (ae (af 6) (ae (af 7) aj)))) (ae (aH (ae (eC (.str "tell")) (ae (af 6) aj))) aj)))) (af 9))) bv) (aD (bf (eT (ag hV (af 9) (eC (.int (8))))) (aD (aP (ag ax (aI (ae (eC (.str "sum")) (ae (eC (.str "less")) (ae (eC (.str "times")) (ae (eC (.str "part")) (ae (eC (.str "below")) (ae (eC (.str "alike")) aj))))))) (ag aR (ag aZ (af 5) (eC (.int (216)))) (eC (.int (6))))) (gN 10)) (aU (aH (ae (eC (.str "do")) (ae (af 6) (ae (af 10) (ae (af 7) (ae (af 8) aj)))))))) bv) (aD (bf (eT (ag hV (af 9) (eC (.int (10))))) (aU (ag ax (aI (ae (aH (ae (eC (.str "take")) (ae (af 6) aj))) (ae (aH (ae (eC (.str "turn")) aj)) aj))) (ag iJ (af 9) (eC (.int (8)))))) bv) (aD (bf (eT (ag hV (af 9) (eC (.int (14))))) (aU (aH (ae (eC (.str "if")) (ae (af 6) (ae (aV oN (ae (ag aZ (af 5) (eC (.int (6)))) (ae (af 1) (ae (af 2) (ae (af 4) aj))))) aj))))) bv) (aD (bf (eT (ag bh (af 9) (eC (.int (14))))) (aU (aH (ae (eC (.str "go")) (ae (aV oN (ae (ag aZ (af 5) (eC (.int (6)))) (ae (af 1) (ae (af 2) (ae (af 4) aj))))) aj)))) bv) (aU (ag ax (aI (ae (aH (ae (eC (.str "end")) aj)) (ae (aH (ae (eC (.str "tell")) (ae (af 6) aj))) (ae (aH (ae (eC (.str "turn")) aj)) aj)))) (ag aR (ag aZ (af 5) (eC (.int (6)))) (eC (.int (3)))))))))))))))))
noncomputable def xQ:List W->Mo W:=fM oR 11 5
noncomputable def xa:SM:=(aD (eo (cX eL dY (af 4) (ae (aV xQ (ae (ag addW (aV dX (ae (af 0) (ae (ag addW (af 1) (ag aR (af 6) (eC (.int (24))))) aj))) (ag cJ (eC (.int (7919))) (af 6))) (ae (af 6) (ae (af 2) (ae (af 3) (ae (af 5) aj)))))) aj))) (bf (eT (ag bh (ag ax (af 4) (d5 dP (eC (.int (1))))) (aH (ae (eC (.str "turn")) aj)))) (eo (cX eL dY (af 5) (ae (af 6) aj))) bv))
noncomputable def oO:SM:=(aD (aP (aI aj) (gN 4)) (aD (aP (aI aj) (gN 5)) (aD (gj (jZ (ae (af 2) aj)) (gN 6) xa) (aU (af 4)))))
noncomputable def xy:List W->Mo W:=fM oO 7 4
noncomputable def kQ:SM:=(aD (bf (dN (el (cL (gG "str" (af 0)))) (el (eT (jI kz kz (eC (.int (1))) (bz bR (ae (af 0) aj)) (eC (.int (6))))))) (aU (eC (.bl false))) bv) (aU (bz lj (ae (dn (jU (af 0)) [none] (gN 0) dz (ag qg (af 0) (eC (.str "abcdefghijklmnopqrstuvwxyz")))) aj))))
noncomputable def jE:List W->Mo W:=fM kQ 1 1
noncomputable def iY:SM:=(aD (bf (dN (el (cL (gG "int" (af 0)))) (cL (gG "bool" (af 0)))) (aU (eC (.bl false))) bv) (aU (jI kz hV (d5 dP (eC (.int (2147483648)))) (af 0) (eC (.int (2147483648))))))
noncomputable def eR:List W->Mo W:=fM iY 1 1
noncomputable def lM:SM:=(aU (lc (gG "str" (af 0)) (ag nZ (af 0) (eC (.kt (kU.map W.str))))))
noncomputable def lN:List W->Mo W:=fM lM 1 1
noncomputable def lI:SM:=(aU (lc (aV eR (ae (af 0) aj)) (jI kz kz (eC (.int (0))) (af 0) (af 1))))
noncomputable def kN:List W->Mo W:=fM lI 2 2
noncomputable def iy:SM:=(aD (bf (eT (ag bh (af 0) (eC (.str "name")))) (aU (aV jE (ae (af 1) aj))) bv) (aD (bf (eT (ag bh (af 0) (eC (.str "number")))) (aU (aV eR (ae (af 1) aj))) bv) (aD (bf (eT (ag bh (af 0) (eC (.str "word")))) (aU (aV lN (ae (af 1) aj))) bv) (aU (aV kN (ae (af 1) (ae (af 2) aj)))))))
noncomputable def f6:List W->Mo W:=fM iy 3 3
noncomputable def jF:SM:=(aD (bf (dN (el (cL (gG "tuple" (af 0)))) (eT (ag bh (bz bR (ae (af 0) aj)) (eC (.int (0)))))) (aU (eC (.bl false))) bv) (aD (bf (dN (el (cL (gG "str" (ag ax (af 0) (eC (.int (0))))))) (eT (NU cP (ag ax (af 0) (eC (.int (0))))))) (aU (eC (.bl false))) bv) (aD (aP (zN cP (ag ax (af 0) (eC (.int (0))))) (gN 2)) (aD (bf (eT (ag cS (bz bR (ae (af 0) aj)) (ag addW (bz bR (ae (af 2) aj)) (eC (.int (1)))))) (aU (eC (.bl false))) bv) (aU (bz lj (ae (dn (pS (ae (af 2) (ae (cE (af 0) (cc (eC (.int (1)))) cB) aj))) [none,none,some 1] (iL 2 [(gN 0),(gN 1)]) dz (aV f6 (ae (af 0) (ae (af 1) (ae (af 2) aj))))) aj)))))))
noncomputable def fA:List W->Mo W:=fM jF 3 2
noncomputable def mZ:SM:=(aU (dn (pS (ae (zN cP (ag ax (af 0) (eC (.int (0))))) (ae (cE (af 0) (cc (eC (.int (1)))) cB) aj))) [none,none,some 1] (iL 2 [(gN 0),(gN 1)]) (eT (ag bh (af 0) (af 2))) (af 1)))
noncomputable def qL:List W->Mo W:=fM mZ 2 2
noncomputable def t8:SM:=(bf (dJ (eT (ag kz (af 2) (af 1))) (eT (ag cS (ag ax (ag ax (af 0) (af 2)) (eC (.int (0)))) (eC (.str "turn"))))) (aU (eC (.bl true))) bv)
noncomputable def mY:SM:=(aD (gj (er (aV qL (ae (ag ax (af 0) (af 1)) (ae (eC (.str "place")) aj)))) (gN 2) t8) (aU (eC (.bl false))))
noncomputable def t9:List W->Mo W:=fM mY 3 2
noncomputable def Bl:SM:=(bf (eT (ag kj (af 3) (af 2))) (eo (cX eL dY (af 2) (ae (af 3) aj))) bv)
noncomputable def oG:SM:=(aD (aP (bz l5 (ae (af 1) aj)) (gN 2)) (aD (gj (er (aV qL (ae (af 0) (ae (eC (.str "name")) aj)))) (gN 3) Bl) (aU (af 2))))
noncomputable def Bu:List W->Mo W:=fM oG 4 2
noncomputable def il:SM:=(aD (bf (dN (el (cL (aV fA (ae (af 3) (ae (bz bR (ae (af 0) aj)) aj))))) (cL (aV t9 (ae (af 0) (ae (af 2) aj))))) (pz "BadProgram" "at" (af 2)) bv) (aD (aP (aV Bu (ae (af 3) (ae (af 1) aj))) (gN 1)) (bf (eT (ag vZ (bz bR (ae (af 1) aj)) (eC (.int (12))))) (pz "BadProgram" "at" (af 2)) bv)))
noncomputable def kI:SM:=(aD (bf (dN (el (cL (gG "list" (af 0)))) (eT (ag vZ (bz bR (ae (af 0) aj)) (eC (.int (60)))))) (pz "BadProgram" "at" (eC .aE)) bv) (aD (aP (aI aj) (gN 1)) (aD (gj (sE (ae (af 0) aj)) (iL 2 [(gN 2),(gN 3)]) il) (aU (af 1)))))
noncomputable def fv:List W->Mo W:=fM kI 4 1
noncomputable def lJ:SM:=(aD (bf (dN (el (cL (gG "list" (af 0)))) (el (cL (bz lj (ae (dn (er (af 0)) [none] (gN 0) dz (aV eR (ae (af 0) aj))) aj))))) (uP "BadRun" (ae (eC (.str "inputs that are no list of numbers")) aj)) bv) (bf (dN (el (cL (aV eR (ae (af 1) aj)))) (el (eT (jI kz kz (eC (.int (0))) (af 1) (eC (.int (10000))))))) (uP "BadRun" (ae (eC (.str "turns that are no whole number from 0 to 10000")) aj)) bv))
noncomputable def uo:List W->Mo W:=fM lJ 2 2
noncomputable def rh:SM:=(aD (iG "Run" "inputs" (af 0) (bz l5 (ae (af 1) aj))) (aD (iG "Run" "turns_left" (af 0) (af 2)) (aD (iG "Run" "at" (af 0) (eC (.int (0)))) (aD (iG "Run" "holds" (af 0) vE) (aD (iG "Run" "told" (af 0) (aI aj)) (aD (iG "Run" "takes" (af 0) (eC (.int (0)))) (iG "Run" "word" (af 0) (eC .aE))))))))
noncomputable def Z6:List W->Mo W:=fM rh 3 3
noncomputable def kY:SM:=(aU (cX D8 D9 (eZ "Run" "holds" (af 0)) (ae (af 1) (ae (eC (.int (0))) aj))))
noncomputable def uS:List W->Mo W:=fM kY 2 2
noncomputable def l7:SM:=(aU (ag iJ (ag aR (ag addW (af 0) (eC (.int (2147483648)))) (ag cJ (eC (.int (2))) (eC (.int (2147483648))))) (eC (.int (2147483648)))))
noncomputable def zO:List W->Mo W:=fM l7 1 1
noncomputable def rM:SM:=(aD (bf (eT (ag bh (af 1) (eC (.int (0))))) (uP "ByNought" (ae (eC (.str "part by nought")) aj)) bv) (aU (aV zO (ae (ag aZ (af 0) (af 1)) aj))))
noncomputable def adp:List W->Mo W:=fM rM 2 2
noncomputable def rj:SM:=(aD (bf (eT (ag bh (af 0) (eC (.str "sum")))) (aU (aV zO (ae (ag addW (af 1) (af 2)) aj))) bv) (aD (bf (eT (ag bh (af 0) (eC (.str "less")))) (aU (aV zO (ae (ag iJ (af 1) (af 2)) aj))) bv) (aD (bf (eT (ag bh (af 0) (eC (.str "times")))) (aU (aV zO (ae (ag cJ (af 1) (af 2)) aj))) bv) (aD (bf (eT (ag bh (af 0) (eC (.str "part")))) (aU (aV adp (ae (af 1) (ae (af 2) aj)))) bv) (aD (bf (eT (ag bh (af 0) (eC (.str "below")))) (aU (qr (eT (ag hV (af 1) (af 2))) (eC (.int (1))) (eC (.int (0))))) bv) (aU (qr (eT (ag bh (af 1) (af 2))) (eC (.int (1))) (eC (.int (0))))))))))
noncomputable def Z7:List W->Mo W:=fM rj 3 3
noncomputable def rW:SM:=(aD (vg Aj "Run" "takes" (af 0) (eC (.int (1)))) (aD (bf (eT (ag vZ (eZ "Run" "takes" (af 0)) (bz bR (ae (eZ "Run" "inputs" (af 0)) aj)))) (aU (eC (.int (0)))) bv) (aU (ag ax (eZ "Run" "inputs" (af 0)) (ag iJ (eZ "Run" "takes" (af 0)) (eC (.int (1))))))))
noncomputable def afc:List W->Mo W:=fM rW 1 1
noncomputable def qY:SM:=(aD (bf (eT (ag bh (eZ "Run" "turns_left" (af 0)) (eC (.int (0))))) (iG "Run" "word" (af 0) (eC (.str "dry"))) bv) (vg Ea "Run" "turns_left" (af 0) (eC (.int (1)))))
noncomputable def YI:List W->Mo W:=fM qY 1 1
noncomputable def rN:SM:=(aD (vg Aj "Run" "at" (af 0) (eC (.int (1)))) (bf (eT (ag bh (ag ax (af 1) (eC (.int (0)))) (eC (.str "set")))) (aP (ag ax (af 1) (eC (.int (2)))) (sF (eZ "Run" "holds" (af 0)) (ag ax (af 1) (eC (.int (1)))))) (bf (eT (ag bh (ag ax (af 1) (eC (.int (0)))) (eC (.str "copy")))) (aP (aV uS (ae (af 0) (ae (ag ax (af 1) (eC (.int (2)))) aj))) (sF (eZ "Run" "holds" (af 0)) (ag ax (af 1) (eC (.int (1)))))) (bf (eT (ag bh (ag ax (af 1) (eC (.int (0)))) (eC (.str "do")))) (aP (aV Z7 (ae (ag ax (af 1) (eC (.int (2)))) (ae (aV uS (ae (af 0) (ae (ag ax (af 1) (eC (.int (3)))) aj))) (ae (aV uS (ae (af 0) (ae (ag ax (af 1) (eC (.int (4)))) aj))) aj)))) (sF (eZ "Run" "holds" (af 0)) (ag ax (af 1) (eC (.int (1)))))) (bf (eT (ag bh (ag ax (af 1) (eC (.int (0)))) (eC (.str "take")))) (aP (aV afc (ae (af 0) aj)) (sF (eZ "Run" "holds" (af 0)) (ag ax (af 1) (eC (.int (1)))))) (bf (eT (ag bh (ag ax (af 1) (eC (.int (0)))) (eC (.str "tell")))) (eo (cX eL dY (eZ "Run" "told" (af 0)) (ae (aV uS (ae (af 0) (ae (ag ax (af 1) (eC (.int (1)))) aj))) aj))) (bf (eT (ag bh (ag ax (af 1) (eC (.int (0)))) (eC (.str "turn")))) (eo (aV YI (ae (af 0) aj))) (bf (eT (ag bh (ag ax (af 1) (eC (.int (0)))) (eC (.str "if")))) (iG "Run" "at" (af 0) (qr (eT (ag cS (aV uS (ae (af 0) (ae (ag ax (af 1) (eC (.int (1)))) aj))) (eC (.int (0))))) (ag ax (af 1) (eC (.int (2)))) (eZ "Run" "at" (af 0)))) (bf (eT (ag bh (ag ax (af 1) (eC (.int (0)))) (eC (.str "go")))) (iG "Run" "at" (af 0) (ag ax (af 1) (eC (.int (1))))) (iG "Run" "word" (af 0) (eC (.str "done"))))))))))))
noncomputable def adq:List W->Mo W:=fM rN 2 2
noncomputable def XG:SM:=(eo (aV adq (ae (af 3) (ae (qr (eT (ag hV (eZ "Run" "at" (af 3)) (bz bR (ae (af 0) aj)))) (ag ax (af 0) (eZ "Run" "at" (af 3))) (aH (ae (eC (.str "end")) aj))) aj))))
noncomputable def rC:SM:=(aD (aP (zM "Run" Z6 (ae (af 1) (ae (af 2) aj))) (gN 3)) (aD (zL [("ByNought",true)] 3 (r9 (eT (ag sY (eZ "Run" "word" (af 3)) (eC .aE))) XG) (iG "Run" "word" (af 3) (eC (.str "nought")))) (aU (aH (ae (eZ "Run" "word" (af 3)) (ae (eZ "Run" "told" (af 3)) (ae (eZ "Run" "takes" (af 3)) aj)))))))
noncomputable def abI:List W->Mo W:=fM rC 4 3
noncomputable def m7:SM:=(aD (eo (aV fv (ae (af 0) aj))) (aD (eo (aV uo (ae (af 1) (ae (af 2) aj)))) (aU (aV abI (ae (af 0) (ae (af 1) (ae (af 2) aj)))))))
noncomputable def lF:List W->Mo W:=fM m7 3 3
noncomputable def j8:SM:=(kT [("BadProgram",true),("BadRun",true),("ByNought",true)] 4 (aD (bf (eT (ag bh (af 0) (eC (.int (0))))) (aU (aV fv (ae (af 1) aj))) bv) (aD (aP (aI (ae (aI aj) (ae (eC (.int (0))) (ae (aI (ae (eC (.bl true)) aj)) (ae (aI (ae (eC (.int (2147483648))) aj)) (ae (aI aj) (ae (aI aj) (ae (aI aj) (ae (aI (ae (eC (.int (1))) (ae (eC .aE) aj))) aj))))))))) (gN 2)) (aD (aP (ag addW (af 2) (aI (ae (aH (ae (eC (.int (1))) aj)) (ae (aI (ae (d5 dP (eC (.int (2147483649)))) aj)) (ae (aI aj) (ae (aI aj) (ae (aI (ae (eC (.int (0))) (ae (eC (.str "1")) aj))) (ae (aI aj) (ae (aI (ae (eC (.int (0))) (ae (eC (.bl false)) aj))) (ae (aI (ae (eC .aE) (ae (eC (.int (1))) (ae (eC (.int (2))) aj)))) aj)))))))))) (gN 2)) (aD (aP (aI (ae (eC (.int (0))) (ae (eC (.int (5))) (ae (eC (.int (5))) (ae (eC (.int (5))) (ae (d5 dP (eC (.int (1)))) (ae (eC (.bl true)) (ae (eC (.int (10001))) (ae (eC (.int (0))) (ae (eC (.int (10000))) (ae (eC (.int (1))) (ae (eC .aE) (ae (eC (.str "1")) (ae (eC (.int (2))) (ae (eC (.bl false)) (ae (eC (.int (7))) (ae (eC (.int (3))) aj))))))))))))))))) (gN 3)) (aU (aV lF (ae (af 1) (ae (ag ax (af 2) (af 0)) (ae (ag ax (af 3) (af 0)) aj))))))))) (aD (bf (dN (cL (eF [("BadProgram",false),("BadRun",false),("ByNought",false)] (af 4))) (dN (cL (eF [("BadProgram",false),("BadRun",false),("ByNought",true)] (af 4))) (cL (eF [("BadProgram",false),("BadRun",false),("ByNought",false)] (af 4))))) (aU (eC (.str "otherwise"))) bv) (aD (bf (el (cL (eF [("BadProgram",true),("BadRun",true),("ByNought",true)] (af 4)))) (aU (eC (.str "otherwise"))) bv) (aD (bf (dJ (cL (eF [("BadProgram",true),("BadRun",false),("ByNought",false)] (af 4))) (cL (eF [("BadProgram",false),("BadRun",true),("ByNought",false)] (af 4)))) (aU (eC (.str "otherwise"))) bv) (aD (bf (cL (eF [("BadProgram",true),("BadRun",false),("ByNought",false)] (af 4))) (aU (ag c8 (aI (ae (aH (ae (eC (.str "program")) (ae (pU "BadProgram" "at" (af 4)) aj))) (ae (eC (.str "otherwise")) aj))) (bz nT (ae (gG "bool" (pU "BadProgram" "at" (af 4))) aj)))) bv) (aU (ag c8 (aI (ae (eC (.str "otherwise")) (ae (eC (.str "run")) aj))) (bz nT (ae (eF [("BadProgram",false),("BadRun",true),("ByNought",false)] (af 4)) aj)))))))))
noncomputable def i0:List W->Mo W:=fM j8 5 2
noncomputable def oB:SM:=(bf (dJ (cL (gG "str" (ag ax (af 2) (af 3)))) (dJ (el (dJ (eT (ag bh (ag ax (af 2) (eC (.int (0)))) (eC (.str "do")))) (eT (ag bh (af 3) (eC (.int (2))))))) (eT (ag kj (ag ax (af 2) (af 3)) (af 1))))) (eo (cX eL dY (af 1) (ae (ag ax (af 2) (af 3)) aj))) bv)
noncomputable def wY:SM:=(gj (tN (ae (eC (.int (1))) (ae (bz bR (ae (af 2) aj)) aj))) (gN 3) oB)
noncomputable def oJ:SM:=(aD (aP (aI aj) (gN 1)) (aD (gj (er (af 0)) (gN 2) wY) (aU (af 1))))
noncomputable def xo:List W->Mo W:=fM oJ 4 1
noncomputable def Bv:SM:=(aD (bf (dJ (dN (eT (ag bh (ag ax (af 3) (eC (.int (0)))) (eC (.str "if")))) (eT (ag bh (ag ax (af 3) (eC (.int (0)))) (eC (.str "go"))))) (eT (ag AL (ag ax (af 3) (d5 dP (eC (.int (1))))) (af 1)))) (aP (ag addW (cE (af 3) cB (cc (d5 dP (eC (.int (1)))))) (aH (ae (ag addW (ag ax (af 3) (d5 dP (eC (.int (1))))) (eC (.int (1)))) aj))) (gN 3)) bv) (eo (cX eL dY (af 2) (ae (af 3) aj))))
noncomputable def oS:SM:=(aD (aP (aI aj) (gN 2)) (aD (gj (er (af 0)) (gN 3) Bv) (aU (af 2))))
noncomputable def BJ:List W->Mo W:=fM oS 4 2
noncomputable def m9:SM:=(aD (aP (aV BJ (ae (af 0) (ae (af 1) aj))) (gN 0)) (aU (ag addW (ag addW (cE (af 0) cB (cc (af 1))) (aI (ae (af 2) aj))) (cE (af 0) (cc (af 1)) cB))))
noncomputable def nc:List W->Mo W:=fM m9 3 3
noncomputable def oP:SM:=(aD (aP (aI (ae (aH (ae (eC (.str "sat")) (ae (af 0) (ae (eC (.int (0))) aj)))) (ae (aH (ae (eC (.str "set")) (ae (af 0) aj))) (ae (aH (ae (eC (.str "set")) (ae (af 0) (ae (eC (.int (0))) (ae (eC (.int (0))) aj))))) (ae (aI (ae (eC (.str "tell")) (ae (af 0) aj))) (ae (aH (ae (eC (.str "tell")) aj)) (ae (aH aj) (ae (eC .aE) (ae (eC (.str "tell")) aj))))))))) (gN 3)) (aD (aP (ag addW (af 3) (aI (ae (aH (ae (eC (.str "tell")) (ae (ag gp (tq (af 0) cB (cc (eC (.int (1))))) (eC (.int (7)))) aj))) (ae (aH (ae (eC (.str "tell")) (ae (eC (.str "")) aj))) (ae (aH (ae (eC (.str "tell")) (ae (eC (.str "aB")) aj))) (ae (aH (ae (eC (.str "tell")) (ae (eC (.str "a1")) aj))) (ae (aH (ae (eC (.str "tell")) (ae (eC (.str " a")) aj))) (ae (aH (ae (eC (.str "tell")) (ae (eC (.int (5))) aj))) aj)))))))) (gN 3)) (aD (aP (ag addW (af 3) (aI (ae (aH (ae (eC (.str "tell")) (ae (eC (.str "a\n")) aj))) (ae (aH (ae (eC (.str "set")) (ae (af 0) (ae (eC (.int (2147483648))) aj)))) (ae (aH (ae (eC (.str "set")) (ae (af 0) (ae (d5 dP (eC (.int (2147483649)))) aj)))) (ae (aH (ae (eC (.str "set")) (ae (af 0) (ae (eC (.bl true)) aj)))) aj)))))) (gN 3)) (aD (aP (ag addW (af 3) (aI (ae (aH (ae (eC (.str "set")) (ae (af 0) (ae (eC .aE) aj)))) (ae (aH (ae (eC (.str "do")) (ae (af 0) (ae (eC (.str "sun")) (ae (af 0) (ae (af 0) aj)))))) (ae (aH (ae (eC (.str "do")) (ae (af 0) (ae (eC (.int (0))) (ae (af 0) (ae (af 0) aj)))))) (ae (aH (ae (eC (.str "go")) (ae (d5 dP (eC (.int (1)))) aj))) aj)))))) (gN 3)) (aD (aP (ag addW (af 3) (aI (ae (aH (ae (eC (.str "go")) (ae (ag addW (af 1) (eC (.int (9)))) aj))) (ae (aH (ae (eC (.str "if")) (ae (af 0) (ae (eC (.str "0")) aj)))) (ae (aH (ae (eC (.str "if")) (ae (af 0) (ae (eC (.bl true)) aj)))) (ae (aH (ae (eC (.str "turn")) (ae (af 0) aj))) (ae (aH (ae (eC (.str "end")) (ae (eC (.int (0))) aj))) (ae (aH (ae (eC (.str "if")) (ae (af 0) aj))) aj)))))))) (gN 3)) (aD (aP (ag addW (af 3) (aI (ae (aH (ae (eC (.str "do")) (ae (af 0) (ae (eC (.str "sum")) (ae (af 0) aj))))) (ae (aH (ae (eC (.str "copy")) (ae (af 0) (ae (af 0) (ae (af 0) aj))))) (ae (aH (ae (eC (.str "take")) (ae (eC .aE) aj))) (ae (aH (ae (eC (.int (5))) (ae (af 0) aj))) aj)))))) (gN 3)) (aD (aP (ag addW (af 3) (aI (ae (aH (ae (eC (.str "copy")) (ae (af 0) (ae (eC (.str "A")) aj)))) (ae (aH (ae (eC (.str "set")) (ae (af 0) (ae (eC (.bl false)) aj)))) (ae (aH (ae (eC (.str "go")) (ae (eC (.bl false)) aj))) aj))))) (gN 3)) (aU (ag ax (af 3) (ag aR (af 2) (eC (.int (35)))))))))))))
noncomputable def uf:List W->Mo W:=fM oP 4 3
noncomputable def oU:SM:=(aD (aP (ag aR (ag aZ (af 2) (eC (.int (8)))) (ag addW (bz bR (ae (af 0) aj)) (eC (.int (1))))) (gN 3)) (aD (bf (eT (ag bh (ag aR (af 2) (eC (.int (8)))) (eC (.int (0))))) (aU (aI (ae (ag ax (aI (ae (bz pE (ae (af 0) aj)) (ae (eC .aE) (ae (eC (.str "")) (ae vE (ae (eC (.int (5))) aj)))))) (ag aR (ag aZ (af 2) (eC (.int (8)))) (eC (.int (5))))) (ae (eC .aE) aj)))) bv) (aD (bf (eT (ag bh (ag aR (af 2) (eC (.int (8)))) (eC (.int (1))))) (aU (aI (ae (ag addW (ag cJ (cE (af 0) cB (cc (eC (.int (1))))) (eC (.int (61)))) (ag cJ (aI (ae (aH (ae (eC (.str "turn")) aj)) aj)) (ag iJ (eC (.int (61))) (ag cJ (eC (.int (61))) (bz bR (ae (cE (af 0) cB (cc (eC (.int (1))))) aj)))))) (ae (eC .aE) aj)))) bv) (aD (bf (eT (ag bh (ag aR (af 2) (eC (.int (8)))) (eC (.int (2))))) (aD (aP (ag aR (ag aZ (af 2) (eC (.int (500)))) (ag addW (af 3) (eC (.int (1))))) (gN 4)) (aD (bf (dJ (eT (ag hV (af 4) (af 3))) (eT (ag bh (ag ax (af 0) (af 4)) (aH (ae (eC (.str "turn")) aj))))) (aP (af 3) (gN 4)) bv) (aD (aP (aV nc (ae (af 0) (ae (af 3) (ae (ag ax (aI (ae (aH (ae (eC (.str "go")) (ae (af 4) aj))) (ae (aH (ae (eC (.str "if")) (ae (ag ax (af 1) (eC (.int (0)))) (ae (af 4) aj)))) aj))) (ag aR (ag aZ (af 2) (eC (.int (250)))) (eC (.int (2))))) aj)))) (gN 0)) (aU (aI (ae (ag addW (af 0) (ag cJ (aI (ae (aH (ae (eC (.str "tell")) (ae (eC (.str "B")) aj))) aj)) (ag aR (ag aZ (af 2) (eC (.int (16)))) (eC (.int (2)))))) (ae (af 3) aj))))))) bv) (aD (bf (eT (ag bh (ag aR (af 2) (eC (.int (8)))) (eC (.int (3))))) (aD (aP (dn (er (af 0)) [none] (gN 0) (dJ (eT (ag cS (ag ax (af 0) (eC (.int (0)))) (eC (.str "if")))) (eT (ag cS (ag ax (af 0) (eC (.int (0)))) (eC (.str "go"))))) (af 0)) (gN 5)) (aD (aP (aI (ae (aH (ae (eC (.str "take")) (ae (eC (.str "mm")) aj))) (ae (aH (ae (eC (.str "tell")) (ae (eC (.str "mm")) aj))) (ae (aH (ae (eC (.str "copy")) (ae (eC (.str "aaaaaa")) (ae (eC (.str "mm")) aj)))) (ae (aH (ae (eC (.str "do")) (ae (eC (.str "aaaaaa")) (ae (eC (.str "sum")) (ae (eC (.str "mm")) (ae (eC (.str "bbbbbb")) aj)))))) aj))))) (gN 6)) (aD (aP (ag addW (af 6) (aI (ae (aH (ae (eC (.str "do")) (ae (eC (.str "aaaaaa")) (ae (eC (.str "part")) (ae (eC (.str "bbbbbb")) (ae (eC (.str "mm")) aj)))))) (ae (aH (ae (eC (.str "if")) (ae (eC (.str "mm")) (ae (eC (.int (13))) aj)))) aj)))) (gN 6)) (aD (aP (ag addW (dn (jU (eC (.str "abcdefghijkl"))) [none] (gN 0) dz (aH (ae (eC (.str "take")) (ae (ag gp (af 0) (eC (.int (6)))) aj)))) (aI (ae (ag ax (af 6) (ag aR (ag aZ (af 2) (eC (.int (8)))) (eC (.int (6))))) aj))) (gN 7)) (aU (aI (ae (ag addW (ag addW (af 7) (cE (af 5) cB (cc (eC (.int (20)))))) (ag cJ (aI (ae (eC .aE) aj)) (ag aR (ag aZ (af 2) (eC (.int (48)))) (eC (.int (2)))))) (ae (eC (.int (12))) aj)))))))) bv) (aD (aP (aV nc (ae (af 0) (ae (af 3) (ae (aV uf (ae (ag ax (af 1) (ag aR (ag aZ (af 2) (eC (.int (64)))) (bz bR (ae (af 1) aj)))) (ae (bz bR (ae (af 0) aj)) (ae (ag aZ (af 2) (eC (.int (640)))) aj)))) aj)))) (gN 0)) (aD (bf (eT (ag bh (ag aR (ag aZ (af 2) (eC (.int (8)))) (eC (.int (3)))) (eC (.int (1))))) (aP (ag addW (af 0) (ag ax (aI (ae (aI (ae (aH (ae (eC (.str "tell")) (ae (eC (.str "B")) aj))) (ae (eC .aE) aj))) (ae (aI (ae (aH (ae (eC (.str "tell")) (ae (eC (.str "B")) aj))) aj)) (ae (aI (ae (aH (ae (eC (.str "go")) (ae (bz bR (ae (af 0) aj)) aj))) aj)) aj)))) (ag aR (ag aZ (af 2) (eC (.int (24)))) (eC (.int (3)))))) (gN 0)) bv) (aU (aI (ae (af 0) (ae (af 3) aj)))))))))))
noncomputable def xR:List W->Mo W:=fM oU 8 3
noncomputable def sN:SM:=(aD (aP (aV xn (ae (aV dX (ae (af 0) (ae (eC (.int (0))) aj))) (ae (ag addW (eC (.int (1))) (ag aR (aV dX (ae (af 0) (ae (eC (.int (1))) aj))) (eC (.int (6))))) aj))) (gN 1)) (aD (aP (ag aR (ag aZ (aV dX (ae (af 0) (ae (eC (.int (1))) aj))) (eC (.int (6)))) (eC (.int (25)))) (gN 2)) (aD (bf (eT (ag bh (ag aR (ag aZ (aV dX (ae (af 0) (ae (eC (.int (1))) aj))) (eC (.int (150)))) (eC (.int (8)))) (eC (.int (1))))) (aP (ag addW (eC (.int (25))) (ag aR (ag aZ (aV dX (ae (af 0) (ae (eC (.int (1))) aj))) (eC (.int (1200)))) (eC (.int (33))))) (gN 2)) bv) (aD (aP (aV xy (ae (af 0) (ae (eC (.int (3))) (ae (af 2) (ae (af 1) aj))))) (gN 3)) (aD (aP (ag aR (ag cJ (aV dX (ae (af 0) (ae (eC (.int (2))) aj))) (eC (.int (48271)))) (eC (.int (2147483647)))) (gN 4)) (aD (aP (aI (ae (eC (.int (0))) (ae (ag addW (eC (.int (1))) (ag aR (ag aZ (af 4) (eC (.int (3)))) (eC (.int (15))))) aj))) (gN 5)) (aD (bf (eT (ag bh (ag aR (af 4) (eC (.int (3)))) (eC (.int (0))))) (aD (aP (bz l5 (ae (af 3) aj)) (gN 6)) (aD (aP (aV i0 (ae (eC (.int (0))) (ae (af 6) aj))) (gN 7)) (aD (bf (dN (el (cL (gG "list" (af 7)))) (dN (eT (ag cS (af 7) (aV xo (ae (af 3) aj)))) (eT (ag cS (af 6) (af 3))))) (aU (eC (.bl false))) bv) (aU (lc (ag bh (aV i0 (ae (ag ax (af 5) (eC (.int (1)))) (ae (af 6) aj))) (eC (.str "run"))) (ag bh (af 6) (af 3))))))) bv) (aD (aP (aV xR (ae (af 3) (ae (af 1) (ae (ag aZ (af 4) (eC (.int (9)))) aj)))) (gN 8)) (aU (ag bh (dn (er (af 5)) [none,some 8] (gN 0) dz (aV i0 (ae (af 0) (ae (ag ax (af 1) (eC (.int (0)))) aj)))) (aI (ae (aH (ae (eC (.str "program")) (ae (ag ax (af 8) (eC (.int (1)))) aj))) (ae (aH (ae (eC (.str "program")) (ae (ag ax (af 8) (eC (.int (1)))) aj))) aj)))))))))))))
noncomputable def vj:List W->Mo W:=fM sN 9 1
set_option genInjectivity false in
structure Tx(K:acs)(mg:Str->Option Value) where
 a_law_cell_at:Addr
 xE:alM
 jB:cw K "_law_cell_at" "_law_cell_at" jA a_law_cell_at xE
 m5:mg "_law_cell_at"=some (.ref a_law_cell_at)
 iX:Binds K xE ["_law_script","_law_k"] []
 a_law_names_by:Addr
 xp:alM
 qO:cw K "_law_names_by" "_law_names_by" c5 a_law_names_by xp
 Hb:mg "_law_names_by"=some (.ref a_law_names_by)
 oI:Binds K xp ["_law_n","_law_many"] []
 a_law_number_by:Addr
 xh:alM
 qM:cw K "_law_number_by" "_law_number_by" kH a_law_number_by xh
 G1:mg "_law_number_by"=some (.ref a_law_number_by)
 oE:Binds K xh ["_law_cell"] []
 a_law_jump_by:Addr
 xF:alM
 oQ:cw K "_law_jump_by" "_law_jump_by" ip a_law_jump_by xF
 BA:mg "_law_jump_by"=some (.ref a_law_jump_by)
 lE:Binds K xF ["_law_more","_law_place","_law_many","_law_turns"] []
 a_law_row_by:Addr
 xS:alM
 qT:cw K "_law_row_by" "_law_row_by" cT a_law_row_by xS
 HB:mg "_law_row_by"=some (.ref a_law_row_by)
 oR:Binds K xS ["_law_cell","_law_place","_law_many","_law_names","_law_turns"] []
 a_law_rows_by:Addr
 xG:alM
 qQ:cw K "_law_rows_by" "_law_rows_by" dW a_law_rows_by xG
 Hn:mg "_law_rows_by"=some (.ref a_law_rows_by)
 oO:Binds K xG ["_law_script","_law_first","_law_many","_law_names"] []
 a_is_name:Addr
 yA:alM
 rE:cw K "is_name" "is_name" gO a_is_name yA
 Jp:mg "is_name"=some (.ref a_is_name)
 kQ:Binds K yA ["thing"] []
 a_is_number:Addr
 ya:alM
 lG:cw K "is_number" "is_number" ir a_is_number ya
 uj:mg "is_number"=some (.ref a_is_number)
 iY:Binds K ya ["thing"] []
 a_is_word:Addr
 yB:alM
 rF:cw K "is_word" "is_word" ja a_is_word yB
 Jq:mg "is_word"=some (.ref a_is_word)
 lM:Binds K yB ["thing"] []
 a_is_place:Addr
 yk:alM
 rk:cw K "is_place" "is_place" jD a_is_place yk
 IB:mg "is_place"=some (.ref a_is_place)
 lI:Binds K yk ["thing","last_place"] []
 a_is_part:Addr
 yC:alM
 rG:cw K "is_part" "is_part" fZ a_is_part yC
 Jr:mg "is_part"=some (.ref a_is_part)
 iy:Binds K yC ["kind","thing","last_place"] []
 a_is_row:Addr
 yS:alM
 rO:cw K "is_row" "is_row" fe a_is_row yS
 Kp:mg "is_row"=some (.ref a_is_row)
 jF:Binds K yS ["row","last_place"] []
 a_parts_of_kind:Addr
 xi:alM
 oH:cw K "parts_of_kind" "parts_of_kind" jz a_parts_of_kind xi
 Bw:mg "parts_of_kind"=some (.ref a_parts_of_kind)
 mZ:Binds K xi ["row","wanted"] []
 a_jumps_back_badly:Addr
 wX:alM
 qH:cw K "jumps_back_badly" "jumps_back_badly" ik a_jumps_back_badly wX
 Gy:mg "jumps_back_badly"=some (.ref a_jumps_back_badly)
 mY:Binds K wX ["rows","at"] []
 a_with_names_of:Addr
 xj:alM
 qN:cw K "with_names_of" "with_names_of" fL a_with_names_of xj
 G2:mg "with_names_of"=some (.ref a_with_names_of)
 oG:Binds K xj ["row","names"] []
 a_need_program:Addr
 xq:alM
 oK:cw K "need_program" "need_program" dj a_need_program xq
 By:mg "need_program"=some (.ref a_need_program)
 kI:Binds K xq ["rows"] []
 a_need_run:Addr
 yl:alM
 rl:cw K "need_run" "need_run" fN a_need_run yl
 IC:mg "need_run"=some (.ref a_need_run)
 lJ:Binds K yl ["inputs","turns"] []
 a_Run_init:Addr
 ym:alM
 uq:cw K "__init__" "Run.__init__" iZ a_Run_init ym
 rh:Binds K ym ["self","inputs","turns"] []
 a_held:Addr
 zu:alM
 kZ:cw K "held" "held" ke a_held zu
 sk:mg "held"=some (.ref a_held)
 kY:Binds K zu ["run","name"] []
 a_fit:Addr
 zP:alM
 l8:cw K "fit" "fit" kh a_fit zP
 vk:mg "fit"=some (.ref a_fit)
 l7:Binds K zP ["number"] []
 a_parted:Addr
 yT:alM
 rP:cw K "parted" "parted" jb a_parted yT
 Kq:mg "parted"=some (.ref a_parted)
 rM:Binds K yT ["one","other"] []
 a_reckoned:Addr
 yn:alM
 rm:cw K "reckoned" "reckoned" iu a_reckoned yn
 ID:mg "reckoned"=some (.ref a_reckoned)
 rj:Binds K yn ["word","one","other"] []
 a_taken:Addr
 zb:alM
 rX:cw K "taken" "taken" kb a_taken zb
 LJ:mg "taken"=some (.ref a_taken)
 rW:Binds K zb ["run"] []
 a_make_turn:Addr
 yb:alM
 qZ:cw K "make_turn" "make_turn" kL a_make_turn yb
 HQ:mg "make_turn"=some (.ref a_make_turn)
 qY:Binds K yb ["run"] []
 a_do_row:Addr
 yU:alM
 rQ:cw K "do_row" "do_row" gP a_do_row yU
 Kr:mg "do_row"=some (.ref a_do_row)
 rN:Binds K yU ["run","row"] []
 a_outcome:Addr
 yD:alM
 rJ:cw K "outcome" "outcome" fc a_outcome yD
 Js:mg "outcome"=some (.ref a_outcome)
 rC:Binds K yD ["rows","inputs","turns"] []
 a_first_run:Addr
 yc:alM
 q0:cw K "first_run" "first_run" gM a_first_run yc
 HR:mg "first_run"=some (.ref a_first_run)
 m7:Binds K yc ["rows","inputs","turns"] []
 a_law_said:Addr
 yo:alM
 m8:cw K "_law_said" "_law_said" c6 a_law_said yo
 yp:mg "_law_said"=some (.ref a_law_said)
 j8:Binds K yo ["_law_way","_law_rows"] []
 a_law_names_of:Addr
 xr:alM
 qP:cw K "_law_names_of" "_law_names_of" eN a_law_names_of xr
 Hc:mg "_law_names_of"=some (.ref a_law_names_of)
 oJ:Binds K xr ["_law_rows"] []
 a_law_turned:Addr
 xT:alM
 qU:cw K "_law_turned" "_law_turned" gL a_law_turned xT
 HC:mg "_law_turned"=some (.ref a_law_turned)
 oS:Binds K xT ["_law_rows","_law_at"] []
 a_law_put:Addr
 yE:alM
 oY:cw K "_law_put" "_law_put" ix a_law_put yE
 B3:mg "_law_put"=some (.ref a_law_put)
 m9:Binds K yE ["_law_rows","_law_at","_law_row"] []
 a_law_bad_row:Addr
 xI:alM
 qR:cw K "_law_bad_row" "_law_bad_row" iq a_law_bad_row xI
 Ho:mg "_law_bad_row"=some (.ref a_law_bad_row)
 oP:Binds K xI ["_law_name","_law_many","_law_n"] []
 a_law_spoilt:Addr
 xU:alM
 qV:cw K "_law_spoilt" "_law_spoilt" dc a_law_spoilt xU
 HD:mg "_law_spoilt"=some (.ref a_law_spoilt)
 oU:Binds K xU ["_law_rows","_law_names","_law_n"] []
 a_law:Addr
 zQ:alM
 vm:cw K "law" "law" cy a_law zQ
 ajh:mg "law"=some (.ref a_law)
 sN:Binds K zQ ["_law_script"] []
 HE:mg "ValueError"=none
 zR:mg "all"=none
 Dh:mg "bool"=none
 HS:mg "enumerate"=none
 zS:mg "int"=none
 eO:mg "isinstance"=none
 eE:mg "len"=none
 pI:mg "list"=none
 rY:mg "range"=none
 vn:mg "str"=none
 CN:mg "tuple"=none
 DM:mg "zip"=none
 pe:Addr
 zc:mg "FORMS"=some (.ref pe)
 cP:KTab K pe cP
 uT:Tok
 su:mg "HALF"=some (.int (2147483648) uT)
 uw:Tok
 Jt:mg "LETTERS"=some (.str "abcdefghijklmnopqrstuvwxyz" uw)
 ud:Tok
 Hd:mg "MOST_LETTERS"=some (.int (6) ud)
 uh:Tok
 HF:mg "MOST_NAMES"=some (.int (12) uh)
 uk:Tok
 HU:mg "MOST_ROWS"=some (.int (60) uk)
 ui:Tok
 HG:mg "MOST_TURNS"=some (.int (10000) ui)
 pf:Addr
 LK:mg "WORDS"=some (.ref pf)
 kU:pZ K pf (kU.map V.str)
 eh:Addr
 jC:ale K alc "BadProgram"=some (some (.ref eh))
 qS:mg "BadProgram"=some (.ref eh)
 j6:fF K eh
 qK:Addr
 wZ:alM
 ub:vM K "__init__" "BadProgram.__init__" qJ qK wZ
 w6:Binds K wZ ["self","at"] []
 ug:kX K eh qK fh "ValueError.__new__"=true
 hi_BadProgram:alN K (.ref eh) "__init__"=some (some (.ref qK))
 hf_BadProgram:aov K (.ref qK)=true
 xJ:alm K (.ref eh)=true
 Hq:wC K eh "at"
 BB:anB K eh=true
 BC:alN K (.ref eh) "at"=some none
 lK:Addr
 YJ:ale K alc "BoxError"=some (some (.ref lK))
 BL:mg "BoxError"=some (.ref lK)
 HV:fF K lK
 HW:DL K lK
 HX:anM K (.ref lK)=some (.type "type")
 gQ:Addr
 kR:ale K alc "BadRun"=some (some (.ref gQ))
 ux:mg "BadRun"=some (.ref gQ)
 lO:fF K gQ
 B4:anK K gQ fh "ValueError.__new__"=true
 jO:Addr
 cA:ale K alc "Run"=some (some (.ref jO))
 MP:mg "Run"=some (.ref jO)
 cH:iR K jO
 mk_Run:Mk K jO a_Run_init
 ng:eU K jO "at"
 oV:eU K jO "holds"
 xM:eU K jO "inputs"
 qW:eU K jO "takes"
 yd:eU K jO "told"
 w8:eU K jO "turns_left"
 oW:eU K jO "word"
 fw:Addr
 j7:ale K alc "ByNought"=some (some (.ref fw))
 ye:mg "ByNought"=some (.ref fw)
 kM:fF K fw
 HY:anK K fw fh "ValueError.__new__"=true
 HZ:anM K (.ref fw)=some (.type "type")
 rp:Addr
 YK:ale K alc "BadBoxes"=some (some (.ref rp))
 Ia:mg "BadBoxes"=some (.ref rp)
 rR:Addr
 abJ:ale K alc "NoText"=some (some (.ref rR))
 Ju:mg "NoText"=some (.ref rR)
 Gn:amS K (.ref fw) (.ref fw)=some true
 Gp:amS K (.ref fw) (.ref lK)=some true
 Gz:amS K (.ref gQ) (.ref lK)=some true
 Gf:amS K (.ref eh) (.ref lK)=some true
 Gq:alu K (.ref fw) (.ref rp)=some false
 GA:alu K (.ref gQ) (.ref rp)=some false
 Gg:alu K (.ref eh) (.ref rp)=some false
 Gr:alu K (.ref fw) (.ref fw)=some true
 GB:alu K (.ref gQ) (.ref fw)=some false
 Gh:alu K (.ref eh) (.ref fw)=some false
 GC:alu K (.ref fw) (.ref rR)=some false
 GQ:alu K (.ref gQ) (.ref rR)=some false
 Gs:alu K (.ref eh) (.ref rR)=some false
 Gi:alu K (.ref fw) (.type "ValueError")=some true
 Gu:alu K (.ref gQ) (.type "ValueError")=some true
 Gd:alu K (.ref eh) (.type "ValueError")=some true
 Be:alu K (.ref fw) (.ref eh)=some false
 Bg:alu K (.ref gQ) (.ref eh)=some false
 Bc:alu K (.ref eh) (.ref eh)=some true
 Bm:alu K (.ref fw) (.ref gQ)=some false
 Br:alu K (.ref gQ) (.ref gQ)=some true
 Bh:alu K (.ref eh) (.ref gQ)=some false
noncomputable def Tx.cast{K K':acs}{mg Qf:Str->Option Value}(h1:K'=K)(h2:Qf=mg)(T:Tx K mg):Tx K' Qf:=by subst h1 h2;exact T
variable{X:Cx}{N N':List Str}{sc:Scope}{k:Nat}{g:GM}
theorem mw{scope:Scope}{tg:Expr}(B:Bd X N sc k)(T:Tx X.K X.mg)(hc:∀y∈scope.names,y.2≠.cell)(nd:N'.Nodup)(h:∀{Y:Cx},Bd Y N' scope k->Tx Y.K Y.mg->JG Y tg g)(cl:List (Str×Addr))(C:Addr)(aQ:ald)(ba:Hp)(ex:List Addr):JG (b8 X N' scope cl C aQ ba ex) tg g:=h (B.b8 hc nd) T
theorem mz{scope:Scope}{ifs:List Expr}{t:TM}(B:Bd X N sc k)(T:Tx X.K X.mg)(hc:∀y∈scope.names,y.2≠.cell)(nd:N'.Nodup)(h:∀{Y:Cx},Bd Y N' scope k->Tx Y.K Y.mg->JF Y ifs t)(cl:List (Str×Addr))(C:Addr)(aQ:ald)(ba:Hp)(ex:List Addr):JF (b8 X N' scope cl C aQ ba ex) ifs t:=h (B.b8 hc nd) T
variable{m:EM}
theorem mB{scope:Scope}{e:Expr}(B:Bd X N sc k)(T:Tx X.K X.mg)(hc:∀y∈scope.names,y.2≠.cell)(nd:N'.Nodup)(h:∀{Y:Cx},Bd Y N' scope k->Tx Y.K Y.mg->JE Y e m)(cl:List (Str×Addr))(C:Addr)(aQ:ald)(ba:Hp)(ex:List Addr):JE (b8 X N' scope cl C aQ ba ex) e m:=h (B.b8 hc nd) T
theorem BD:bD "_law_script"=true:=nofun
theorem yV:bD "_law_k"=true:=nofun
theorem rS:bD "_law_n"=true:=nofun
theorem rg:bD "_law_many"=true:=nofun
theorem BM:bD "_law_some"=true:=nofun
theorem YL:bD "_law_size"=true:=nofun
theorem yF:bD "_law_at"=true:=nofun
theorem qX:bD "_law_names"=true:=nofun
theorem Ib:bD "_law_word"=true:=nofun
theorem Ic:bD "_law_sign"=true:=nofun
theorem YM:bD "_law_back"=true:=nofun
theorem Ks:bD "_law_j"=true:=nofun
theorem Ie:bD "_law_cell"=true:=nofun
theorem Ig:bD "_law_more"=true:=nofun
theorem BK:bD "_law_place"=true:=nofun
theorem xV:bD "_law_turns"=true:=nofun
theorem Z8:bD "_law_one"=true:=nofun
theorem XH:bD "_law_other"=true:=nofun
theorem XI:bD "_law_third"=true:=nofun
theorem YN:bD "_law_kind"=true:=nofun
theorem XJ:bD "_law_first"=true:=nofun
theorem lH:bD "_law_rows"=true:=nofun
theorem nt:bD "thing"=true:=nofun
theorem afd:bD "sign"=true:=nofun
theorem BE:bD "last_place"=true:=nofun
theorem CO:bD "kind"=true:=nofun
theorem uU:bD "row"=true:=nofun
theorem ads:bD "kinds"=true:=nofun
theorem abK:bD "wanted"=true:=nofun
theorem zd:bD "rows"=true:=nofun
theorem NW:bD "at"=true:=nofun
theorem adt:bD "place"=true:=nofun
theorem Kt:bD "names"=true:=nofun
theorem ahC:bD "met"=true:=nofun
theorem LL:bD "name"=true:=nofun
theorem yG:bD "inputs"=true:=nofun
theorem yW:bD "turns"=true:=nofun
theorem afe:bD "self"=true:=nofun
theorem pJ:bD "run"=true:=nofun
theorem abL:bD "number"=true:=nofun
theorem MQ:bD "one"=true:=nofun
theorem Ku:bD "other"=true:=nofun
theorem aff:bD "word"=true:=nofun
theorem yq:bD "_law_way"=true:=nofun
theorem Hr:bD "_law_inputs"=true:=nofun
theorem lm:bD "e"=true:=nofun
theorem rq:bD "_law_row"=true:=nofun
theorem HH:bD "_law_found"=true:=nofun
theorem YO:bD "_law_name"=true:=nofun
theorem YQ:bD "_law_goal"=true:=nofun
theorem XM:bD "_law_plain"=true:=nofun
theorem YR:bD "_law_last"=true:=nofun
theorem XN:bD "_law_ahead"=true:=nofun
theorem YS:bD "_law_ways"=true:=nofun
theorem WH:bD "_law_handed"=true:=nofun
theorem GD:bD "_law_spoilt_here"=true:=nofun
theorem SQ:aJ (ak jA) "_law_script":=.inl nofun
theorem SR:aJ (ak jA) "_law_k":=.inl nofun
theorem RO:(ak jA).names.lookup ("len":Str)=some .globalImplicit:=nofun
theorem RP:aJ (ak c5) "_law_n":=.inr (.inl nofun)
theorem RQ:aJ (ak c5) "_law_many":=.inl nofun
theorem RR:aJ (ak c5) "_law_some":=.inr (.inl nofun)
theorem RS:Loc (ak c5) "_law_some":=.inr nofun
theorem RT:aJ (ak c5) "_law_size":=.inl nofun
theorem RU:Loc (ak c5) "_law_size":=.inl nofun
theorem RV:aJ (ak c5) "_law_at":=.inl nofun
theorem RW:Loc (ak c5) "_law_at":=.inl nofun
theorem RX:aJ (ak c5) "_law_names":=.inl nofun
theorem RY:Loc (ak c5) "_law_names":=.inl nofun
theorem RZ:aJ (ak c5) "_law_k":=.inr (.inl nofun)
theorem R0:Loc (ak c5) "_law_k":=.inr nofun
theorem R1:aJ (ak c5) "_law_word":=.inl nofun
theorem GF:Loc (ak c5) "_law_word":=.inl nofun
theorem R3:aJ (ak c5) "_law_sign":=.inl nofun
theorem R4:Loc (ak c5) "_law_sign":=.inl nofun
theorem R5:aJ (ak c5) "_law_back":=.inl nofun
theorem R6:Loc (ak c5) "_law_back":=.inl nofun
theorem Bf:(ak c5).names.lookup ("range":Str)=some .globalImplicit:=nofun
theorem Rm:aJ (ak kH) "_law_cell":=.inl nofun
theorem SS:aJ (ak ip) "_law_more":=.inl nofun
theorem SU:aJ (ak ip) "_law_place":=.inl nofun
theorem SV:aJ (ak ip) "_law_many":=.inl nofun
theorem SW:aJ (ak ip) "_law_turns":=.inl nofun
theorem R7:(ak ip).names.lookup ("len":Str)=some .globalImplicit:=nofun
theorem Tq:aJ (ak cT) "_law_cell":=.inl nofun
theorem Tr:Loc (ak cT) "_law_cell":=.inl nofun
theorem Ts:aJ (ak cT) "_law_place":=.inl nofun
theorem Tt:aJ (ak cT) "_law_many":=.inl nofun
theorem Tu:aJ (ak cT) "_law_names":=.inl nofun
theorem Tv:aJ (ak cT) "_law_turns":=.inl nofun
theorem Tw:aJ (ak cT) "_law_more":=.inl nofun
theorem Tz:Loc (ak cT) "_law_more":=.inl nofun
theorem TB:aJ (ak cT) "_law_one":=.inl nofun
theorem TC:Loc (ak cT) "_law_one":=.inl nofun
theorem TF:aJ (ak cT) "_law_other":=.inl nofun
theorem TH:Loc (ak cT) "_law_other":=.inl nofun
theorem TJ:aJ (ak cT) "_law_third":=.inl nofun
theorem TK:Loc (ak cT) "_law_third":=.inl nofun
theorem TN:aJ (ak cT) "_law_kind":=.inl nofun
theorem TQ:Loc (ak cT) "_law_kind":=.inl nofun
theorem SX:aJ (ak cT) "_law_word":=.inl nofun
theorem SY:Loc (ak cT) "_law_word":=.inl nofun
theorem Bq:(ak cT).names.lookup ("len":Str)=some .globalImplicit:=nofun
theorem QE:(ak cT).names.lookup ("_law_number_by":Str)=some .globalImplicit:=nofun
theorem Gb:(ak cT).names.lookup ("_law_jump_by":Str)=some .globalImplicit:=nofun
theorem S0:aJ (ak dW) "_law_script":=.inl nofun
theorem S1:aJ (ak dW) "_law_first":=.inl nofun
theorem S2:aJ (ak dW) "_law_many":=.inl nofun
theorem S3:aJ (ak dW) "_law_names":=.inl nofun
theorem S4:aJ (ak dW) "_law_rows":=.inl nofun
theorem S5:Loc (ak dW) "_law_rows":=.inl nofun
theorem S6:aJ (ak dW) "_law_turns":=.inl nofun
theorem S7:Loc (ak dW) "_law_turns":=.inl nofun
theorem S8:aJ (ak dW) "_law_place":=.inl nofun
theorem S9:Loc (ak dW) "_law_place":=.inl nofun
theorem Ra:(ak dW).names.lookup ("range":Str)=some .globalImplicit:=nofun
theorem QF:(ak dW).names.lookup ("_law_cell_at":Str)=some .globalImplicit:=nofun
theorem QJ:(ak dW).names.lookup ("_law_row_by":Str)=some .globalImplicit:=nofun
theorem WI:aJ (ak gO) "thing":=.inl nofun
theorem QZ:(ak gO).names.lookup ("isinstance":Str)=some .globalImplicit:=nofun
theorem VD:(ak gO).names.lookup ("str":Str)=some .globalImplicit:=nofun
theorem VE:(ak gO).names.lookup ("len":Str)=some .globalImplicit:=nofun
theorem QP:(ak gO).names.lookup ("MOST_LETTERS":Str)=some .globalImplicit:=nofun
theorem VF:(ak gO).names.lookup ("all":Str)=some .globalImplicit:=nofun
theorem UV:aJ (ak ir) "thing":=.inl nofun
theorem Ge:(ak ir).names.lookup ("isinstance":Str)=some .globalImplicit:=nofun
theorem TR:(ak ir).names.lookup ("int":Str)=some .globalImplicit:=nofun
theorem Ta:(ak ir).names.lookup ("bool":Str)=some .globalImplicit:=nofun
theorem GP:(ak ir).names.lookup ("HALF":Str)=some .globalImplicit:=nofun
theorem WJ:aJ (ak ja) "thing":=.inl nofun
theorem Q0:(ak ja).names.lookup ("isinstance":Str)=some .globalImplicit:=nofun
theorem VG:(ak ja).names.lookup ("str":Str)=some .globalImplicit:=nofun
theorem TU:(ak ja).names.lookup ("WORDS":Str)=some .globalImplicit:=nofun
theorem VH:aJ (ak jD) "thing":=.inl nofun
theorem VI:aJ (ak jD) "last_place":=.inl nofun
theorem Q1:(ak jD).names.lookup ("is_number":Str)=some .globalImplicit:=nofun
theorem WK:aJ (ak fZ) "kind":=.inl nofun
theorem WL:aJ (ak fZ) "thing":=.inl nofun
theorem WM:aJ (ak fZ) "last_place":=.inl nofun
theorem R8:(ak fZ).names.lookup ("is_name":Str)=some .globalImplicit:=nofun
theorem Rb:(ak fZ).names.lookup ("is_number":Str)=some .globalImplicit:=nofun
theorem R9:(ak fZ).names.lookup ("is_word":Str)=some .globalImplicit:=nofun
theorem Rn:(ak fZ).names.lookup ("is_place":Str)=some .globalImplicit:=nofun
theorem XO:aJ (ak fe) "row":=.inl nofun
theorem XQ:aJ (ak fe) "kinds":=.inl nofun
theorem XS:Loc (ak fe) "kinds":=.inl nofun
theorem Gv:(ak fe).names.lookup ("isinstance":Str)=some .globalImplicit:=nofun
theorem UW:(ak fe).names.lookup ("tuple":Str)=some .globalImplicit:=nofun
theorem BF:(ak fe).names.lookup ("len":Str)=some .globalImplicit:=nofun
theorem WN:(ak fe).names.lookup ("str":Str)=some .globalImplicit:=nofun
theorem G3:(ak fe).names.lookup ("FORMS":Str)=some .globalImplicit:=nofun
theorem WO:(ak fe).names.lookup ("zip":Str)=some .globalImplicit:=nofun
theorem WP:(ak fe).names.lookup ("all":Str)=some .globalImplicit:=nofun
theorem Ro:aJ (ak jz) "row":=.inl nofun
theorem QQ:(ak jz).names.lookup ("FORMS":Str)=some .globalImplicit:=nofun
theorem Rc:(ak jz).names.lookup ("zip":Str)=some .globalImplicit:=nofun
theorem QR:aJ (ak ik) "rows":=.inl nofun
theorem QS:aJ (ak ik) "at":=.inl nofun
theorem QT:aJ (ak ik) "place":=.inl nofun
theorem QU:Loc (ak ik) "place":=.inl nofun
theorem QA:(ak ik).names.lookup ("parts_of_kind":Str)=some .globalImplicit:=nofun
theorem Rp:aJ (ak fL) "row":=.inl nofun
theorem Rq:aJ (ak fL) "names":=.inl nofun
theorem Rr:aJ (ak fL) "met":=.inl nofun
theorem Rt:Loc (ak fL) "met":=.inl nofun
theorem Ru:aJ (ak fL) "name":=.inl nofun
theorem Rv:Loc (ak fL) "name":=.inl nofun
theorem Q2:(ak fL).names.lookup ("list":Str)=some .globalImplicit:=nofun
theorem QC:(ak fL).names.lookup ("parts_of_kind":Str)=some .globalImplicit:=nofun
theorem Sa:aJ (ak dj) "rows":=.inl nofun
theorem Sb:aJ (ak dj) "names":=.inl nofun
theorem GG:Loc (ak dj) "names":=.inl nofun
theorem Sd:aJ (ak dj) "at":=.inl nofun
theorem Se:Loc (ak dj) "at":=.inl nofun
theorem Sf:aJ (ak dj) "row":=.inl nofun
theorem Sg:Loc (ak dj) "row":=.inl nofun
theorem QG:(ak dj).names.lookup ("isinstance":Str)=some .globalImplicit:=nofun
theorem Rf:(ak dj).names.lookup ("list":Str)=some .globalImplicit:=nofun
theorem Bj:(ak dj).names.lookup ("len":Str)=some .globalImplicit:=nofun
theorem QK:(ak dj).names.lookup ("MOST_ROWS":Str)=some .globalImplicit:=nofun
theorem Bb:(ak dj).names.lookup ("BadProgram":Str)=some .globalImplicit:=nofun
theorem QL:(ak dj).names.lookup ("enumerate":Str)=some .globalImplicit:=nofun
theorem QV:(ak dj).names.lookup ("is_row":Str)=some .globalImplicit:=nofun
theorem QB:(ak dj).names.lookup ("jumps_back_badly":Str)=some .globalImplicit:=nofun
theorem QD:(ak dj).names.lookup ("with_names_of":Str)=some .globalImplicit:=nofun
theorem QH:(ak dj).names.lookup ("MOST_NAMES":Str)=some .globalImplicit:=nofun
theorem VJ:aJ (ak fN) "inputs":=.inl nofun
theorem VL:aJ (ak fN) "turns":=.inl nofun
theorem QW:(ak fN).names.lookup ("isinstance":Str)=some .globalImplicit:=nofun
theorem TV:(ak fN).names.lookup ("list":Str)=some .globalImplicit:=nofun
theorem UX:(ak fN).names.lookup ("all":Str)=some .globalImplicit:=nofun
theorem GH:(ak fN).names.lookup ("BadRun":Str)=some .globalImplicit:=nofun
theorem Q3:(ak fN).names.lookup ("is_number":Str)=some .globalImplicit:=nofun
theorem QX:(ak fN).names.lookup ("MOST_TURNS":Str)=some .globalImplicit:=nofun
theorem VM:aJ (ak iZ) "self":=.inl nofun
theorem VN:aJ (ak iZ) "inputs":=.inl nofun
theorem VO:aJ (ak iZ) "turns":=.inl nofun
theorem TX:(ak iZ).names.lookup ("list":Str)=some .globalImplicit:=nofun
theorem Z9:aJ (ak ke) "run":=.inl nofun
theorem aaa:aJ (ak ke) "name":=.inl nofun
theorem abM:aJ (ak kh) "number":=.inl nofun
theorem BN:(ak kh).names.lookup ("HALF":Str)=some .globalImplicit:=nofun
theorem XT:aJ (ak jb) "one":=.inl nofun
theorem XU:aJ (ak jb) "other":=.inl nofun
theorem Sh:(ak jb).names.lookup ("ByNought":Str)=some .globalImplicit:=nofun
theorem WQ:(ak jb).names.lookup ("fit":Str)=some .globalImplicit:=nofun
theorem VP:aJ (ak iu) "word":=.inl nofun
theorem VQ:aJ (ak iu) "one":=.inl nofun
theorem VR:aJ (ak iu) "other":=.inl nofun
theorem Bx:(ak iu).names.lookup ("fit":Str)=some .globalImplicit:=nofun
theorem Si:(ak iu).names.lookup ("parted":Str)=some .globalImplicit:=nofun
theorem YT:aJ (ak kb) "run":=.inl nofun
theorem XW:(ak kb).names.lookup ("len":Str)=some .globalImplicit:=nofun
theorem UY:aJ (ak kL) "run":=.inl nofun
theorem XX:aJ (ak gP) "run":=.inl nofun
theorem XY:aJ (ak gP) "row":=.inl nofun
theorem ue:(ak gP).names.lookup ("held":Str)=some .globalImplicit:=nofun
theorem Sj:(ak gP).names.lookup ("reckoned":Str)=some .globalImplicit:=nofun
theorem UZ:(ak gP).names.lookup ("taken":Str)=some .globalImplicit:=nofun
theorem Rw:(ak gP).names.lookup ("make_turn":Str)=some .globalImplicit:=nofun
theorem WR:aJ (ak fc) "inputs":=.inl nofun
theorem WS:aJ (ak fc) "turns":=.inl nofun
theorem BG:aJ (ak fc) "run":=.inl nofun
theorem WT:Loc (ak fc) "run":=.inl nofun
theorem VS:(ak fc).names.lookup ("Run":Str)=some .globalImplicit:=nofun
theorem Rx:(ak fc).names.lookup ("ByNought":Str)=some .globalImplicit:=nofun
theorem U0:aJ (mX (ak fc) "run") "rows":=.inl nofun
theorem U1:aJ (mX (ak fc) "run") "run":=.inr (.inr nofun)
theorem TY:(mX (ak fc) "run").names.lookup ("len":Str)=some .globalImplicit:=nofun
theorem Ry:(mX (ak fc) "run").names.lookup ("do_row":Str)=some .globalImplicit:=nofun
theorem U2:aJ (ak gM) "rows":=.inl nofun
theorem U3:aJ (ak gM) "inputs":=.inl nofun
theorem U4:aJ (ak gM) "turns":=.inl nofun
theorem QM:(ak gM).names.lookup ("need_program":Str)=some .globalImplicit:=nofun
theorem Q4:(ak gM).names.lookup ("need_run":Str)=some .globalImplicit:=nofun
theorem Rg:(ak gM).names.lookup ("outcome":Str)=some .globalImplicit:=nofun
theorem Bz:aJ (ak c6) "_law_way":=.inl nofun
theorem He:aJ (ak c6) "_law_rows":=.inl nofun
theorem Hf:aJ (ak c6) "_law_inputs":=.inl nofun
theorem Hg:Loc (ak c6) "_law_inputs":=.inl nofun
theorem VT:aJ (ak c6) "_law_turns":=.inl nofun
theorem VU:Loc (ak c6) "_law_turns":=.inl nofun
theorem kJ:aJ (ak c6) "e":=.inl nofun
theorem QO:(ak c6).names.lookup ("need_program":Str)=some .globalImplicit:=nofun
theorem Q5:(ak c6).names.lookup ("first_run":Str)=some .globalImplicit:=nofun
theorem lD:(ak c6).names.lookup ("isinstance":Str)=some .globalImplicit:=nofun
theorem Rh:(ak c6).names.lookup ("BadBoxes":Str)=some .globalImplicit:=nofun
theorem Ri:(ak c6).names.lookup ("ByNought":Str)=some .globalImplicit:=nofun
theorem Sk:(ak c6).names.lookup ("NoText":Str)=some .globalImplicit:=nofun
theorem QY:(ak c6).names.lookup ("ValueError":Str)=some .globalImplicit:=nofun
theorem Gj:(ak c6).names.lookup ("BadProgram":Str)=some .globalImplicit:=nofun
theorem GJ:(ak c6).names.lookup ("BadRun":Str)=some .globalImplicit:=nofun
theorem TZ:(ak c6).names.lookup ("bool":Str)=some .globalImplicit:=nofun
theorem G4:(ak c6).names.lookup ("int":Str)=some .globalImplicit:=nofun
theorem Rj:(ak c6).names.lookup ("BoxError":Str)=some .globalImplicit:=nofun
theorem Sl:aJ (ak eN) "_law_rows":=.inl nofun
theorem Sm:aJ (ak eN) "_law_names":=.inl nofun
theorem Sn:Loc (ak eN) "_law_names":=.inl nofun
theorem So:aJ (ak eN) "_law_row":=.inl nofun
theorem Sq:Loc (ak eN) "_law_row":=.inl nofun
theorem Sr:aJ (ak eN) "_law_k":=.inl nofun
theorem Ss:Loc (ak eN) "_law_k":=.inl nofun
theorem Rz:(ak eN).names.lookup ("len":Str)=some .globalImplicit:=nofun
theorem Q6:(ak eN).names.lookup ("range":Str)=some .globalImplicit:=nofun
theorem QI:(ak eN).names.lookup ("isinstance":Str)=some .globalImplicit:=nofun
theorem RA:(ak eN).names.lookup ("str":Str)=some .globalImplicit:=nofun
theorem T2:aJ (ak gL) "_law_rows":=.inl nofun
theorem T3:aJ (ak gL) "_law_at":=.inl nofun
theorem T4:aJ (ak gL) "_law_found":=.inl nofun
theorem T5:Loc (ak gL) "_law_found":=.inl nofun
theorem T6:aJ (ak gL) "_law_row":=.inl nofun
theorem GR:Loc (ak gL) "_law_row":=.inl nofun
theorem WU:aJ (ak ix) "_law_rows":=.inl nofun
theorem WV:Loc (ak ix) "_law_rows":=.inl nofun
theorem WW:aJ (ak ix) "_law_at":=.inl nofun
theorem WX:aJ (ak ix) "_law_row":=.inl nofun
theorem Q7:(ak ix).names.lookup ("_law_turned":Str)=some .globalImplicit:=nofun
theorem Tb:aJ (ak iq) "_law_name":=.inl nofun
theorem Tc:aJ (ak iq) "_law_many":=.inl nofun
theorem Td:aJ (ak iq) "_law_n":=.inl nofun
theorem Te:aJ (ak iq) "_law_rows":=.inl nofun
theorem oC:Loc (ak iq) "_law_rows":=.inl nofun
theorem T7:aJ (ak dc) "_law_rows":=.inl nofun
theorem Bs:Loc (ak dc) "_law_rows":=.inl nofun
theorem T8:aJ (ak dc) "_law_names":=.inl nofun
theorem T9:aJ (ak dc) "_law_n":=.inl nofun
theorem Ua:aJ (ak dc) "_law_at":=.inl nofun
theorem Ub:Loc (ak dc) "_law_at":=.inl nofun
theorem Uc:aJ (ak dc) "_law_goal":=.inl nofun
theorem GS:Loc (ak dc) "_law_goal":=.inl nofun
theorem Ud:aJ (ak dc) "_law_plain":=.inl nofun
theorem Ue:Loc (ak dc) "_law_plain":=.inl nofun
theorem Ug:aJ (ak dc) "_law_last":=.inl nofun
theorem GU:Loc (ak dc) "_law_last":=.inl nofun
theorem Uh:aJ (ak dc) "_law_ahead":=.inl nofun
theorem Ui:Loc (ak dc) "_law_ahead":=.inl nofun
theorem uc:(ak dc).names.lookup ("len":Str)=some .globalImplicit:=nofun
theorem RB:(ak dc).names.lookup ("tuple":Str)=some .globalImplicit:=nofun
theorem Gm:(ak dc).names.lookup ("_law_put":Str)=some .globalImplicit:=nofun
theorem QN:(ak dc).names.lookup ("_law_bad_row":Str)=some .globalImplicit:=nofun
theorem abN:aJ (ak cy) "_law_script":=.inl nofun
theorem abO:aJ (ak cy) "_law_names":=.inl nofun
theorem abP:Loc (ak cy) "_law_names":=.inl nofun
theorem abQ:aJ (ak cy) "_law_many":=.inl nofun
theorem Jv:Loc (ak cy) "_law_many":=.inl nofun
theorem abR:aJ (ak cy) "_law_rows":=.inl nofun
theorem abS:Loc (ak cy) "_law_rows":=.inl nofun
theorem abT:aJ (ak cy) "_law_n":=.inl nofun
theorem abU:Loc (ak cy) "_law_n":=.inl nofun
theorem abV:aJ (ak cy) "_law_ways":=.inl nofun
theorem abW:Loc (ak cy) "_law_ways":=.inl nofun
theorem abX:aJ (ak cy) "_law_handed":=.inl nofun
theorem abY:Loc (ak cy) "_law_handed":=.inl nofun
theorem abZ:aJ (ak cy) "_law_found":=.inl nofun
theorem ab0:Loc (ak cy) "_law_found":=.inl nofun
theorem ab1:aJ (ak cy) "_law_spoilt_here":=.inr (.inl nofun)
theorem ab2:Loc (ak cy) "_law_spoilt_here":=.inr nofun
theorem qI:(ak cy).names.lookup ("_law_cell_at":Str)=some .globalImplicit:=nofun
theorem RC:(ak cy).names.lookup ("_law_names_by":Str)=some .globalImplicit:=nofun
theorem Su:(ak cy).names.lookup ("_law_rows_by":Str)=some .globalImplicit:=nofun
theorem Ih:(ak cy).names.lookup ("list":Str)=some .globalImplicit:=nofun
theorem G5:(ak cy).names.lookup ("_law_said":Str)=some .globalImplicit:=nofun
theorem Tf:(ak cy).names.lookup ("isinstance":Str)=some .globalImplicit:=nofun
theorem RD:(ak cy).names.lookup ("_law_names_of":Str)=some .globalImplicit:=nofun
theorem Tg:(ak cy).names.lookup ("_law_spoilt":Str)=some .globalImplicit:=nofun
section
variable{P:amb}{w:World}{K:acs}{mg:Str->Option Value}{base:Heap}
theorem Sv:ck ["self","at"] ["self","at"] (ak qJ):=⟨rfl,rfl,rfl,nofun,rfl,nofun,nofun⟩
theorem Bo(T:Tx K mg):bK P w K mg base (bF P w) 1 T.qK T.wZ ["self","at"] (sj T.eh "at"):=ae4 T.ub Sv rfl T.HW T.ug nofun T.BL nofun nofun nofun T.Hq nofun (fun _=>rfl) (fun _=>rfl) (fun _=>rfl)
theorem VV:ck ["_law_script","_law_k"] ["_law_script","_law_k"] (ak jA):=⟨rfl,rfl,rfl,nofun,rfl,nofun,nofun⟩
variable{X:Cx}
theorem Uj(T:Tx X.K X.mg)(B:Bd X ["_law_script","_law_k"] (ak jA) 0)(hF:b6 X)(aL:X.env.scope=ak jA):JB X (a9 jA) iX:=
 have v0 {p:Pos}:JE X (.Name "_law_script" p) (af 0):=B.jv 0 rfl SQ BD;have v1 {p:Pos}:JE X (.Name "_law_k" p) (af 1):=B.jv 1 rfl SR yV
 (aO (bC (bt lZ v1 (dI rfl nofun nofun eS eV (B.gl _ RO) T.eE alU (ah rfl v0 aq))) (aN (bp (B.ax v0 v1))) bS) (aN (bp ao)))
theorem oM(T:Tx K mg):bK P w K mg base (bF P w) 1 T.a_law_cell_at T.xE ["_law_script","_law_k"] (bY K mg 2 (fM iX 2 2)):=cF rfl rfl T.jB VV fun{X} h1 h2 h3 h4 h5 B hF aL=>by subst h3 h4;exact Uj T B hF aL
theorem U5:ck ["_law_n","_law_many","_law_some","_law_size","_law_at","_law_names","_law_k","_law_word","_law_sign","_law_back"] ["_law_n","_law_many"] (ak c5):=⟨rfl,rfl,rfl,nofun,rfl,nofun,nofun⟩
theorem Th(T:Tx X.K X.mg)(B:Bd X ["_law_n","_law_many","_law_some","_law_size","_law_at","_law_names","_law_k","_law_word","_law_sign","_law_back"] (ak c5) 0)(hF:b6 X)(aL:X.env.scope=ak c5):JB X (a9 c5) oI:=
 have v0 {p:Pos}:JE X (.Name "_law_n" p) (af 0):=B.jv 0 rfl RP rS;have v1 {p:Pos}:JE X (.Name "_law_many" p) (af 1):=B.jv 1 rfl RQ rg;have v2 {p:Pos}:JE X (.Name "_law_some" p) (af 2):=B.jv 2 rfl RR BM;have v3 {p:Pos}:JE X (.Name "_law_size" p) (af 3):=B.jv 3 rfl RT YL;have v4 {p:Pos}:JE X (.Name "_law_at" p) (af 4):=B.jv 4 rfl RV yF;have v5 {p:Pos}:JE X (.Name "_law_names" p) (af 5):=B.jv 5 rfl RX qX;have v6 {p:Pos}:JE X (.Name "_law_k" p) (af 6):=B.jv 6 rfl RZ yV;have v7 {p:Pos}:JE X (.Name "_law_word" p) (af 7):=B.jv 7 rfl R1 Ib;have v8 {p:Pos}:JE X (.Name "_law_sign" p) (af 8):=B.jv 8 rfl R3 Ic;have v9 {p:Pos}:JE X (.Name "_law_back" p) (af 9):=B.jv 9 rfl R5 YM
 (aO (B.bN 2 rfl RS rfl aG) (aO (B.bN 3 rfl RU rfl (cb ao (bQ (cx v0 ao) ao))) (aO (B.bN 4 rfl RW rfl (bQ (cx v0 ao) v3)) (aO (B.bN 5 rfl RY rfl (bB aq)) (aO (B.nV (yy (B.gl _ Bf) T.rY rfl (ah rfl v1 aq)) (B.eY 6 rfl R0) (aO (CC (i:=7) (by rw[B.hN];exact B.nd) (by rw[B.hN];rfl) (B.fn _ GF).2 (by rw[aL];decide +kernel) B.calm (N':=["_law_j","_law_some","_law_k","_law_n"]) (Bd.cap B.hN aL nofun) (yy (B.gl _ Bf) T.rY rfl (ah rfl ao aq)) (mw B T nofun nofun fun{X} B T=>(B.eY 0 rfl (.inl rfl))) (mz B T nofun nofun fun{X} B T=>pF) (mB B T nofun nofun fun{X} B T=>(B.ax (B.jv 1 rfl (.inr (.inr rfl)) BM) (bQ (cb (cb (cx (B.jv 3 rfl (.inr (.inr rfl)) rS) ao) (je ao (B.jv 0 rfl (.inl rfl) Ks))) (cx (B.jv 2 rfl (.inr (.inr rfl)) yV) ao)) ao))) (BZ (by rw[aL];rfl) (by rw[aL];decide +kernel) rfl nofun)) (aN (bC (bt B.eq (bQ v0 ao) ao) (aN (jd rfl (iD rfl rfl ame alZ ama kP lY lL v5 (ah rfl (iD rfl rfl anQ aoa aob y8 zo y9 aG (ah rfl (jk v7 jc (gR (cb ao (bQ (cb (cx v0 ao) v6) ao)))) aq)) aq)))) (aN (bC (bt B.eq (bQ v0 ao) ao) (aO (CC (i:=7) (by rw[B.hN];exact B.nd) (by rw[B.hN];rfl) (B.fn _ GF).2 (by rw[aL];decide +kernel) B.calm (N':=["_law_j","_law_some","_law_n"]) (Bd.cap B.hN aL nofun) (yy (B.gl _ Bf) T.rY rfl (ah rfl ao aq)) (mw B T nofun nofun fun{X} B T=>(B.eY 0 rfl (.inl rfl))) (mz B T nofun nofun fun{X} B T=>pF) (mB B T nofun nofun fun{X} B T=>(B.ax (B.jv 1 rfl (.inr (.inr rfl)) BM) (bQ (cb (cx (B.jv 2 rfl (.inr (.inr rfl)) rS) ao) (je ao (B.jv 0 rfl (.inl rfl) Ks))) ao))) (BZ (by rw[aL];rfl) (by rw[aL];decide +kernel) rfl nofun)) (aO (B.bN 8 rfl R4 rfl (B.ax v2 (bQ (cb (cx v0 ao) v6) ao))) (aO (B.bN 9 rfl R6 rfl (iD rfl rfl anQ aoa aob y8 zo y9 aG (ah rfl (jk v7 (gR (cb v4 ao)) (gR v3)) aq))) (aN (jd rfl (iD rfl rfl ame alZ ama kP lY lL v5 (ah rfl (cb (cb (iD rfl rfl anQ aoa aob y8 zo y9 aG (ah rfl (jk v7 jc (gR v4)) aq)) v8) v9) aq))))))) (aN (jd rfl (iD rfl rfl ame alZ ama kP lY lL v5 (ah rfl (iD rfl rfl anQ aoa aob y8 zo y9 aG (ah rfl (cb (jk v7 (gR (bQ v6 ao)) jc) (jk v7 jc (gR (bQ v6 ao)))) aq)) aq)))))))))) (aN (bp v5)))))))
theorem U6(T:Tx K mg):bK P w K mg base (bF P w) 1 T.a_law_names_by T.xp ["_law_n","_law_many"] (bY K mg 2 (fM oI 10 2)):=cF rfl rfl T.qO U5 fun{X} h1 h2 h3 h4 h5 B hF aL=>by subst h3 h4;exact Th T B hF aL
theorem Uk:ck ["_law_cell"] ["_law_cell"] (ak kH):=⟨rfl,rfl,rfl,nofun,rfl,nofun,nofun⟩
theorem Sw(T:Tx X.K X.mg)(B:Bd X ["_law_cell"] (ak kH) 0)(hF:b6 X)(aL:X.env.scope=ak kH):JB X (a9 kH) oE:=
 have v0 {p:Pos}:JE X (.Name "_law_cell" p) (af 0):=B.jv 0 rfl Rm Ie
 (aO (bC (bt B.eq (bQ v0 ao) ao) (aN (bp (B.ax (bB (ah rfl ao (ah rfl (jJ ao) (ah rfl ao (ah rfl (jJ ao) (ah rfl ao (ah rfl (jJ ao) (ah rfl ao (ah rfl ao aq))))))))) (bQ (cx v0 ao) ao)))) bS) (aO (bC (bt B.eq (bQ v0 ao) ao) (aN (bp (lS (bQ (je (cx v0 ao) ao) ao) ao))) bS) (aO (bC (bt B.eq (bQ v0 ao) ao) (aN (bp (lS (bQ (cx v0 ao) ao) ao))) bS) (aN (bp (lS (bQ (cx v0 ao) ao) ao))))))
theorem Ul(T:Tx K mg):bK P w K mg base (bF P w) 1 T.a_law_number_by T.xh ["_law_cell"] (bY K mg 1 (fM oE 1 1)):=cF rfl rfl T.qM Uk fun{X} h1 h2 h3 h4 h5 B hF aL=>by subst h3 h4;exact Sw T B hF aL
theorem VW:ck ["_law_more","_law_place","_law_many","_law_turns"] ["_law_more","_law_place","_law_many","_law_turns"] (ak ip):=⟨rfl,rfl,rfl,nofun,rfl,nofun,nofun⟩
theorem Um(T:Tx X.K X.mg)(B:Bd X ["_law_more","_law_place","_law_many","_law_turns"] (ak ip) 0)(hF:b6 X)(aL:X.env.scope=ak ip):JB X (a9 ip) lE:=
 have v0 {p:Pos}:JE X (.Name "_law_more" p) (af 0):=B.jv 0 rfl SS Ig;have v1 {p:Pos}:JE X (.Name "_law_place" p) (af 1):=B.jv 1 rfl SU BK;have v2 {p:Pos}:JE X (.Name "_law_many" p) (af 2):=B.jv 2 rfl SV rg;have v3 {p:Pos}:JE X (.Name "_law_turns" p) (af 3):=B.jv 3 rfl SW xV
 (aO (bC (fj (lT (bt B.ne v3 (bB aq)) (fg (bt B.eq (bQ v0 ao) ao)))) (aN (bp (B.ax v3 (bQ (cx v0 ao) (dI rfl nofun nofun eS eV (B.gl _ R7) T.eE alU (ah rfl v3 aq)))))) bS) (aN (bp (cb (cb v1 ao) (bQ (cx v0 ao) (lS v2 v1))))))
theorem Hh(T:Tx K mg):bK P w K mg base (bF P w) 1 T.a_law_jump_by T.xF ["_law_more","_law_place","_law_many","_law_turns"] (bY K mg 4 (fM lE 4 4)):=cF rfl rfl T.oQ VW fun{X} h1 h2 h3 h4 h5 B hF aL=>by subst h3 h4;exact Um T B hF aL
theorem WY:ck ["_law_cell","_law_place","_law_many","_law_names","_law_turns","_law_more","_law_one","_law_other","_law_third","_law_kind","_law_word"] ["_law_cell","_law_place","_law_many","_law_names","_law_turns"] (ak cT):=⟨rfl,rfl,rfl,nofun,rfl,nofun,nofun⟩
theorem U7(T:Tx X.K X.mg)(B:Bd X ["_law_cell","_law_place","_law_many","_law_names","_law_turns","_law_more","_law_one","_law_other","_law_third","_law_kind","_law_word"] (ak cT) 1)(hF:b6 X)(aL:X.env.scope=ak cT):JB X (a9 cT) oR:=
 have v0 {p:Pos}:JE X (.Name "_law_cell" p) (af 0):=B.jv 0 rfl Tq Ie;have v1 {p:Pos}:JE X (.Name "_law_place" p) (af 1):=B.jv 1 rfl Ts BK;have v2 {p:Pos}:JE X (.Name "_law_many" p) (af 2):=B.jv 2 rfl Tt rg;have v3 {p:Pos}:JE X (.Name "_law_names" p) (af 3):=B.jv 3 rfl Tu qX;have v4 {p:Pos}:JE X (.Name "_law_turns" p) (af 4):=B.jv 4 rfl Tv xV;have v5 {p:Pos}:JE X (.Name "_law_more" p) (af 5):=B.jv 5 rfl Tw Ig;have v6 {p:Pos}:JE X (.Name "_law_one" p) (af 6):=B.jv 6 rfl TB Z8;have v7 {p:Pos}:JE X (.Name "_law_other" p) (af 7):=B.jv 7 rfl TF XH;have v8 {p:Pos}:JE X (.Name "_law_third" p) (af 8):=B.jv 8 rfl TJ XI;have v9 {p:Pos}:JE X (.Name "_law_kind" p) (af 9):=B.jv 9 rfl TN YN;have Fc {p:Pos}:JE X (.Name "_law_word" p) (af 10):=B.jv 10 rfl SX Ib
 (aO (B.bN 0 rfl Tr rfl (bQ (je v0 ao) ao)) (aO (B.bN 5 rfl Tz rfl (cx v0 ao)) (aO (B.bN 6 rfl TC rfl (B.ax v3 (bQ v5 (dI rfl nofun nofun eS eV (B.gl _ Bq) T.eE alU (ah rfl v3 aq))))) (aO (B.bN 7 rfl TH rfl (B.ax v3 (bQ (cx v5 ao) (dI rfl nofun nofun eS eV (B.gl _ Bq) T.eE alU (ah rfl v3 aq))))) (aO (B.bN 8 rfl TK rfl (B.ax v3 (bQ (cx v5 ao) (dI rfl nofun nofun eS eV (B.gl _ Bq) T.eE alU (ah rfl v3 aq))))) (aO (B.bN 9 rfl TQ rfl (bQ v0 ao)) (aO (bC (bt lZ v9 ao) (aN (bp (B.ax (bB (ah rfl (bu (ah rfl aG (ah rfl v6 (ah rfl (bJ rfl nofun (Ul T) bH (B.room.mono (by decide)) (B.gl _ QE) T.G1 T.qM.kp T.oE (ah rfl (cx v5 ao) aq)) aq)))) (ah rfl (bu (ah rfl aG (ah rfl v6 (ah rfl v7 aq)))) (ah rfl (bu (ah rfl aG (ah rfl v6 aq))) aq)))) v9))) bS) (aO (bC (bt lZ v9 ao) (aO (B.bN 10 rfl SY rfl (B.ax (bB (ah rfl aG (ah rfl aG (ah rfl aG (ah rfl aG (ah rfl aG (ah rfl aG aq))))))) (bQ (cx v5 ao) ao))) (aN (bp (bu (ah rfl aG (ah rfl v6 (ah rfl Fc (ah rfl v7 (ah rfl v8 aq))))))))) bS) (aO (bC (bt lZ v9 ao) (aN (bp (B.ax (bB (ah rfl (bu (ah rfl aG (ah rfl v6 aq))) (ah rfl (bu (ah rfl aG aq)) aq))) (lS v9 ao)))) bS) (aO (bC (bt lZ v9 ao) (aN (bp (bu (ah rfl aG (ah rfl v6 (ah rfl (bJ rfl nofun (Hh T) bH (B.room.mono (by decide)) (B.gl _ Gb) T.BA T.oQ.kp T.lE (ah rfl (cx v5 ao) (ah rfl v1 (ah rfl v2 (ah rfl v4 aq))))) aq)))))) bS) (aO (bC (bt B.eq v9 ao) (aN (bp (bu (ah rfl aG (ah rfl (bJ rfl nofun (Hh T) bH (B.room.mono (by decide)) (B.gl _ Gb) T.BA T.oQ.kp T.lE (ah rfl (cx v5 ao) (ah rfl v1 (ah rfl v2 (ah rfl v4 aq))))) aq))))) bS) (aN (bp (B.ax (bB (ah rfl (bu (ah rfl aG aq)) (ah rfl (bu (ah rfl aG (ah rfl v6 aq))) (ah rfl (bu (ah rfl aG aq)) aq)))) (bQ (cx v5 ao) ao)))))))))))))))
theorem WZ(T:Tx K mg):bK P w K mg base (bF P w) 2 T.a_law_row_by T.xS ["_law_cell","_law_place","_law_many","_law_names","_law_turns"] (bY K mg 5 (fM oR 11 5)):=cF rfl rfl T.qT WY fun{X} h1 h2 h3 h4 h5 B hF aL=>by subst h3 h4;exact U7 T B hF aL
theorem VX:ck ["_law_script","_law_first","_law_many","_law_names","_law_rows","_law_turns","_law_place"] ["_law_script","_law_first","_law_many","_law_names"] (ak dW):=⟨rfl,rfl,rfl,nofun,rfl,nofun,nofun⟩
theorem Uo(T:Tx X.K X.mg)(B:Bd X ["_law_script","_law_first","_law_many","_law_names","_law_rows","_law_turns","_law_place"] (ak dW) 2)(hF:b6 X)(aL:X.env.scope=ak dW):JB X (a9 dW) oO:=
 have v0 {p:Pos}:JE X (.Name "_law_script" p) (af 0):=B.jv 0 rfl S0 BD;have v1 {p:Pos}:JE X (.Name "_law_first" p) (af 1):=B.jv 1 rfl S1 XJ;have v2 {p:Pos}:JE X (.Name "_law_many" p) (af 2):=B.jv 2 rfl S2 rg;have v3 {p:Pos}:JE X (.Name "_law_names" p) (af 3):=B.jv 3 rfl S3 qX;have v4 {p:Pos}:JE X (.Name "_law_rows" p) (af 4):=B.jv 4 rfl S4 lH;have v5 {p:Pos}:JE X (.Name "_law_turns" p) (af 5):=B.jv 5 rfl S6 xV;have v6 {p:Pos}:JE X (.Name "_law_place" p) (af 6):=B.jv 6 rfl S8 BK
 (aO (B.bN 4 rfl S5 rfl (bB aq)) (aO (B.bN 5 rfl S7 rfl (bB aq)) (aO (B.nV (yy (B.gl _ Ra) T.rY rfl (ah rfl v2 aq)) (B.eY 6 rfl S9) (aO (jd rfl (iD rfl rfl ame alZ ama kP lY lL v4 (ah rfl (bJ rfl nofun (WZ T) bH (B.room.mono (by decide)) (B.gl _ QJ) T.HB T.qT.kp T.oR (ah rfl (cb (bJ rfl nofun (oM T) bH (B.room.mono (by decide)) (B.gl _ QF) T.m5 T.jB.kp T.iX (ah rfl v0 (ah rfl (cb v1 (bQ v6 ao)) aq))) (je ao v6)) (ah rfl v6 (ah rfl v2 (ah rfl v3 (ah rfl v5 aq)))))) aq))) (aN (bC (bt B.eq (B.ax v4 (jJ ao)) (bu (ah rfl aG aq))) (aN (jd rfl (iD rfl rfl ame alZ ama kP lY lL v5 (ah rfl v6 aq)))) bS)))) (aN (bp v4)))))
theorem VY(T:Tx K mg):bK P w K mg base (bF P w) 3 T.a_law_rows_by T.xG ["_law_script","_law_first","_law_many","_law_names"] (bY K mg 4 (fM oO 7 4)):=cF rfl rfl T.qQ VX fun{X} h1 h2 h3 h4 h5 B hF aL=>by subst h3 h4;exact Uo T B hF aL
theorem aab:ck ["thing"] ["thing"] (ak gO):=⟨rfl,rfl,rfl,nofun,rfl,nofun,nofun⟩
theorem XZ(T:Tx X.K X.mg)(B:Bd X ["thing"] (ak gO) 0)(hF:b6 X)(aL:X.env.scope=ak gO):JB X (a9 gO) kQ:=
 have v0 {p:Pos}:JE X (.Name "thing" p) (af 0):=B.jv 0 rfl WI nt
 (aO (bC (fj (jj (iC (eW rfl (kf yM aoc nofun nofun rfl (B.gl _ QZ) T.eO (B.gl _ VD) T.vn v0))) (fg (iC (J4 nE nE (by with_unfolding_all rfl) ao (dI rfl nofun nofun eS eV (B.gl _ VE) T.eE alU (ah rfl v0 aq)) (lR (B.gl _ QP) T.Hd nofun)))))) (aN (bp gb)) bS) (aN (bp (dI rfl nofun nofun (BQ B.calm) C8 (B.gl _ VF) T.zR aoN (ah rfl (rV B.calm (N':=["sign"]) (Bd.cap B.hN aL nofun) (ML v0) (mw B T nofun nofun fun{X} B T=>(B.eY 0 rfl (.inl rfl))) (mz B T nofun nofun fun{X} B T=>pF) (mB B T nofun nofun fun{X} B T=>(uO (ahv (by with_unfolding_all rfl)) (B.jv 0 rfl (.inl rfl) afd) (aex (B.gl _ rfl) T.Jt nofun)))) aq)))))
theorem aac(T:Tx K mg):bK P w K mg base (bF P w) 1 T.a_is_name T.yA ["thing"] (bY K mg 1 (fM kQ 1 1)):=cF rfl rfl T.rE aab fun{X} h1 h2 h3 h4 h5 B hF aL=>by subst h3 h4;exact XZ T B hF aL
theorem X1:ck ["thing"] ["thing"] (ak ir):=⟨rfl,rfl,rfl,nofun,rfl,nofun,nofun⟩
theorem VZ(T:Tx X.K X.mg)(B:Bd X ["thing"] (ak ir) 0)(hF:b6 X)(aL:X.env.scope=ak ir):JB X (a9 ir) iY:=
 have v0 {p:Pos}:JE X (.Name "thing" p) (af 0):=B.jv 0 rfl UV nt
 (aO (bC (fj (jj (iC (eW rfl (kf acX aoO nofun nofun rfl (B.gl _ Ge) T.eO (B.gl _ TR) T.zS v0))) (fg (eW rfl (kf Jd aqg nofun nofun rfl (B.gl _ Ge) T.eO (B.gl _ Ta) T.Dh v0))))) (aN (bp gb)) bS) (aN (bp (J3 nE lZ (by with_unfolding_all rfl) (jJ (lR (B.gl _ GP) T.su nofun)) v0 (lR (B.gl _ GP) T.su nofun)))))
theorem xW(T:Tx K mg):bK P w K mg base (bF P w) 1 T.a_is_number T.ya ["thing"] (bY K mg 1 (fM iY 1 1)):=cF rfl rfl T.lG X1 fun{X} h1 h2 h3 h4 h5 B hF aL=>by subst h3 h4;exact VZ T B hF aL
theorem aad:ck ["thing"] ["thing"] (ak ja):=⟨rfl,rfl,rfl,nofun,rfl,nofun,nofun⟩
theorem X3(T:Tx X.K X.mg)(B:Bd X ["thing"] (ak ja) 0)(hF:b6 X)(aL:X.env.scope=ak ja):JB X (a9 ja) lM:=
 have v0 {p:Pos}:JE X (.Name "thing" p) (af 0):=B.jv 0 rfl WJ nt
 (aN (bp (C6 (kf yM aoc nofun nofun rfl (B.gl _ Q0) T.eO (B.gl _ VG) T.vn v0) (C5 (uO (ahu (by with_unfolding_all rfl)) v0 (ahr (B.gl _ TU) T.LK T.kU nofun))))))
theorem aae(T:Tx K mg):bK P w K mg base (bF P w) 1 T.a_is_word T.yB ["thing"] (bY K mg 1 (fM lM 1 1)):=cF rfl rfl T.rF aad fun{X} h1 h2 h3 h4 h5 B hF aL=>by subst h3 h4;exact X3 T B hF aL
theorem YU:ck ["thing","last_place"] ["thing","last_place"] (ak jD):=⟨rfl,rfl,rfl,nofun,rfl,nofun,nofun⟩
theorem W0(T:Tx X.K X.mg)(B:Bd X ["thing","last_place"] (ak jD) 1)(hF:b6 X)(aL:X.env.scope=ak jD):JB X (a9 jD) lI:=
 have v0 {p:Pos}:JE X (.Name "thing" p) (af 0):=B.jv 0 rfl VH nt;have v1 {p:Pos}:JE X (.Name "last_place" p) (af 1):=B.jv 1 rfl VI BE
 (aN (bp (C6 (bJ rfl nofun (xW T) bH (B.room.mono (by decide)) (B.gl _ Q1) T.uj T.lG.kp T.iY (ah rfl v0 aq)) (C5 (J3 nE nE (by with_unfolding_all rfl) ao v0 v1)))))
theorem YV(T:Tx K mg):bK P w K mg base (bF P w) 2 T.a_is_place T.yk ["thing","last_place"] (bY K mg 2 (fM lI 2 2)):=cF rfl rfl T.rk YU fun{X} h1 h2 h3 h4 h5 B hF aL=>by subst h3 h4;exact W0 T B hF aL
theorem aaf:ck ["kind","thing","last_place"] ["kind","thing","last_place"] (ak fZ):=⟨rfl,rfl,rfl,nofun,rfl,nofun,nofun⟩
theorem X4(T:Tx X.K X.mg)(B:Bd X ["kind","thing","last_place"] (ak fZ) 2)(hF:b6 X)(aL:X.env.scope=ak fZ):JB X (a9 fZ) iy:=
 have v0 {p:Pos}:JE X (.Name "kind" p) (af 0):=B.jv 0 rfl WK CO;have v1 {p:Pos}:JE X (.Name "thing" p) (af 1):=B.jv 1 rfl WL nt;have v2 {p:Pos}:JE X (.Name "last_place" p) (af 2):=B.jv 2 rfl WM BE
 (aO (bC (bt B.eq v0 aG) (aN (bp (bJ rfl nofun (aac T) bH (B.room.mono (by decide)) (B.gl _ R8) T.Jp T.rE.kp T.kQ (ah rfl v1 aq)))) bS) (aO (bC (bt B.eq v0 aG) (aN (bp (bJ rfl nofun (xW T) bH (B.room.mono (by decide)) (B.gl _ Rb) T.uj T.lG.kp T.iY (ah rfl v1 aq)))) bS) (aO (bC (bt B.eq v0 aG) (aN (bp (bJ rfl nofun (aae T) bH (B.room.mono (by decide)) (B.gl _ R9) T.Jq T.rF.kp T.lM (ah rfl v1 aq)))) bS) (aN (bp (bJ rfl nofun (YV T) bH (B.room.mono (by decide)) (B.gl _ Rn) T.IB T.rk.kp T.lI (ah rfl v1 (ah rfl v2 aq))))))))
theorem aag(T:Tx K mg):bK P w K mg base (bF P w) 3 T.a_is_part T.yC ["kind","thing","last_place"] (bY K mg 3 (fM iy 3 3)):=cF rfl rfl T.rG aaf fun{X} h1 h2 h3 h4 h5 B hF aL=>by subst h3 h4;exact X4 T B hF aL
theorem ab3:ck ["row","last_place","kinds"] ["row","last_place"] (ak fe):=⟨rfl,rfl,rfl,nofun,rfl,nofun,nofun⟩
theorem YW(T:Tx X.K X.mg)(B:Bd X ["row","last_place","kinds"] (ak fe) 3)(hF:b6 X)(aL:X.env.scope=ak fe):JB X (a9 fe) jF:=
 have v0 {p:Pos}:JE X (.Name "row" p) (af 0):=B.jv 0 rfl XO uU;have v2 {p:Pos}:JE X (.Name "kinds" p) (af 2):=B.jv 2 rfl XQ ads
 (aO (bC (fj (jj (iC (eW rfl (kf ZY apX nofun nofun rfl (B.gl _ Gv) T.eO (B.gl _ UW) T.CN v0))) (fg (bt B.eq (dI rfl nofun nofun eS eV (B.gl _ BF) T.eE alU (ah rfl v0 aq)) ao)))) (aN (bp gb)) bS) (aO (bC (fj (jj (iC (eW rfl (kf yM aoc nofun nofun rfl (B.gl _ Gv) T.eO (B.gl _ WN) T.vn (B.ax v0 ao)))) (fg (aeY (B.gl _ G3) T.zc T.cP nofun (by with_unfolding_all rfl) (B.ax v0 ao))))) (aN (bp gb)) bS) (aO (B.bN 2 rfl XS rfl (LF (B.gl _ G3) T.zc T.cP nofun (by intro _ _;rfl) (B.ax v0 ao))) (aO (bC (bt B.ne (dI rfl nofun nofun eS eV (B.gl _ BF) T.eE alU (ah rfl v0 aq)) (cb (dI rfl nofun nofun eS eV (B.gl _ BF) T.eE alU (ah rfl v2 aq)) ao)) (aN (bp gb)) bS) (aN (bp (dI rfl nofun nofun (BQ B.calm) C8 (B.gl _ WP) T.zR aoN (ah rfl (rV B.calm (N':=["kind","thing","last_place"]) (Bd.cap B.hN aL nofun) (LC (B.gl _ WO) T.DM rfl rfl (ah rfl v2 (ah rfl (jk v0 (gR ao) jc) aq))) (mw B T nofun nofun fun{X} B T=>(C7 B.calm (rL (B.eY 0 rfl (.inl rfl)) (rL (B.eY 1 rfl (.inl rfl)) CB)))) (mz B T nofun nofun fun{X} B T=>pF) (mB B T nofun nofun fun{X} B T=>(bJ rfl nofun (aag T) bH (B.room.mono (by decide)) (B.gl _ rfl) T.Jr T.rG.kp T.iy (ah rfl (B.jv 0 rfl (.inl rfl) CO) (ah rfl (B.jv 1 rfl (.inl rfl) nt) (ah rfl (B.jv 2 rfl (.inr (.inr rfl)) BE) aq)))))) aq))))))))
theorem ab4(T:Tx K mg):bK P w K mg base (bF P w) 4 T.a_is_row T.yS ["row","last_place"] (bY K mg 2 (fM jF 3 2)):=cF rfl rfl T.rO ab3 fun{X} h1 h2 h3 h4 h5 B hF aL=>by subst h3 h4;exact YW T B hF aL
theorem Up:ck ["row","wanted"] ["row","wanted"] (ak jz):=⟨rfl,rfl,rfl,nofun,rfl,nofun,nofun⟩
theorem Sx(T:Tx X.K X.mg)(B:Bd X ["row","wanted"] (ak jz) 0)(hF:b6 X)(aL:X.env.scope=ak jz):JB X (a9 jz) mZ:=
 have v0 {p:Pos}:JE X (.Name "row" p) (af 0):=B.jv 0 rfl Ro uU
 (aN (bp (rV B.calm (N':=["kind","thing","wanted"]) (Bd.cap B.hN aL nofun) (LC (B.gl _ Rc) T.DM rfl rfl (ah rfl (LF (B.gl _ QQ) T.zc T.cP nofun (by intro _ _;rfl) (B.ax v0 ao)) (ah rfl (jk v0 (gR ao) jc) aq))) (mw B T nofun nofun fun{X} B T=>(C7 B.calm (rL (B.eY 0 rfl (.inl rfl)) (rL (B.eY 1 rfl (.inl rfl)) CB)))) (mz B T nofun nofun fun{X} B T=>(Mh (bt B.eq (B.jv 0 rfl (.inl rfl) CO) (B.jv 2 rfl (.inr (.inr rfl)) abK)))) (mB B T nofun nofun fun{X} B T=>(B.jv 1 rfl (.inl rfl) nt)))))
theorem GV(T:Tx K mg):bK P w K mg base (bF P w) 1 T.a_parts_of_kind T.xi ["row","wanted"] (bY K mg 2 (fM mZ 2 2)):=cF rfl rfl T.oH Up fun{X} h1 h2 h3 h4 h5 B hF aL=>by subst h3 h4;exact Sx T B hF aL
theorem RE:ck ["rows","at","place"] ["rows","at"] (ak ik):=⟨rfl,rfl,rfl,nofun,rfl,nofun,nofun⟩
theorem Q8(T:Tx X.K X.mg)(B:Bd X ["rows","at","place"] (ak ik) 1)(hF:b6 X)(aL:X.env.scope=ak ik):JB X (a9 ik) mY:=
 have v0 {p:Pos}:JE X (.Name "rows" p) (af 0):=B.jv 0 rfl QR zd;have v1 {p:Pos}:JE X (.Name "at" p) (af 1):=B.jv 1 rfl QS NW;have v2 {p:Pos}:JE X (.Name "place" p) (af 2):=B.jv 2 rfl QT adt
 (aO (B.nV (pv (bJ rfl nofun (GV T) bH (B.room.mono (by decide)) (B.gl _ QA) T.Bw T.oH.kp T.mZ (ah rfl (B.ax v0 v1) (ah rfl aG aq)))) (B.eY 2 rfl QU) (aN (bC (fj (lT (bt nE v2 v1) (fg (bt B.ne (B.ax (B.ax v0 v2) ao) aG)))) (aN (bp gb)) bS))) (aN (bp gb)))
theorem RF(T:Tx K mg):bK P w K mg base (bF P w) 2 T.a_jumps_back_badly T.wX ["rows","at"] (bY K mg 2 (fM mY 3 2)):=cF rfl rfl T.qH RE fun{X} h1 h2 h3 h4 h5 B hF aL=>by subst h3 h4;exact Q8 T B hF aL
theorem Uq:ck ["row","names","met","name"] ["row","names"] (ak fL):=⟨rfl,rfl,rfl,nofun,rfl,nofun,nofun⟩
theorem Sy(T:Tx X.K X.mg)(B:Bd X ["row","names","met","name"] (ak fL) 1)(hF:b6 X)(aL:X.env.scope=ak fL):JB X (a9 fL) oG:=
 have v0 {p:Pos}:JE X (.Name "row" p) (af 0):=B.jv 0 rfl Rp uU;have v1 {p:Pos}:JE X (.Name "names" p) (af 1):=B.jv 1 rfl Rq Kt;have v2 {p:Pos}:JE X (.Name "met" p) (af 2):=B.jv 2 rfl Rr ahC;have v3 {p:Pos}:JE X (.Name "name" p) (af 3):=B.jv 3 rfl Ru LL
 (aO (B.bN 2 rfl Rt rfl (sd rfl nofun nofun (BR B.calm) CG (B.gl _ Q2) T.pI amM (ah rfl v1 aq))) (aO (B.nV (pv (bJ rfl nofun (GV T) bH (B.room.mono (by decide)) (B.gl _ QC) T.Bw T.oH.kp T.mZ (ah rfl v0 (ah rfl aG aq)))) (B.eY 3 rfl Rv) (aN (bC (bt (B.Nv (by with_unfolding_all rfl)) v3 v2) (aN (jd rfl (iD rfl rfl ame alZ ama kP lY lL v2 (ah rfl v3 aq)))) bS))) (aN (bp v2))))
theorem Ur(T:Tx K mg):bK P w K mg base (bF P w) 2 T.a_with_names_of T.xj ["row","names"] (bY K mg 2 (fM oG 4 2)):=cF rfl rfl T.qN Uq fun{X} h1 h2 h3 h4 h5 B hF aL=>by subst h3 h4;exact Sy T B hF aL
theorem U8:ck ["rows","names","at","row"] ["rows"] (ak dj):=⟨rfl,rfl,rfl,nofun,rfl,nofun,nofun⟩
theorem Ti(T:Tx X.K X.mg)(B:Bd X ["rows","names","at","row"] (ak dj) 4)(hF:b6 X)(aL:X.env.scope=ak dj):JB X (a9 dj) kI:=
 have v0 {p:Pos}:JE X (.Name "rows" p) (af 0):=B.jv 0 rfl Sa zd;have v1 {p:Pos}:JE X (.Name "names" p) (af 1):=B.jv 1 rfl Sb Kt;have v2 {p:Pos}:JE X (.Name "at" p) (af 2):=B.jv 2 rfl Sd NW;have v3 {p:Pos}:JE X (.Name "row" p) (af 3):=B.jv 3 rfl Sf uU
 (aO (bC (fj (jj (iC (eW rfl (kf BX amM nofun nofun rfl (B.gl _ QG) T.eO (B.gl _ Rf) T.pI v0))) (fg (bt Dz (dI rfl nofun nofun eS eV (B.gl _ Bj) T.eE alU (ah rfl v0 aq)) (lR (B.gl _ QK) T.HU nofun))))) (aN (B2 T.ug T.hi_BadProgram T.hf_BadProgram T.xJ (Bo T) (B.room.mono (by decide)) T.w6 (B.gl _ Bb) T.qS B.calm rfl nofun iB)) bS) (aO (B.bN 1 rfl GG rfl (bB aq)) (aO (B.nV (aeE (B.gl _ QL) T.HS rfl (ah rfl v0 aq)) (C7 B.calm (rL (B.eY 2 rfl Se) (rL (B.eY 3 rfl Sg) CB))) (aO (bC (fj (jj (iC (eW rfl (bJ rfl nofun (ab4 T) bH (B.room.mono (by decide)) (B.gl _ QV) T.Kp T.rO.kp T.jF (ah rfl v3 (ah rfl (dI rfl nofun nofun eS eV (B.gl _ Bj) T.eE alU (ah rfl v0 aq)) aq))))) (fg (eW rfl (bJ rfl nofun (RF T) bH (B.room.mono (by decide)) (B.gl _ QB) T.Gy T.qH.kp T.mY (ah rfl v0 (ah rfl v2 aq))))))) (aN (B2 T.ug T.hi_BadProgram T.hf_BadProgram T.xJ (Bo T) (B.room.mono (by decide)) T.w6 (B.gl _ Bb) T.qS B.calm rfl nofun v2)) bS) (aO (B.bN 1 rfl GG rfl (bJ rfl nofun (Ur T) bH (B.room.mono (by decide)) (B.gl _ QD) T.G2 T.qN.kp T.oG (ah rfl v3 (ah rfl v1 aq)))) (aN (bC (bt Dz (dI rfl nofun nofun eS eV (B.gl _ Bj) T.eE alU (ah rfl v1 aq)) (lR (B.gl _ QH) T.HF nofun)) (aN (B2 T.ug T.hi_BadProgram T.hf_BadProgram T.xJ (Bo T) (B.room.mono (by decide)) T.w6 (B.gl _ Bb) T.qS B.calm rfl nofun v2)) bS))))) (aN (bp v1)))))
theorem G6(T:Tx K mg):bK P w K mg base (bF P w) 5 T.a_need_program T.xq ["rows"] (bY K mg 1 (fM kI 4 1)):=cF rfl rfl T.oK U8 fun{X} h1 h2 h3 h4 h5 B hF aL=>by subst h3 h4;exact Ti T B hF aL
theorem YX:ck ["inputs","turns"] ["inputs","turns"] (ak fN):=⟨rfl,rfl,rfl,nofun,rfl,nofun,nofun⟩
theorem W2(T:Tx X.K X.mg)(B:Bd X ["inputs","turns"] (ak fN) 1)(hF:b6 X)(aL:X.env.scope=ak fN):JB X (a9 fN) lJ:=
 have v0 {p:Pos}:JE X (.Name "inputs" p) (af 0):=B.jv 0 rfl VJ yG;have v1 {p:Pos}:JE X (.Name "turns" p) (af 1):=B.jv 1 rfl VL yW
 (aO (bC (fj (jj (iC (eW rfl (kf BX amM nofun nofun rfl (B.gl _ QW) T.eO (B.gl _ TV) T.pI v0))) (fg (iC (eW rfl (dI rfl nofun nofun (BQ B.calm) C8 (B.gl _ UX) T.zR aoN (ah rfl (rV B.calm (N':=["thing"]) (Bd.cap B.hN aL nofun) (pv v0) (mw B T nofun nofun fun{X} B T=>(B.eY 0 rfl (.inl rfl))) (mz B T nofun nofun fun{X} B T=>pF) (mB B T nofun nofun fun{X} B T=>(bJ rfl nofun (xW T) bH (B.room.mono (by decide)) (B.gl _ rfl) T.uj T.lG.kp T.iY (ah rfl (B.jv 0 rfl (.inl rfl) nt) aq)))) aq))))))) (aN (Cg T.B4 (B.gl _ GH) T.ux B.calm rfl nofun (ah rfl aG aq))) bS) (aN (bC (fj (jj (iC (eW rfl (bJ rfl nofun (xW T) bH (B.room.mono (by decide)) (B.gl _ Q3) T.uj T.lG.kp T.iY (ah rfl v1 aq)))) (fg (iC (J4 nE nE (by with_unfolding_all rfl) ao v1 (lR (B.gl _ QX) T.HG nofun)))))) (aN (Cg T.B4 (B.gl _ GH) T.ux B.calm rfl nofun (ah rfl aG aq))) bS)))
theorem YY(T:Tx K mg):bK P w K mg base (bF P w) 2 T.a_need_run T.yl ["inputs","turns"] (bY K mg 2 (fM lJ 2 2)):=cF rfl rfl T.rl YX fun{X} h1 h2 h3 h4 h5 B hF aL=>by subst h3 h4;exact W2 T B hF aL
theorem YZ:ck ["self","inputs","turns"] ["self","inputs","turns"] (ak iZ):=⟨rfl,rfl,rfl,nofun,rfl,nofun,nofun⟩
theorem W3(T:Tx X.K X.mg)(B:Bd X ["self","inputs","turns"] (ak iZ) 0)(hF:b6 X)(aL:X.env.scope=ak iZ):JB X (a9 iZ) rh:=
 have v0 {p:Pos}:JE X (.Name "self" p) (af 0):=B.jv 0 rfl VM afe;have v1 {p:Pos}:JE X (.Name "inputs" p) (af 1):=B.jv 1 rfl VN yG;have v2 {p:Pos}:JE X (.Name "turns" p) (af 2):=B.jv 2 rfl VO yW
 (aO (jK T.cA T.cH T.xM rfl v0 (sd rfl nofun nofun (BR B.calm) CG (B.gl _ TX) T.pI amM (ah rfl v1 aq))) (aO (jK T.cA T.cH T.w8 rfl v0 v2) (aO (jK T.cA T.cH T.ng rfl v0 ao) (aO (jK T.cA T.cH T.oV rfl v0 Ml) (aO (jK T.cA T.cH T.yd rfl v0 (bB aq)) (aO (jK T.cA T.cH T.qW rfl v0 ao) (aN (jK T.cA T.cH T.oW rfl v0 iB))))))))
theorem Y0(T:Tx K mg):bK P w K mg base (bF P w) 1 T.a_Run_init T.ym ["self","inputs","turns"] (bY K mg 3 (fM rh 3 3)):=cF rfl rfl T.uq YZ fun{X} h1 h2 h3 h4 h5 B hF aL=>by subst h3 h4;exact W3 T B hF aL
theorem afg:ck ["run","name"] ["run","name"] (ak ke):=⟨rfl,rfl,rfl,nofun,rfl,nofun,nofun⟩
theorem ab5(T:Tx X.K X.mg)(B:Bd X ["run","name"] (ak ke) 0)(hF:b6 X)(aL:X.env.scope=ak ke):JB X (a9 ke) kY:=
 have v0 {p:Pos}:JE X (.Name "run" p) (af 0):=B.jv 0 rfl Z9 pJ;have v1 {p:Pos}:JE X (.Name "name" p) (af 1):=B.jv 1 rfl aaa LL
 (aN (bp (iD rfl rfl PySem.F.plainAttrs_dict ano PySem.F.type_dict_get (ahc (zD B.room)) ahb ahd (fC T.cA T.cH T.oV v0) (ah rfl v1 (ah rfl ao aq)))))
theorem uI(T:Tx K mg):bK P w K mg base (bF P w) 1 T.a_held T.zu ["run","name"] (bY K mg 2 (fM kY 2 2)):=cF rfl rfl T.kZ afg fun{X} h1 h2 h3 h4 h5 B hF aL=>by subst h3 h4;exact ab5 T B hF aL
theorem ahD:ck ["number"] ["number"] (ak kh):=⟨rfl,rfl,rfl,nofun,rfl,nofun,nofun⟩
theorem adu(T:Tx X.K X.mg)(B:Bd X ["number"] (ak kh) 0)(hF:b6 X)(aL:X.env.scope=ak kh):JB X (a9 kh) l7:=
 have v0 {p:Pos}:JE X (.Name "number" p) (af 0):=B.jv 0 rfl abM abL
 (aN (bp (lS (bQ (cb v0 (lR (B.gl _ BN) T.su nofun)) (je ao (lR (B.gl _ BN) T.su nofun))) (lR (B.gl _ BN) T.su nofun))))
theorem zv(T:Tx K mg):bK P w K mg base (bF P w) 1 T.a_fit T.zP ["number"] (bY K mg 1 (fM l7 1 1)):=cF rfl rfl T.l8 ahD fun{X} h1 h2 h3 h4 h5 B hF aL=>by subst h3 h4;exact adu T B hF aL
theorem ab6:ck ["one","other"] ["one","other"] (ak jb):=⟨rfl,rfl,rfl,nofun,rfl,nofun,nofun⟩
theorem Y1(T:Tx X.K X.mg)(B:Bd X ["one","other"] (ak jb) 1)(hF:b6 X)(aL:X.env.scope=ak jb):JB X (a9 jb) rM:=
 have v0 {p:Pos}:JE X (.Name "one" p) (af 0):=B.jv 0 rfl XT MQ;have v1 {p:Pos}:JE X (.Name "other" p) (af 1):=B.jv 1 rfl XU Ku
 (aO (bC (bt B.eq v1 ao) (aN (Cg T.HY (B.gl _ Sh) T.ye B.calm rfl nofun (ah rfl aG aq))) bS) (aN (bp (bJ rfl nofun (zv T) bH (B.room.mono (by decide)) (B.gl _ WQ) T.vk T.l8.kp T.l7 (ah rfl (cx v0 v1) aq)))))
theorem ab7(T:Tx K mg):bK P w K mg base (bF P w) 2 T.a_parted T.yT ["one","other"] (bY K mg 2 (fM rM 2 2)):=cF rfl rfl T.rP ab6 fun{X} h1 h2 h3 h4 h5 B hF aL=>by subst h3 h4;exact Y1 T B hF aL
theorem Y2:ck ["word","one","other"] ["word","one","other"] (ak iu):=⟨rfl,rfl,rfl,nofun,rfl,nofun,nofun⟩
theorem W4(T:Tx X.K X.mg)(B:Bd X ["word","one","other"] (ak iu) 2)(hF:b6 X)(aL:X.env.scope=ak iu):JB X (a9 iu) rj:=
 have v0 {p:Pos}:JE X (.Name "word" p) (af 0):=B.jv 0 rfl VP aff;have v1 {p:Pos}:JE X (.Name "one" p) (af 1):=B.jv 1 rfl VQ MQ;have v2 {p:Pos}:JE X (.Name "other" p) (af 2):=B.jv 2 rfl VR Ku
 (aO (bC (bt B.eq v0 aG) (aN (bp (bJ rfl nofun (zv T) bH (B.room.mono (by decide)) (B.gl _ Bx) T.vk T.l8.kp T.l7 (ah rfl (cb v1 v2) aq)))) bS) (aO (bC (bt B.eq v0 aG) (aN (bp (bJ rfl nofun (zv T) bH (B.room.mono (by decide)) (B.gl _ Bx) T.vk T.l8.kp T.l7 (ah rfl (lS v1 v2) aq)))) bS) (aO (bC (bt B.eq v0 aG) (aN (bp (bJ rfl nofun (zv T) bH (B.room.mono (by decide)) (B.gl _ Bx) T.vk T.l8.kp T.l7 (ah rfl (je v1 v2) aq)))) bS) (aO (bC (bt B.eq v0 aG) (aN (bp (bJ rfl nofun (ab7 T) bH (B.room.mono (by decide)) (B.gl _ Si) T.Kq T.rP.kp T.rM (ah rfl v1 (ah rfl v2 aq))))) bS) (aO (bC (bt B.eq v0 aG) (aN (bp (zG (bt lZ v1 v2) ao ao))) bS) (aN (bp (zG (bt B.eq v1 v2) ao ao))))))))
theorem Y3(T:Tx K mg):bK P w K mg base (bF P w) 3 T.a_reckoned T.yn ["word","one","other"] (bY K mg 3 (fM rj 3 3)):=cF rfl rfl T.rm Y2 fun{X} h1 h2 h3 h4 h5 B hF aL=>by subst h3 h4;exact W4 T B hF aL
theorem adv:ck ["run"] ["run"] (ak kb):=⟨rfl,rfl,rfl,nofun,rfl,nofun,nofun⟩
theorem aah(T:Tx X.K X.mg)(B:Bd X ["run"] (ak kb) 0)(hF:b6 X)(aL:X.env.scope=ak kb):JB X (a9 kb) rW:=
 have v0 {p:Pos}:JE X (.Name "run" p) (af 0):=B.jv 0 rfl YT pJ
 (aO (CK L8 NT T.cA T.cH T.qW v0 ao) (aO (bC (bt Dz (fC T.cA T.cH T.qW v0) (dI rfl nofun nofun eS eV (B.gl _ XW) T.eE alU (ah rfl (fC T.cA T.cH T.xM v0) aq))) (aN (bp ao)) bS) (aN (bp (B.ax (fC T.cA T.cH T.xM v0) (lS (fC T.cA T.cH T.qW v0) ao))))))
theorem adw(T:Tx K mg):bK P w K mg base (bF P w) 1 T.a_taken T.zb ["run"] (bY K mg 1 (fM rW 1 1)):=cF rfl rfl T.rX adv fun{X} h1 h2 h3 h4 h5 B hF aL=>by subst h3 h4;exact aah T B hF aL
theorem X5:ck ["run"] ["run"] (ak kL):=⟨rfl,rfl,rfl,nofun,rfl,nofun,nofun⟩
theorem V0(T:Tx X.K X.mg)(B:Bd X ["run"] (ak kL) 0)(hF:b6 X)(aL:X.env.scope=ak kL):JB X (a9 kL) qY:=
 have v0 {p:Pos}:JE X (.Name "run" p) (af 0):=B.jv 0 rfl UY pJ
 (aO (bC (bt B.eq (fC T.cA T.cH T.w8 v0) ao) (aN (jK T.cA T.cH T.oW rfl v0 aG)) bS) (aN (CK af9 ajd T.cA T.cH T.w8 v0 ao)))
theorem X6(T:Tx K mg):bK P w K mg base (bF P w) 1 T.a_make_turn T.yb ["run"] (bY K mg 1 (fM qY 1 1)):=cF rfl rfl T.qZ X5 fun{X} h1 h2 h3 h4 h5 B hF aL=>by subst h3 h4;exact V0 T B hF aL
theorem ab8:ck ["run","row"] ["run","row"] (ak gP):=⟨rfl,rfl,rfl,nofun,rfl,nofun,nofun⟩
theorem Y4(T:Tx X.K X.mg)(B:Bd X ["run","row"] (ak gP) 3)(hF:b6 X)(aL:X.env.scope=ak gP):JB X (a9 gP) rN:=
 have v0 {p:Pos}:JE X (.Name "run" p) (af 0):=B.jv 0 rfl XX pJ;have v1 {p:Pos}:JE X (.Name "row" p) (af 1):=B.jv 1 rfl XY uU
 (aO (CK L8 NT T.cA T.cH T.ng v0 ao) (aN (bC (bt B.eq (B.ax v1 ao) aG) (aN (zk (B.ax v1 ao) (B.yZ (fC T.cA T.cH T.oV v0) (B.ax v1 ao)))) (aN (bC (bt B.eq (B.ax v1 ao) aG) (aN (zk (bJ rfl nofun (uI T) bH (B.room.mono (by decide)) (B.gl _ ue) T.sk T.kZ.kp T.kY (ah rfl v0 (ah rfl (B.ax v1 ao) aq))) (B.yZ (fC T.cA T.cH T.oV v0) (B.ax v1 ao)))) (aN (bC (bt B.eq (B.ax v1 ao) aG) (aN (zk (bJ rfl nofun (Y3 T) bH (B.room.mono (by decide)) (B.gl _ Sj) T.ID T.rm.kp T.rj (ah rfl (B.ax v1 ao) (ah rfl (bJ rfl nofun (uI T) bH (B.room.mono (by decide)) (B.gl _ ue) T.sk T.kZ.kp T.kY (ah rfl v0 (ah rfl (B.ax v1 ao) aq))) (ah rfl (bJ rfl nofun (uI T) bH (B.room.mono (by decide)) (B.gl _ ue) T.sk T.kZ.kp T.kY (ah rfl v0 (ah rfl (B.ax v1 ao) aq))) aq)))) (B.yZ (fC T.cA T.cH T.oV v0) (B.ax v1 ao)))) (aN (bC (bt B.eq (B.ax v1 ao) aG) (aN (zk (bJ rfl nofun (adw T) bH (B.room.mono (by decide)) (B.gl _ UZ) T.LJ T.rX.kp T.rW (ah rfl v0 aq)) (B.yZ (fC T.cA T.cH T.oV v0) (B.ax v1 ao)))) (aN (bC (bt B.eq (B.ax v1 ao) aG) (aN (jd rfl (iD rfl rfl ame alZ ama kP lY lL (fC T.cA T.cH T.yd v0) (ah rfl (bJ rfl nofun (uI T) bH (B.room.mono (by decide)) (B.gl _ ue) T.sk T.kZ.kp T.kY (ah rfl v0 (ah rfl (B.ax v1 ao) aq))) aq)))) (aN (bC (bt B.eq (B.ax v1 ao) aG) (aN (jd rfl (bJ rfl nofun (X6 T) bH (B.room.mono (by decide)) (B.gl _ Rw) T.HQ T.qZ.kp T.qY (ah rfl v0 aq)))) (aN (bC (bt B.eq (B.ax v1 ao) aG) (aN (jK T.cA T.cH T.ng rfl v0 (zG (bt B.ne (bJ rfl nofun (uI T) bH (B.room.mono (by decide)) (B.gl _ ue) T.sk T.kZ.kp T.kY (ah rfl v0 (ah rfl (B.ax v1 ao) aq))) ao) (B.ax v1 ao) (fC T.cA T.cH T.ng v0)))) (aN (bC (bt B.eq (B.ax v1 ao) aG) (aN (jK T.cA T.cH T.ng rfl v0 (B.ax v1 ao))) (aN (jK T.cA T.cH T.oW rfl v0 aG)))))))))))))))))))
theorem ab9(T:Tx K mg):bK P w K mg base (bF P w) 4 T.a_do_row T.yU ["run","row"] (bY K mg 2 (fM rN 2 2)):=cF rfl rfl T.rQ ab8 fun{X} h1 h2 h3 h4 h5 B hF aL=>by subst h3 h4;exact Y4 T B hF aL
theorem aai:ck ["rows","inputs","turns","run"] ["rows","inputs","turns"] (ak fc):=⟨rfl,rfl,rfl,nofun,rfl,nofun,nofun⟩
theorem X7(T:Tx X.K X.mg)(B:Bd X ["rows","inputs","turns","run"] (ak fc) 4)(hF:b6 X)(aL:X.env.scope=ak fc):JB X (a9 fc) rC:=
 have v1 {p:Pos}:JE X (.Name "inputs" p) (af 1):=B.jv 1 rfl WR yG;have v2 {p:Pos}:JE X (.Name "turns" p) (af 2):=B.jv 2 rfl WS yW;have v3 {p:Pos}:JE X (.Name "run" p) (af 3):=B.jv 3 rfl BG pJ
 (aO (B.bN 3 rfl WT rfl (aeO T.cA T.mk_Run (Y0 T) bH (B.room.mono (by decide)) (B.gl _ VS) T.MP T.rh nofun rfl (ah rfl v1 (ah rfl v2 aq)))) (aO (ahm B hF aL (B.gl _ Rx) T.ye nofun ⟨T.kM,T.HZ⟩ (gV.cons T.j7 T.Gn gV.nil) 3 rfl BG (fun{X} h1 h2 B hF aL=>(fun(T:Tx X.K X.mg)=>by have v0 {p:Pos}:JE X (.Name "rows" p) (af 0):=B.jv 0 rfl U0 zd;have v3 {p:Pos}:JE X (.Name "run" p) (af 3):=B.jv 3 rfl U1 pJ;exact(aN (B.ag2 (bt aiY (fC T.cA T.cH T.oW v3) iB) (aN (jd rfl (bJ rfl nofun (ab9 T) bH (B.room.mono (by decide)) (B.gl _ Ry) T.Kr T.rQ.kp T.rN (ah rfl v3 (ah rfl (zG (bt lZ (fC T.cA T.cH T.ng v3) (dI rfl nofun nofun eS eV (B.gl _ TY) T.eE alU (ah rfl v0 aq))) (B.ax v0 (fC T.cA T.cH T.ng v3)) (bu (ah rfl aG aq))) aq)))))))) (Tx.cast h1 h2 T)) (fun h1 h2 B=>(fun T=>(aN (jK T.cA T.cH T.oW rfl (B.jv 3 rfl BG pJ) aG))) (Tx.cast h1 h2 T))) (aN (bp (bu (ah rfl (fC T.cA T.cH T.oW v3) (ah rfl (fC T.cA T.cH T.yd v3) (ah rfl (fC T.cA T.cH T.qW v3) aq))))))))
theorem aaj(T:Tx K mg):bK P w K mg base (bF P w) 5 T.a_outcome T.yD ["rows","inputs","turns"] (bY K mg 3 (fM rC 4 3)):=cF rfl rfl T.rJ aai fun{X} h1 h2 h3 h4 h5 B hF aL=>by subst h3 h4;exact X7 T B hF aL
theorem X8:ck ["rows","inputs","turns"] ["rows","inputs","turns"] (ak gM):=⟨rfl,rfl,rfl,nofun,rfl,nofun,nofun⟩
theorem V1(T:Tx X.K X.mg)(B:Bd X ["rows","inputs","turns"] (ak gM) 5)(hF:b6 X)(aL:X.env.scope=ak gM):JB X (a9 gM) m7:=
 have v0 {p:Pos}:JE X (.Name "rows" p) (af 0):=B.jv 0 rfl U2 zd;have v1 {p:Pos}:JE X (.Name "inputs" p) (af 1):=B.jv 1 rfl U3 yG;have v2 {p:Pos}:JE X (.Name "turns" p) (af 2):=B.jv 2 rfl U4 yW
 (aO (jd rfl (bJ rfl nofun (G6 T) bH (B.room.mono (by decide)) (B.gl _ QM) T.By T.oK.kp T.kI (ah rfl v0 aq))) (aO (jd rfl (bJ rfl nofun (YY T) bH (B.room.mono (by decide)) (B.gl _ Q4) T.IC T.rl.kp T.lJ (ah rfl v1 (ah rfl v2 aq)))) (aN (bp (bJ rfl nofun (aaj T) bH (B.room.mono (by decide)) (B.gl _ Rg) T.Js T.rJ.kp T.rC (ah rfl v0 (ah rfl v1 (ah rfl v2 aq))))))))
theorem X9(T:Tx K mg):bK P w K mg base (bF P w) 6 T.a_first_run T.yc ["rows","inputs","turns"] (bY K mg 3 (fM m7 3 3)):=cF rfl rfl T.q0 X8 fun{X} h1 h2 h3 h4 h5 B hF aL=>by subst h3 h4;exact V1 T B hF aL
theorem Y5:ck ["_law_way","_law_rows","_law_inputs","_law_turns","e"] ["_law_way","_law_rows"] (ak c6):=⟨rfl,rfl,rfl,nofun,rfl,nofun,nofun⟩
theorem W5(T:Tx X.K X.mg)(B:Bd X ["_law_way","_law_rows","_law_inputs","_law_turns","e"] (ak c6) 6)(hF:b6 X)(aL:X.env.scope=ak c6):JB X (a9 c6) j8:=
 (aN (Z5 B.toBdT hF aL (B.gl _ Rj) T.BL nofun ⟨T.HV,T.HX⟩ (gV.cons T.jC T.Gf (gV.cons T.kR T.Gz (gV.cons T.j7 T.Gp gV.nil))) 4 rfl nofun (fun h1 h2 _ _ _ B=>(fun T=>(aO (bC (bt B.eq (B.jv 0 rfl Bz yq) ao) (aN (bp (bJ rfl nofun (G6 T) bH (B.room.mono (by decide)) (B.gl _ QO) T.By T.oK.kp T.kI (ah rfl (B.jv 1 rfl He lH) aq)))) bS) (aO (B.bN 2 rfl Hg rfl (bB (ah rfl (bB aq) (ah rfl ao (ah rfl (bB (ah rfl gb aq)) (ah rfl (bB (ah rfl ao aq)) (ah rfl (bB aq) (ah rfl (bB aq) (ah rfl (bB aq) (ah rfl (bB (ah rfl ao (ah rfl iB aq))) aq)))))))))) (aO (B.bN 2 rfl Hg rfl (cb (B.jv 2 rfl Hf Hr) (bB (ah rfl (bu (ah rfl ao aq)) (ah rfl (bB (ah rfl (jJ ao) aq)) (ah rfl (bB aq) (ah rfl (bB aq) (ah rfl (bB (ah rfl ao (ah rfl aG aq))) (ah rfl (bB aq) (ah rfl (bB (ah rfl ao (ah rfl gb aq))) (ah rfl (bB (ah rfl iB (ah rfl ao (ah rfl ao aq)))) aq))))))))))) (aO (B.bN 3 rfl VU rfl (bB (ah rfl ao (ah rfl ao (ah rfl ao (ah rfl ao (ah rfl (jJ ao) (ah rfl gb (ah rfl ao (ah rfl ao (ah rfl ao (ah rfl ao (ah rfl iB (ah rfl aG (ah rfl ao (ah rfl gb (ah rfl ao (ah rfl ao aq)))))))))))))))))) (aN (bp (bJ rfl nofun (X9 T) bH (B.room.mono (by decide)) (B.gl _ Q5) T.HR T.q0.kp T.m7 (ah rfl (B.jv 1 rfl He lH) (ah rfl (B.ax (B.jv 2 rfl Hf Hr) (B.jv 0 rfl Bz yq)) (ah rfl (B.ax (B.jv 3 rfl VT xV) (B.jv 0 rfl Bz yq)) aq))))))))))) (Tx.cast h1 h2 T)) (fun h1 h2 B=>(fun T=>(aO (bC (fj (jj (eW rfl (pG (cm.cons T.jC T.j6 T.Gg (cm.cons T.kR T.lO T.GA (cm.cons T.j7 T.kM T.Gq cm.nil))) rfl (B.gl _ lD) T.eO (B.gl _ Rh) T.Ia nofun (B.jv 4 rfl kJ lm))) (jj (eW rfl (pG (cm.cons T.jC T.j6 T.Gh (cm.cons T.kR T.lO T.GB (cm.cons T.j7 T.kM T.Gr cm.nil))) rfl (B.gl _ lD) T.eO (B.gl _ Ri) T.ye nofun (B.jv 4 rfl kJ lm))) (fg (eW rfl (pG (cm.cons T.jC T.j6 T.Gs (cm.cons T.kR T.lO T.GQ (cm.cons T.j7 T.kM T.GC cm.nil))) rfl (B.gl _ lD) T.eO (B.gl _ Sk) T.Ju nofun (B.jv 4 rfl kJ lm))))))) (aN (bp aG)) bS) (aO (bC (iC (eW rfl (ag4 (cm.cons T.jC T.j6 T.Gd (cm.cons T.kR T.lO T.Gu (cm.cons T.j7 T.kM T.Gi cm.nil))) rfl (B.gl _ lD) T.eO (B.gl _ QY) T.HE UU nofun nofun (B.jv 4 rfl kJ lm)))) (aN (bp aG)) bS) (aO (bC (fj (lT (eW rfl (pG (cm.cons T.jC T.j6 T.Bc (cm.cons T.kR T.lO T.Bg (cm.cons T.j7 T.kM T.Be cm.nil))) rfl (B.gl _ lD) T.eO (B.gl _ Gj) T.qS nofun (B.jv 4 rfl kJ lm))) (fg (eW rfl (pG (cm.cons T.jC T.j6 T.Bh (cm.cons T.kR T.lO T.Br (cm.cons T.j7 T.kM T.Bm cm.nil))) rfl (B.gl _ lD) T.eO (B.gl _ GJ) T.ux nofun (B.jv 4 rfl kJ lm)))))) (aN (bp aG)) bS) (aO (bC (eW rfl (pG (cm.cons T.jC T.j6 T.Bc (cm.cons T.kR T.lO T.Bg (cm.cons T.j7 T.kM T.Be cm.nil))) rfl (B.gl _ lD) T.eO (B.gl _ Gj) T.qS nofun (B.jv 4 rfl kJ lm))) (aN (bp (Nr (by intro _ _;rfl) (bB (ah rfl (bu (ah rfl aG (ah rfl (LH T.jC T.j6 T.BB T.BC (B.jv 4 rfl kJ lm)) aq))) (ah rfl aG aq))) (sd rfl nofun nofun IU Mg (B.gl _ G4) T.zS aoO (ah rfl (kf Jd aqg nofun nofun rfl (B.gl _ lD) T.eO (B.gl _ TZ) T.Dh (LH T.jC T.j6 T.BB T.BC (B.jv 4 rfl kJ lm))) aq))))) bS) (aN (bp (Nr (by intro _ _;rfl) (bB (ah rfl aG (ah rfl aG aq))) (sd rfl nofun nofun IU Mg (B.gl _ G4) T.zS aoO (ah rfl (pG (cm.cons T.jC T.j6 T.Bh (cm.cons T.kR T.lO T.Br (cm.cons T.j7 T.kM T.Bm cm.nil))) rfl (B.gl _ lD) T.eO (B.gl _ GJ) T.ux nofun (B.jv 4 rfl kJ lm)) aq)))))))))) (Tx.cast h1 h2 T))))
theorem BO(T:Tx K mg):bK P w K mg base (bF P w) 7 T.a_law_said T.yo ["_law_way","_law_rows"] (bY K mg 2 (fM j8 5 2)):=cF rfl rfl T.m8 Y5 fun{X} h1 h2 h3 h4 h5 B hF aL=>by subst h3 h4;exact W5 T B hF aL
theorem U9:ck ["_law_rows","_law_names","_law_row","_law_k"] ["_law_rows"] (ak eN):=⟨rfl,rfl,rfl,nofun,rfl,nofun,nofun⟩
theorem Tj(T:Tx X.K X.mg)(B:Bd X ["_law_rows","_law_names","_law_row","_law_k"] (ak eN) 0)(hF:b6 X)(aL:X.env.scope=ak eN):JB X (a9 eN) oJ:=
 have v0 {p:Pos}:JE X (.Name "_law_rows" p) (af 0):=B.jv 0 rfl Sl lH;have v1 {p:Pos}:JE X (.Name "_law_names" p) (af 1):=B.jv 1 rfl Sm qX;have v2 {p:Pos}:JE X (.Name "_law_row" p) (af 2):=B.jv 2 rfl So rq;have v3 {p:Pos}:JE X (.Name "_law_k" p) (af 3):=B.jv 3 rfl Sr yV
 (aO (B.bN 1 rfl Sn rfl (bB aq)) (aO (B.nV (pv v0) (B.eY 2 rfl Sq) (aN (B.nV (abn (B.gl _ Q6) T.rY rfl rfl (ah rfl ao (ah rfl (dI rfl nofun nofun eS eV (B.gl _ Rz) T.eE alU (ah rfl v2 aq)) aq))) (B.eY 3 rfl Ss) (aN (bC (fj (lT (eW rfl (kf yM aoc nofun nofun rfl (B.gl _ QI) T.eO (B.gl _ RA) T.vn (B.ax v2 v3))) (lT (iC (fj (lT (bt B.eq (B.ax v2 ao) aG) (fg (bt B.eq v3 ao))))) (fg (bt (B.Nv (by with_unfolding_all rfl)) (B.ax v2 v3) v1))))) (aN (jd rfl (iD rfl rfl ame alZ ama kP lY lL v1 (ah rfl (B.ax v2 v3) aq)))) bS))))) (aN (bp v1))))
theorem Va(T:Tx K mg):bK P w K mg base (bF P w) 1 T.a_law_names_of T.xr ["_law_rows"] (bY K mg 1 (fM oJ 4 1)):=cF rfl rfl T.qP U9 fun{X} h1 h2 h3 h4 h5 B hF aL=>by subst h3 h4;exact Tj T B hF aL
theorem W6:ck ["_law_rows","_law_at","_law_found","_law_row"] ["_law_rows","_law_at"] (ak gL):=⟨rfl,rfl,rfl,nofun,rfl,nofun,nofun⟩
theorem Vb(T:Tx X.K X.mg)(B:Bd X ["_law_rows","_law_at","_law_found","_law_row"] (ak gL) 0)(hF:b6 X)(aL:X.env.scope=ak gL):JB X (a9 gL) oS:=
 have v0 {p:Pos}:JE X (.Name "_law_rows" p) (af 0):=B.jv 0 rfl T2 lH;have v1 {p:Pos}:JE X (.Name "_law_at" p) (af 1):=B.jv 1 rfl T3 yF;have v2 {p:Pos}:JE X (.Name "_law_found" p) (af 2):=B.jv 2 rfl T4 HH;have v3 {p:Pos}:JE X (.Name "_law_row" p) (af 3):=B.jv 3 rfl T6 rq
 (aO (B.bN 2 rfl T5 rfl (bB aq)) (aO (B.nV (pv v0) (B.eY 3 rfl GR) (aO (bC (fj (lT (fj (jj (bt B.eq (B.ax v3 ao) aG) (fg (bt B.eq (B.ax v3 ao) aG)))) (fg (bt aiX (B.ax v3 (jJ ao)) v1)))) (aN (B.bN 3 rfl GR rfl (cb (jk v3 jc (gR (jJ ao))) (bu (ah rfl (cb (B.ax v3 (jJ ao)) ao) aq))))) bS) (aN (jd rfl (iD rfl rfl ame alZ ama kP lY lL v2 (ah rfl v3 aq)))))) (aN (bp v2))))
theorem W7(T:Tx K mg):bK P w K mg base (bF P w) 1 T.a_law_turned T.xT ["_law_rows","_law_at"] (bY K mg 2 (fM oS 4 2)):=cF rfl rfl T.qU W6 fun{X} h1 h2 h3 h4 h5 B hF aL=>by subst h3 h4;exact Vb T B hF aL
theorem aak:ck ["_law_rows","_law_at","_law_row"] ["_law_rows","_law_at","_law_row"] (ak ix):=⟨rfl,rfl,rfl,nofun,rfl,nofun,nofun⟩
theorem Ya(T:Tx X.K X.mg)(B:Bd X ["_law_rows","_law_at","_law_row"] (ak ix) 1)(hF:b6 X)(aL:X.env.scope=ak ix):JB X (a9 ix) m9:=
 have v0 {p:Pos}:JE X (.Name "_law_rows" p) (af 0):=B.jv 0 rfl WU lH;have v1 {p:Pos}:JE X (.Name "_law_at" p) (af 1):=B.jv 1 rfl WW yF;have v2 {p:Pos}:JE X (.Name "_law_row" p) (af 2):=B.jv 2 rfl WX rq
 (aO (B.bN 0 rfl WV rfl (bJ rfl nofun (W7 T) bH (B.room.mono (by decide)) (B.gl _ Q7) T.HC T.qU.kp T.oS (ah rfl v0 (ah rfl v1 aq)))) (aN (bp (cb (cb (jk v0 jc (gR v1)) (bB (ah rfl v2 aq))) (jk v0 (gR v1) jc)))))
theorem IF(T:Tx K mg):bK P w K mg base (bF P w) 2 T.a_law_put T.yE ["_law_rows","_law_at","_law_row"] (bY K mg 3 (fM m9 3 3)):=cF rfl rfl T.oY aak fun{X} h1 h2 h3 h4 h5 B hF aL=>by subst h3 h4;exact Ya T B hF aL
theorem V2:ck ["_law_name","_law_many","_law_n","_law_rows"] ["_law_name","_law_many","_law_n"] (ak iq):=⟨rfl,rfl,rfl,nofun,rfl,nofun,nofun⟩
theorem Us(T:Tx X.K X.mg)(B:Bd X ["_law_name","_law_many","_law_n","_law_rows"] (ak iq) 0)(hF:b6 X)(aL:X.env.scope=ak iq):JB X (a9 iq) oP:=
 have v0 {p:Pos}:JE X (.Name "_law_name" p) (af 0):=B.jv 0 rfl Tb YO;have v1 {p:Pos}:JE X (.Name "_law_many" p) (af 1):=B.jv 1 rfl Tc rg;have v2 {p:Pos}:JE X (.Name "_law_n" p) (af 2):=B.jv 2 rfl Td rS;have v3 {p:Pos}:JE X (.Name "_law_rows" p) (af 3):=B.jv 3 rfl Te lH
 (aO (B.bN 3 rfl oC rfl (bB (ah rfl (bu (ah rfl aG (ah rfl v0 (ah rfl ao aq)))) (ah rfl (bu (ah rfl aG (ah rfl v0 aq))) (ah rfl (bu (ah rfl aG (ah rfl v0 (ah rfl ao (ah rfl ao aq))))) (ah rfl (bB (ah rfl aG (ah rfl v0 aq))) (ah rfl (bu (ah rfl aG aq)) (ah rfl (bu aq) (ah rfl iB (ah rfl aG aq)))))))))) (aO (B.bN 3 rfl oC rfl (cb v3 (bB (ah rfl (bu (ah rfl aG (ah rfl (MO (ahB v0 jc (gR ao)) ao) aq))) (ah rfl (bu (ah rfl aG (ah rfl aG aq))) (ah rfl (bu (ah rfl aG (ah rfl aG aq))) (ah rfl (bu (ah rfl aG (ah rfl aG aq))) (ah rfl (bu (ah rfl aG (ah rfl aG aq))) (ah rfl (bu (ah rfl aG (ah rfl ao aq))) aq))))))))) (aO (B.bN 3 rfl oC rfl (cb v3 (bB (ah rfl (bu (ah rfl aG (ah rfl aG aq))) (ah rfl (bu (ah rfl aG (ah rfl v0 (ah rfl ao aq)))) (ah rfl (bu (ah rfl aG (ah rfl v0 (ah rfl (jJ ao) aq)))) (ah rfl (bu (ah rfl aG (ah rfl v0 (ah rfl gb aq)))) aq))))))) (aO (B.bN 3 rfl oC rfl (cb v3 (bB (ah rfl (bu (ah rfl aG (ah rfl v0 (ah rfl iB aq)))) (ah rfl (bu (ah rfl aG (ah rfl v0 (ah rfl aG (ah rfl v0 (ah rfl v0 aq)))))) (ah rfl (bu (ah rfl aG (ah rfl v0 (ah rfl ao (ah rfl v0 (ah rfl v0 aq)))))) (ah rfl (bu (ah rfl aG (ah rfl (jJ ao) aq))) aq))))))) (aO (B.bN 3 rfl oC rfl (cb v3 (bB (ah rfl (bu (ah rfl aG (ah rfl (cb v1 ao) aq))) (ah rfl (bu (ah rfl aG (ah rfl v0 (ah rfl aG aq)))) (ah rfl (bu (ah rfl aG (ah rfl v0 (ah rfl gb aq)))) (ah rfl (bu (ah rfl aG (ah rfl v0 aq))) (ah rfl (bu (ah rfl aG (ah rfl ao aq))) (ah rfl (bu (ah rfl aG (ah rfl v0 aq))) aq))))))))) (aO (B.bN 3 rfl oC rfl (cb v3 (bB (ah rfl (bu (ah rfl aG (ah rfl v0 (ah rfl aG (ah rfl v0 aq))))) (ah rfl (bu (ah rfl aG (ah rfl v0 (ah rfl v0 (ah rfl v0 aq))))) (ah rfl (bu (ah rfl aG (ah rfl iB aq))) (ah rfl (bu (ah rfl ao (ah rfl v0 aq))) aq))))))) (aO (B.bN 3 rfl oC rfl (cb v3 (bB (ah rfl (bu (ah rfl aG (ah rfl v0 (ah rfl aG aq)))) (ah rfl (bu (ah rfl aG (ah rfl v0 (ah rfl gb aq)))) (ah rfl (bu (ah rfl aG (ah rfl gb aq))) aq)))))) (aN (bp (B.ax v3 (bQ v2 ao)))))))))))
theorem V3(T:Tx K mg):bK P w K mg base (bF P w) 1 T.a_law_bad_row T.xI ["_law_name","_law_many","_law_n"] (bY K mg 3 (fM oP 4 3)):=cF rfl rfl T.qR V2 fun{X} h1 h2 h3 h4 h5 B hF aL=>by subst h3 h4;exact Us T B hF aL
theorem W8:ck ["_law_rows","_law_names","_law_n","_law_at","_law_goal","_law_plain","_law_last","_law_ahead"] ["_law_rows","_law_names","_law_n"] (ak dc):=⟨rfl,rfl,rfl,nofun,rfl,nofun,nofun⟩
theorem Vc(T:Tx X.K X.mg)(B:Bd X ["_law_rows","_law_names","_law_n","_law_at","_law_goal","_law_plain","_law_last","_law_ahead"] (ak dc) 2)(hF:b6 X)(aL:X.env.scope=ak dc):JB X (a9 dc) oU:=
 have v0 {p:Pos}:JE X (.Name "_law_rows" p) (af 0):=B.jv 0 rfl T7 lH;have v1 {p:Pos}:JE X (.Name "_law_names" p) (af 1):=B.jv 1 rfl T8 qX;have v2 {p:Pos}:JE X (.Name "_law_n" p) (af 2):=B.jv 2 rfl T9 rS;have v3 {p:Pos}:JE X (.Name "_law_at" p) (af 3):=B.jv 3 rfl Ua yF;have v4 {p:Pos}:JE X (.Name "_law_goal" p) (af 4):=B.jv 4 rfl Uc YQ;have v5 {p:Pos}:JE X (.Name "_law_plain" p) (af 5):=B.jv 5 rfl Ud XM;have v6 {p:Pos}:JE X (.Name "_law_last" p) (af 6):=B.jv 6 rfl Ug YR;have v7 {p:Pos}:JE X (.Name "_law_ahead" p) (af 7):=B.jv 7 rfl Uh XN
 (aO (B.bN 3 rfl Ub rfl (bQ (cx v2 ao) (cb (dI rfl nofun nofun eS eV (B.gl _ uc) T.eE alU (ah rfl v0 aq)) ao))) (aO (bC (bt B.eq (bQ v2 ao) ao) (aN (bp (bB (ah rfl (B.ax (bB (ah rfl (sd rfl nofun nofun WD acZ (B.gl _ RB) T.CN apX (ah rfl v0 aq)) (ah rfl iB (ah rfl aG (ah rfl Ml (ah rfl ao aq)))))) (bQ (cx v2 ao) ao)) (ah rfl iB aq))))) bS) (aO (bC (bt B.eq (bQ v2 ao) ao) (aN (bp (bB (ah rfl (cb (je (jk v0 jc (gR ao)) ao) (je (bB (ah rfl (bu (ah rfl aG aq)) aq)) (lS ao (je ao (dI rfl nofun nofun eS eV (B.gl _ uc) T.eE alU (ah rfl (jk v0 jc (gR ao)) aq)))))) (ah rfl iB aq))))) bS) (aO (bC (bt B.eq (bQ v2 ao) ao) (aO (B.bN 4 rfl GS rfl (bQ (cx v2 ao) (cb v3 ao))) (aO (bC (fj (lT (bt lZ v4 v3) (fg (bt B.eq (B.ax v0 v4) (bu (ah rfl aG aq)))))) (aN (B.bN 4 rfl GS rfl v3)) bS) (aO (B.bN 0 rfl Bs rfl (bJ rfl nofun (IF T) bH (B.room.mono (by decide)) (B.gl _ Gm) T.B3 T.oY.kp T.m9 (ah rfl v0 (ah rfl v3 (ah rfl (B.ax (bB (ah rfl (bu (ah rfl aG (ah rfl v4 aq))) (ah rfl (bu (ah rfl aG (ah rfl (B.ax v1 ao) (ah rfl v4 aq)))) aq))) (bQ (cx v2 ao) ao)) aq))))) (aN (bp (bB (ah rfl (cb v0 (je (bB (ah rfl (bu (ah rfl aG (ah rfl aG aq))) aq)) (bQ (cx v2 ao) ao))) (ah rfl v3 aq)))))))) bS) (aO (bC (bt B.eq (bQ v2 ao) ao) (aO (CC (i:=5) (by rw[B.hN];exact B.nd) (by rw[B.hN];rfl) (B.fn _ Ue).2 (by rw[aL];decide +kernel) B.calm (N':=["_law_row"]) (Bd.cap B.hN aL nofun) (pv v0) (mw B T nofun nofun fun{X} B T=>(B.eY 0 rfl (.inl rfl))) (mz B T nofun nofun fun{X} B T=>(Mh (fj (lT (bt B.ne (B.ax (B.jv 0 rfl (.inl rfl) rq) ao) aG) (fg (bt B.ne (B.ax (B.jv 0 rfl (.inl rfl) rq) ao) aG)))))) (mB B T nofun nofun fun{X} B T=>(B.jv 0 rfl (.inl rfl) rq)) (BZ (by rw[aL];rfl) (by rw[aL];decide +kernel) rfl nofun)) (aO (B.bN 6 rfl GU rfl (bB (ah rfl (bu (ah rfl aG (ah rfl aG aq))) (ah rfl (bu (ah rfl aG (ah rfl aG aq))) (ah rfl (bu (ah rfl aG (ah rfl aG (ah rfl aG aq)))) (ah rfl (bu (ah rfl aG (ah rfl aG (ah rfl aG (ah rfl aG (ah rfl aG aq)))))) aq)))))) (aO (B.bN 6 rfl GU rfl (cb v6 (bB (ah rfl (bu (ah rfl aG (ah rfl aG (ah rfl aG (ah rfl aG (ah rfl aG aq)))))) (ah rfl (bu (ah rfl aG (ah rfl aG (ah rfl ao aq)))) aq))))) (aO (B.bN 7 rfl Ui rfl (cb (rV B.calm (N':=["_law_sign"]) (Bd.cap B.hN aL nofun) (ML aG) (mw B T nofun nofun fun{X} B T=>(B.eY 0 rfl (.inl rfl))) (mz B T nofun nofun fun{X} B T=>pF) (mB B T nofun nofun fun{X} B T=>(bu (ah rfl aG (ah rfl (MO (B.jv 0 rfl (.inl rfl) Ic) ao) aq))))) (bB (ah rfl (B.ax v6 (bQ (cx v2 ao) ao)) aq)))) (aN (bp (bB (ah rfl (cb (cb v7 (jk v5 jc (gR ao))) (je (bB (ah rfl iB aq)) (bQ (cx v2 ao) ao))) (ah rfl ao aq))))))))) bS) (aO (B.bN 0 rfl Bs rfl (bJ rfl nofun (IF T) bH (B.room.mono (by decide)) (B.gl _ Gm) T.B3 T.oY.kp T.m9 (ah rfl v0 (ah rfl v3 (ah rfl (bJ rfl nofun (V3 T) bH (B.room.mono (by decide)) (B.gl _ QN) T.Ho T.qR.kp T.oP (ah rfl (B.ax v1 (bQ (cx v2 ao) (dI rfl nofun nofun eS eV (B.gl _ uc) T.eE alU (ah rfl v1 aq)))) (ah rfl (dI rfl nofun nofun eS eV (B.gl _ uc) T.eE alU (ah rfl v0 aq)) (ah rfl (cx v2 ao) aq)))) aq))))) (aO (bC (bt B.eq (bQ (cx v2 ao) ao) ao) (aN (B.bN 0 rfl Bs rfl (cb v0 (B.ax (bB (ah rfl (bB (ah rfl (bu (ah rfl aG (ah rfl aG aq))) (ah rfl iB aq))) (ah rfl (bB (ah rfl (bu (ah rfl aG (ah rfl aG aq))) aq)) (ah rfl (bB (ah rfl (bu (ah rfl aG (ah rfl (dI rfl nofun nofun eS eV (B.gl _ uc) T.eE alU (ah rfl v0 aq)) aq))) aq)) aq)))) (bQ (cx v2 ao) ao))))) bS) (aN (bp (bB (ah rfl v0 (ah rfl v3 aq))))))))))))
theorem W9(T:Tx K mg):bK P w K mg base (bF P w) 3 T.a_law_spoilt T.xU ["_law_rows","_law_names","_law_n"] (bY K mg 3 (fM oU 8 3)):=cF rfl rfl T.qV W8 fun{X} h1 h2 h3 h4 h5 B hF aL=>by subst h3 h4;exact Vc T B hF aL
theorem ahE:ck ["_law_script","_law_names","_law_many","_law_rows","_law_n","_law_ways","_law_handed","_law_found","_law_spoilt_here"] ["_law_script"] (ak cy):=⟨rfl,rfl,rfl,nofun,rfl,nofun,nofun⟩
theorem adx(T:Tx X.K X.mg)(B:Bd X ["_law_script","_law_names","_law_many","_law_rows","_law_n","_law_ways","_law_handed","_law_found","_law_spoilt_here"] (ak cy) 7)(hF:b6 X)(aL:X.env.scope=ak cy):JB X (a9 cy) sN:=
 have v0 {p:Pos}:JE X (.Name "_law_script" p) (af 0):=B.jv 0 rfl abN BD;have v1 {p:Pos}:JE X (.Name "_law_names" p) (af 1):=B.jv 1 rfl abO qX;have v2 {p:Pos}:JE X (.Name "_law_many" p) (af 2):=B.jv 2 rfl abQ rg;have v3 {p:Pos}:JE X (.Name "_law_rows" p) (af 3):=B.jv 3 rfl abR lH;have v4 {p:Pos}:JE X (.Name "_law_n" p) (af 4):=B.jv 4 rfl abT rS;have v5 {p:Pos}:JE X (.Name "_law_ways" p) (af 5):=B.jv 5 rfl abV YS;have v6 {p:Pos}:JE X (.Name "_law_handed" p) (af 6):=B.jv 6 rfl abX WH;have v7 {p:Pos}:JE X (.Name "_law_found" p) (af 7):=B.jv 7 rfl abZ HH;have v8 {p:Pos}:JE X (.Name "_law_spoilt_here" p) (af 8):=B.jv 8 rfl ab1 GD
 (aO (B.bN 1 rfl abP rfl (bJ rfl nofun (U6 T) bH (B.room.mono (by decide)) (B.gl _ RC) T.Hb T.qO.kp T.oI (ah rfl (bJ rfl nofun (oM T) bH (B.room.mono (by decide)) (B.gl _ qI) T.m5 T.jB.kp T.iX (ah rfl v0 (ah rfl ao aq))) (ah rfl (cb ao (bQ (bJ rfl nofun (oM T) bH (B.room.mono (by decide)) (B.gl _ qI) T.m5 T.jB.kp T.iX (ah rfl v0 (ah rfl ao aq))) ao)) aq)))) (aO (B.bN 2 rfl Jv rfl (bQ (cx (bJ rfl nofun (oM T) bH (B.room.mono (by decide)) (B.gl _ qI) T.m5 T.jB.kp T.iX (ah rfl v0 (ah rfl ao aq))) ao) ao)) (aO (bC (bt B.eq (bQ (cx (bJ rfl nofun (oM T) bH (B.room.mono (by decide)) (B.gl _ qI) T.m5 T.jB.kp T.iX (ah rfl v0 (ah rfl ao aq))) ao) ao) ao) (aN (B.bN 2 rfl Jv rfl (cb ao (bQ (cx (bJ rfl nofun (oM T) bH (B.room.mono (by decide)) (B.gl _ qI) T.m5 T.jB.kp T.iX (ah rfl v0 (ah rfl ao aq))) ao) ao)))) bS) (aO (B.bN 3 rfl abS rfl (bJ rfl nofun (VY T) bH (B.room.mono (by decide)) (B.gl _ Su) T.Hn T.qQ.kp T.oO (ah rfl v0 (ah rfl ao (ah rfl v2 (ah rfl v1 aq)))))) (aO (B.bN 4 rfl abU rfl (bQ (je (bJ rfl nofun (oM T) bH (B.room.mono (by decide)) (B.gl _ qI) T.m5 T.jB.kp T.iX (ah rfl v0 (ah rfl ao aq))) ao) ao)) (aO (B.bN 5 rfl abW rfl (bB (ah rfl ao (ah rfl (cb ao (bQ (cx v4 ao) ao)) aq)))) (aO (bC (bt B.eq (bQ v4 ao) ao) (aO (B.bN 6 rfl abY rfl (sd rfl nofun nofun (BR B.calm) CG (B.gl _ Ih) T.pI amM (ah rfl v3 aq))) (aO (B.bN 7 rfl ab0 rfl (bJ rfl nofun (BO T) bH (B.room.mono (by decide)) (B.gl _ G5) T.yp T.m8.kp T.j8 (ah rfl ao (ah rfl v6 aq)))) (aO (bC (fj (jj (iC (eW rfl (kf BX amM nofun nofun rfl (B.gl _ Tf) T.eO (B.gl _ Ih) T.pI v7))) (jj (bt B.ne v7 (bJ rfl nofun (Va T) bH (B.room.mono (by decide)) (B.gl _ RD) T.Hc T.qP.kp T.oJ (ah rfl v3 aq))) (fg (bt B.ne v6 v3))))) (aN (bp gb)) bS) (aN (bp (C6 (uO B.eq (bJ rfl nofun (BO T) bH (B.room.mono (by decide)) (B.gl _ G5) T.yp T.m8.kp T.j8 (ah rfl (B.ax v5 ao) (ah rfl v6 aq))) aG) (C5 (uO B.eq v6 v3)))))))) bS) (aO (B.bN 8 rfl ab2 rfl (bJ rfl nofun (W9 T) bH (B.room.mono (by decide)) (B.gl _ Tg) T.HD T.qV.kp T.oU (ah rfl v3 (ah rfl v1 (ah rfl (cx v4 ao) aq))))) (aN (bp (uO B.eq (rV B.calm (N':=["_law_way","_law_spoilt_here"]) (Bd.cap B.hN aL nofun) (pv v5) (mw B T nofun nofun fun{X} B T=>(B.eY 0 rfl (.inl rfl))) (mz B T nofun nofun fun{X} B T=>pF) (mB B T nofun nofun fun{X} B T=>(bJ rfl nofun (BO T) bH (B.room.mono (by decide)) (B.gl _ rfl) T.yp T.m8.kp T.j8 (ah rfl (B.jv 0 rfl (.inl rfl) yq) (ah rfl (B.ax (B.jv 1 rfl (.inr (.inr rfl)) GD) ao) aq))))) (bB (ah rfl (bu (ah rfl aG (ah rfl (B.ax v8 ao) aq))) (ah rfl (bu (ah rfl aG (ah rfl (B.ax v8 ao) aq))) aq))))))))))))))
theorem ahF(T:Tx K mg):bK P w K mg base (bF P w) 8 T.a_law T.zQ ["_law_script"] (bY K mg 1 (fM sN 9 1)):=cF rfl rfl T.vm ahE fun{X} h1 h2 h3 h4 h5 B hF aL=>by subst h3 h4;exact adx T B hF aL
end
theorem all_mk{l:aqs}{w:World}{K:acs}{h:Heap}{mg:Str->Option Value}{fa:Addr}(KX:K.In h)(G:h.Ns alc mg)(hfa:mg "law"=some (.ref fa))
  {xt:Addr} {V4 V5:Option Addr} {V6:Array (Option Value)} {V7 V8 V9 Wa Hi Wb:Value}
  {xk:Addr} {Vd Ve:Option Addr} {Vf:Array (Option Value)} {Vg Vh Vi Vj G7 Vk:Value}
  {xb:Addr} {Ut Uu:Option Addr} {Uv:Array (Option Value)} {Uw Ux Uy Uz GW UA:Value}
  {xu:Addr} {Wc We:Option Addr} {Wf:Array (Option Value)} {Wg Wh Wi Wj Hj Wk:Value}
  {xN:Addr} {Xa Xb:Option Addr} {Xc:Array (Option Value)} {Xd Xe Xf Xg Hs Xh:Value}
  {xw:Addr} {Wl Wm:Option Addr} {Wn:Array (Option Value)} {Wo Wq Wr Ws Hk Wt:Value}
  {yr:Addr} {aal aam:Option Addr} {aan:Array (Option Value)} {aao aap aaq aar IH aas:Value}
  {xX:Addr} {Yb Yc:Option Addr} {Yd:Array (Option Value)} {Ye Yf Yg Yh HI Yi:Value}
  {yt:Addr} {aat aau:Option Addr} {aav:Array (Option Value)} {aaw aax aay aaz IJ aaA:Value}
  {yf:Addr} {Y6 Y7:Option Addr} {Y8:Array (Option Value)} {Y9 Za Zb Zc Ii Zd:Value}
  {yu:Addr} {aaB aaC:Option Addr} {aaD:Array (Option Value)} {aaE aaF aaG aaH IK aaI:Value}
  {yH:Addr} {aca acb:Option Addr} {acd:Array (Option Value)} {ace acf acg ach Jw aci:Value}
  {xc:Addr} {UB UC:Option Addr} {UD:Array (Option Value)} {UE UG UH UI GX UJ:Value}
  {wW:Addr} {RG RH:Option Addr} {RI:Array (Option Value)} {RJ RK RL RM Gx RN:Value}
  {xg:Addr} {UK UL:Option Addr} {UM:Array (Option Value)} {UN UO UP UQ GY UR:Value}
  {xl:Addr} {Vl Vm:Option Addr} {Vn:Array (Option Value)} {Vo Vp Vq Vr G8 Vs:Value}
  {yg:Addr} {Ze Zf:Option Addr} {Zg:Array (Option Value)} {Zh Zi Zj Zk Ij Zl:Value}
  {ul:Addr} {Zm Zn:Option Addr} {Zo:Array (Option Value)} {Zp Zq Zr Zs Ik Zt:Value}
  {ze:Addr} {afh afi:Option Addr} {afj:Array (Option Value)} {afk afl afm afn LM afo:Value}
  {zw:Addr} {ahG ahH:Option Addr} {ahI:Array (Option Value)} {ahJ ahK ahL ahM MR ahN:Value}
  {yI:Addr} {acj ack:Option Addr} {acl:Array (Option Value)} {acm acn aco acp Jx acq:Value}
  {yh:Addr} {Zu Zv:Option Addr} {Zw:Array (Option Value)} {Zx Zy Zz ZA Il ZC:Value}
  {yX:Addr} {ady adz:Option Addr} {adA:Array (Option Value)} {adB adC adD adE Kv adF:Value}
  {xY:Addr} {Yj Yk:Option Addr} {Yl:Array (Option Value)} {Ym Yn Yo Yp HJ Yq:Value}
  {yJ:Addr} {acr acu:Option Addr} {acv:Array (Option Value)} {acw acx acy acz Jy acA:Value}
  {yv:Addr} {aaJ aaK:Option Addr} {aaL:Array (Option Value)} {aaM aaN aaO aaP IP aaQ:Value}
  {xZ:Addr} {Yr Ys:Option Addr} {Yt:Array (Option Value)} {Yu Yv Yw Yx HK Yy:Value}
  {yi:Addr} {ZD ZE:Option Addr} {ZF:Array (Option Value)} {ZG ZH ZI ZJ Im ZK:Value}
  {xm:Addr} {Vt Vu:Option Addr} {Vv:Array (Option Value)} {Vw Vx Vy Vz G9 VA:Value}
  {xO:Addr} {Xi Xj:Option Addr} {Xk:Array (Option Value)} {Xl Xm Xn Xo Ht Xp:Value}
  {yw:Addr} {aaR aaS:Option Addr} {aaT:Array (Option Value)} {aaU aaV aaW aaX IQ aaY:Value}
  {xx:Addr} {Wu Wv:Option Addr} {Ww:Array (Option Value)} {Wx Wy Wz WA Hl WB:Value}
  {xP:Addr} {Xq Xr:Option Addr} {Xs:Array (Option Value)} {Xt Xu Xv Xw Hu Xx:Value}
  {Di:Addr} {ahO MT:Option Addr} {ahP:Array (Option Value)} {ahQ MU MV MW Dj MX:Value}
  {pe:Addr}
  {uT:Tok}
  {uw:Tok}
  {ud:Tok}
  {uh:Tok}
  {uk:Tok}
  {ui:Tok}
  {pf:Addr}
  {ei:Addr}
  {ua GK:Addr} {GL:Obj} {Sz:Nat} {SA SD:Option Addr} {SE:Array (Option Value)} {SG SH SI SJ GN SK:Value} {BH:ClassData}
  {kO:Addr}
  {iA:Addr}
  {gf:Addr}
  {fO:Addr}
  {ur:Addr}
  {uC:Addr}
  (a_law_cell_at:ale K alc "_law_cell_at"=some (some (.ref xt)))
  (l_law_cell_at:K.lookup xt=some ⟨V7,V4,.func (alw "_law_cell_at" "_law_cell_at" (b0 jA) (a9 jA) (ak jA) .none V8 V9 Wa V5 Hi Wb),V6⟩)
  (c_law_cell_at:als K Hi "_law_cell_at"=true)
  (k_law_cell_at:alm K (.ref xt)=true)
  (a_law_names_by:ale K alc "_law_names_by"=some (some (.ref xk)))
  (l_law_names_by:K.lookup xk=some ⟨Vg,Vd,.func (alw "_law_names_by" "_law_names_by" (b0 c5) (a9 c5) (ak c5) .none Vh Vi Vj Ve G7 Vk),Vf⟩)
  (c_law_names_by:als K G7 "_law_names_by"=true)
  (k_law_names_by:alm K (.ref xk)=true)
  (a_law_number_by:ale K alc "_law_number_by"=some (some (.ref xb)))
  (l_law_number_by:K.lookup xb=some ⟨Uw,Ut,.func (alw "_law_number_by" "_law_number_by" (b0 kH) (a9 kH) (ak kH) .none Ux Uy Uz Uu GW UA),Uv⟩)
  (c_law_number_by:als K GW "_law_number_by"=true)
  (k_law_number_by:alm K (.ref xb)=true)
  (a_law_jump_by:ale K alc "_law_jump_by"=some (some (.ref xu)))
  (l_law_jump_by:K.lookup xu=some ⟨Wg,Wc,.func (alw "_law_jump_by" "_law_jump_by" (b0 ip) (a9 ip) (ak ip) .none Wh Wi Wj We Hj Wk),Wf⟩)
  (c_law_jump_by:als K Hj "_law_jump_by"=true)
  (k_law_jump_by:alm K (.ref xu)=true)
  (a_law_row_by:ale K alc "_law_row_by"=some (some (.ref xN)))
  (l_law_row_by:K.lookup xN=some ⟨Xd,Xa,.func (alw "_law_row_by" "_law_row_by" (b0 cT) (a9 cT) (ak cT) .none Xe Xf Xg Xb Hs Xh),Xc⟩)
  (c_law_row_by:als K Hs "_law_row_by"=true)
  (k_law_row_by:alm K (.ref xN)=true)
  (a_law_rows_by:ale K alc "_law_rows_by"=some (some (.ref xw)))
  (l_law_rows_by:K.lookup xw=some ⟨Wo,Wl,.func (alw "_law_rows_by" "_law_rows_by" (b0 dW) (a9 dW) (ak dW) .none Wq Wr Ws Wm Hk Wt),Wn⟩)
  (c_law_rows_by:als K Hk "_law_rows_by"=true)
  (k_law_rows_by:alm K (.ref xw)=true)
  (a_is_name:ale K alc "is_name"=some (some (.ref yr)))
  (l_is_name:K.lookup yr=some ⟨aao,aal,.func (alw "is_name" "is_name" (b0 gO) (a9 gO) (ak gO) .none aap aaq aar aam IH aas),aan⟩)
  (c_is_name:als K IH "is_name"=true)
  (k_is_name:alm K (.ref yr)=true)
  (a_is_number:ale K alc "is_number"=some (some (.ref xX)))
  (l_is_number:K.lookup xX=some ⟨Ye,Yb,.func (alw "is_number" "is_number" (b0 ir) (a9 ir) (ak ir) .none Yf Yg Yh Yc HI Yi),Yd⟩)
  (c_is_number:als K HI "is_number"=true)
  (k_is_number:alm K (.ref xX)=true)
  (a_is_word:ale K alc "is_word"=some (some (.ref yt)))
  (l_is_word:K.lookup yt=some ⟨aaw,aat,.func (alw "is_word" "is_word" (b0 ja) (a9 ja) (ak ja) .none aax aay aaz aau IJ aaA),aav⟩)
  (c_is_word:als K IJ "is_word"=true)
  (k_is_word:alm K (.ref yt)=true)
  (a_is_place:ale K alc "is_place"=some (some (.ref yf)))
  (l_is_place:K.lookup yf=some ⟨Y9,Y6,.func (alw "is_place" "is_place" (b0 jD) (a9 jD) (ak jD) .none Za Zb Zc Y7 Ii Zd),Y8⟩)
  (c_is_place:als K Ii "is_place"=true)
  (k_is_place:alm K (.ref yf)=true)
  (a_is_part:ale K alc "is_part"=some (some (.ref yu)))
  (l_is_part:K.lookup yu=some ⟨aaE,aaB,.func (alw "is_part" "is_part" (b0 fZ) (a9 fZ) (ak fZ) .none aaF aaG aaH aaC IK aaI),aaD⟩)
  (c_is_part:als K IK "is_part"=true)
  (k_is_part:alm K (.ref yu)=true)
  (a_is_row:ale K alc "is_row"=some (some (.ref yH)))
  (l_is_row:K.lookup yH=some ⟨ace,aca,.func (alw "is_row" "is_row" (b0 fe) (a9 fe) (ak fe) .none acf acg ach acb Jw aci),acd⟩)
  (c_is_row:als K Jw "is_row"=true)
  (k_is_row:alm K (.ref yH)=true)
  (a_parts_of_kind:ale K alc "parts_of_kind"=some (some (.ref xc)))
  (l_parts_of_kind:K.lookup xc=some ⟨UE,UB,.func (alw "parts_of_kind" "parts_of_kind" (b0 jz) (a9 jz) (ak jz) .none UG UH UI UC GX UJ),UD⟩)
  (c_parts_of_kind:als K GX "parts_of_kind"=true)
  (k_parts_of_kind:alm K (.ref xc)=true)
  (a_jumps_back_badly:ale K alc "jumps_back_badly"=some (some (.ref wW)))
  (l_jumps_back_badly:K.lookup wW=some ⟨RJ,RG,.func (alw "jumps_back_badly" "jumps_back_badly" (b0 ik) (a9 ik) (ak ik) .none RK RL RM RH Gx RN),RI⟩)
  (c_jumps_back_badly:als K Gx "jumps_back_badly"=true)
  (k_jumps_back_badly:alm K (.ref wW)=true)
  (a_with_names_of:ale K alc "with_names_of"=some (some (.ref xg)))
  (l_with_names_of:K.lookup xg=some ⟨UN,UK,.func (alw "with_names_of" "with_names_of" (b0 fL) (a9 fL) (ak fL) .none UO UP UQ UL GY UR),UM⟩)
  (c_with_names_of:als K GY "with_names_of"=true)
  (k_with_names_of:alm K (.ref xg)=true)
  (a_need_program:ale K alc "need_program"=some (some (.ref xl)))
  (l_need_program:K.lookup xl=some ⟨Vo,Vl,.func (alw "need_program" "need_program" (b0 dj) (a9 dj) (ak dj) .none Vp Vq Vr Vm G8 Vs),Vn⟩)
  (c_need_program:als K G8 "need_program"=true)
  (k_need_program:alm K (.ref xl)=true)
  (a_need_run:ale K alc "need_run"=some (some (.ref yg)))
  (l_need_run:K.lookup yg=some ⟨Zh,Ze,.func (alw "need_run" "need_run" (b0 fN) (a9 fN) (ak fN) .none Zi Zj Zk Zf Ij Zl),Zg⟩)
  (c_need_run:als K Ij "need_run"=true)
  (k_need_run:alm K (.ref yg)=true)
  (a_Run_init:alN K (.ref gf) "__init__"=some (some (.ref ul)))
  (i_Run_init:aov K (.ref ul)=true)
  (l_Run_init:K.lookup ul=some ⟨Zp,Zm,.func (alw "__init__" "Run.__init__" (b0 iZ) (a9 iZ) (ak iZ) .none Zq Zr Zs Zn Ik Zt),Zo⟩)
  (c_Run_init:als K Ik "Run.__init__"=true)
  (k_Run_init:alm K (.ref ul)=true)
  (a_held:ale K alc "held"=some (some (.ref ze)))
  (l_held:K.lookup ze=some ⟨afk,afh,.func (alw "held" "held" (b0 ke) (a9 ke) (ak ke) .none afl afm afn afi LM afo),afj⟩)
  (c_held:als K LM "held"=true)
  (k_held:alm K (.ref ze)=true)
  (a_fit:ale K alc "fit"=some (some (.ref zw)))
  (l_fit:K.lookup zw=some ⟨ahJ,ahG,.func (alw "fit" "fit" (b0 kh) (a9 kh) (ak kh) .none ahK ahL ahM ahH MR ahN),ahI⟩)
  (c_fit:als K MR "fit"=true)
  (k_fit:alm K (.ref zw)=true)
  (a_parted:ale K alc "parted"=some (some (.ref yI)))
  (l_parted:K.lookup yI=some ⟨acm,acj,.func (alw "parted" "parted" (b0 jb) (a9 jb) (ak jb) .none acn aco acp ack Jx acq),acl⟩)
  (c_parted:als K Jx "parted"=true)
  (k_parted:alm K (.ref yI)=true)
  (a_reckoned:ale K alc "reckoned"=some (some (.ref yh)))
  (l_reckoned:K.lookup yh=some ⟨Zx,Zu,.func (alw "reckoned" "reckoned" (b0 iu) (a9 iu) (ak iu) .none Zy Zz ZA Zv Il ZC),Zw⟩)
  (c_reckoned:als K Il "reckoned"=true)
  (k_reckoned:alm K (.ref yh)=true)
  (a_taken:ale K alc "taken"=some (some (.ref yX)))
  (l_taken:K.lookup yX=some ⟨adB,ady,.func (alw "taken" "taken" (b0 kb) (a9 kb) (ak kb) .none adC adD adE adz Kv adF),adA⟩)
  (c_taken:als K Kv "taken"=true)
  (k_taken:alm K (.ref yX)=true)
  (a_make_turn:ale K alc "make_turn"=some (some (.ref xY)))
  (l_make_turn:K.lookup xY=some ⟨Ym,Yj,.func (alw "make_turn" "make_turn" (b0 kL) (a9 kL) (ak kL) .none Yn Yo Yp Yk HJ Yq),Yl⟩)
  (c_make_turn:als K HJ "make_turn"=true)
  (k_make_turn:alm K (.ref xY)=true)
  (a_do_row:ale K alc "do_row"=some (some (.ref yJ)))
  (l_do_row:K.lookup yJ=some ⟨acw,acr,.func (alw "do_row" "do_row" (b0 gP) (a9 gP) (ak gP) .none acx acy acz acu Jy acA),acv⟩)
  (c_do_row:als K Jy "do_row"=true)
  (k_do_row:alm K (.ref yJ)=true)
  (a_outcome:ale K alc "outcome"=some (some (.ref yv)))
  (l_outcome:K.lookup yv=some ⟨aaM,aaJ,.func (alw "outcome" "outcome" (b0 fc) (a9 fc) (ak fc) .none aaN aaO aaP aaK IP aaQ),aaL⟩)
  (c_outcome:als K IP "outcome"=true)
  (k_outcome:alm K (.ref yv)=true)
  (a_first_run:ale K alc "first_run"=some (some (.ref xZ)))
  (l_first_run:K.lookup xZ=some ⟨Yu,Yr,.func (alw "first_run" "first_run" (b0 gM) (a9 gM) (ak gM) .none Yv Yw Yx Ys HK Yy),Yt⟩)
  (c_first_run:als K HK "first_run"=true)
  (k_first_run:alm K (.ref xZ)=true)
  (a_law_said:ale K alc "_law_said"=some (some (.ref yi)))
  (l_law_said:K.lookup yi=some ⟨ZG,ZD,.func (alw "_law_said" "_law_said" (b0 c6) (a9 c6) (ak c6) .none ZH ZI ZJ ZE Im ZK),ZF⟩)
  (c_law_said:als K Im "_law_said"=true)
  (k_law_said:alm K (.ref yi)=true)
  (a_law_names_of:ale K alc "_law_names_of"=some (some (.ref xm)))
  (l_law_names_of:K.lookup xm=some ⟨Vw,Vt,.func (alw "_law_names_of" "_law_names_of" (b0 eN) (a9 eN) (ak eN) .none Vx Vy Vz Vu G9 VA),Vv⟩)
  (c_law_names_of:als K G9 "_law_names_of"=true)
  (k_law_names_of:alm K (.ref xm)=true)
  (a_law_turned:ale K alc "_law_turned"=some (some (.ref xO)))
  (l_law_turned:K.lookup xO=some ⟨Xl,Xi,.func (alw "_law_turned" "_law_turned" (b0 gL) (a9 gL) (ak gL) .none Xm Xn Xo Xj Ht Xp),Xk⟩)
  (c_law_turned:als K Ht "_law_turned"=true)
  (k_law_turned:alm K (.ref xO)=true)
  (a_law_put:ale K alc "_law_put"=some (some (.ref yw)))
  (l_law_put:K.lookup yw=some ⟨aaU,aaR,.func (alw "_law_put" "_law_put" (b0 ix) (a9 ix) (ak ix) .none aaV aaW aaX aaS IQ aaY),aaT⟩)
  (c_law_put:als K IQ "_law_put"=true)
  (k_law_put:alm K (.ref yw)=true)
  (a_law_bad_row:ale K alc "_law_bad_row"=some (some (.ref xx)))
  (l_law_bad_row:K.lookup xx=some ⟨Wx,Wu,.func (alw "_law_bad_row" "_law_bad_row" (b0 iq) (a9 iq) (ak iq) .none Wy Wz WA Wv Hl WB),Ww⟩)
  (c_law_bad_row:als K Hl "_law_bad_row"=true)
  (k_law_bad_row:alm K (.ref xx)=true)
  (a_law_spoilt:ale K alc "_law_spoilt"=some (some (.ref xP)))
  (l_law_spoilt:K.lookup xP=some ⟨Xt,Xq,.func (alw "_law_spoilt" "_law_spoilt" (b0 dc) (a9 dc) (ak dc) .none Xu Xv Xw Xr Hu Xx),Xs⟩)
  (c_law_spoilt:als K Hu "_law_spoilt"=true)
  (k_law_spoilt:alm K (.ref xP)=true)
  (a_law:ale K alc "law"=some (some (.ref Di)))
  (l_law:K.lookup Di=some ⟨ahQ,ahO,.func (alw "law" "law" (b0 cy) (a9 cy) (ak cy) .none MU MV MW MT Dj MX),ahP⟩)
  (c_law:als K Dj "law"=true)
  (k_law:alm K (.ref Di)=true)
  (z_ValueError:ale K alc "ValueError"=some none)
  (z_all:ale K alc "all"=some none)
  (z_bool:ale K alc "bool"=some none)
  (z_enumerate:ale K alc "enumerate"=some none)
  (z_int:ale K alc "int"=some none)
  (z_isinstance:ale K alc "isinstance"=some none)
  (z_len:ale K alc "len"=some none)
  (z_list:ale K alc "list"=some none)
  (z_range:ale K alc "range"=some none)
  (z_str:ale K alc "str"=some none)
  (z_tuple:ale K alc "tuple"=some none)
  (z_zip:ale K alc "zip"=some none)
  (g_FORMS:ale K alc "FORMS"=some (some (.ref pe)))
  (gk_FORMS:PyProof.Rows.KTD.tabLook (tW K) (fun b=>K.lookup b) pe cP=true)
  (g_HALF:ale K alc "HALF"=some (some (.int (2147483648) uT)))
  (g_LETTERS:ale K alc "LETTERS"=some (some (.str "abcdefghijklmnopqrstuvwxyz" uw)))
  (g_MOST_LETTERS:ale K alc "MOST_LETTERS"=some (some (.int (6) ud)))
  (g_MOST_NAMES:ale K alc "MOST_NAMES"=some (some (.int (12) uh)))
  (g_MOST_ROWS:ale K alc "MOST_ROWS"=some (some (.int (60) uk)))
  (g_MOST_TURNS:ale K alc "MOST_TURNS"=some (some (.int (10000) ui)))
  (g_WORDS:ale K alc "WORDS"=some (some (.ref pf)))
  (gk_WORDS:tW K kU (.ref pf)=true)
  (x_BadProgram:ale K alc "BadProgram"=some (some (.ref ei)))
  (xk_BadProgram:td K ei=true)
  (hi_BadProgram:alN K (.ref ei) "__init__"=some (some (.ref ua))) (hf_BadProgram:aov K (.ref ua)=true)
  (l_BadProgram_init:K.lookup ua=some ⟨SG,SA,.func (alw "__init__" "BadProgram.__init__" (b0 qJ) (a9 qJ) (ak qJ) (.ref GK) SH SI SJ SD GN SK),SE⟩)
  (c_BadProgram_init:als K GN "BadProgram.__init__"=true) (tl_BadProgram_init:K.lookup GK=some GL) (td_BadProgram_init:GL.data=.seq #[.none] Sz)
  (xI_BadProgram:kX K ei ua fh "ValueError.__new__"=true) (kX_BadProgram:alm K (.ref ei)=true) (sA_BadProgram:alN K (.ref ei) "__setattr__"=some (some (.builtin "object.__setattr__")))
  (cd_BadProgram:PySem.W.clsIn K ei=some BH) (ch_BadProgram:BH.hasDict=true) (cm_BadProgram:uR BH.mro=fh) (tk_BadProgram:apb K ei "at"=some none) (hX_BadProgram:anB K ei=true) (nX_BadProgram:alN K (.ref ei) "at"=some none)
  (x_BoxError:ale K alc "BoxError"=some (some (.ref kO)))
  (xk_BoxError:td K kO=true)
  (bA_BoxError:ary K (.ref kO) "__getattribute__"=some (some (.builtin "type.__getattribute__"))) (bR_BoxError:PySem.W.readsIn K kO (.type "type")=true) (bF_BoxError:PySem.W.findCls K (.ref kO) (.type "type") "__init__"=some (.val (.builtin "ValueError.__init__")))
  (xt_BoxError:anM K (.ref kO)=some (.type "type"))
  (x_BadRun:ale K alc "BadRun"=some (some (.ref iA)))
  (xk_BadRun:td K iA=true)
  (xi_BadRun:anK K iA fh "ValueError.__new__"=true)
  (x_Run:ale K alc "Run"=some (some (.ref gf)))
  (pg_Run:aoP K gf arb=true) (hd_Run:anB K gf=true) (po_Run:apD K gf=true) (sa_Run:alN K (.ref gf) "__setattr__"=some (some (.builtin "object.__setattr__")))
  (mk_Run:aqm K gf=true) (kc_Run:alm K (.ref gf)=true)
  (na_at_Run:alN K (.ref gf) "at"=some none)
  (na_holds_Run:alN K (.ref gf) "holds"=some none)
  (na_inputs_Run:alN K (.ref gf) "inputs"=some none)
  (na_takes_Run:alN K (.ref gf) "takes"=some none)
  (na_told_Run:alN K (.ref gf) "told"=some none)
  (na_turns_left_Run:alN K (.ref gf) "turns_left"=some none)
  (na_word_Run:alN K (.ref gf) "word"=some none)
  (x_ByNought:ale K alc "ByNought"=some (some (.ref fO)))
  (xk_ByNought:td K fO=true)
  (xi_ByNought:anK K fO fh "ValueError.__new__"=true)
  (xt_ByNought:anM K (.ref fO)=some (.type "type"))
  (x_BadBoxes:ale K alc "BadBoxes"=some (some (.ref ur)))
  (x_NoText:ale K alc "NoText"=some (some (.ref uC)))
  (y_su_ByNought_ByNought:amS K (.ref fO) (.ref fO)=some true)
  (y_su_ByNought_BoxError:amS K (.ref fO) (.ref kO)=some true)
  (y_su_BadRun_BoxError:amS K (.ref iA) (.ref kO)=some true)
  (y_su_BadProgram_BoxError:amS K (.ref ei) (.ref kO)=some true)
  (y_kt_ByNought_BadBoxes:alu K (.ref fO) (.ref ur)=some false)
  (y_kt_BadRun_BadBoxes:alu K (.ref iA) (.ref ur)=some false)
  (y_kt_BadProgram_BadBoxes:alu K (.ref ei) (.ref ur)=some false)
  (y_kt_ByNought_ByNought:alu K (.ref fO) (.ref fO)=some true)
  (y_kt_BadRun_ByNought:alu K (.ref iA) (.ref fO)=some false)
  (y_kt_BadProgram_ByNought:alu K (.ref ei) (.ref fO)=some false)
  (y_kt_ByNought_NoText:alu K (.ref fO) (.ref uC)=some false)
  (y_kt_BadRun_NoText:alu K (.ref iA) (.ref uC)=some false)
  (y_kt_BadProgram_NoText:alu K (.ref ei) (.ref uC)=some false)
  (y_kt_ByNought_ValueError:alu K (.ref fO) (.type "ValueError")=some true)
  (y_kt_BadRun_ValueError:alu K (.ref iA) (.type "ValueError")=some true)
  (y_kt_BadProgram_ValueError:alu K (.ref ei) (.type "ValueError")=some true)
  (y_kt_ByNought_BadProgram:alu K (.ref fO) (.ref ei)=some false)
  (y_kt_BadRun_BadProgram:alu K (.ref iA) (.ref ei)=some false)
  (y_kt_BadProgram_BadProgram:alu K (.ref ei) (.ref ei)=some true)
  (y_kt_ByNought_BadRun:alu K (.ref fO) (.ref iA)=some false)
  (y_kt_BadRun_BadRun:alu K (.ref iA) (.ref iA)=some true)
  (y_kt_BadProgram_BadRun:alu K (.ref ei) (.ref iA)=some false)
  : ∃fd:alM,(∀(s:ald) (v:Value),BindsTo s fd ⟨[v],[]⟩ [("_law_script",v)])/\∀base:Heap,K.In base->base.Ns alc mg->bK l.prog w K mg base (bF l.prog w) 8 fa fd ["_law_script"] (bY K mg 1 vj):=by
 have e:=hfa.symm.trans (alk KX G a_law);cases e;have jB:=cG (st:=jA) l_law_cell_at c_law_cell_at k_law_cell_at;have qO:=cG (st:=c5) l_law_names_by c_law_names_by k_law_names_by;have qM:=cG (st:=kH) l_law_number_by c_law_number_by k_law_number_by;have oQ:=cG (st:=ip) l_law_jump_by c_law_jump_by k_law_jump_by;have qT:=cG (st:=cT) l_law_row_by c_law_row_by k_law_row_by;have qQ:=cG (st:=dW) l_law_rows_by c_law_rows_by k_law_rows_by;have rE:=cG (st:=gO) l_is_name c_is_name k_is_name;have lG:=cG (st:=ir) l_is_number c_is_number k_is_number;have rF:=cG (st:=ja) l_is_word c_is_word k_is_word;have rk:=cG (st:=jD) l_is_place c_is_place k_is_place;have rG:=cG (st:=fZ) l_is_part c_is_part k_is_part;have rO:=cG (st:=fe) l_is_row c_is_row k_is_row;have oH:=cG (st:=jz) l_parts_of_kind c_parts_of_kind k_parts_of_kind;have qH:=cG (st:=ik) l_jumps_back_badly c_jumps_back_badly k_jumps_back_badly;have qN:=cG (st:=fL) l_with_names_of c_with_names_of k_with_names_of;have oK:=cG (st:=dj) l_need_program c_need_program k_need_program;have rl:=cG (st:=fN) l_need_run c_need_run k_need_run;have uq:=cG (st:=iZ) l_Run_init c_Run_init k_Run_init;have kZ:=cG (st:=ke) l_held c_held k_held;have l8:=cG (st:=kh) l_fit c_fit k_fit;have rP:=cG (st:=jb) l_parted c_parted k_parted;have rm:=cG (st:=iu) l_reckoned c_reckoned k_reckoned;have rX:=cG (st:=kb) l_taken c_taken k_taken;have qZ:=cG (st:=kL) l_make_turn c_make_turn k_make_turn;have rQ:=cG (st:=gP) l_do_row c_do_row k_do_row;have rJ:=cG (st:=fc) l_outcome c_outcome k_outcome;have q0:=cG (st:=gM) l_first_run c_first_run k_first_run;have m8:=cG (st:=c6) l_law_said c_law_said k_law_said;have qP:=cG (st:=eN) l_law_names_of c_law_names_of k_law_names_of;have qU:=cG (st:=gL) l_law_turned c_law_turned k_law_turned;have oY:=cG (st:=ix) l_law_put c_law_put k_law_put;have qR:=cG (st:=iq) l_law_bad_row c_law_bad_row k_law_bad_row;have qV:=cG (st:=dc) l_law_spoilt c_law_spoilt k_law_spoilt;have vm:=cG (st:=cy) l_law c_law k_law;have ub:=ae3 (st:=qJ) l_BadProgram_init c_BadProgram_init tl_BadProgram_init td_BadProgram_init
 let T:Tx K mg:={
  a_law_cell_at:=xt,xE:=_,jB:=jB,m5:=alk KX G a_law_cell_at,iX:=jB.binds (ps:=["_law_script","_law_k"]) (fun _ _ _ _ _ _ us hl=>by obtain⟨_,_,rfl⟩:=gX us hl;rfl),
  a_law_names_by:=xk,xp:=_,qO:=qO,Hb:=alk KX G a_law_names_by,oI:=qO.binds (ps:=["_law_n","_law_many"]) (fun _ _ _ _ _ _ us hl=>by obtain⟨_,_,rfl⟩:=gX us hl;rfl),
  a_law_number_by:=xb,xh:=_,qM:=qM,G1:=alk KX G a_law_number_by,oE:=qM.binds (ps:=["_law_cell"]) (fun _ _ _ _ _ _ us hl=>by obtain⟨_,rfl⟩:=km us hl;rfl),
  a_law_jump_by:=xu,xF:=_,oQ:=oQ,BA:=alk KX G a_law_jump_by,lE:=oQ.binds (ps:=["_law_more","_law_place","_law_many","_law_turns"]) (fun _ _ _ _ _ _ us hl=>by obtain⟨_,_,_,_,rfl⟩:=Em us hl;rfl),
  a_law_row_by:=xN,xS:=_,qT:=qT,HB:=alk KX G a_law_row_by,oR:=qT.binds (ps:=["_law_cell","_law_place","_law_many","_law_names","_law_turns"]) (fun _ _ _ _ _ _ us hl=>by obtain⟨_,_,_,_,_,rfl⟩:=akr us hl;rfl),
  a_law_rows_by:=xw,xG:=_,qQ:=qQ,Hn:=alk KX G a_law_rows_by,oO:=qQ.binds (ps:=["_law_script","_law_first","_law_many","_law_names"]) (fun _ _ _ _ _ _ us hl=>by obtain⟨_,_,_,_,rfl⟩:=Em us hl;rfl),
  a_is_name:=yr,yA:=_,rE:=rE,Jp:=alk KX G a_is_name,kQ:=rE.binds (ps:=["thing"]) (fun _ _ _ _ _ _ us hl=>by obtain⟨_,rfl⟩:=km us hl;rfl),
  a_is_number:=xX,ya:=_,lG:=lG,uj:=alk KX G a_is_number,iY:=lG.binds (ps:=["thing"]) (fun _ _ _ _ _ _ us hl=>by obtain⟨_,rfl⟩:=km us hl;rfl),
  a_is_word:=yt,yB:=_,rF:=rF,Jq:=alk KX G a_is_word,lM:=rF.binds (ps:=["thing"]) (fun _ _ _ _ _ _ us hl=>by obtain⟨_,rfl⟩:=km us hl;rfl),
  a_is_place:=yf,yk:=_,rk:=rk,IB:=alk KX G a_is_place,lI:=rk.binds (ps:=["thing","last_place"]) (fun _ _ _ _ _ _ us hl=>by obtain⟨_,_,rfl⟩:=gX us hl;rfl),
  a_is_part:=yu,yC:=_,rG:=rG,Jr:=alk KX G a_is_part,iy:=rG.binds (ps:=["kind","thing","last_place"]) (fun _ _ _ _ _ _ us hl=>by obtain⟨_,_,_,rfl⟩:=ms us hl;rfl),
  a_is_row:=yH,yS:=_,rO:=rO,Kp:=alk KX G a_is_row,jF:=rO.binds (ps:=["row","last_place"]) (fun _ _ _ _ _ _ us hl=>by obtain⟨_,_,rfl⟩:=gX us hl;rfl),
  a_parts_of_kind:=xc,xi:=_,oH:=oH,Bw:=alk KX G a_parts_of_kind,mZ:=oH.binds (ps:=["row","wanted"]) (fun _ _ _ _ _ _ us hl=>by obtain⟨_,_,rfl⟩:=gX us hl;rfl),
  a_jumps_back_badly:=wW,wX:=_,qH:=qH,Gy:=alk KX G a_jumps_back_badly,mY:=qH.binds (ps:=["rows","at"]) (fun _ _ _ _ _ _ us hl=>by obtain⟨_,_,rfl⟩:=gX us hl;rfl),
  a_with_names_of:=xg,xj:=_,qN:=qN,G2:=alk KX G a_with_names_of,oG:=qN.binds (ps:=["row","names"]) (fun _ _ _ _ _ _ us hl=>by obtain⟨_,_,rfl⟩:=gX us hl;rfl),
  a_need_program:=xl,xq:=_,oK:=oK,By:=alk KX G a_need_program,kI:=oK.binds (ps:=["rows"]) (fun _ _ _ _ _ _ us hl=>by obtain⟨_,rfl⟩:=km us hl;rfl),
  a_need_run:=yg,yl:=_,rl:=rl,IC:=alk KX G a_need_run,lJ:=rl.binds (ps:=["inputs","turns"]) (fun _ _ _ _ _ _ us hl=>by obtain⟨_,_,rfl⟩:=gX us hl;rfl),
  a_Run_init:=ul,ym:=_,uq:=uq,rh:=uq.binds (ps:=["self","inputs","turns"]) (fun _ _ _ _ _ _ us hl=>by obtain⟨_,_,_,rfl⟩:=ms us hl;rfl),
  a_held:=ze,zu:=_,kZ:=kZ,sk:=alk KX G a_held,kY:=kZ.binds (ps:=["run","name"]) (fun _ _ _ _ _ _ us hl=>by obtain⟨_,_,rfl⟩:=gX us hl;rfl),
  a_fit:=zw,zP:=_,l8:=l8,vk:=alk KX G a_fit,l7:=l8.binds (ps:=["number"]) (fun _ _ _ _ _ _ us hl=>by obtain⟨_,rfl⟩:=km us hl;rfl),
  a_parted:=yI,yT:=_,rP:=rP,Kq:=alk KX G a_parted,rM:=rP.binds (ps:=["one","other"]) (fun _ _ _ _ _ _ us hl=>by obtain⟨_,_,rfl⟩:=gX us hl;rfl),
  a_reckoned:=yh,yn:=_,rm:=rm,ID:=alk KX G a_reckoned,rj:=rm.binds (ps:=["word","one","other"]) (fun _ _ _ _ _ _ us hl=>by obtain⟨_,_,_,rfl⟩:=ms us hl;rfl),
  a_taken:=yX,zb:=_,rX:=rX,LJ:=alk KX G a_taken,rW:=rX.binds (ps:=["run"]) (fun _ _ _ _ _ _ us hl=>by obtain⟨_,rfl⟩:=km us hl;rfl),
  a_make_turn:=xY,yb:=_,qZ:=qZ,HQ:=alk KX G a_make_turn,qY:=qZ.binds (ps:=["run"]) (fun _ _ _ _ _ _ us hl=>by obtain⟨_,rfl⟩:=km us hl;rfl),
  a_do_row:=yJ,yU:=_,rQ:=rQ,Kr:=alk KX G a_do_row,rN:=rQ.binds (ps:=["run","row"]) (fun _ _ _ _ _ _ us hl=>by obtain⟨_,_,rfl⟩:=gX us hl;rfl),
  a_outcome:=yv,yD:=_,rJ:=rJ,Js:=alk KX G a_outcome,rC:=rJ.binds (ps:=["rows","inputs","turns"]) (fun _ _ _ _ _ _ us hl=>by obtain⟨_,_,_,rfl⟩:=ms us hl;rfl),
  a_first_run:=xZ,yc:=_,q0:=q0,HR:=alk KX G a_first_run,m7:=q0.binds (ps:=["rows","inputs","turns"]) (fun _ _ _ _ _ _ us hl=>by obtain⟨_,_,_,rfl⟩:=ms us hl;rfl),
  a_law_said:=yi,yo:=_,m8:=m8,yp:=alk KX G a_law_said,j8:=m8.binds (ps:=["_law_way","_law_rows"]) (fun _ _ _ _ _ _ us hl=>by obtain⟨_,_,rfl⟩:=gX us hl;rfl),
  a_law_names_of:=xm,xr:=_,qP:=qP,Hc:=alk KX G a_law_names_of,oJ:=qP.binds (ps:=["_law_rows"]) (fun _ _ _ _ _ _ us hl=>by obtain⟨_,rfl⟩:=km us hl;rfl),
  a_law_turned:=xO,xT:=_,qU:=qU,HC:=alk KX G a_law_turned,oS:=qU.binds (ps:=["_law_rows","_law_at"]) (fun _ _ _ _ _ _ us hl=>by obtain⟨_,_,rfl⟩:=gX us hl;rfl),
  a_law_put:=yw,yE:=_,oY:=oY,B3:=alk KX G a_law_put,m9:=oY.binds (ps:=["_law_rows","_law_at","_law_row"]) (fun _ _ _ _ _ _ us hl=>by obtain⟨_,_,_,rfl⟩:=ms us hl;rfl),
  a_law_bad_row:=xx,xI:=_,qR:=qR,Ho:=alk KX G a_law_bad_row,oP:=qR.binds (ps:=["_law_name","_law_many","_law_n"]) (fun _ _ _ _ _ _ us hl=>by obtain⟨_,_,_,rfl⟩:=ms us hl;rfl),
  a_law_spoilt:=xP,xU:=_,qV:=qV,HD:=alk KX G a_law_spoilt,oU:=qV.binds (ps:=["_law_rows","_law_names","_law_n"]) (fun _ _ _ _ _ _ us hl=>by obtain⟨_,_,_,rfl⟩:=ms us hl;rfl),
  a_law:=fa,zQ:=_,vm:=vm,ajh:=alk KX G a_law,sN:=vm.binds (ps:=["_law_script"]) (fun _ _ _ _ _ _ us hl=>by obtain⟨_,rfl⟩:=km us hl;rfl),
  HE:=amf KX G z_ValueError,
  zR:=amf KX G z_all,
  Dh:=amf KX G z_bool,
  HS:=amf KX G z_enumerate,
  zS:=amf KX G z_int,
  eO:=amf KX G z_isinstance,
  eE:=amf KX G z_len,
  pI:=amf KX G z_list,
  rY:=amf KX G z_range,
  vn:=amf KX G z_str,
  CN:=amf KX G z_tuple,
  DM:=amf KX G z_zip,
  pe:=pe,zc:=alk KX G g_FORMS,cP:=aeV gk_FORMS,
  uT:=uT,su:=alk KX G g_HALF,
  uw:=uw,Jt:=alk KX G g_LETTERS,
  ud:=ud,Hd:=alk KX G g_MOST_LETTERS,
  uh:=uh,HF:=alk KX G g_MOST_NAMES,
  uk:=uk,HU:=alk KX G g_MOST_ROWS,
  ui:=ui,HG:=alk KX G g_MOST_TURNS,
  pf:=pf,LK:=alk KX G g_WORDS,kU:=LD gk_WORDS,
  eh:=ei,jC:=x_BadProgram,qS:=alk KX G x_BadProgram,
  j6:=.of xk_BadProgram,
  qK:=ua,wZ:=_,ub:=ub,w6:=ub.binds (ps:=["self","at"]) (fun _ _ _ _ _ _ _ us hl=>by obtain⟨_,_,rfl⟩:=gX us hl;exact⟨_,rfl,rfl⟩),ug:=xI_BadProgram,hi_BadProgram:=hi_BadProgram,hf_BadProgram:=hf_BadProgram,xJ:=kX_BadProgram,Hq:=⟨sA_BadProgram,⟨_,cd_BadProgram,ch_BadProgram,cm_BadProgram⟩,tk_BadProgram⟩,BB:=hX_BadProgram,BC:=nX_BadProgram,
  lK:=kO,YJ:=x_BoxError,BL:=alk KX G x_BoxError,
  HV:=.of xk_BoxError,
  HW:=⟨bA_BoxError,bR_BoxError,bF_BoxError⟩,
  HX:=xt_BoxError,
  gQ:=iA,kR:=x_BadRun,ux:=alk KX G x_BadRun,
  lO:=.of xk_BadRun,
  B4:=xi_BadRun,
  jO:=gf,cA:=x_Run,MP:=alk KX G x_Run,
  cH:=⟨pg_Run,hd_Run,po_Run,sa_Run⟩,
  mk_Run:=⟨mk_Run,a_Run_init,i_Run_init,kc_Run⟩,
  ng:=na_at_Run,
  oV:=na_holds_Run,
  xM:=na_inputs_Run,
  qW:=na_takes_Run,
  yd:=na_told_Run,
  w8:=na_turns_left_Run,
  oW:=na_word_Run,
  fw:=fO,j7:=x_ByNought,ye:=alk KX G x_ByNought,
  kM:=.of xk_ByNought,
  HY:=xi_ByNought,
  HZ:=xt_ByNought,
  rp:=ur,YK:=x_BadBoxes,Ia:=alk KX G x_BadBoxes,
  rR:=uC,abJ:=x_NoText,Ju:=alk KX G x_NoText,
  Gn:=y_su_ByNought_ByNought,
  Gp:=y_su_ByNought_BoxError,
  Gz:=y_su_BadRun_BoxError,
  Gf:=y_su_BadProgram_BoxError,
  Gq:=y_kt_ByNought_BadBoxes,
  GA:=y_kt_BadRun_BadBoxes,
  Gg:=y_kt_BadProgram_BadBoxes,
  Gr:=y_kt_ByNought_ByNought,
  GB:=y_kt_BadRun_ByNought,
  Gh:=y_kt_BadProgram_ByNought,
  GC:=y_kt_ByNought_NoText,
  GQ:=y_kt_BadRun_NoText,
  Gs:=y_kt_BadProgram_NoText,
  Gi:=y_kt_ByNought_ValueError,
  Gu:=y_kt_BadRun_ValueError,
  Gd:=y_kt_BadProgram_ValueError,
  Be:=y_kt_ByNought_BadProgram,
  Bg:=y_kt_BadRun_BadProgram,
  Bc:=y_kt_BadProgram_BadProgram,
  Bm:=y_kt_ByNought_BadRun,
  Br:=y_kt_BadRun_BadRun,
  Bh:=y_kt_BadProgram_BadRun }
 exact⟨alw "law" "law" (b0 cy) (a9 cy) (ak cy) .none MU MV MW MT Dj MX,fun s v=>.of_eq rfl,fun base _ _=>ahF T⟩
theorem adG{l:aqs}{q:amb}{loose:List Str}{XP:(Str->Option Value)->Heap->Prop}{YP:World->Heap->Prop}{d:DefRec}{K:Params->acs}(good:∀ns:List Int,ns.length<=63->∃ph',vj [.fl (ns.map W.int)] []=.ok (.bl true) ph')(hn:l.most=some 63)(vU:d.params.defaults=[])
  (hY:∀(w:World) (h:Heap),YP w h->(K w.params).In h) (hK:∀w:World,aqN (K w.params)=true) (hT:∀(w:World) (h:Heap),YP w h->∀p∈kS (K w.params),apz h p.2.1 p.2.2/\h.get? p.2.2=some (anN #[]))
  (F:∀(w:World) (mg:Str->Option Value) (fa:Addr) (h:Heap),(K w.params).In h->h.Ns alc mg->mg d.name=some (.ref fa)->∃fd:alM,(∀(s:ald) (u:Value),BindsTo s fd ⟨[u],[]⟩ [("_law_script",u)])/\∀base:Heap,(K w.params).In base->base.Ns alc mg->bK l.prog w (K w.params) mg base (bF l.prog w) 8 fa fd ["_law_script"] (bY (K w.params) mg 1 vj)) :
  PySem.W.WalkO q loose XP YP l.row.toRowW d [] (fun f vs=>PySem.call f vs):=aeA 8 good hn vU ⟨rfl,by decide,by decide⟩ hY hK hT F
open PySem L2
variable{α β:Type}{ph:PH}
theorem ay{m:Mo α}{f:α->Mo β}{ph':PH}{a:α}{r:Out β}(h:m ph=.ok a ph')(k:f a ph'=r):aA m f ph=r:=by
 unfold aA;rw[h];exact k
variable{j:Nat}
theorem k9{l:List α}(h:j<l.length):∃x,l[j]? =some x:=⟨l[j],amV h⟩
theorem Dk{a b:Int}(h1: -(2 ^ 64)<b)(h2:b<2 ^ 64):mulC a b=true:=by
 unfold mulC;rw[decide_eq_true h1,decide_eq_true h2];simp
theorem zx{a b:Int}(h1: -(2 ^ 64)<a)(h2:a<2 ^ 64):mulC a b=true:=by
 unfold mulC;rw[decide_eq_true h1,decide_eq_true h2];simp
theorem Ex.set{a b:PH}(h:Ex a b){i:Nat}(hi:a.length<=i)(o:PO):Ex a (b.set i o):=by
 obtain⟨m,rfl⟩:=h;exact⟨m.set (i-a.length) o,by rw[aqt _ _ hi]⟩
variable{i:Nat}
theorem zy{o:PO}(h:i≠j):(ph.set i o)[j]? =ph[j]? :=amW h
theorem pK{o o':PO}(h:ph[i]? =some o):(ph.set i o')[i]? =some o':=anO (alf.mp h).1
theorem aji{o:PO}(h:ph[i]? =some o):i<ph.length:=(alf.mp h).1
variable{b:SM}{σ:aT}{ph1:PH}{chk:PH->Bool}
theorem fB{im:IM}{items:List W}{r:Out Fl}(h:im σ ph=.ok (items,chk) ph1)(h2:cM chk g b items σ ph1=r):gj im g b σ ph=r:=by
 unfold gj;refine ay h ?_;exact h2
variable{σ1:aT}
theorem aks{a:SM}{k:Fl->Mo W}{P:Out W->Prop}(h:a σ ph=.ok (.nx σ1) ph1)(h2:P (aA (b σ1) k ph1)):P (aA (aD a b σ) k ph):=by
 have e:aA (aD a b σ) k ph=aA (b σ1) k ph1:=by
  rw[nv,i9,cu h]
 rw[e];exact h2
noncomputable def iw(l:List Nat):List W:=l.map fun x:Nat=>W.int x
theorem Dm(l:List Nat):(iw l).length=l.length:=by simp[iw]
theorem ahR(l m:List Nat):iw (l++m)=iw l++iw m:=by simp[iw]
variable{l:List Nat}
theorem ahS{w:W}(h:(iw l)[j]? =some w):∃x,l[j]? =some x/\w=.int x:=by
 unfold iw at h;rw[aln] at h;obtain⟨x,e,rfl⟩:=alv.mp h;exact⟨x,e,rfl⟩
theorem ajj{x:Nat}(h:l[j]? =some x):cZ (iw l) (j:Int)=some (.int x):=by
 have:=(alf.mp h).1;rw[jH _ _ (by rw[Dm];exact this)];unfold iw;rw[aln,h];rfl
theorem afp(ns:List Int)(k:Nat)(ph:PH):dX [.fl (ns.map W.int),.int k] ph=.ok (.int (ns.getD k 0)) ph:=by
 unfold dX iX
 push_cast [akl]
 by_cases h:k<ns.length
 ·have e:cZ (ns.map W.int) (k:Int)=some (.int (ns.getD k 0)):=by
   rw[jH _ _ (by simpa using h)];simp[h]
  rw[ixF e];simp[h,aK,dO,aA]
 ·have e:ns.getD k 0=0:=by simp[Nat.le_of_not_lt h]
  simp[h,aK,dO,aA,e]
theorem ajk(ns:List Int)(k:Nat):dX [.fl (ns.map W.int),.int k]=aK (.int (ns.getD k 0)):=funext fun ph=>afp ns k ph
theorem sq{a:SM}{r:Out Fl}(h:a σ ph=.ok (.nx σ1) ph1)(h2:b σ1 ph1=r):aD a b σ ph=r:=by
 rw[nv,cu h];exact h2
theorem bq{a:SM}{k:Fl->Mo W}{r:Out W}(h:a σ ph=.ok (.nx σ1) ph1)(h2:aA (b σ1) k ph1=r):aA (aD a b σ) k ph=r:=aks (P:=fun q=>q=r) h h2
theorem br{e:EM}{w:W}(h:e σ ph=.ok w ph1):aA (aU e σ) dO ph=.ok w ph1:=by
 rw[uH,i9,cu h];rfl
theorem asg{e:EM}{w:W}(h:e σ ph=.ok w ph1):aP e (gN i) σ ph=.ok (.nx (σ.set i (some w))) ph1:=by
 rw[CH,cu h];rfl
theorem b9{t:TM}{a:SM}{r:Out Fl}(h:t σ ph=.ok true ph1)(h2:a σ ph1=r):bf t a b σ ph=r:=by
 rw[zl,cu h];exact h2
theorem aW{t:TM}{a:SM}{r:Out Fl}(h:t σ ph=.ok false ph1)(h2:b σ ph1=r):bf t a b σ ph=r:=by
 rw[zl,cu h];exact h2
theorem retS{e:EM}{w:W}(h:e σ ph=.ok w ph1):aU e σ ph=.ok (.rt w) ph1:=by
 rw[uH,cu h];rfl
variable{o:EM}{ws:List W}
theorem tX{e:EM}{w:W}(ho:o σ=aK (.ref i))(hi0:∃AK,ph[i]? =some (.lst AK))(he:e σ ph=.ok w ph1)(hi:ph1[i]? =some (.lst ws))(hz:ws.length<1000000):eo (cX eL dY o (ae e aj)) σ ph=.ok (.nx σ) (ph1.set i (.lst (ws++[w]))):=by
 obtain⟨AK,h0⟩:=hi0;rw[Cj,yQ,ho];rw[i9,uG,i9,cu (aeJ h0),i9,Cm,i9,cu he];rw[CI,uG,uG,cu (Iv hi (alB hz (by decide)) w)];rfl
theorem d7{a:SM}{w:W}(h:a σ ph=.ok (.rt w) ph1):aA (aD a b σ) dO ph=.ok w ph1:=by
 rw[nv,i9,cu h];rfl
inductive Wd where
 | sum | less | times | part | below | alike
variable{ph2:PH}
theorem au{e:EM}{r:AM}{w:W}(h:e σ ph=.ok w ph1)(h2:r σ ph1=.ok ws ph2):ae e r σ ph=.ok (w::ws) ph2:=ay h (ay h2 rfl)
theorem tF{a b:TM}(h:a σ ph=.ok false ph1):dJ a b σ ph=.ok false ph1:=ay h rfl
theorem tT{a b:TM}{r:Out Bool}(h:a σ ph=.ok true ph1)(h2:b σ ph1=r):dJ a b σ ph=r:=ay h h2
noncomputable def oy(v:Int):Prop:= -2147483648<=v/\v<=2147483647
noncomputable def Wd.s:Wd->String
 | .sum=>"sum"
 | .less=>"less"
 | .times=>"times"
 | .part=>"part"
 | .below=>"below"
 | .alike=>"alike"
theorem wv(x:String){y:String}{c:Bool}(h:af i σ=aK (.str x))(hc:decide (x=y)=c):eT (ag bh (af i) (eC (.str y))) σ ph=.ok c ph:=by
 rw[u7,uQ,h,<- hc];ac_nf
theorem Qg{a:SM}{w:W}(h:a σ ph=.ok (.rt w) ph1):aD a b σ ph=.ok (.rt w) ph1:=by
 rw[nv,cu h];rfl
theorem eI{g z:Int}{c:Bool}{e:EM}(h:e σ ph=.ok (.int g) ph1)(hc:decide (g=z)=c):eT (ag bh e (eC (.int z))) σ ph=.ok c ph1:=by
 rw[u7,uQ,i9,cu h,<- hc];ac_nf
variable{f:W->W->Po W}{a:EM}{y:W}
theorem op{b:EM}{x:W}{r:Out W}(ha:a σ ph=.ok x ph1)(hb:b σ ph1=.ok y ph2)(hf:lift (f x y) ph2=r):ag f a b σ ph=r:=ay ha (ay hb hf)
theorem md{b:EM}{i j:Int}(ha:a σ ph=.ok (.int i) ph1)(hb:b σ ph1=.ok (.int j) ph2)(h:j≠0):ag aR a b σ ph=.ok (.int (i.fmod j)) ph2:=op ha hb (congrFun (ai6 h) ph2)
theorem dv{b:EM}{i j:Int}(ha:a σ ph=.ok (.int i) ph1)(hb:b σ ph1=.ok (.int j) ph2)(h:j≠0)(h':j.natAbs<2 ^ 64):ag aZ a b σ ph=.ok (.int (i.fdiv j)) ph2:=op ha hb (congrFun (ai7 h h') ph2)
theorem ad{b:EM}{i j:Int}(ha:a σ ph=.ok (.int i) ph1)(hb:b σ ph1=.ok (.int j) ph2):ag addW a b σ ph=.ok (.int (i+j)) ph2:=op ha hb rfl
theorem sb{b:EM}{i j:Int}(ha:a σ ph=.ok (.int i) ph1)(hb:b σ ph1=.ok (.int j) ph2):ag iJ a b σ ph=.ok (.int (i-j)) ph2:=op ha hb rfl
theorem ml{b:EM}{i j:Int}(ha:a σ ph=.ok (.int i) ph1)(hb:b σ ph1=.ok (.int j) ph2)(h:mulC i j=true):ag cJ a b σ ph=.ok (.int (i*j)) ph2:=op ha hb (by rw[Df];exact congrFun (ai5 h) ph2)
theorem ltI{i z:Int}{c:Bool}{e:EM}(h:e σ ph=.ok (.int i) ph1)(hc:decide (i<z)=c):eT (ag hV e (eC (.int z))) σ ph=.ok c ph1:=by
 rw[u7,uQ,i9,cu h,<- hc];rfl
theorem uV{w:W}{m:AM}{e:EM}{i:Int}(hm:m σ ph=.ok ws ph1)(hz:ws.length<=1000000)(he:e σ (ph1++[.lst ws])=.ok (.int i) (ph1++[.lst ws]))(hi:cZ ws i=some w):ag ax (aI m) e σ ph=.ok w (ph1++[.lst ws]):=by
 refine op (x:=.ref ph1.length) (ph1:=ph1++[.lst ws]) ?_ he (ej (aY _ _) hi);rw[CJ];exact ay hm (dw ws ph1 (small hz))
variable{n:Int}
theorem dm{a:Int}(hn:0<n):∃m:Nat,(m:Int)<n/\a.fmod n=(m:Int):=by
 have q:=um a n hn;exact⟨(a.fmod n).toNat,by omega,by omega⟩
theorem jg{v:Int}(h1: -2147483648<=v)(h2:v<=2147483647):oy v:=⟨by omega,by omega⟩
theorem ajl(c:Int)(ph:PH):∃v ph',Bt [.int c] ph=.ok (.int v) ph'/\Ex ph ph'/\oy v:=by
 unfold Bt oE;rw[fk];have m4:∀{σ:aT} {H:PH},af 0 σ=aK (.int c)->ag aR (af 0) (eC (.int (4))) σ H=.ok (.int (c.fmod 4)) H:=fun{σ H} h=>md (by rw[h];rfl) rfl (by decide)
 have d4:∀{σ:aT} {H:PH},af 0 σ=aK (.int c)->ag aZ (af 0) (eC (.int (4))) σ H=.ok (.int (c.fdiv 4)) H:=fun{σ H} h=>dv (by rw[h];rfl) rfl (by decide) (by decide)
 by_cases h3:c.fmod 4=3
 ·obtain⟨m,hm,em⟩:=dm (a:=c.fdiv 4) (n:=8) (by decide);obtain⟨v,hv,sv⟩:∃v,[(2147483647:Int),-2147483648,65536,-1,46341,-65537,1,0][m]? =some v/\oy v:=by
   have:m=0\/m=1\/m=2\/m=3\/m=4\/m=5\/m=6\/m=7:=by omega
   rcases this with rfl | rfl | rfl | rfl | rfl | rfl | rfl | rfl <;> exact⟨_,rfl,jg (by decide) (by decide)⟩
  refine⟨v,_,d7 (b9 (eI (m4 rfl) (decide_eq_true h3)) (retS (uV (ws:=[(2147483647:Int),-2147483648,65536,-1,46341,-65537,1,0].map W.int) (i:=(m:Int)) (ph1:=ph) rfl (alx rfl) ?_ ?_))),Ex.one _ _,sv⟩
  ·rw[<- em];exact md (d4 rfl) rfl (by decide)
  ·rw[jH _ _ (by simp;omega),aln,hv];rfl
 ·by_cases h2:c.fmod 4=2
  ·refine⟨_,ph,bq (aW (eI (m4 rfl) (decide_eq_false h3)) rfl) (d7 (b9 (eI (m4 rfl) (decide_eq_true h2)) (retS (sb (md (ml (d4 rfl) rfl (Dk (by decide) (by decide))) rfl (by decide)) rfl)))),Ex.refl _,?_⟩;have q:=um (c.fdiv 4*48271) 4294967296 (by decide);exact jg (by omega) (by omega)
  ·by_cases h1:c.fmod 4=1
   ·refine⟨_,ph,bq (aW (eI (m4 rfl) (decide_eq_false h3)) rfl) (bq (aW (eI (m4 rfl) (decide_eq_false h2)) rfl) (d7 (b9 (eI (m4 rfl) (decide_eq_true h1)) (retS (sb (md (d4 rfl) rfl (by decide)) rfl))))),Ex.refl _,?_⟩;have q:=um (c.fdiv 4) 100003 (by decide);exact jg (by omega) (by omega)
   ·refine⟨_,ph,bq (aW (eI (m4 rfl) (decide_eq_false h3)) rfl) (bq (aW (eI (m4 rfl) (decide_eq_false h2)) rfl) (bq (aW (eI (m4 rfl) (decide_eq_false h1)) rfl) (br (sb (md (d4 rfl) rfl (by decide)) rfl)))),Ex.refl _,?_⟩;have q:=um (c.fdiv 4) 19 (by decide);exact jg (by omega) (by omega)
theorem tB{e:EM}{c:Bool}(h:e σ ph=.ok (.bl c) ph1):eT e σ ph=.ok c ph1:=ay h rfl
theorem zW{a b:TM}{x y:Bool}(ha:a σ ph=.ok x ph)(hb:b σ ph=.ok y ph):dJ a b σ ph=.ok (x&&y) ph:=by
 rw[Ci];refine ay ha ?_;cases x
 ·rfl
 ·exact hb
theorem Am(b:SM)(n:Nat)(x y z u v:W):fM b n 5 [x,y,z,u,v]=aA (b (some x::some y::some z::some u::some v::alj (n-5) none)) dO:=(rfl)
variable{H:PH}
theorem ajm{x:Nat}(h:H[i]? =some (.lst (iw l)))(hk:l[k]? =some x):lift (ax (.ref i) (.int k)) H=.ok (.int x) H:=ej h (ajj hk)
theorem ajn(ph:PH)(s:String):dat ph 40 (.str (ala s))=some (.str (ala s)):=by
 unfold dat;rw[if_pos (so s)]
theorem jL(H:PH)(n:Nat)(s:String):dat H n (.str (ala s))=some (.str (ala s)):=by
 have:=ajn H s;cases n <;> exact this
theorem kc{n:Nat}{ds:List aoz}(h:bW (dat H n) ws=some ds):dat H (n+1) (.tup ws)=some (.tuple ds):=by
 show(bW (dat H n) ws).map PyData.tuple=_;rw[h];rfl
theorem mc{f:α->Option β}{a:α}{l:List α}{b:β}{m:List β}(h:f a=some b)(h2:bW f l=some m):bW f (a::l)=some (b::m):=by
 unfold bW;rw[h,h2]
theorem ajo(ns:List Int)(i:Int)(h:0<=i):dX [.fl (ns.map W.int),.int i]=aK (.int (ns.getD i.toNat 0)):=by
 have:=ajk ns i.toNat;rw[Int.toNat_of_nonneg h] at this;exact this
variable{ns:List Int}
theorem cl{i:Int}{b:EM}(ha:a σ ph=.ok (.fl (ns.map W.int)) ph1)(hb:b σ ph1=.ok (.int i) ph2)(h:0<=i):aV dX (ae a (ae b aj)) σ ph=.ok (.int (ns.getD i.toNat 0)) ph2:=ay (au ha (au hb rfl)) (congrFun (ajo ns i h) ph2)
theorem Jz(h:ph[i]? =some (.lst ws)):lift (l5 [.ref i]) ph=.ok (.ref ph.length) (ph++[.lst ws]):=by
 have e:l5 [.ref i] ph=sD [.ref i] ph:=by
  unfold l5;simp only[DH h]
 have:=ade h;unfold lift at this ⊢;rw[e];exact this
theorem MY{l:List α}{x y:α}(h:(l++[x])[i]? =some y):(i<l.length/\l[i]? =some y)\/(i=l.length/\y=x):=by
 by_cases hi:i<l.length
 ·rw[alR hi] at h;exact .inl ⟨hi,h⟩
 ·have:=(alf.mp h).1;simp at this;have:i=l.length:=by omega
  subst this;rw[aod] at h;cases h;exact .inr ⟨rfl,rfl⟩
theorem afq(n:Nat):gn 0 n=(anj n).map fun i:Nat=>W.int i:=by
 unfold gn;apply List.map_congr_left;intro i _;simp
theorem afr(as:List α)(h:α->W){im:IM}{cap:List (Option Nat)}{e:EM}{ph0:PH}(mW:im σ ph0=.ok (as.map h,chk) ph)(Fo:∀ph',Ex ph ph'->chk ph'=true)(hz:as.length<=1000)
  (P:Nat->W->PH->Prop) (hP:∀j w H H',P j w H->(∀r o,r≠ph.length->H[r]? =some o->H'[r]? =some o)->P j w H') (S:aT->Prop) (h0:S (jl cap σ))
  (step:∀j x,as[j]? =some x->∀σ H,S σ->Ex ph H->ph.length<H.length->∃σ1,g (h x) σ H=.ok σ1 H/\S σ1/\∃w H2,e σ1 H=.ok w H2/\Ex H H2/\P j w H2) :
  ∃ph' ws,dn im cap g dz e σ ph0=.ok (.ref ph.length) ph'/\Ex ph ph'/\ph'[ph.length]? =some (.lst ws)/\ws.length=as.length/\∀j w,ws[j]? =some w->P j w ph':=by
 rw[Ki,cu mW];obtain⟨vH,az,ph',ec,hS,x1,x2,x3,x4⟩:=B0 (chk:=chk) (g:=g) (c:=dz) (e:=e) ph.length
  (fun k acc σ H=>S σ/\Ex ph H/\H[ph.length]? =some (.lst acc)/\acc.length=k/\∀(j:Nat) w,acc[j]? =some w->P j w H)
  (as.map h) 0 [] (jl cap σ) (ph++[.lst []]) (fun j acc σ H hI=>Fo _ hI.2.1)
  (fun j y acc σ H hj hI=>by
   rw[anY] at hI ⊢;obtain⟨hS,x1,x2,x3,x4⟩:=hI;rw[aln] at hj;obtain⟨x,hx,rfl⟩:=alv.mp hj;have Pb:=(alf.mp hx).1;obtain⟨σ1,e1,mQ,w,H2,e2,y1,y2⟩:=step j x hx σ H hS x1 (aji x2);have keep:∀r o,r≠ph.length->H2[r]? =some o->(H2.set ph.length (.lst (acc++[w])))[r]? =some o:=fun r o hr ho=>(zy (amT hr)).trans ho
   refine⟨σ1,H,e1,true,H,rfl,.inr ⟨rfl,w,H2,e2,y1.get x2,alB (by omega:acc.length<1001) (by decide),mQ,Ex.set (x1.trans y1) (ali _) _,pK (y1.get x2),by simp[x3],fun i w' hw'=>?_⟩⟩
   rcases MY hw' with⟨_,z⟩ | ⟨z0,z⟩
   ·exact hP i w' H _ (x4 i w' z) fun r o hr ho=>keep r o hr (y1.get ho)
   ·rw[z,z0,x3];exact hP j w H2 _ y2 keep)
  ⟨h0,Ex.one _ _,aY _ _,rfl,fun j w z=>by simp at z⟩
 rw[anY,alg] at x3;exact⟨ph',vH,cu ec,x1,x2,x3,x4⟩
theorem adH{ws:List β}{f:α->β}{Q:Nat->α->Prop}(h:∀(j:Nat) w,ws[j]? =some w->∃d,w=f d/\Q j d):∃D:List α,ws=D.map f/\∀(j:Nat) d,D[j]? =some d->Q j d:=by
 induction ws generalizing Q with
 | nil=>exact⟨[],rfl,fun j d z=>by simp at z⟩
 | cons w ws ih=>
  obtain⟨d,e,q⟩:=h 0 w rfl;obtain⟨D,e2,q2⟩:=ih (Q:=fun j=>Q (j+1)) fun j w hw=>h (j+1) w (by simpa using hw)
  refine⟨d::D,by rw[e,e2];rfl,fun j d' hd=>?_⟩;cases j with
  | zero=>cases hd;exact q
  | succ j=>exact q2 j d' (by simpa using hd)
noncomputable def sg(c:Nat):Str:=⟨#[c]⟩
noncomputable def tx(cs:List Nat):Str:=⟨cs.toArray⟩
noncomputable def cN(c:Nat):W:=.str (sg c)
noncomputable def Ab(c:Nat):Prop:=97<=c/\c<123
structure bG(cs:List Nat):Prop where
 lo:1<=cs.length
 hi:cs.length<=6
 ab:∀c∈cs,Ab c
theorem MZ(a b:List Nat):tx a++tx b=tx (a++b):=by
 show Str.append _ _=_;unfold Str.append tx;simp
theorem afs:∀cs:List Nat,arG (ala "") (cs.map sg)=tx cs:=by
 intro cs;rw[Txt.join_eq]
 induction cs with
 | nil=>rfl
 | cons c cs ih=>
  cases cs with
  | nil=>rfl
  | cons d cs=>
   have e:Str.join (ala "") ((c::d::cs).map sg)=sg c++ala ""++Str.join (ala "") ((d::cs).map sg):=rfl;rw[e,ih];have e2:sg c++ala ""=tx [c]:=rfl;rw[e2,MZ];rfl
variable{cs:List Nat}
theorem ahT(h:H[i]? =some (.lst (cs.map cN)))(hl:cs.length<=6):lift (iH (.str "") [.ref i]) H=.ok (.str (tx cs)) H:=by
 have e:bW strOf (cs.map cN)=some (cs.map sg):=pd strOf cN sg (fun _=>rfl) cs;have e2:iH (.str "") [.ref i] H=some (.str (tx cs),H):=by
  unfold iH;simp only[h,e];rw[if_pos,afs];refine⟨by rw[alg];omega,fun y hy=>?_,nofun⟩;obtain⟨c,_,rfl⟩:=aow.mp hy;show(1:Nat)<=10;omega
 unfold lift;rw[e2]
theorem jn{e:EM}(he:e σ ph=.ok (.ref i) ph1)(h:ph1[i]? =some (.lst (cs.map cN)))(hl:cs.length<=6):cX kl iH (eC (.str "")) (ae e aj) σ ph=.ok (.str (tx cs)) ph1:=by
 rw[yQ];exact ay rfl (ay rfl (ay (au he rfl) (ahT h hl)))
theorem ajp:(ala "abcdefghijklmnopqrstuvwxyz").cps.toList=(anj 26).map (97+ ·):=nofun
theorem ahU{m:Nat}(h:m<26)(H:PH):lift (ax (.str "abcdefghijklmnopqrstuvwxyz") (.int m)) H=.ok (cN (97+m)) H:=by
 have e:c8 (.str (ala "abcdefghijklmnopqrstuvwxyz")) (.int m) H=some (cN (97+m),H):=by
  unfold c8;simp only[];rw[if_pos nofun,ajp,jH _ _ (by simpa using h)];rw[aln,aqR h];rfl
 rw[DG];unfold lift;rw[e]
theorem DN{b:EM}{i:Int}(ha:a σ ph=.ok (.str "abcdefghijklmnopqrstuvwxyz") ph)(hb:b σ ph=.ok (.int i) ph):∃c,Ab c/\ag ax a (ag aR b (eC (.int 26))) σ ph=.ok (cN c) ph:=by
 obtain⟨m,hm,em⟩:=dm (a:=i) (n:=26) (by decide);refine⟨97+m,⟨by omega,by omega⟩,op ha (md hb rfl (by decide)) ?_⟩;rw[em];exact ahU (by omega) ph
theorem M0{cap:List (Option Nat)}{e:EM}(S:aT->Prop)(h0:S (jl cap σ))
  (step:∀(j:Nat) σ H,S σ->∃σ1,gN 0 (.int j) σ H=.ok σ1 H/\S σ1/\∃c,Ab c/\e σ1 H=.ok (cN c) H) :
  ∃(cs:List Nat) (ph':PH),dn (jZ (ae (eC (.int (6))) aj)) cap (gN 0) dz e σ ph=.ok (.ref ph.length) ph'/\Ex ph ph'/\ph'[ph.length]? =some (.lst (cs.map cN))/\cs.length=6/\∀c∈cs,Ab c:=by
 obtain⟨ph',ws,e1,x1,h1,h2,h3⟩:=afr (anj 6) (fun j:Nat=>W.int j) (im:=jZ (ae (eC (.int (6))) aj)) (cap:=cap) (g:=gN 0) (e:=e) (σ:=σ) (ph:=ph) (ph0:=ph) (chk:=fun _=>true) (by rw[<- afq];exact De (j:=6) rfl (by decide) (by decide)) (fun _ _=>rfl) (by simp)
  (fun _ w _=>∃c,w=cN c/\Ab c) (fun _ _ _ _ h _=>h) S h0 (fun j x _ σ H hS _ _=>by
   obtain⟨σ1,q1,q2,c,hc,q3⟩:=step x σ H hS;exact⟨σ1,q1,q2,_,H,q3,Ex.refl _,c,rfl,hc⟩)
 obtain⟨cs,rfl,hq⟩:=adH (f:=cN) (Q:=fun _ c=>Ab c) h3;refine⟨cs,ph',e1,x1,h1,by simpa using h2,fun c hc=>?_⟩;obtain⟨j,hj,rfl⟩:=aqS hc;exact hq j _ (amV hj)
theorem ahV(h:ph[i]? =some (.lst ws))(a b:Nat)(wF:a<=b)(hb:b<=ws.length):lift (kC (.ref i) (some (a:Int)) (some (b:Int))) ph=.ok (.ref ph.length) (ph++[.lst ((ws.drop a).take (b-a))]):=by
 have:jo ws (some (a:Int)) (some (b:Int))=(ws.drop a).take (b-a):=by
  unfold jo HT.bA;simp only[show ¬((a:Int)<0) by omega,show ¬((b:Int)<0) by omega,if_false,apK,aqv hb,aqv (alT wF hb)]
 unfold lift kC;simp only[h,this]
theorem qB(hm:m σ ph=.ok (.ref i) ph)(hi:ph[i]? =some (.lst ws))(ho:o σ ph=.ok (.int k) ph):cE m cB (cc o) σ ph=.ok (.ref ph.length) (ph++[.lst (ws.take k)]):=by
 rw[zm];exact ay hm (ay rfl (ay (ay ho rfl) (ahi hi k)))
theorem Qh(hm:m σ ph=.ok (.ref i) ph)(hi:ph[i]? =some (.lst ws))(ho:o σ ph=.ok (.int k) ph):cE m (cc o) cB σ ph=.ok (.ref ph.length) (ph++[.lst (ws.drop k)]):=by
 rw[zm];exact ay hm (ay (ay ho rfl) (ay rfl (aeL hi k)))
theorem slM{p:EM}{a b:Nat}(hm:m σ ph=.ok (.ref i) ph)(hi:ph[i]? =some (.lst ws))(ho:o σ ph=.ok (.int a) ph)(hp:p σ ph=.ok (.int b) ph)(wF:a<=b)(hb:b<=ws.length):cE m (cc o) (cc p) σ ph=.ok (.ref ph.length) (ph++[.lst ((ws.drop a).take (b-a))]):=by
 rw[zm];exact ay hm (ay (ay ho rfl) (ay (ay hp rfl) (ahV hi a b wF hb)))
theorem M1{b:EM}{x y:List Nat}(ha:a σ ph=.ok (.str (tx x)) ph1)(hb:b σ ph1=.ok (.str (tx y)) ph2)(hl:x.length+y.length<=100):ag addW a b σ ph=.ok (.str (tx (x++y))) ph2:=by
 refine op ha hb ?_;have e:addW (.str (tx x)) (.str (tx y)) ph2=some (.str (tx x++tx y),ph2):=by
  unfold addW;simp only[];rw[if_pos];show(x.toArray).size+(y.toArray).size<=alz;simp only[alq];exact alT hl (by decide)
 unfold lift;rw[e,MZ]
noncomputable def aB(cs:List Nat):W:=.str (tx cs)
theorem aft(n:Int)(many:Nat)(hm:many<=12)(ph:PH):∃(NS:List (List Nat)) (H':PH),xn [.int n,.int many] ph=.ok (.ref ph.length) H'/\Ex ph H'/\H'[ph.length]? =some (.lst (NS.map aB))/\NS.length=many/\∀cs∈NS,bG cs:=by
 obtain⟨z,hz,ez⟩:=dm (a:=n.fdiv 3) (n:=6) (by decide);obtain⟨at_,jt,eat⟩:=dm (a:=n.fdiv 18) (n:=1+(z:Int)) (by omega);obtain⟨st,c9⟩:∃st:W->Option W->Option W->Option W->Option W->aT,st=fun nl o6 o7 o8 o9=>[some (.int n),some (.int many),some (.str "abcdefghijklmnopqrstuvwxyz"),some (.int (1+(z:Int))),some (.int at_),some nl,o6,o7,o8,o9]:=⟨_,rfl⟩
 have key:=pb (chk:=fun _=>true) (g:=gN 6) (b:=Bp) (fun k σ H=>∃(NS:List (List Nat)) (o6 o7 o8 o9:Option W),σ=st (.ref ph.length) o6 o7 o8 o9/\Ex ph H/\H[ph.length]? =some (.lst (NS.map aB))/\NS.length=k/\k<=many/\∀cs∈NS,bG cs)
  (gn 0 many) (st (.ref ph.length) none none none none) (ph++[.lst []]) (fun _ _ _ _=>rfl) (fun j x σ H hj hI=>by
   obtain⟨NS,o6,o7,o8,o9,rfl,xH,hN,hl,hk,ok⟩:=hI;obtain⟨Qi,rfl⟩:=Kj hj;rw[Int.zero_add];refine⟨st (.ref ph.length) (some (.int j)) o7 o8 o9,H,by rw[c9];rfl,?_⟩;obtain⟨cs,H1,e1,x1,g1,l1,a1⟩:=M0 (ph:=H) (σ:=st (.ref ph.length) (some (.int j)) o7 o8 o9) (cap:=[none,some 2,some 6,some 0]) (e:=(ag ax (af 1) (ag aR (ag addW (ag addW (ag aZ (af 3) (eC (.int (18)))) (ag cJ (eC (.int (5))) (af 0))) (ag aZ (af 2) (eC (.int (6))))) (eC (.int (26))))))
    (fun σ=>∃o,σ=[o,some (.str "abcdefghijklmnopqrstuvwxyz"),some (.int j),some (.int n)]) ⟨none,by rw[c9];rfl⟩ (fun i σ H2 hS=>by
     obtain⟨o,rfl⟩:=hS;refine⟨_,rfl,⟨_,rfl⟩,DN rfl (ad (ad (dv rfl rfl (by decide) (by decide)) (ml rfl rfl (zx (by decide) (by decide)))) (dv rfl rfl (by decide) (by decide)))⟩)
   obtain⟨σ1,cz⟩:∃σ1,σ1=st (.ref ph.length) (some (.int j)) (some (.ref H.length)) o8 o9:=⟨_,rfl⟩
   have a7:aP (dn (jZ (ae (eC (.int (6))) aj)) [none,some 2,some 6,some 0] (gN 0) dz (ag ax (af 1) (ag aR (ag addW (ag addW (ag aZ (af 3) (eC (.int (18)))) (ag cJ (eC (.int (5))) (af 0))) (ag aZ (af 2) (eC (.int (6))))) (eC (.int (26)))))) (gN 7) (st (.ref ph.length) (some (.int j)) o7 o8 o9) H=.ok (.nx σ1) H1:=by
    rw[cz,asg e1,c9];rfl
   have fin:∀{e:EM} {bo:aT} {H2 H3:PH} {cs:List Nat} {p7 p8 p9:Option W},bo=st (.ref ph.length) (some (.int j)) p7 p8 p9->Ex H H2->e bo H2=.ok (aB cs) H3->Ex H2 H3->bG cs->eo (cX eL dY (af 5) (ae e aj)) bo H2=.ok (.nx bo) (H3.set ph.length (.lst (NS.map aB++[aB cs]))) /\
     ∃(FH:List (List Nat)) (o6 o7 o8 o9:Option W),bo=st (.ref ph.length) o6 o7 o8 o9/\Ex ph (H3.set ph.length (.lst (NS.map aB++[aB cs])))/\(H3.set ph.length (.lst (NS.map aB++[aB cs])))[ph.length]? =some (.lst (FH.map aB))/\FH.length=j+1/\j+1<=many/\∀cs∈FH,bG cs:=by
    intro e bo H2 H3 cs p7 p8 p9 h2 y2 he y3 hc;have g3:=y3.get (y2.get hN);refine⟨tX (by rw[h2,c9];rfl) ⟨_,y2.get hN⟩ he g3 (by rw[alg];omega),NS++[cs],_,_,_,_,h2,Ex.set ((xH.trans y2).trans y3) (ali _) _,?_,by simp;omega,by omega,fun c n8=>?_⟩
    ·rw[pK g3];simp
    ·rcases amC.mp n8 with q | q
     ·exact ok c q
     ·rw[aly.mp q];exact hc
   have m3:∀{H2:PH},ag aR (af 0) (eC (.int (3))) σ1 H2=.ok (.int (n.fmod 3)) H2:=fun{H2}=>by rw[cz,c9];exact md rfl rfl (by decide)
   unfold Bp;by_cases h0:n.fmod 3=0
   ·obtain⟨q,hq,eq⟩:=dm (a:=n.fdiv 3+(j:Int)) (n:=6) (by decide);obtain⟨f1,f2⟩:=fin (cs:=cs.take (1+q)) (e:=cX kl iH (eC (.str "")) (ae (cE (af 7) cB (cc (ag addW (eC (.int (1))) (ag aR (ag addW (ag aZ (af 0) (eC (.int (3)))) (af 6)) (eC (.int (6))))))) aj)) cz x1 (H3:=H1++[.lst ((cs.take (1+q)).map cN)])
     (jn (i:=H1.length) (by
      rw[aoX];refine qB (i:=H.length) (by rw[cz,c9];rfl) g1 ?_;have:=ad (a:=eC (.int (1))) (b:=ag aR (ag addW (ag aZ (af 0) (eC (.int (3)))) (af 6)) (eC (.int (6)))) (σ:=σ1) (ph:=H1) (ph1:=H1) (ph2:=H1) (i:=1) rfl (md (ad (dv (by rw[cz,c9];rfl) rfl (by decide) (by decide)) (by rw[cz,c9];rfl)) rfl (by decide));rw[this,eq];rfl) (aY _ _) (by rw[alX];omega)) (Ex.one _ _) ⟨by rw[alX];omega,by rw[alX];omega,fun c hc=>a1 c (amq hc)⟩
    exact⟨_,_,sq a7 (b9 (eI m3 (decide_eq_true h0)) f1),_,.inl rfl,f2⟩
   ·by_cases h1:n.fmod 3=1
    ·obtain⟨ds,H2,e2,x2,g2,l2,a2⟩:=M0 (ph:=H1) (σ:=σ1) (cap:=[none,some 2,some 0]) (e:=(ag ax (af 1) (ag aR (ag addW (ag aZ (af 2) (eC (.int (18)))) (ag cJ (eC (.int (5))) (af 0))) (eC (.int (26))))))
      (fun σ=>∃o,σ=[o,some (.str "abcdefghijklmnopqrstuvwxyz"),some (.int n)]) ⟨none,by rw[cz,c9];rfl⟩ (fun i σ H2 hS=>by
       obtain⟨o,rfl⟩:=hS;refine⟨_,rfl,⟨_,rfl⟩,DN rfl (ad (dv rfl rfl (by decide) (by decide)) (ml rfl rfl (zx (by decide) (by decide))))⟩)
     obtain⟨bo,wG⟩:∃bo,bo=st (.ref ph.length) (some (.int j)) (some (.ref H1.length)) o8 o9:=⟨_,rfl⟩
     obtain⟨c,hc,ec⟩:=DN (a:=af 2) (b:=ag addW (ag aZ (af 0) (eC (.int (108)))) (af 6)) (σ:=bo) (ph:=H2) (by rw[wG,c9];rfl) (ad (dv (by rw[wG,c9];rfl) rfl (by decide) (by decide)) (by rw[wG,c9];rfl));obtain⟨fX,wH⟩:∃fX,fX=st (.ref ph.length) (some (.int j)) (some (.ref H1.length)) (some (cN c)) o9:=⟨_,rfl⟩
     obtain⟨bk,FI⟩:∃bk,bk=(ds.drop (at_+1)).take (1+z-(at_+1)):=⟨_,rfl⟩
     have lbk:bk.length=z-at_:=by rw[FI,alX,apZ];omega
     obtain⟨H3,e3⟩:∃H3,H3=H2++[PO.lst (bk.map cN)]:=⟨_,rfl⟩
     obtain⟨iW,tY⟩:∃iW,iW=st (.ref ph.length) (some (.int j)) (some (.ref H1.length)) (some (cN c)) (some (aB bk)):=⟨_,rfl⟩
     obtain⟨H4,e4⟩:∃H4,H4=H3++[PO.lst ((ds.take at_).map cN)]:=⟨_,rfl⟩
     have x3:Ex H2 H3:=e3▸Ex.one _ _;have x4:Ex H3 H4:=e4▸Ex.one _ _;have b1:aP (cX kl iH (eC (.str "")) (ae (cE (af 7) (cc (ag addW (af 4) (eC (.int (1))))) (cc (af 3))) aj)) (gN 9) fX H2=.ok (.nx iW) H3:=by
      refine(asg (w:=aB bk) (ph1:=H3) (jn (i:=H2.length) ?_ (by rw[e3];exact aY _ _) (by omega))).trans (by rw[wH,tY,c9];rfl);have:=slM (m:=af 7) (o:=ag addW (af 4) (eC (.int (1)))) (p:=af 3) (σ:=fX) (ph:=H2) (i:=H1.length) (a:=at_+1) (b:=1+z) (by rw[wH,c9];rfl) g2 (by rw[wH,c9];rfl) (by rw[wH,c9];rfl) (by omega) (by rw[alg];omega);rw[this,e3,FI,aoX,ark]
     obtain⟨f1,f2⟩:=fin (cs:=ds.take at_++[c]++bk) (e:=ag addW (ag addW (cX kl iH (eC (.str "")) (ae (cE (af 7) cB (cc (af 4))) aj)) (af 8)) (af 9)) tY ((x1.trans x2).trans x3) (H3:=H4)
      (M1 (x:=ds.take at_++[c]) (y:=bk) (ph1:=H4) (M1 (x:=ds.take at_) (y:=[c]) (ph1:=H4) (jn (i:=H3.length) (by
       rw[e4,aoX];exact qB (i:=H1.length) (by rw[tY,c9];rfl) (x3.get g2) (by rw[tY,c9];rfl)) (by rw[e4];exact aY _ _) (by rw[alX];omega)) (by rw[tY,c9];rfl) (by simp;omega)) (by rw[tY,c9];rfl) (by simp;omega)) x4
      ⟨by simp;omega,by simp;omega,fun d hd=>by
       rcases amC.mp hd with q | q
       ·rcases amC.mp q with q | q
        ·exact a2 d (amq q)
        ·rw[aly.mp q];exact hc
       ·rw[FI] at q;exact a2 d (aqE (amq q))⟩
     refine⟨_,_,sq a7 (aW (eI m3 (decide_eq_false h0)) (b9 (eI m3 (decide_eq_true h1)) (sq (σ1:=bo) (ph1:=H2) ?_ (sq (σ1:=fX) (ph1:=H2) ?_ (sq b1 f1))))),_,.inl rfl,f2⟩
     ·rw[asg e2,cz,wG,c9];rfl
     ·rw[asg ec,wG,wH,c9];rfl
    ·obtain⟨q,hq,eq⟩:=dm (a:=(j:Int)) (n:=6) (by decide);have mq:∀{H2:PH},ag aR (af 6) (eC (.int (6))) σ1 H2=.ok (.int q) H2:=fun{H2}=>by
      rw[<- eq,cz,c9];exact md rfl rfl (by decide)
     obtain⟨H2,e2⟩:∃H2,H2=H1++[PO.lst ((cs.drop q).map cN)]:=⟨_,rfl⟩
     obtain⟨H3,e3⟩:∃H3,H3=H2++[PO.lst ((cs.take q).map cN)]:=⟨_,rfl⟩
     obtain⟨H4,e4⟩:∃H4,H4=H3++[PO.lst ((cs.drop q++cs.take q).map cN)]:=⟨_,rfl⟩
     have x2:Ex H1 H2:=e2▸Ex.one _ _;have x3:Ex H2 H3:=e3▸Ex.one _ _;have x4:Ex H3 H4:=e4▸Ex.one _ _;have g2:H2[H1.length]? =some (PO.lst ((cs.drop q).map cN)):=by rw[e2];exact aY _ _
     have g3:H3[H2.length]? =some (PO.lst ((cs.take q).map cN)):=by rw[e3];exact aY _ _
     obtain⟨f1,f2⟩:=fin (cs:=cs.drop q++cs.take q) (e:=cX kl iH (eC (.str "")) (ae (ag addW (cE (af 7) (cc (ag aR (af 6) (eC (.int (6))))) cB) (cE (af 7) cB (cc (ag aR (af 6) (eC (.int (6))))))) aj)) cz x1 (H3:=H4)
      (jn (i:=H3.length) (op (x:=.ref H1.length) (ph1:=H2) (y:=.ref H2.length) (ph2:=H3) (by
       rw[e2,ark];exact Qh (i:=H.length) (by rw[cz,c9];rfl) g1 mq) (by
       rw[e3,aoX];exact qB (i:=H.length) (by rw[cz,c9];rfl) (x2.get g1) mq) (by
       rw[jG (x3.get g2) g3 (small (by simp;omega)),e4,apg])) (by rw[e4];exact aY _ _) (by simp;omega)) ((x2.trans x3).trans x4)
      ⟨by simp;omega,by simp;omega,fun d hd=>by
       rcases amC.mp hd with r | r
       ·exact a1 d (aqE r)
       ·exact a1 d (amq r)⟩
     exact⟨_,_,sq a7 (aW (eI m3 (decide_eq_false h0)) (aW (eI m3 (decide_eq_false h1)) f1)),_,.inl rfl,f2⟩)
  ⟨[],none,none,none,none,rfl,Ex.one _ _,aY _ _,rfl,by omega,fun _ h=>nomatch h⟩
 obtain⟨az,H',e,NS,o6,o7,o8,o9,rfl,xH,hN,hl,_,ok⟩:=key;rw[Kk] at hl;refine⟨NS,H',?_,xH,hN,hl,ok⟩;unfold xn oI;rw[dQ];have hir:jZ (ae (af 1) aj) (st (.ref ph.length) none none none none) (ph++[.lst []])=.ok (gn 0 many,fun _=>true) (ph++[.lst []]):=De (j:=(many:Int)) (by rw[c9];rfl) (by omega) (by omega);refine bq (σ1:=[some (.int n),some (.int many),some (.str "abcdefghijklmnopqrstuvwxyz"),none,none,none,none,none,none,none]) rfl (bq (ph1:=ph) (σ1:=[some (.int n),some (.int many),some (.str "abcdefghijklmnopqrstuvwxyz"),some (.int (1+(z:Int))),none,none,none,none,none,none]) ?_ (bq (ph1:=ph) (σ1:=[some (.int n),some (.int many),some (.str "abcdefghijklmnopqrstuvwxyz"),some (.int (1+(z:Int))),some (.int at_),none,none,none,none,none]) ?_ (bq (ph1:=ph++[.lst []]) (σ1:=st (.ref ph.length) none none none none) ?_ (bq (fB hir e) (br ?_)))))
 ·rw[<- ez];exact asg (ad rfl (md (dv rfl rfl (by decide) (by decide)) rfl (by decide)))
 ·rw[<- eat];exact asg (md (dv rfl rfl (by decide) (by decide)) rfl (by omega))
 ·rw[c9];exact asg rfl
 ·rw[c9];rfl
abbrev Nm:=List Nat
inductive Row where
 | set (a:Nm) (n:Int)
 | copy (a b:Nm)
 | dE (a:Nm) (w:Wd) (b c:Nm)
 | take (a:Nm)
 | tell (a:Nm)
 | turn
 | iff (a:Nm) (p:Nat)
 | go (p:Nat)
 | fin
noncomputable def Row.w:Row->W
 | .set a n=>.tup [.str "set",aB a,.int n]
 | .copy a b=>.tup [.str "copy",aB a,aB b]
 | .dE a w b c=>.tup [.str "do",aB a,.str w.s,aB b,aB c]
 | .take a=>.tup [.str "take",aB a]
 | .tell a=>.tup [.str "tell",aB a]
 | .turn=>.tup [.str "turn"]
 | .iff a p=>.tup [.str "if",aB a,.int p]
 | .go p=>.tup [.str "go",.int p]
 | .fin=>.tup [.str "end"]
noncomputable def Row.to:Row->List Nat
 | .iff _ p=>[p]
 | .go p=>[p]
 | _=>[]
noncomputable def Row.nm:Row->List Nm
 | .set a _=>[a]
 | .copy a b=>[a,b]
 | .dE a _ b c=>[a,b,c]
 | .take a=>[a]
 | .tell a=>[a]
 | .iff a _=>[a]
 | _=>[]
noncomputable def l9(NS:List Nm)(r:Row):Prop:=(∀a∈r.nm,a∈NS)/\∀a n,r=.set a n->oy n
noncomputable def Gl(n p:Nat)(TL:List Nat)(g:Nat):Prop:=(p<g/\g<=n)\/g∈TL
variable{p:Nat}{TL:List Nat}
theorem ahW{ti n:Nat}(mo:Int)(ht:ph[ti]? =some (.lst (iw TL)))(hp:p<n):∃g H',oN [.int mo,.int p,.int n,.ref ti] ph=.ok (.int ((g:Nat):Int)) H'/\Ex ph H'/\Gl n p TL g:=by
 obtain⟨H1,e1⟩:∃H1,H1=ph++[PO.lst []]:=⟨_,rfl⟩
 have x1:Ex ph H1:=e1▸Ex.one _ _;have g1:=x1.get ht;have et:eT (ag cS (af 3) (aI aj)) [some (.int mo),some (.int p),some (.int n),some (.ref ti)] ph=.ok (!(iw TL).isEmpty) H1:=tB (op (x:=.ref ti) (y:=.ref ph.length) (ph2:=H1) rfl (by rw[e1];rfl) (DI (eq_nil g1 (by rw[e1];exact aY _ _) (pd (dat _ 39) (fun x:Nat=>W.int x) (fun x:Nat=>PyData.int x) (fun x=>ve _ 39 x) TL))));have m2:eT (ag bh (ag aR (af 0) (eC (.int (2)))) (eC (.int (1)))) [some (.int mo),some (.int p),some (.int n),some (.ref ti)] H1=.ok (decide (mo.fmod 2=1)) H1:=eI (md rfl rfl (by decide)) rfl;have d2:ag aZ (af 0) (eC (.int (2))) [some (.int mo),some (.int p),some (.int n),some (.ref ti)] H1=.ok (.int (mo.fdiv 2)) H1:=dv rfl rfl (by decide) (by decide);have away:∀{H2:PH},dJ (eT (ag cS (af 3) (aI aj))) (eT (ag bh (ag aR (af 0) (eC (.int (2)))) (eC (.int (1))))) [some (.int mo),some (.int p),some (.int n),some (.ref ti)] ph=.ok false H1->∃g H',oN [.int mo,.int p,.int n,.ref ti] ph=.ok (.int ((g:Nat):Int)) H'/\Ex ph H'/\Gl n p TL g:=fun{H2} t=>by
  obtain⟨m,hm,em⟩:=dm (a:=mo.fdiv 2) (n:=(n:Int)-(p:Int)) (by omega);refine⟨p+1+m,H1,?_,x1,.inl ⟨by omega,by omega⟩⟩;unfold oN lE;rw[vF];rw[show((p+1+m:Nat):Int)=(p:Int)+1+(m:Int) by omega,<- em];exact bq (aW t rfl) (br (ad (ad rfl rfl) (md d2 (sb rfl rfl) (by omega))))
 cases TL with
 | nil=>exact away (H2:=ph) (tF et)
 | cons a TL=>
  by_cases h1:mo.fmod 2=1
  ·rw[decide_eq_true h1] at m2;obtain⟨m,hm,em⟩:=dm (a:=mo.fdiv 2) (n:=((a::TL).length:Int)) (by simp);obtain⟨g,hg⟩:∃g,(a::TL)[m]? =some g:=k9 (by omega);refine⟨g,H1,?_,x1,.inr (alF hg)⟩;unfold oN lE;rw[vF];refine d7 (b9 (tT et m2) (retS (op (y:=.int m) rfl ?_ (ajm g1 hg))));rw[<- em];exact md d2 (ay (au rfl rfl) ((gS g1).trans (by rw[Dm]))) (by simp;omega)
  ·rw[decide_eq_false h1] at m2;exact away (H2:=ph) (tT et m2)
theorem tp{m:AM}(h:m σ ph=.ok ws ph1)(hn:lift (lg ws) ph1=.ok (.tup ws) ph1):aH m σ ph=.ok (.tup ws) ph1:=ay h hn
variable{ni:Nat}{NS:List Nm}
theorem DO{e:EM}{i:Int}(hN:H[ni]? =some (.lst (NS.map aB)))(h0:NS≠[])(hv:∀{K:PH},af 3 σ K=.ok (.ref ni) K)(he:e σ H=.ok (.int i) H):∃a,a∈NS/\ag ax (af 3) (ag aR e (bz bR (ae (af 3) aj))) σ H=.ok (aB a) H:=by
 have hp:0<NS.length:=aph.mpr h0;obtain⟨m,hm,em⟩:=dm (a:=i) (n:=(NS.length:Int)) (by omega);obtain⟨a,ha⟩:∃a,NS[m]? =some a:=k9 (by omega);refine⟨a,alF ha,op hv (md (j:=(NS.length:Int)) he (ay (au hv rfl) ((gS hN).trans (by rw[alg]))) (by omega)) ?_⟩;rw[em];exact ej hN (by rw[jH _ _ (by rw[alg];omega),aln,ha];rfl)
theorem ahX{ti n:Nat}(c:Int)(hN:H[ni]? =some (.lst (NS.map aB)))(h0:NS≠[])(ht:H[ti]? =some (.lst (iw TL)))(hp:p<n) :
  ∃r H',xQ [.int c,.int p,.int n,.ref ni,.ref ti] H=.ok (Row.w r) H'/\Ex H H'/\l9 NS r/\∀k∈r.to,Gl n p TL k:=by
 obtain⟨d,hd⟩:∃d,d=(c*48271).fmod 2147483647:=⟨_,rfl⟩
 obtain⟨mo,hmo⟩:∃mo,mo=d.fdiv 16:=⟨_,rfl⟩
 obtain⟨s1,A1⟩:∃s1:aT,s1=[some (.int d),some (.int p),some (.int n),some (.ref ni),some (.ref ti),some (.int mo),none,none,none,none,none]:=⟨_,rfl⟩
 obtain⟨a,ha,ea⟩:=DO (e:=af 5) (σ:=s1) (i:=mo) hN h0 (by rw[A1];intro K;rfl) (by rw[A1];rfl);obtain⟨s2,A2⟩:∃s2:aT,s2=[some (.int d),some (.int p),some (.int n),some (.ref ni),some (.ref ti),some (.int mo),some (aB a),none,none,none,none]:=⟨_,rfl⟩
 obtain⟨b,hb,eb⟩:=DO (e:=ag aZ (af 5) (eC (.int (6)))) (σ:=s2) (i:=mo.fdiv 6) hN h0 (by rw[A2];intro K;rfl) (dv (by rw[A2];rfl) rfl (by decide) (by decide));obtain⟨s3,wI⟩:∃s3:aT,s3=[some (.int d),some (.int p),some (.int n),some (.ref ni),some (.ref ti),some (.int mo),some (aB a),some (aB b),none,none,none]:=⟨_,rfl⟩
 obtain⟨e,he,ee⟩:=DO (e:=ag aZ (af 5) (eC (.int (36)))) (σ:=s3) (i:=mo.fdiv 36) hN h0 (by rw[wI];intro K;rfl) (dv (by rw[wI];rfl) rfl (by decide) (by decide));obtain⟨σ,cz⟩:∃σ:aT,σ=[some (.int d),some (.int p),some (.int n),some (.ref ni),some (.ref ti),some (.int mo),some (aB a),some (aB b),some (aB e),some (.int (d.fmod 16)),none]:=⟨_,rfl⟩
 have pre:∀{q:SM} {r:Out W},aA (q σ) dO H=r->aA (aD (aP (ag aR (ag cJ (af 0) (eC (.int (48271)))) (eC (.int (2147483647)))) (gN 0)) (aD (aP (ag aZ (af 0) (eC (.int (16)))) (gN 5)) (aD (aP (ag ax (af 3) (ag aR (af 5) (bz bR (ae (af 3) aj)))) (gN 6)) (aD (aP (ag ax (af 3) (ag aR (ag aZ (af 5) (eC (.int (6)))) (bz bR (ae (af 3) aj)))) (gN 7)) (aD (aP (ag ax (af 3) (ag aR (ag aZ (af 5) (eC (.int (36)))) (bz bR (ae (af 3) aj)))) (gN 8)) (aD (aP (ag aR (af 0) (eC (.int (16)))) (gN 9)) q))))) [some (.int c),some (.int p),some (.int n),some (.ref ni),some (.ref ti),none,none,none,none,none,none]) dO H=r:=fun{q r} h=>by
  refine bq (ph1:=H) (σ1:=[some (.int d),some (.int p),some (.int n),some (.ref ni),some (.ref ti),none,none,none,none,none,none]) (by rw[hd];exact asg (md (ml rfl rfl (Dk (by decide) (by decide))) rfl (by decide))) (bq (ph1:=H) (σ1:=s1) (by rw[A1,hmo];exact asg (dv rfl rfl (by decide) (by decide))) (bq (ph1:=H) (σ1:=s2) ((asg ea).trans (by rw[A1,A2];rfl)) (bq (ph1:=H) (σ1:=s3) ((asg eb).trans (by rw[A2,wI];rfl)) (bq (ph1:=H) (σ1:=s3.set 8 (some (aB e))) (asg ee) (bq (ph1:=H) (σ1:=σ) ?_ h)))));refine(asg (w:=.int (d.fmod 16)) (ph1:=H) (md (i:=d) (by rw[wI];rfl) rfl (by decide))).trans ?_;rw[wI,cz];rfl
 have v1:∀{K:PH},af 1 σ K=.ok (.int p) K:=by rw[cz];intro K;rfl
 have v2:∀{K:PH},af 2 σ K=.ok (.int n) K:=by rw[cz];intro K;rfl
 have v4:∀{K:PH},af 4 σ K=.ok (.ref ti) K:=by rw[cz];intro K;rfl
 have v5:∀{K:PH},af 5 σ K=.ok (.int mo) K:=by rw[cz];intro K;rfl
 have v6:∀{K:PH},af 6 σ K=.ok (aB a) K:=by rw[cz];intro K;rfl
 have v7:∀{K:PH},af 7 σ K=.ok (aB b) K:=by rw[cz];intro K;rfl
 have v8:∀{K:PH},af 8 σ K=.ok (aB e) K:=by rw[cz];intro K;rfl
 have v9:∀{K:PH},af 9 σ K=.ok (.int (d.fmod 16)) K:=by rw[cz];intro K;rfl
 have d6:∀{K:PH},ag aZ (af 5) (eC (.int (6))) σ K=.ok (.int (mo.fdiv 6)) K:=dv v5 rfl (by decide) (by decide);have qk:=um d 16 (by decide);have na:∀{x:Nm},x∈[a]->x∈NS:=fun h=>by rw[aly.mp h];exact ha
 have Qj:∀{K:PH},K[ti]? =some (.lst (iw TL))->∃(g:Nat) (K':PH),aV oN (ae (ag aZ (af 5) (eC (.int (6)))) (ae (af 1) (ae (af 2) (ae (af 4) aj)))) σ K=.ok (.int g) K'/\Ex K K'/\Gl n p TL g:=fun{K} hK=>by
  obtain⟨g,K',e1,x1,hg⟩:=ahW (mo.fdiv 6) hK hp;exact⟨g,K',ay (au d6 (au v1 (au v2 (au v4 rfl)))) e1,x1,hg⟩
 unfold xQ oR;rw[Am];by_cases h3:d.fmod 16<3
 ·obtain⟨m,em⟩:∃m:Nat,d.fmod 16=(m:Int):=⟨(d.fmod 16).toNat,by omega⟩
  obtain⟨v,H1,e1,x1,sv⟩:=ajl (mo.fdiv 6) H;obtain⟨r,hr,ok,to⟩:∃r:Row,[(Row.set a v).w,(Row.copy a b).w,(Row.tell a).w][m]? =some r.w/\l9 NS r/\r.to=[]:=by
   have:m=0\/m=1\/m=2:=by omega
   rcases this with rfl | rfl | rfl
   ·exact⟨.set a v,rfl,⟨fun x h=>na h,fun _ _ z=>by cases z;exact sv⟩,rfl⟩
   ·refine⟨.copy a b,rfl,⟨fun x h=>?_,fun _ _ z=>by cases z⟩,rfl⟩
    rcases alD.mp h with z | z
    ·rw[z];exact ha
    ·rw[aly.mp z];exact hb
   ·exact⟨.tell a,rfl,⟨fun x h=>na h,fun _ _ z=>by cases z⟩,rfl⟩
  refine⟨r,H1++[.lst [(Row.set a v).w,(Row.copy a b).w,(Row.tell a).w]],pre (d7 (b9 (ltI v9 (decide_eq_true h3)) (retS (uV (ph1:=H1) (i:=(m:Int)) (au (w:=(Row.set a v).w) (ph1:=H1) (tp (au rfl (au v6 (au (ay (au d6 rfl) e1) rfl))) rfl) (au (w:=(Row.copy a b).w) (ph1:=H1) (tp (au rfl (au v6 (au v7 rfl))) rfl) (au (w:=(Row.tell a).w) (ph1:=H1) (tp (au rfl (au v6 rfl)) rfl) rfl))) (alx rfl) (by rw[<- em];exact v9) ?_)))),x1.trans (Ex.one _ _),ok,fun k hk=>by rw[to] at hk;cases hk⟩;rw[jH _ _ (by simp;omega)];exact hr
 by_cases h8:d.fmod 16<8
 ·obtain⟨m,hm,em⟩:=dm (a:=mo.fdiv 216) (n:=6) (by decide);obtain⟨wd,hw⟩:∃wd:Wd,[(.str "sum":W),.str "less",.str "times",.str "part",.str "below",.str "alike"][m]? =some (.str wd.s):=by
   have:m=0\/m=1\/m=2\/m=3\/m=4\/m=5:=by omega
   rcases this with rfl | rfl | rfl | rfl | rfl | rfl
   ·exact⟨.sum,rfl⟩
   ·exact⟨.less,rfl⟩
   ·exact⟨.times,rfl⟩
   ·exact⟨.part,rfl⟩
   ·exact⟨.below,rfl⟩
   ·exact⟨.alike,rfl⟩
  refine⟨.dE a wd b e,H++[PO.lst [.str "sum",.str "less",.str "times",.str "part",.str "below",.str "alike"]],pre (bq (aW (ltI v9 (decide_eq_false h3)) rfl) (d7 (b9 (ltI v9 (decide_eq_true h8)) (sq (asg (uV (ws:=[.str "sum",.str "less",.str "times",.str "part",.str "below",.str "alike"]) (w:=.str wd.s) (i:=(m:Int)) (ph1:=H) rfl (alx rfl) ?_ ?_)) (retS ?_))))),Ex.one _ _,⟨fun x h=>?_,fun _ _ z=>by cases z⟩,fun k hk=>nomatch hk⟩
  ·rw[<- em];exact md (dv v5 rfl (by decide) (by decide)) rfl (by decide)
  ·rw[jH _ _ (by simp;omega)];exact hw
  ·rw[cz];exact ay (au rfl (au rfl (au rfl (au rfl (au rfl rfl))))) rfl
  ·rcases alD.mp h with z | h
   ·rw[z];exact ha
   rcases alD.mp h with z | h
   ·rw[z];exact hb
   ·rw[aly.mp h];exact he
 by_cases A3:d.fmod 16<10
 ·obtain⟨m,em⟩:∃m:Nat,d.fmod 16-8=(m:Int):=⟨(d.fmod 16-8).toNat,by omega⟩
  obtain⟨r,hr,ok,to⟩:∃r:Row,[(Row.take a).w,Row.turn.w][m]? =some r.w/\l9 NS r/\r.to=[]:=by
   have:m=0\/m=1:=by omega
   rcases this with rfl | rfl
   ·exact⟨.take a,rfl,⟨fun x h=>na h,fun _ _ z=>by cases z⟩,rfl⟩
   ·exact⟨.turn,rfl,⟨(fun x h=>nomatch h),fun _ _ z=>by cases z⟩,rfl⟩
  refine⟨r,H++[.lst [(Row.take a).w,Row.turn.w]],pre (bq (aW (ltI v9 (decide_eq_false h3)) rfl) (bq (aW (ltI v9 (decide_eq_false h8)) rfl) (d7 (b9 (ltI v9 (decide_eq_true A3)) (retS (uV (ph1:=H) (i:=(m:Int)) (au (w:=(Row.take a).w) (ph1:=H) (tp (au rfl (au v6 rfl)) rfl) (au (w:=Row.turn.w) (ph1:=H) rfl rfl)) (alx rfl) (by rw[<- em];exact sb v9 rfl) ?_)))))),Ex.one _ _,ok,fun k hk=>by rw[to] at hk;cases hk⟩;rw[jH _ _ (by simp;omega)];exact hr
 by_cases FJ:d.fmod 16<14
 ·obtain⟨g,H1,e1,x1,hg⟩:=Qj ht;exact⟨.iff a g,H1,pre (bq (aW (ltI v9 (decide_eq_false h3)) rfl) (bq (aW (ltI v9 (decide_eq_false h8)) rfl) (bq (aW (ltI v9 (decide_eq_false A3)) rfl) (d7 (b9 (ltI v9 (decide_eq_true FJ)) (retS (tp (au rfl (au v6 (au e1 rfl))) rfl))))))),x1,⟨fun x h=>na h,fun _ _ z=>by cases z⟩,fun k hk=>by cases aly.mp hk;exact hg⟩
 by_cases Qk:d.fmod 16=14
 ·obtain⟨g,H1,e1,x1,hg⟩:=Qj ht;exact⟨.go g,H1,pre (bq (aW (ltI v9 (decide_eq_false h3)) rfl) (bq (aW (ltI v9 (decide_eq_false h8)) rfl) (bq (aW (ltI v9 (decide_eq_false A3)) rfl) (bq (aW (ltI v9 (decide_eq_false FJ)) rfl) (d7 (b9 (eI v9 (decide_eq_true Qk)) (retS (tp (au rfl (au e1 rfl)) rfl)))))))),x1,⟨(fun x h=>nomatch h),fun _ _ z=>by cases z⟩,fun k hk=>by cases aly.mp hk;exact hg⟩
 ·obtain⟨m,hm,em⟩:=dm (a:=mo.fdiv 6) (n:=3) (by decide);obtain⟨r,hr,ok,to⟩:∃r:Row,[Row.fin.w,(Row.tell a).w,Row.turn.w][m]? =some r.w/\l9 NS r/\r.to=[]:=by
   have:m=0\/m=1\/m=2:=by omega
   rcases this with rfl | rfl | rfl
   ·exact⟨.fin,rfl,⟨(fun x h=>nomatch h),fun _ _ z=>by cases z⟩,rfl⟩
   ·exact⟨.tell a,rfl,⟨fun x h=>na h,fun _ _ z=>by cases z⟩,rfl⟩
   ·exact⟨.turn,rfl,⟨(fun x h=>nomatch h),fun _ _ z=>by cases z⟩,rfl⟩
  refine⟨r,H++[.lst [Row.fin.w,(Row.tell a).w,Row.turn.w]],pre (bq (aW (ltI v9 (decide_eq_false h3)) rfl) (bq (aW (ltI v9 (decide_eq_false h8)) rfl) (bq (aW (ltI v9 (decide_eq_false A3)) rfl) (bq (aW (ltI v9 (decide_eq_false FJ)) rfl) (bq (aW (eI v9 (decide_eq_false Qk)) rfl) (br (uV (ph1:=H) (i:=(m:Int)) (au (w:=Row.fin.w) (ph1:=H) rfl (au (w:=(Row.tell a).w) (ph1:=H) (tp (au rfl (au v6 rfl)) rfl) (au (w:=Row.turn.w) (ph1:=H) rfl rfl))) (alx rfl) (by rw[<- em];exact md d6 rfl (by decide)) ?_))))))),Ex.one _ _,ok,fun k hk=>by rw[to] at hk;cases hk⟩;rw[jH _ _ (by simp;omega)];exact hr
theorem ajq(h:bG cs):anq (tx cs)=true:=by
 unfold anq tx;rw[aoQ,amw];intro c hc;have:=(h.ab c hc).2;exact decide_eq_true (by omega)
theorem jM(h:bG cs)(H:PH)(n:Nat):dat H n (aB cs)=some (.str (tx cs)):=by
 have:(if anq (tx cs)=true then some (aqA (tx cs)) else none)=some (.str (tx cs)):=if_pos (ajq h);cases n <;> exact this
noncomputable def Row.d:Row->aoz
 | .set a n=>.tuple [.str (ala "set"),.str (tx a),.int n]
 | .copy a b=>.tuple [.str (ala "copy"),.str (tx a),.str (tx b)]
 | .dE a w b c=>.tuple [.str (ala "do"),.str (tx a),.str (ala w.s),.str (tx b),.str (tx c)]
 | .take a=>.tuple [.str (ala "take"),.str (tx a)]
 | .tell a=>.tuple [.str (ala "tell"),.str (tx a)]
 | .turn=>.tuple [.str (ala "turn")]
 | .iff a p=>.tuple [.str (ala "if"),.str (tx a),.int p]
 | .go p=>.tuple [.str (ala "go"),.int p]
 | .fin=>.tuple [.str (ala "end")]
variable{r:Row}
theorem uJ(H:PH)(n:Nat)(h:∀a∈r.nm,bG a):dat H (n+1) r.w=some r.d:=by
 cases r with
 | set a m=>exact kc (mc (jL H n "set") (mc (jM (h a (by simp[Row.nm])) H n) (mc (ve ..) rfl)))
 | copy a b=>exact kc (mc (jL H n "copy") (mc (jM (h a (by simp[Row.nm])) H n) (mc (jM (h b (by simp[Row.nm])) H n) rfl)))
 | dE a w b c=>exact kc (mc (jL H n "do") (mc (jM (h a (by simp[Row.nm])) H n) (mc (jL H n w.s) (mc (jM (h b (by simp[Row.nm])) H n) (mc (jM (h c (by simp[Row.nm])) H n) rfl)))))
 | take a=>exact kc (mc (jL H n "take") (mc (jM (h a (by simp[Row.nm])) H n) rfl))
 | tell a=>exact kc (mc (jL H n "tell") (mc (jM (h a (by simp[Row.nm])) H n) rfl))
 | turn=>exact kc (mc (jL H n "turn") rfl)
 | iff a p=>exact kc (mc (jL H n "if") (mc (jM (h a (by simp[Row.nm])) H n) (mc (ve ..) rfl)))
 | go p=>exact kc (mc (jL H n "go") (mc (ve ..) rfl))
 | fin=>exact kc (mc (jL H n "end") rfl)
noncomputable def Row.gI:Row->Bool
 | .turn=>true
 | _=>false
theorem Kw(r:Row):amh r.d Row.turn.d=r.gI:=by
 cases r <;> simp only[Row.d,Row.gI,amh,aoi,aqK] <;> decide +kernel
theorem ahY(h:r.gI=true):r=.turn:=by cases r <;> first | rfl | cases h
structure GI(ph H:PH)(NS:List Nm)(n j:Nat)(R:List Row)(TL:List Nat):Prop where
 ex:Ex ph H
 r:H[ph.length]? =some (.lst (R.map Row.w))
 t:H[ph.length+1]? =some (.lst (iw TL))
 len:R.length=j
 tl:TL.length<=j
 wJ:∀t∈TL,R[t]? =some .turn
 ok:∀r∈R,l9 NS r
 jm:∀(p:Nat) y,R[p]? =some y->∀k∈y.to,(p<k/\k<=n)\/R[k]? =some .turn
abbrev sr(ns:List Int)(n ni p:Nat)(o:Option W):aT:=[some (.fl (ns.map W.int)),some (.int 3),some (.int n),some (.ref ni),some (.ref p),some (.ref (p+1)),o]
variable{R:List Row}
theorem ahZ(ns:List Int){n:Nat}(hN:ph[ni]? =some (.lst (NS.map aB)))(h0:NS≠[])(nk:∀a∈NS,bG a)(G:GI ph H NS n j R TL)(hj:j<n)(hn:n<=60) :
  ∃H' R' FK,xa (sr ns n ni ph.length (some (.int j))) H=.ok (.nx (sr ns n ni ph.length (some (.int j)))) H'/\GI ph H' NS n (j+1) R' FK:=by
 have hl:=G.len;have htl:=G.tl;obtain⟨m,hm,em⟩:=dm (a:=(j:Int)) (n:=24) (by decide);obtain⟨r,H1,e1,x1,ok,jm⟩:=ahX (ns.getD (3+(m:Int)).toNat 0+7919*(j:Int)) (G.ex.get hN) h0 G.t hj;obtain⟨H2,gJ⟩:∃H2,H2=H1.set ph.length (.lst (R.map Row.w++[r.w])):=⟨_,rfl⟩
 have gr:=x1.get G.r;have gt:=x1.get G.t;have a1:eo (cX eL dY (af 4) (ae (aV xQ (ae (ag addW (aV dX (ae (af 0) (ae (ag addW (af 1) (ag aR (af 6) (eC (.int (24))))) aj))) (ag cJ (eC (.int (7919))) (af 6))) (ae (af 6) (ae (af 2) (ae (af 3) (ae (af 5) aj)))))) aj)) (sr ns n ni ph.length (some (.int j))) H=.ok (.nx (sr ns n ni ph.length (some (.int j)))) H2:=by
  rw[gJ];refine tX rfl ⟨_,G.r⟩ (ay (au (ad (cl rfl (ad rfl (md rfl rfl (by decide))) (by rw[em];omega)) (ml rfl rfl (zx (by decide) (by decide)))) (au rfl (au rfl (au rfl (au rfl rfl))))) ?_) gr (by rw[alg];omega);rw[em];exact e1
 have g4:H2[ph.length]? =some (.lst ((R++[r]).map Row.w)):=by rw[gJ,pK gr,apg];rfl
 have g5:H2[ph.length+1]? =some (.lst (iw TL)):=by rw[gJ];exact(zy (by omega)).trans gt
 have nr:∀a∈r.nm,bG a:=fun a ha=>nk a (ok.1 a ha)
 have cO:eT (ag bh (ag ax (af 4) (d5 dP (eC (.int (1))))) (aH (ae (eC (.str "turn")) aj))) (sr ns n ni ph.length (some (.int j))) H2=.ok r.gI H2:=by
  refine tB (op (x:=r.w) (y:=Row.turn.w) (op (x:=.ref ph.length) (y:=.int (-1)) rfl rfl (ej g4 ?_)) rfl (zJ ?_))
  ·unfold cZ iS;rw[if_neg (by omega),if_pos (by simp;omega)];have:((-1:Int)+(((R++[r]).map Row.w).length:Nat)).toNat=R.length:=by simp;omega
   simp only[amv,this];rw[aln,aod];rfl
  ·unfold fJ;rw[uJ H2 39 nr,uJ H2 39 (r:=.turn) (fun a ha=>nomatch ha)];simp only[Kw]
 have ON:Ex ph H2:=by rw[gJ];exact Ex.set (G.ex.trans x1) (ali _) _
 have wJ:∀t∈TL,(R++[r])[t]? =some .turn:=fun t ht=>by
  have:=G.wJ t ht;rw[alR (alf.mp this).1];exact this
 have Ql:∀y∈R++[r],l9 NS y:=fun y hy=>by
  rcases amC.mp hy with z | z
  ·exact G.ok y z
  ·rw[aly.mp z];exact ok
 have Qm:∀(p:Nat) y,(R++[r])[p]? =some y->∀k∈y.to,(p<k/\k<=n)\/(R++[r])[k]? =some .turn:=fun p y hy k hk=>by
  rcases MY hy with⟨hp,z⟩ | ⟨z0,z⟩
  ·rcases G.jm p y z k hk with q | q
   ·exact .inl q
   ·refine .inr ?_;rw[alR (alf.mp q).1];exact q
  ·subst z
   rcases jm k hk with q | q
   ·exact .inl ⟨by omega,q.2⟩
   ·exact .inr (wJ k q)
 unfold xa;cases ht:r.gI with
 | false=>
  rw[ht] at cO;exact⟨H2,R++[r],TL,sq a1 (aW cO rfl),ON,g4,g5,by rw[alH,hl];rfl,by omega,wJ,Ql,Qm⟩
 | true=>
  rw[ht] at cO;refine⟨H2.set (ph.length+1) (.lst (iw TL++[.int j])),R++[r],TL++[j],sq a1 (b9 cO (tX rfl ⟨_,g5⟩ rfl g5 (by rw[Dm];omega))),Ex.set ON (by omega) _,(zy (by omega)).trans g4,(pK g5).trans (by rw[ahR];rfl),by rw[alH,hl];rfl,by simp;omega,fun t h=>?_,Ql,Qm⟩
  rcases amC.mp h with z | z
  ·exact wJ t z
  ·rw[aly.mp z,<- hl,aod,ahY ht]
structure lp(NS:List Nm)(R:List Row):Prop where
 ok:∀r∈R,l9 NS r
 jm:∀(p:Nat) y,R[p]? =some y->∀k∈y.to,k<=R.length/\(k<=p->R[k]? =some .turn)
theorem ah0(ns:List Int){n:Nat}(hN:ph[ni]? =some (.lst (NS.map aB)))(h0:NS≠[])(nk:∀a∈NS,bG a)(hn:n<=60) :
  ∃R H',xy [.fl (ns.map W.int),.int 3,.int n,.ref ni] ph=.ok (.ref ph.length) H'/\Ex ph H'/\H'[ph.length]? =some (.lst (R.map Row.w))/\R.length=n/\lp NS R:=by
 obtain⟨H0,eH⟩:∃H0,H0=ph++[PO.lst []]++[PO.lst []]:=⟨_,rfl⟩
 have G0:GI ph H0 NS n 0 [] []:=by
  subst eH;refine⟨(Ex.one _ _).trans (Ex.one _ _),(Ex.one _ _).get (aY _ _),?_,rfl,ali _,fun _ h=>(nomatch h),fun _ h=>(nomatch h),fun p y h=>by simp at h⟩;have:=aY (ph++[PO.lst []]) (PO.lst []);rw[alH] at this;exact this
 obtain⟨az,H',e,R,TL,⟨o,rfl⟩,G⟩:=pb (chk:=fun _=>true) (g:=gN 6) (b:=xa) (fun j σ H=>∃R TL,(∃o,σ=sr ns n ni ph.length o)/\GI ph H NS n j R TL)
  (gn 0 n) (sr ns n ni ph.length none) H0 (fun _ _ _ _=>rfl) (fun j x σ H hj hI=>by
   obtain⟨R,TL,⟨o,rfl⟩,G⟩:=hI;obtain⟨hjn,rfl⟩:=Kj hj;rw[Int.zero_add];obtain⟨H',R',FK,e1,G'⟩:=ahZ ns hN h0 nk G hjn hn;exact⟨_,_,rfl,_,_,e1,_,.inl rfl,R',FK,⟨_,rfl⟩,G'⟩) ⟨[],[],⟨none,rfl⟩,G0⟩
 rw[Kk] at G;refine⟨R,H',?_,G.ex,G.r,G.len,G.ok,fun p y hy k hk=>?_⟩
 ·unfold xy oO;rw[vF];refine bq (ph1:=ph++[.lst []]) (σ1:=[some (.fl (ns.map W.int)),some (.int 3),some (.int n),some (.ref ni),some (.ref ph.length),none,none]) rfl (bq (ph1:=H0) (σ1:=sr ns n ni ph.length none) ?_ (bq (fB (De (j:=(n:Int)) rfl (by omega) (by omega)) e) (br rfl)));refine(asg (w:=.ref (ph.length+1)) (ph1:=H0) ?_).trans rfl;rw[eH];show Out.ok (W.ref (ph++[PO.lst []]).length) _=_;rw[alH];rfl
 ·have hl:=G.len
  rcases G.jm p y hy k hk with q | q
  ·exact⟨by omega,fun z=>by omega⟩
  ·exact⟨aqj (alf.mp q).1,fun _=>q⟩
theorem ah1:∀m:Fin 26,(!(amE (ala "abcdefghijklmnopqrstuvwxyz") (sg (97+m.1)) 0 (ala "abcdefghijklmnopqrstuvwxyz").length 1).isEmpty)=true:=nofun
theorem ah2{c:Nat}(h:Ab c)(H:PH):lift (qg (cN c) (.str "abcdefghijklmnopqrstuvwxyz")) H=.ok (.bl true) H:=by
 have:=ah1 ⟨c-97,by have:=h.1;have:=h.2;omega⟩;rw[show 97+(c-97)=c by have:=h.1;omega] at this;show Out.ok (W.bl (!(amE _ (sg c) 0 _ 1).isEmpty)) H=_;rw[this]
theorem cj{a:TM}{c:Bool}(h:a σ ph=.ok c ph1):el a σ ph=.ok (!c) ph1:=ay h rfl
theorem eB{e:EM}{c:Bool}(h:e σ ph=.ok (.bl c) ph1):cL e σ ph=.ok c ph1:=ay h rfl
theorem oF{a b:TM}{r:Out Bool}(h:a σ ph=.ok false ph1)(h2:b σ ph1=r):dN a b σ ph=r:=ay h h2
theorem NX{l:List α}(h:H[i]? =some (.lst (l.map fun _=>W.bl true))):lift (lj [.ref i]) H=.ok (.bl true) H:=by
 have e:(l.map fun _=>W.bl true)=(l.map fun _=>true).map W.bl:=by rw[ans];rfl
 rw[e] at h;rw[y4 h]
 congr 2
 rw[amw];intro x hx;obtain⟨_,_,rfl⟩:=aow.mp hx;rfl
variable{u:W}
theorem ny{f':W->W->Po W}{b c:EM}{x:W}{k:Bool}(ha:a σ ph=.ok x ph)(hb:b σ ph=.ok y ph)(h1:lift (f x y) ph=.ok (.bl true) ph)(hc:c σ ph=.ok u ph)(h2:lift (f' y u) ph=.ok (.bl k) ph):jI f f' a b c σ ph=.ok (.bl k) ph:=
 ay ha (ay hb (ay h1 (ay hc h2)))
theorem JC(h:bG cs)(H:PH):∃H',jE [aB cs] H=.ok (.bl true) H'/\Ex H H':=by
 have hlo:=h.lo;have hhi:=h.hi;have hsz:(tx cs).length=cs.length:=by show cs.toArray.size=_;simp
 have b7:lift (bR [aB cs]) H=.ok (.int cs.length) H:=by
  have e:bR [aB cs] H=some (.int cs.length,H):=by
   unfold bR aB;simp only[];rw[hsz,if_pos (alT hhi (by decide))]
  unfold lift;rw[e]
 have En:(tx cs).cps.all (· <128)=true:=by
  unfold tx;rw[aoQ,amw];intro c hc;have:=(h.ab c hc).2;exact decide_eq_true (by omega)
 have mW:jU (af 0) [some (aB cs)] H=.ok (cs.map cN,fun _=>true) H:=by
  refine ay (a:=aB cs) (ph':=H) rfl ?_;have e:nY (aB cs) H=some ((cs.map cN,fun _=>true),H):=by
   unfold nY aB;simp only[];rw[if_pos En];unfold vJ tx;simp only[];rfl
  unfold lift;rw[e]
 obtain⟨H1,e1,x1⟩:=lP cs cN (im:=jU (af 0)) (cap:=[none]) (g:=gN 0) (c:=dz) (e:=ag qg (af 0) (eC (.str "abcdefghijklmnopqrstuvwxyz"))) mW (fun _ _=>rfl) (small (by omega)) (fun _=>some (.bl true)) (fun σ=>∃o,σ=[o]) ⟨none,rfl⟩
  (fun c hc σ K hS _=>by
   obtain⟨o,rfl⟩:=hS;exact⟨_,rfl,⟨_,rfl⟩,true,K,rfl,Ex.refl _,.inr ⟨rfl,_,K,op rfl rfl (ah2 (h.ab c hc) K),Ex.refl _,rfl⟩⟩)
 rw[pw] at x1;refine⟨H1,?_,(Ex.one _ _).trans x1⟩;unfold jE kQ;rw[fk];refine bq (ph1:=H) (aW (oF (cj (eB (c:=true) (ay (a:=aB cs) (ph':=H) rfl rfl))) (cj (c:=true) (tB ?_))) rfl) (br (ay (au e1 rfl) (NX (x1.get (aY _ _)))));refine ny rfl (ay (au (w:=aB cs) rfl rfl) b7) ?_ rfl ?_
 ·show Out.ok (W.bl (decide ((1:Int)<=(cs.length:Int)))) H=_;rw[decide_eq_true (by omega)]
 ·show Out.ok (W.bl (decide ((cs.length:Int)<=6))) H=_;rw[decide_eq_true (by omega)]
theorem lQ(h:oy n)(H:PH):eR [.int n] H=.ok (.bl true) H:=by
 obtain⟨h1,h2⟩:=h;unfold eR iY;rw[fk];refine bq (ph1:=H) (aW (oF (cj (eB (c:=true) rfl)) (eB (c:=false) rfl)) rfl) (br (ny rfl rfl ?_ rfl ?_))
 ·show Out.ok (W.bl (decide (-2147483648<=n))) H=_;rw[decide_eq_true h1]
 ·show Out.ok (W.bl (decide (n<2147483648))) H=_;rw[decide_eq_true (by omega)]
theorem A4{b:EM}{r:Out W}(ha:a σ ph=.ok (.bl true) ph)(hb:b σ ph=r):lc a b σ ph=r:=ay ha (ay rfl hb)
theorem acB(w:Wd)(H:PH):lN [.str w.s] H=.ok (.bl true) H:=by
 unfold lN lM;rw[fk];refine br (A4 rfl (op rfl rfl ?_));have e:nZ (.str w.s) (.kt (kU.map W.str)) H=some (.bl true,H):=by
  unfold nZ;simp only[pd strOf W.str id (fun _=>rfl),aqu,id,alS];rw[decide_eq_true];cases w <;> unfold kU Wd.s <;> decide +kernel
 unfold lift;rw[e]
theorem aaZ{n:Nat}(h:k<=n)(hn:n<=60)(H:PH):kN [.int k,.int n] H=.ok (.bl true) H:=by
 unfold kN lI;rw[dQ];refine br (A4 (ay (au rfl rfl) (lQ ⟨by omega,by omega⟩ H)) (ny rfl rfl ?_ rfl ?_))
 ·show Out.ok (W.bl (decide ((0:Int)<=(k:Int)))) H=_;rw[decide_eq_true (by omega)]
 ·show Out.ok (W.bl (decide ((k:Int)<=(n:Int)))) H=_;rw[decide_eq_true (by omega)]
noncomputable def Row.ks:Row->List (String×W)
 | .set a n=>[("name",aB a),("number",.int n)]
 | .copy a b=>[("name",aB a),("name",aB b)]
 | .dE a w b c=>[("name",aB a),("word",.str w.s),("name",aB b),("name",aB c)]
 | .take a=>[("name",aB a)]
 | .tell a=>[("name",aB a)]
 | .turn=>[]
 | .iff a p=>[("name",aB a),("place",.int p)]
 | .go p=>[("place",.int p)]
 | .fin=>[]
noncomputable def Row.x:Row->String
 | .set _ _=>"set"
 | .copy _ _=>"copy"
 | .dE _ _ _ _=>"do"
 | .take _=>"take"
 | .tell _=>"tell"
 | .turn=>"turn"
 | .iff _ _=>"if"
 | .go _=>"go"
 | .fin=>"end"
theorem vp(r:Row):r.w=.tup (.str r.x::r.ks.map (·.2)):=by cases r <;> rfl
theorem yY:dD "set" cP=some (["name","number"]:List Str):=nofun
theorem B5:dD "copy" cP=some (["name","name"]:List Str):=nofun
theorem CP:dD "do" cP=some (["name","word","name","name"]:List Str):=nofun
theorem JD:dD "take" cP=some (["name"]:List Str):=nofun
theorem B6:dD "tell" cP=some (["name"]:List Str):=nofun
theorem JH:dD "turn" cP=some []:=nofun
theorem CQ:dD "if" cP=some (["name","place"]:List Str):=nofun
theorem LN:dD "go" cP=some (["place"]:List Str):=nofun
theorem Kx:dD "end" cP=some []:=nofun
theorem Ky(r:Row):dD (ala r.x) cP=some (r.ks.map fun p=>ala p.1):=by
 cases r with
 | set a n=>exact yY
 | copy a b=>exact B5
 | dE a w b c=>exact CP
 | take a=>exact JD
 | tell a=>exact B6
 | turn=>exact JH
 | iff a p=>exact CQ
 | go p=>exact LN
 | fin=>exact Kx
theorem Kz(r:Row){e:EM}(h:e σ H=.ok (.str r.x) H):zN cP e σ H=.ok (.kt (r.ks.map fun p=>W.str (ala p.1))) H:=by
 refine ay h ?_;have e:sM cP (.str r.x) H=some (.kt (r.ks.map fun p=>W.str (ala p.1)),H):=by
  unfold sM;simp only[Ky,alS,ans];rfl
 unfold lift;rw[e]
theorem uN{e:EM}{a:W}{l:List W}(h:e σ H=.ok (.tup (a::l)) H):cE e (cc (eC (.int (1)))) cB σ H=.ok (.tup l) H:=by
 rw[zm];refine ay h (ay (a:=some 1) (ph':=H) rfl (ay (a:=none) (ph':=H) rfl ?_));have e:kC (.tup (a::l)) (some 1) none H=some (.tup l,H):=by
  unfold kC;have c1:HT.bA (a::l).length 0 (some 1)=1:=by
   unfold HT.bA;simp
  have c2:jo (a::l) (some 1) none=l:=by
   unfold jo;rw[c1];unfold HT.bA;simp
  simp only[c1,c2];rw[if_neg (fun z=>absurd z.1 (by decide))]
 unfold lift;rw[e]
noncomputable def lz(p:String×W):W:=.tup [.str p.1,p.2]
theorem M2(l:List (String×W)):qf (l.map fun p=>W.str (ala p.1)) (l.map (·.2))=l.map lz:=by
 induction l with
 | nil=>rfl
 | cons p l ih=>
  unfold qf at ih ⊢;rw[alO,alO,List.zip_cons_cons,alO,ih];rfl
theorem LO(r:Row){b:EM}(ha:a σ H=.ok (.kt (r.ks.map fun p=>W.str (ala p.1))) H)(hb:b σ H=.ok (.tup (r.ks.map (·.2))) H):pS (ae a (ae b aj)) σ H=.ok (r.ks.map lz,fun _=>true) H:=by
 refine ay (au ha (au hb rfl)) ?_;have e:sL [.kt (r.ks.map fun p=>W.str (ala p.1)),.tup (r.ks.map (·.2))] H=some ((r.ks.map lz,fun _=>true),H):=by
  unfold sL;simp only[vh,M2]
 unfold lift;rw[e]
theorem ah3(nk:∀a∈NS,bG a){n:Nat}(ok:l9 NS r)(hp:∀k∈r.to,k<=n)(hn:n<=60){p:String×W}(h:p∈r.ks)(H:PH):∃H',f6 [.str p.1,p.2,.int n] H=.ok (.bl true) H'/\Ex H H':=by
 have nm:∀{a:Nm},a∈r.nm->∃H',f6 [.str "name",aB a,.int n] H=.ok (.bl true) H'/\Ex H H':=fun{a} ha=>by
  obtain⟨H',e,x⟩:=JC (nk a (ok.1 a ha)) H;refine⟨H',?_,x⟩;unfold f6 iy;rw[gW];exact d7 (b9 (wv "name" rfl rfl) (retS (ay (au rfl rfl) e)))
 have pl:∀{k:Nat},k∈r.to->∃H',f6 [.str "place",.int k,.int n] H=.ok (.bl true) H'/\Ex H H':=fun{k} hk=>by
  refine⟨H,?_,Ex.refl _⟩;unfold f6 iy;rw[gW];exact bq (aW (wv "place" rfl rfl) rfl) (bq (aW (wv "place" rfl rfl) rfl) (bq (aW (wv "place" rfl rfl) rfl) (br (ay (au rfl (au rfl rfl)) (aaZ (hp k hk) hn H)))))
 cases r with
 | set a m=>
  rcases alD.mp h with rfl | h
  ·exact nm (by simp[Row.nm])
  ·cases aly.mp h;refine⟨H,?_,Ex.refl _⟩;unfold f6 iy;rw[gW];exact bq (aW (wv "number" rfl rfl) rfl) (d7 (b9 (wv "number" rfl rfl) (retS (ay (au rfl rfl) (lQ (ok.2 a m rfl) H)))))
 | copy a b=>
  rcases alD.mp h with rfl | h
  ·exact nm (by simp[Row.nm])
  ·cases aly.mp h;exact nm (by simp[Row.nm])
 | dE a w b c=>
  rcases alD.mp h with rfl | h
  ·exact nm (by simp[Row.nm])
  rcases alD.mp h with rfl | h
  ·refine⟨H,?_,Ex.refl _⟩;unfold f6 iy;rw[gW];exact bq (aW (wv "word" rfl rfl) rfl) (bq (aW (wv "word" rfl rfl) rfl) (d7 (b9 (wv "word" rfl rfl) (retS (ay (au rfl rfl) (acB w H))))))
  rcases alD.mp h with rfl | h
  ·exact nm (by simp[Row.nm])
  ·cases aly.mp h;exact nm (by simp[Row.nm])
 | take a=>
  cases aly.mp h;exact nm (by simp[Row.nm])
 | tell a=>
  cases aly.mp h;exact nm (by simp[Row.nm])
 | turn=>cases h
 | iff a p=>
  rcases alD.mp h with rfl | h
  ·exact nm (by simp[Row.nm])
  ·cases aly.mp h;exact pl (by simp[Row.to])
 | go p=>
  cases aly.mp h;exact pl (by simp[Row.to])
 | fin=>cases h
theorem sO{e:EM}(h:e σ H=.ok r.w H):ag ax e (eC (.int (0))) σ H=.ok (.str r.x) H:=by
 rw[vp] at h;exact op h rfl (by rw[sJ,sH];rfl)
theorem Do(r:Row):r.ks.length<=4:=by cases r <;> exact alx rfl
theorem Cq(nk:∀a∈NS,bG a){n:Nat}(ok:l9 NS r)(hp:∀k∈r.to,k<=n)(hn:n<=60)(H:PH):∃H',fA [r.w,.int n] H=.ok (.bl true) H'/\Ex H H':=by
 have hk:=Do r;obtain⟨σ,cz⟩:∃σ:aT,σ=[some r.w,some (.int n),some (.kt (r.ks.map fun p=>W.str (ala p.1)))]:=⟨_,rfl⟩
 have hs:cE (af 0) (cc (eC (.int (1)))) cB σ H=.ok (.tup (r.ks.map (·.2))) H:=uN (a:=.str r.x) (by rw[cz,<- vp];rfl);obtain⟨H1,e1,x1⟩:=lP r.ks lz (cap:=[none,none,some 1]) (g:=iL 2 [(gN 0),(gN 1)]) (c:=dz) (e:=aV f6 (ae (af 0) (ae (af 1) (ae (af 2) aj)))) (LO r (a:=af 2) (b:=cE (af 0) (cc (eC (.int (1)))) cB) (σ:=σ) (by rw[cz];rfl) hs) (fun _ _=>rfl) (small (by omega)) (fun _=>some (.bl true)) (fun σ=>∃o o',σ=[o,o',some (.int n)]) ⟨none,none,by rw[cz];rfl⟩
  (fun p tP σ K hS _=>by
   obtain⟨o,o',rfl⟩:=hS;obtain⟨K',e2,x2⟩:=ah3 nk ok hp hn tP K;exact⟨_,rfl,⟨_,_,rfl⟩,true,K,rfl,Ex.refl _,.inr ⟨rfl,_,K',ay (au rfl (au rfl (au rfl rfl))) e2,x2,rfl⟩⟩)
 rw[pw] at x1;refine⟨H1,?_,(Ex.one _ _).trans x1⟩;have hw:=vp r;have l0:bz bR (ae (af 0) aj) [some r.w,some (.int n),none] H=.ok (.int ((r.ks.length+1:Nat):Int)) H:=by
  rw[hw];refine ay (au rfl rfl) ?_;show Out.ok (W.int (((W.str r.x::r.ks.map (·.2)).length:Nat):Int)) H=_;rw[alA,alg]
 have l1:bz bR (ae (af 0) aj) σ H=.ok (.int ((r.ks.length+1:Nat):Int)) H:=by
  rw[cz,hw];refine ay (au rfl rfl) ?_;show Out.ok (W.int (((W.str r.x::r.ks.map (·.2)).length:Nat):Int)) H=_;rw[alA,alg]
 have r0:ag ax (af 0) (eC (.int (0))) [some r.w,some (.int n),none] H=.ok (.str r.x) H:=sO rfl;unfold fA jF;rw[dQ];refine bq (ph1:=H) (aW (oF (cj (eB (c:=true) ?_)) (eI l0 (decide_eq_false (by omega)))) rfl) (bq (ph1:=H) (aW (oF (cj (eB (c:=true) (ay r0 rfl))) (tB (ay r0 ?_))) rfl) (bq (ph1:=H) (σ1:=σ) ((asg (Kz r r0)).trans (by rw[cz];rfl)) (bq (ph1:=H) (aW (tB (op (f:=cS) (ph2:=H) l1 (ad (i:=(r.ks.length:Int)) (j:=1) ?_ rfl) ?_)) rfl) (br (ay (au e1 rfl) (NX (x1.get (aY _ _))))))))
 ·rw[hw];rfl
 ·have e:ll (fun b=> !b) cP (.str r.x) H=some (.bl false,H):=by
   unfold ll;simp only[Ky];rfl
  unfold lift;rw[e]
 ·rw[cz];refine ay (au rfl rfl) ?_;show Out.ok (W.int (((r.ks.map fun p=>W.str (ala p.1)).length:Nat):Int)) H=_;rw[alg]
 ·rw[u9,decide_eq_true (by omega)];rfl
theorem JJ{α β:Type}(c:α->Bool)(f:α->β):∀l:List α,l.filterMap (fun a=>if c a=true then some (f a) else none)=(l.filter c).map f
 | []=>rfl
 | a::l=>by
  rw[anH,List.filter_cons,JJ c f l];cases c a <;> rfl
theorem LP(r:Row)(k:String)(H:PH):∃H',qL [r.w,.str k] H=.ok (.ref H.length) H'/\Ex (H++[.lst ((r.ks.filter fun p=>decide (p.1=k)).map (·.2))]) H':=by
 have hk:=Do r;have r0:ag ax (af 0) (eC (.int (0))) [some r.w,some (.str k)] H=.ok (.str r.x) H:=sO rfl;have hs:cE (af 0) (cc (eC (.int (1)))) cB [some r.w,some (.str k)] H=.ok (.tup (r.ks.map (·.2))) H:=uN (a:=.str r.x) (by rw[<- vp];rfl);obtain⟨H1,e1,x1⟩:=lP r.ks lz (cap:=[none,none,some 1]) (g:=iL 2 [(gN 0),(gN 1)]) (c:=eT (ag bh (af 0) (af 2))) (e:=af 1) (LO r (Kz r r0) hs) (fun _ _=>rfl) (small (by omega)) (fun p=>if decide (p.1=k)=true then some p.2 else none) (fun σ=>∃o o',σ=[o,o',some (.str k)]) ⟨none,none,rfl⟩
  (fun p tP σ K hS _=>by
   obtain⟨o,o',rfl⟩:=hS;refine⟨_,rfl,⟨_,_,rfl⟩,decide (p.1=k),K,tB (op (x:=.str p.1) (y:=.str k) rfl rfl (by rw[vc];rfl)),Ex.refl _,?_⟩;cases decide (p.1=k) with
   | false=>exact .inl ⟨rfl,rfl⟩
   | true=>exact .inr ⟨rfl,_,K,rfl,Ex.refl _,rfl⟩)
 rw[JJ (fun p:String×W=>decide (p.1=k))] at x1;refine⟨H1,?_,x1⟩;unfold qL mZ;rw[dQ];exact br e1
theorem adI(r:Row):(r.ks.filter fun p=>decide (p.1="place")).map (·.2)=iw r.to:=by cases r <;> simp[Row.ks,Row.to,iw]
theorem afu(r:Row):(r.ks.filter fun p=>decide (p.1="name")).map (·.2)=r.nm.map aB:=by cases r <;> simp[Row.ks,Row.nm]
theorem LQ(r:Row){e:EM}(h:e σ H=.ok r.w H):∃H',er (aV qL (ae e (ae (eC (.str "place")) aj))) σ H=.ok (iw r.to,fun p=>decide (p[H.length]? =some (.lst (iw r.to)))) H'/\Ex H H'/\H'[H.length]? =some (.lst (iw r.to)):=by
 obtain⟨H',e1,x1⟩:=LP r "place" H;rw[adI] at x1;have g:=x1.get (aY _ _);exact⟨H',oX (ay (au h (au rfl rfl)) e1) g,(Ex.one _ _).trans x1,g⟩
theorem ah4(r:Row){e:EM}(h:e σ H=.ok r.w H):∃H',er (aV qL (ae e (ae (eC (.str "name")) aj))) σ H=.ok (r.nm.map aB,fun p=>decide (p[H.length]? =some (.lst (r.nm.map aB)))) H'/\Ex H H'/\H'[H.length]? =some (.lst (r.nm.map aB)):=by
 obtain⟨H',e1,x1⟩:=LP r "name" H;rw[afu] at x1;have g:=x1.get (aY _ _);exact⟨H',oX (ay (au h (au rfl rfl)) e1) g,(Ex.one _ _).trans x1,g⟩
theorem NY(h:R[k]? =some r):cZ (R.map Row.w) (k:Int)=some r.w:=by
 rw[jH _ _ (by rw[alg];exact(alf.mp h).1),aln,h];rfl
theorem ah5{a b:List Nat}(h:tx a=tx b):a=b:=by
 unfold tx at h;injection h with h
 simpa using h
variable{MS:List Nm}
theorem M3{a:Nm}(h:H[i]? =some (.lst (MS.map aB)))(nk:∀b∈MS,bG b)(na:bG a):lift (kj (aB a) (.ref i)) H=.ok (.bl (!decide (a∈MS))) H:=by
 have e:bW (dat H 40) (MS.map aB)=some (MS.map fun b=>aqA (tx b)):=by
  clear h
  induction MS with
  | nil=>rfl
  | cons b MS ih=>exact mc (jM (nk b (by simp)) H 40) (ih fun c hc=>nk c (alE _ hc))
 rw[adf h e (jM na H 40),List.any_map]
 congr 3
 rw[Bool.eq_iff_iff,aqa,decide_eq_true_eq];constructor
 ·rintro⟨b,hb,q⟩;simp only[Function.comp,DF,decide_eq_true_eq] at q;exact ah5 q▸hb
 ·intro hk;exact⟨a,hk,by simp only[Function.comp,DF,decide_true]⟩
theorem M4{α:Type}[DecidableEq α]:∀{M N:List α},M.Nodup->(∀a∈M,a∈N)->M.length<=N.length
 | [],_,_,_=>ant _
 | a::M,N,nd,h=>by
  have ha:=h a amc;have Qn:=anV.mp nd;have:=M4 (N:=N.erase a) Qn.2 fun b hb=>(List.mem_erase_of_ne (fun z:b=a=>Qn.1 (z▸hb))).mpr (h b (alE _ hb))
  rw[List.length_erase_of_mem ha] at this;have:0<N.length:=List.length_pos_of_mem ha;rw[alA];omega
theorem enW(R:List Row):∀{j:Nat} {w:W},(gc (R.map Row.w))[j]? =some w->∃r,R[j]? =some r/\w=.tup [.int j,r.w]:=by
 intro j w h;obtain⟨x,h1,h2⟩:=Ly h;rw[aln] at h1;obtain⟨r,hr,rfl⟩:=alv.mp h1;exact⟨r,hr,h2⟩
theorem bx{m:Mo α}{f:α->Mo β}{x:XC}(h:m ph=.ex x ph1):aA m f ph=.ex x ph1:=by
 unfold aA;rw[h]
theorem qC{a:SM}{k:Fl->Mo W}{x:XC}(h:a σ ph=.ex x ph1):aA (aD a b σ) k ph=.ex x ph1:=by
 rw[nv,i9];exact bx h
theorem FL{a:SM}{x:XC}(h:a σ ph=.ex x ph1):aD a b σ ph=.ex x ph1:=by
 rw[nv];exact bx h
theorem oT{a b:TM}(h:a σ ph=.ok true ph1):dN a b σ ph=.ok true ph1:=ay h rfl
theorem uK{c fl:Str}{w:W}(h:m σ ph=.ok w ph1)(hw:A0 w=true):pz c fl m σ ph=.ex ⟨c,[(fl,w)]⟩ ph1:=by
 unfold pz;refine ay h ?_;rw[if_pos hw];rfl
variable{tb:List (Str×Bool)}
theorem NZ{h:SM}{x:XC}{w:W}(e1:b σ ph=.ex x ph1)(ht:tb.lookup x.cls=some true)(e2:h ((alj σ.length none).set i (some (.exc x.cls (x.fs.map (·.1)) (x.fs.map (·.2))))) ph1=.ok (.rt w) ph2):kT tb i b h σ ph=.ok (.rt w) ph2:=by
 unfold kT;rw[e1];show(if tb.lookup x.cls=some true then _ else _)=_;rw[if_pos ht];unfold wm;rw[cu e2];rfl
theorem akt{c f:Str}{v:W}(ph:PH):lift (wD c f (.exc c [f] [v])) ph=.ok v ph:=by
 have e:wD c f (.exc c [f] [v]) ph=some (v,ph):=by
  unfold wD;exact if_pos ⟨rfl,rfl⟩
 unfold lift;rw[e]
theorem LR{chk:PH->Bool}{g:GM}{b:SM}(I:Nat->aT->PH->Prop)(P:XC->PH->Prop):∀(items:List W) (k m:Nat) (σ:aT) (ph:PH),
  (∀j σ ph,I j σ ph->chk ph=true) →
  (∀j x σ ph,j<m->items[j]? =some x->I (k+j) σ ph->∃σ1 ph1,g x σ ph=.ok σ1 ph1/\∃bo ph2,b σ1 ph1=.ok (.nx bo) ph2/\I (k+j+1) bo ph2) →
  (∃x,items[m]? =some x/\∀σ ph,I (k+m) σ ph->∃σ1 ph1,g x σ ph=.ok σ1 ph1/\∃e ph2,b σ1 ph1=.ex e ph2/\P e ph2) →
  I k σ ph->∃e ph',cM chk g b items σ ph=.ex e ph'/\P e ph'
 | [],k,m,σ,ph,hc,hs,he,h0=>by
  obtain⟨x,hx,_⟩:=he;simp at hx
 | x::xs,k,0,σ,ph,hc,hs,he,h0=>by
  obtain⟨y,hy,hr⟩:=he;cases hy;obtain⟨σ1,ph1,e1,e,ph2,e2,hP⟩:=hr σ ph h0;refine⟨e,ph2,?_,hP⟩;unfold cM;rw[if_pos (hc _ _ _ h0),cu e1];exact bx e2
 | x::xs,k,m+1,σ,ph,hc,hs,he,h0=>by
  obtain⟨σ1,ph1,e1,bo,ph2,e2,hI⟩:=hs 0 x σ ph (Nat.succ_pos _) rfl h0;have e:cM chk g b (x::xs) σ ph=cM chk g b xs bo ph2:=by
   conv=>lhs;unfold cM
   rw[if_pos (hc _ _ _ h0),cu e1,cu e2]
  rw[e];obtain⟨y,hy,hr⟩:=he;exact LR I P xs (k+1) m bo ph2 hc (fun j y σ ph hj hx hI=>by
   have:=hs (j+1) y σ ph (by omega) (by simpa using hx) (by rw[show k+(j+1)=k+1+j by omega];exact hI);rw[show k+(j+1)+1=k+1+j+1 by omega] at this;exact this) ⟨y,by simpa using hy,fun σ ph hI=>hr σ ph (by rw[show k+(m+1)=k+1+m by omega];exact hI)⟩ hI
theorem aku{b:EM}{r:Out W}(ha:a σ ph=.ok (.bl true) ph1)(hb:b σ ph1=r):lc a b σ ph=r:=ay ha (ay rfl hb)
theorem CS{α β:Type}{f:α->Option β}:∀{l:List α} {D:List β},l.length=D.length->(∀(j:Nat) a d,l[j]? =some a->D[j]? =some d->f a=some d)->bW f l=some D
 | [],[],_,_=>rfl
 | [],_::_,h,_=>by simp at h
 | _::_,[],h,_=>by simp at h
 | a::l,d::D,h,k=>mc (k 0 a d rfl rfl) (CS (by simpa using h) fun j x y hx hy=>k (j+1) x y (by simpa using hx) (by simpa using hy))
theorem KA(nk:∀a∈NS,bG a)(ok:lp NS R)(H:PH)(n:Nat):bW (dat H (n+1)) (R.map Row.w)=some (R.map Row.d):=by
 refine CS (by simp) fun j a d ha hd=>?_
 rw[aln] at ha hd;obtain⟨r,hr,rfl⟩:=alv.mp ha;rw[hr] at hd;cases hd;exact uJ H n fun a ha=>nk a ((ok.ok r (alF hr)).1 a ha)
theorem mC{T:TM}{rest:SM}(h:T σ ph=.ok true ph1):aA (aD (bf T (aU (eC (.bl false))) bv) rest σ) dO ph=.ok (.bl false) ph1:=d7 (b9 h rfl)
theorem Dp{w:W}(h:lift (du "tuple" w) H=.ok (.bl false) H):fA [w,.int n] H=.ok (.bl false) H:=by
 unfold fA jF;rw[dQ];exact mC (oT (cj (c:=false) (eB (ay rfl h))))
theorem ajr:fA [.tup [],.int n] H=.ok (.bl false) H:=by
 unfold fA jF;rw[dQ];exact mC (oF (cj (c:=true) (eB rfl)) (eI (g:=0) rfl rfl))
theorem ajs{a:W}(ha:lift (du "str" a) H=.ok (.bl false) H):fA [.tup (a::ws),.int n] H=.ok (.bl false) H:=by
 unfold fA jF;rw[dQ];refine bq (ph1:=H) (aW (oF (cj (c:=true) (eB rfl)) (eI (g:=((a::ws).length:Int)) rfl (decide_eq_false (by simp;omega)))) rfl) (mC (oT (cj (c:=false) (eB (ay (a:=a) (ph':=H) (op rfl rfl (by rw[sJ,sH];rfl)) ha)))))
theorem ajt{x:String}(ha:dD (ala x) cP=none):fA [.tup (.str x::ws),.int n] H=.ok (.bl false) H:=by
 have r0:ag ax (af 0) (eC (.int (0))) [some (.tup (.str x::ws)),some (.int n),none] H=.ok (.str x) H:=op rfl rfl (by rw[sJ,sH];rfl);unfold fA jF;rw[dQ];refine bq (ph1:=H) (aW (oF (cj (c:=true) (eB rfl)) (eI (g:=((W.str x::ws).length:Int)) rfl (decide_eq_false (by simp;omega)))) rfl) (mC (oF (cj (c:=true) (eB (ay r0 rfl))) (tB (ay r0 ?_))));have e:ll (fun b=> !b) cP (.str x) H=some (.bl true,H):=by
  unfold ll;simp only[ha];rfl
 unfold lift;rw[e]
theorem N0{x:String}{kd:List Str}(hk:dD (ala x) cP=some kd){r:Out W}(h:aA (aD (bf (eT (ag cS (bz bR (ae (af 0) aj)) (ag addW (bz bR (ae (af 2) aj)) (eC (.int (1)))))) (aU (eC (.bl false))) bv) (aU (bz lj (ae (dn (pS (ae (af 2) (ae (cE (af 0) (cc (eC (.int (1)))) cB) aj))) [none,none,some 1] (iL 2 [(gN 0),(gN 1)]) dz (aV f6 (ae (af 0) (ae (af 1) (ae (af 2) aj))))) aj))) [some (.tup (.str x::ws)),some (.int n),some (.kt (kd.map W.str))]) dO H=r):fA [.tup (.str x::ws),.int n] H=r:=by
 have r0:ag ax (af 0) (eC (.int (0))) [some (.tup (.str x::ws)),some (.int n),none] H=.ok (.str x) H:=op rfl rfl (by rw[sJ,sH];rfl);unfold fA jF;rw[dQ];refine bq (ph1:=H) (aW (oF (cj (c:=true) (eB rfl)) (eI (g:=((W.str x::ws).length:Int)) rfl (decide_eq_false (by simp;omega)))) rfl) (bq (ph1:=H) (aW (oF (cj (c:=true) (eB (ay r0 rfl))) (tB (c:=false) (ay r0 ?_))) rfl) (bq (ph1:=H) (σ1:=[some (.tup (.str x::ws)),some (.int n),some (.kt (kd.map W.str))]) (asg (w:=.kt (kd.map W.str)) (ay r0 ?_)) h))
 ·have e:ll (fun b=> !b) cP (.str x) H=some (.bl false,H):=by
   unfold ll;simp only[hk];rfl
  unfold lift;rw[e]
 ·have e:sM cP (.str x) H=some (.kt (kd.map W.str),H):=by
   unfold sM;simp only[hk,alS]
  unfold lift;rw[e]
theorem nG{x:String}{kd:List Str}(hk:dD (ala x) cP=some kd)(hl:ws.length≠kd.length):fA [.tup (.str x::ws),.int n] H=.ok (.bl false) H:=by
 refine N0 hk (mC (tB (op (x:=.int ((ws.length+1:Nat):Int)) (y:=.int ((kd.length:Int)+1)) (ph1:=H) (ph2:=H) ?_ (ad ?_ rfl) ?_)))
 ·exact ay (au rfl rfl) rfl
 ·refine ay (au rfl rfl) ?_;show Out.ok (W.int (((kd.map W.str).length:Nat):Int)) H=_;rw[alg]
 ·rw[u9,decide_eq_false (by omega)];rfl
theorem zf{f':W->W->Po W}{b c:EM}{x:W}(ha:a σ ph=.ok x ph)(hb:b σ ph=.ok y ph)(h1:lift (f x y) ph=.ok (.bl false) ph):jI f f' a b c σ ph=.ok (.bl false) ph:=
 ay ha (ay hb (ay h1 rfl))
theorem OO{b:EM}(ha:a σ ph=.ok (.bl false) ph1):lc a b σ ph=.ok (.bl false) ph1:=ay ha (ay rfl rfl)
theorem M5(cs:List Nat)(H:PH)(h:cs.length<=100):lift (bR [aB cs]) H=.ok (.int cs.length) H:=by
 have hsz:(tx cs).length=cs.length:=by show cs.toArray.size=_;simp
 have e:bR [aB cs] H=some (.int cs.length,H):=by
  unfold bR aB;simp only[];rw[hsz,if_pos (alT h (by decide))]
 unfold lift;rw[e]
theorem gq{a b:Int}{c:Bool}(H:PH)(h:decide (a<=b)=c):lift (kz (.int a) (.int b)) H=.ok (.bl c) H:=by
 rw[Eb,h];rfl
theorem LS{w:W}(h:lift (du "str" w) H=.ok (.bl false) H):jE [w] H=.ok (.bl false) H:=by
 unfold jE kQ;rw[fk];exact mC (oT (cj (c:=false) (eB (ay rfl h))))
theorem M6(hl:cs.length<=100)(h:cs.length<1\/6<cs.length):jE [aB cs] H=.ok (.bl false) H:=by
 unfold jE kQ;rw[fk];refine mC (oF (cj (eB (c:=true) (ay (a:=aB cs) (ph':=H) rfl rfl))) (cj (c:=false) (tB ?_)));have ln:bz bR (ae (af 0) aj) [some (aB cs)] H=.ok (.int cs.length) H:=ay (au (w:=aB cs) rfl rfl) (M5 cs H hl)
 rcases h with h | h
 ·exact zf rfl ln (gq H (decide_eq_false (by omega)))
 ·exact ny rfl ln (gq H (decide_eq_true (by omega))) rfl (gq H (decide_eq_false (by omega)))
noncomputable def A5(c:Nat):Bool:= !(amE (ala "abcdefghijklmnopqrstuvwxyz") (sg c) 0 (ala "abcdefghijklmnopqrstuvwxyz").length 1).isEmpty
theorem ah6(H:PH)(h1:1<=cs.length)(h6:cs.length<=6)(h8:∀c∈cs,c<128):∃H',jE [aB cs] H=.ok (.bl (cs.all A5)) H'/\Ex H H':=by
 have En:(tx cs).cps.all (· <128)=true:=by
  unfold tx;rw[aoQ,amw];intro c hc;exact decide_eq_true (h8 c hc)
 have mW:jU (af 0) [some (aB cs)] H=.ok (cs.map cN,fun _=>true) H:=by
  refine ay (a:=aB cs) (ph':=H) rfl ?_;have e:nY (aB cs) H=some ((cs.map cN,fun _=>true),H):=by
   unfold nY aB;simp only[];rw[if_pos En];unfold vJ tx;simp only[];rfl
  unfold lift;rw[e]
 obtain⟨H1,e1,x1⟩:=lP cs cN (im:=jU (af 0)) (cap:=[none]) (g:=gN 0) (c:=dz) (e:=ag qg (af 0) (eC (.str "abcdefghijklmnopqrstuvwxyz"))) mW (fun _ _=>rfl) (small (by omega)) (fun c=>some (.bl (A5 c))) (fun σ=>∃o,σ=[o]) ⟨none,rfl⟩
  (fun c hc σ K hS _=>by
   obtain⟨o,rfl⟩:=hS;exact⟨_,rfl,⟨_,rfl⟩,true,K,rfl,Ex.refl _,.inr ⟨rfl,_,K,op rfl rfl rfl,Ex.refl _,rfl⟩⟩)
 rw[pw] at x1;have g:H1[H.length]? =some (.lst ((cs.map A5).map W.bl)):=by
  rw[ans];exact x1.get (aY _ _)
 refine⟨H1,?_,(Ex.one _ _).trans x1⟩;unfold jE kQ;rw[fk];refine bq (ph1:=H) (aW (oF (cj (eB (c:=true) (ay (a:=aB cs) (ph':=H) rfl rfl))) (cj (c:=true) (tB (ny rfl (ay (au (w:=aB cs) rfl rfl) (M5 cs H (by omega))) (gq H (decide_eq_true (by omega))) rfl (gq H (decide_eq_true (by omega))))))) rfl) (br (ay (au e1 rfl) ((y4 g).trans ?_)));rw[arE];rfl
theorem pV{w:W}(h:lift (du "int" w) H=.ok (.bl false) H):eR [w] H=.ok (.bl false) H:=by
 unfold eR iY;rw[fk];exact mC (oT (cj (c:=false) (eB (ay rfl h))))
theorem nH{b:Bool}:eR [.bl b] H=.ok (.bl false) H:=by
 unfold eR iY;rw[fk];exact mC (oF (cj (c:=true) (eB rfl)) (eB rfl))
theorem zT(h:n< -2147483648\/2147483648<=n):eR [.int n] H=.ok (.bl false) H:=by
 unfold eR iY;rw[fk];refine bq (ph1:=H) (aW (oF (cj (eB (c:=true) rfl)) (eB (c:=false) rfl)) rfl) (br ?_)
 rcases h with h | h
 ·exact zf (y:=.int n) rfl rfl (gq H (decide_eq_false (by omega)))
 ·refine ny (y:=.int n) rfl rfl (gq H (decide_eq_true (by omega))) rfl ?_;rw[Al,decide_eq_false (by omega)];rfl
theorem ah7{w:W}(h:lift (du "str" w) H=.ok (.bl false) H):lN [w] H=.ok (.bl false) H:=by
 unfold lN lM;rw[fk];exact br (OO (ay rfl h))
theorem ah8:lN [.str "sun"] H=.ok (.bl false) H:=by
 unfold lN lM;rw[fk];refine br (A4 rfl (op rfl rfl ?_));have e:nZ (.str "sun") (.kt (kU.map W.str)) H=some (.bl false,H):=by
  unfold nZ;simp only[pd strOf W.str id (fun _=>rfl),aqu,id,alS];rw[decide_eq_false];unfold kU
  decide +kernel
 unfold lift;rw[e]
theorem CT{w:W}(h:eR [w] H=.ok (.bl false) H):kN [w,.int n] H=.ok (.bl false) H:=by
 unfold kN lI;rw[dQ];exact br (OO (ay (au rfl rfl) h))
theorem LU{k:Int}(hs:oy k)(h:k<0\/n<k):kN [.int k,.int n] H=.ok (.bl false) H:=by
 unfold kN lI;rw[dQ];refine br (A4 (ay (au rfl rfl) (lQ hs H)) ?_);by_cases h0:k<0
 ·exact zf (y:=.int k) rfl rfl (gq H (decide_eq_false (by omega)))
 ·exact ny (y:=.int k) rfl rfl (gq H (decide_eq_true (by omega))) rfl (gq H (decide_eq_false (by omega)))
noncomputable def Pt(n:Int)(k:String)(w:W)(b:Bool):Prop:=∀K,∃K',f6 [.str k,w,.int n] K=.ok (.bl b) K'/\Ex K K'
theorem CU{w:W}{b:Bool}(h:∀K,∃K',jE [w] K=.ok (.bl b) K'/\Ex K K'):Pt n "name" w b:=fun K=>by
 obtain⟨K',e,x⟩:=h K;refine⟨K',?_,x⟩;unfold f6 iy;rw[gW];exact d7 (b9 (wv "name" rfl rfl) (retS (ay (au rfl rfl) e)))
theorem ah9{w:W}{b:Bool}(h:∀K,eR [w] K=.ok (.bl b) K):Pt n "number" w b:=fun K=>by
 refine⟨K,?_,Ex.refl _⟩;unfold f6 iy;rw[gW];exact bq (aW (wv "number" rfl rfl) rfl) (d7 (b9 (wv "number" rfl rfl) (retS (ay (au rfl rfl) (h K)))))
theorem afv{w:W}{b:Bool}(h:∀K,lN [w] K=.ok (.bl b) K):Pt n "word" w b:=fun K=>by
 refine⟨K,?_,Ex.refl _⟩;unfold f6 iy;rw[gW];exact bq (aW (wv "word" rfl rfl) rfl) (bq (aW (wv "word" rfl rfl) rfl) (d7 (b9 (wv "word" rfl rfl) (retS (ay (au rfl rfl) (h K))))))
theorem KC{w:W}{b:Bool}(h:∀K,kN [w,.int n] K=.ok (.bl b) K):Pt n "place" w b:=fun K=>by
 refine⟨K,?_,Ex.refl _⟩;unfold f6 iy;rw[gW];exact bq (aW (wv "place" rfl rfl) rfl) (bq (aW (wv "place" rfl rfl) rfl) (bq (aW (wv "place" rfl rfl) rfl) (br (ay (au rfl (au rfl rfl)) (h K)))))
theorem aju{x:String}(ps:List (String×W×Bool))(hk:dD (ala x) cP=some (ps.map fun p=>ala p.1))(hl:ps.length<=4)(hp:∀p∈ps,Pt n p.1 p.2.1 p.2.2):∃H',fA [.tup (.str x::ps.map fun p=>p.2.1),.int n] H=.ok (.bl (ps.all fun p=>p.2.2)) H'/\Ex H H':=by
 obtain⟨ks,ek⟩:∃ks:List (String×W),ks=ps.map fun p=>(p.1,p.2.1):=⟨_,rfl⟩
 have e1:(ps.map fun p=>ala p.1)=ks.map fun p=>ala p.1:=by rw[ek,ans];rfl
 have e2:(ps.map fun p=>p.2.1)=ks.map (·.2):=by rw[ek,ans];rfl
 have e3:ks.length=ps.length:=by rw[ek,alg]
 have e4:ks.map lz=ps.map fun p=>lz (p.1,p.2.1):=by rw[ek,ans];rfl
 rw[e1] at hk;rw[e2];rw[<- e3] at hl;obtain⟨σ,cz⟩:∃σ:aT,σ=[some (.tup (.str x::ks.map (·.2))),some (.int n),some (.kt ((ks.map fun p=>ala p.1).map W.str))]:=⟨_,rfl⟩
 have hs:cE (af 0) (cc (eC (.int (1)))) cB σ H=.ok (.tup (ks.map (·.2))) H:=uN (a:=.str x) (by rw[cz];rfl);have hz:pS (ae (af 2) (ae (cE (af 0) (cc (eC (.int (1)))) cB) aj)) σ H=.ok (ks.map lz,fun _=>true) H:=by
  refine ay (au (w:=.kt ((ks.map fun p=>ala p.1).map W.str)) (ph1:=H) (by rw[cz];rfl) (au hs rfl)) ?_;have e:sL [.kt ((ks.map fun p=>ala p.1).map W.str),.tup (ks.map (·.2))] H=some ((ks.map lz,fun _=>true),H):=by
   unfold sL;rw[ans];have:=M2 ks;simp only[vh,arx,this]
  unfold lift;rw[e]
 obtain⟨H1,e5,x1⟩:=lP ps (fun p=>lz (p.1,p.2.1)) (cap:=[none,none,some 1]) (g:=iL 2 [(gN 0),(gN 1)]) (c:=dz) (e:=aV f6 (ae (af 0) (ae (af 1) (ae (af 2) aj)))) (e4▸hz) (fun _ _=>rfl) (small (by omega)) (fun p=>some (.bl p.2.2)) (fun σ=>∃o o',σ=[o,o',some (.int n)]) ⟨none,none,by rw[cz];rfl⟩
  (fun p tP σ K hS _=>by
   obtain⟨o,o',rfl⟩:=hS;obtain⟨K',e2,x2⟩:=hp p tP K;exact⟨_,rfl,⟨_,_,rfl⟩,true,K,rfl,Ex.refl _,.inr ⟨rfl,_,K',ay (au rfl (au rfl (au rfl rfl))) e2,x2,rfl⟩⟩)
 rw[pw] at x1;have g:H1[H.length]? =some (.lst ((ps.map fun p=>p.2.2).map W.bl)):=by
  rw[ans];exact x1.get (aY _ _)
 refine⟨H1,N0 hk ?_,(Ex.one _ _).trans x1⟩;rw[<- cz];refine bq (ph1:=H) (aW (tB (op (x:=.int ((ks.length+1:Nat):Int)) (y:=.int ((ks.length:Int)+1)) (ph1:=H) (ph2:=H) ?_ (ad ?_ rfl) ?_)) rfl) (br (ay (au e5 rfl) ((y4 g).trans ?_)))
 ·rw[cz];refine ay (au rfl rfl) ?_;show Out.ok (W.int (((W.str x::ks.map (·.2)).length:Nat):Int)) H=_;rw[alA,alg]
 ·rw[cz];refine ay (au rfl rfl) ?_;show Out.ok (W.int ((((ks.map fun p=>ala p.1).map W.str).length:Nat):Int)) H=_;rw[alg,alg]
 ·rw[u9,decide_eq_true (by omega)];rfl
 ·rw[arE];rfl
noncomputable def Bd(n:Int)(w:W)(K:PH):Prop:=∃K',fA [w,.int n] K=.ok (.bl false) K'/\Ex K K'
variable{K:PH}
theorem Bd.of{w:W}(h:fA [w,.int n] K=.ok (.bl false) K):Bd n w K:=⟨K,h,Ex.refl _⟩
theorem qh{x:String}(ps:List (String×W×Bool))(hk:dD (ala x) cP=some (ps.map fun p=>ala p.1))(hl:ps.length<=4)(hp:∀p∈ps,Pt n p.1 p.2.1 p.2.2)(hf:(ps.all fun p=>p.2.2)=false)(K:PH):Bd n (.tup (.str x::ps.map fun p=>p.2.1)) K:=by
 obtain⟨K',e,x⟩:=aju ps (H:=K) hk hl hp;rw[hf] at e;exact⟨K',e,x⟩
theorem in1{P:α->Prop}{a:α}(h:P a):∀x∈[a],P x:=fun x hx=>by rw[aly.mp hx];exact h
theorem bV{P:α->Prop}{a:α}{l:List α}(h:P a)(h2:∀x∈l,P x):∀x∈a::l,P x:=fun x hx=>by
 rcases alD.mp hx with rfl | z
 ·exact h
 ·exact h2 x z
theorem wK{P:α->Prop}:∀x∈([]:List α),P x:=fun _ h=>nomatch h
theorem akv{a:Nm}(h:bG a):Pt n "name" (aB a) true:=CU fun K=>JC h K
theorem Aq{w:W}(h:∀K,jE [w] K=.ok (.bl false) K):Pt n "name" w false:=CU fun K=>⟨K,h K,Ex.refl _⟩
theorem vN{s:String}(cs:List Nat)(e:ala s=tx cs)(h1:1<=cs.length)(h6:cs.length<=6)(h8:∀c∈cs,c<128)(hf:cs.all A5=false):Pt n "name" (.str s) false:=CU fun K=>by
 obtain⟨K',e1,x1⟩:=ah6 K h1 h6 h8;rw[hf] at e1;refine⟨K',?_,x1⟩;show jE [.str (ala s)] K=_;rw[e];exact e1
noncomputable def wL(a:Nm)(c:Nat)(m:Int)(li:Nat):List W:=
 [.tup [.str "sat",aB a,.int 0],.tup [.str "set",aB a],.tup [.str "set",aB a,.int 0,.int 0],.ref li,.tup [.str "tell"],.tup [],.aE,.str "tell"] ++
 [.tup [.str "tell",aB [c,c,c,c,c,c,c]],.tup [.str "tell",.str ""],.tup [.str "tell",.str "aB"],.tup [.str "tell",.str "a1"],.tup [.str "tell",.str " a"],.tup [.str "tell",.int 5]] ++
 [.tup [.str "tell",.str "a\n"],.tup [.str "set",aB a,.int 2147483648],.tup [.str "set",aB a,.int (-2147483649)],.tup [.str "set",aB a,.bl true]] ++
 [.tup [.str "set",aB a,.aE],.tup [.str "do",aB a,.str "sun",aB a,aB a],.tup [.str "do",aB a,.int 0,aB a,aB a],.tup [.str "go",.int (-1)]] ++
 [.tup [.str "go",.int (m+9)],.tup [.str "if",aB a,.str "0"],.tup [.str "if",aB a,.bl true],.tup [.str "turn",aB a],.tup [.str "end",.int 0],.tup [.str "if",aB a]] ++
 [.tup [.str "do",aB a,.str "sum",aB a],.tup [.str "copy",aB a,aB a,aB a],.tup [.str "take",.aE],.tup [.int 5,aB a]] ++
 [.tup [.str "copy",aB a,.str "A"],.tup [.str "set",aB a,.bl false],.tup [.str "go",.bl false]]
variable{us:List W}
theorem afw{a:Nm}{c:Nat}{m:Int}{li:Nat}(ha:bG a)(hm:0<=m)(hm2:m<=100)(hn:n<=m+8)(hl:K[li]? =some (.lst us)):∀w∈wL a c m li,Bd n w K:=by
 have nm:=akv (n:=n) ha;have tl:∀{w:W},Pt n "name" w false->Bd n (.tup [.str "tell",w]) K:=fun{w} h=>qh [("name",w,false)] B6 (alx rfl) (in1 h) rfl K
 have st:∀{w:W},(∀K,eR [w] K=.ok (.bl false) K)->Bd n (.tup [.str "set",aB a,w]) K:=fun{w} h=>qh [("name",aB a,true),("number",w,false)] yY (alx rfl) (bV nm (in1 (ah9 h))) rfl K
 have go:∀{w:W},(∀K,kN [w,.int n] K=.ok (.bl false) K)->Bd n (.tup [.str "go",w]) K:=fun{w} h=>qh [("place",w,false)] LN (alx rfl) (in1 (KC h)) rfl K
 have ff:∀{w:W},(∀K,kN [w,.int n] K=.ok (.bl false) K)->Bd n (.tup [.str "if",aB a,w]) K:=fun{w} h=>qh [("name",aB a,true),("place",w,false)] CQ (alx rfl) (bV nm (in1 (KC h))) rfl K
 have dd:∀{w:W},(∀K,lN [w] K=.ok (.bl false) K)->Bd n (.tup [.str "do",aB a,w,aB a,aB a]) K:=fun{w} h=>qh [("name",aB a,true),("word",w,false),("name",aB a,true),("name",aB a,true)] CP (alx rfl) (bV nm (bV (afv h) (bV nm (in1 nm)))) rfl K
 unfold wL;refine amN.mpr ⟨amN.mpr ⟨amN.mpr ⟨amN.mpr ⟨amN.mpr ⟨amN.mpr ⟨?_,?_⟩,?_⟩,?_⟩,?_⟩,?_⟩,?_⟩
 ·refine bV (.of (ajt nofun)) (bV (.of (nG yY (by simp))) (bV (.of (nG yY (by simp))) (bV (.of (Dp (se hl))) (bV (.of (nG B6 (by simp))) (bV (.of ajr) (bV (.of (Dp rfl)) (in1 (.of (Dp rfl)))))))))
 ·refine bV (tl (Aq fun K=>M6 (by simp) (.inr (by simp)))) (bV (tl (Aq fun K=>M6 (cs:=[]) (by simp) (.inl (by simp)))) (bV (tl (vN [97,66] nofun (by decide) (by decide) (by decide) nofun)) (bV (tl (vN [97,49] nofun (by decide) (by decide) (by decide) nofun)) (bV (tl (vN [32,97] nofun (by decide) (by decide) (by decide) nofun)) (in1 (tl (Aq fun K=>LS rfl)))))))
 ·refine bV (tl (vN [97,10] nofun (by decide) (by decide) (by decide) nofun)) (bV (st fun K=>zT (by omega)) (bV (st fun K=>zT (by omega)) (in1 (st fun K=>nH))))
 ·refine bV (st fun K=>pV rfl) (bV (dd fun K=>ah8) (bV (dd fun K=>ah7 rfl) (in1 (go fun K=>LU (jg (by decide) (by decide)) (.inl (by decide))))))
 ·refine bV (go fun K=>LU (jg (by omega) (by omega)) (.inr (by omega))) (bV (ff fun K=>CT (pV rfl)) (bV (ff fun K=>CT nH) (bV (.of (nG JH (by simp))) (bV (.of (nG Kx (by simp))) (in1 (.of (nG CQ (by simp))))))))
 ·refine bV (.of (nG CP (by simp))) (bV (.of (nG B5 (by simp))) (bV (qh [("name",.aE,false)] JD (alx rfl) (in1 (Aq fun K=>LS rfl)) rfl K) (in1 (.of (ajs rfl)))))
 ·refine bV (qh [("name",aB a,true),("name",.str "A",false)] B5 (alx rfl) (bV nm (in1 (vN [65] nofun (by decide) (by decide) (by decide) nofun))) rfl K) (bV (st fun K=>nH) (in1 (go fun K=>CT nH)))
theorem more{m:AM}(hv:af 3 σ=aK (.ref i))(h:ph[i]? =some (.lst ws))(he:m σ ph=.ok us ph)(hz:ws.length+us.length<=1000):∃j H',aP (ag addW (af 3) (aI m)) (gN 3) σ ph=.ok (.nx (σ.set 3 (some (.ref j)))) H'/\Ex ph H'/\H'[j]? =some (.lst (ws++us)):=by
 have x1:Ex ph (ph++[PO.lst us]):=Ex.one _ _;refine⟨(ph++[PO.lst us]).length,(ph++[PO.lst us])++[.lst (ws++us)],asg (op (x:=.ref i) (ph1:=ph) (y:=.ref ph.length) (by rw[hv];rfl) (ay he (dw us ph (small (by omega)))) (jG (x1.get h) (aY _ _) (small (by omega)))),x1.trans (Ex.one _ _),aY _ _⟩
theorem ajv{a:Nm}(ha:bG a):∃c,∀{σ:aT} {K:PH},af 0 σ=aK (aB a)->ag gp (tq (af 0) cB (cc (eC (.int (1))))) (eC (.int (7))) σ K=.ok (aB [c,c,c,c,c,c,c]) K:=by
 cases a with
 | nil=>exact absurd ha.lo (by simp)
 | cons c l=>
  refine⟨c,fun{σ K} hv=>?_⟩;have hsz:(tx (c::l)).length=(c::l).length:=by show(c::l).toArray.size=_;simp
  have hl:=ha.hi;have e1:tq (af 0) cB (cc (eC (.int (1)))) σ K=.ok (aB [c]) K:=by
   refine ay (a:=aB (c::l)) (ph':=K) (by rw[hv];rfl) (ay (a:=none) (ph':=K) rfl (ay (a:=some 1) (ph':=K) rfl ?_));have e:Ek (aB (c::l)) none (some 1) K=some (aB [c],K):=by
    exact(if_pos (c:=(none:Option Int)=none/\(some (1:Int))=some 1/\1<=(tx (c::l)).length/\(tx (c::l)).length<=alz) ⟨rfl,rfl,by rw[hsz];simp,by rw[hsz];exact small (by omega)⟩)
   unfold lift;rw[e]
  refine op e1 rfl ?_;have e:gp (aB [c]) (.int 7) K=some (aB [c,c,c,c,c,c,c],K):=by
   unfold gp aB;simp only[];rw[if_pos ⟨by decide,by decide,by show #[c].size≠0;simp,by show #[c].size<=1000;simp⟩];rfl
  unfold lift;rw[e]
variable{c:Int}
theorem acC{a:Nm}{m:Int}(ha:bG a)(H:PH):∃w H' c' li us,uf [aB a,.int m,.int c] H=.ok w H'/\Ex H H'/\w∈wL a c' m li/\H'[li]? =some (.lst us):=by
 obtain⟨d,hd⟩:=ajv ha;obtain⟨H1,da⟩:∃H1,H1=H++[PO.lst [.str "tell",aB a]]:=⟨_,rfl⟩
 have x1:Ex H H1:=da▸Ex.one _ _;have g1:H1[H.length]? =some (.lst [.str "tell",aB a]):=by rw[da];exact aY _ _
 obtain⟨H2,gJ⟩:∃H2,H2=H1++[PO.lst [.tup [.str "sat",aB a,.int 0],.tup [.str "set",aB a],.tup [.str "set",aB a,.int 0,.int 0],.ref H.length,.tup [.str "tell"],.tup [],.aE,.str "tell"]]:=⟨_,rfl⟩
 have x2:Ex H1 H2:=gJ▸Ex.one _ _;have g2:H2[H1.length]? =some (.lst [.tup [.str "sat",aB a,.int 0],.tup [.str "set",aB a],.tup [.str "set",aB a,.int 0,.int 0],.ref H.length,.tup [.str "tell"],.tup [],.aE,.str "tell"]):=by rw[gJ];exact aY _ _
 obtain⟨i3,H3,e3,x3,g3⟩:=more (m:=(ae (aH (ae (eC (.str "tell")) (ae (ag gp (tq (af 0) cB (cc (eC (.int (1))))) (eC (.int (7)))) aj))) (ae (aH (ae (eC (.str "tell")) (ae (eC (.str "")) aj))) (ae (aH (ae (eC (.str "tell")) (ae (eC (.str "aB")) aj))) (ae (aH (ae (eC (.str "tell")) (ae (eC (.str "a1")) aj))) (ae (aH (ae (eC (.str "tell")) (ae (eC (.str " a")) aj))) (ae (aH (ae (eC (.str "tell")) (ae (eC (.int (5))) aj))) aj))))))) (σ:=[some (aB a),some (.int m),some (.int c),some (.ref H1.length)]) rfl g2 (au (tp (au rfl (au (hd rfl) rfl)) rfl) rfl) (by simp);obtain⟨i4,H4,e4,x4,g4⟩:=more (m:=(ae (aH (ae (eC (.str "tell")) (ae (eC (.str "a\n")) aj))) (ae (aH (ae (eC (.str "set")) (ae (af 0) (ae (eC (.int (2147483648))) aj)))) (ae (aH (ae (eC (.str "set")) (ae (af 0) (ae (d5 dP (eC (.int (2147483649)))) aj)))) (ae (aH (ae (eC (.str "set")) (ae (af 0) (ae (eC (.bl true)) aj)))) aj))))) (σ:=[some (aB a),some (.int m),some (.int c),some (.ref i3)]) rfl g3 rfl (by simp);obtain⟨i5,H5,e5,x5,g5⟩:=more (m:=(ae (aH (ae (eC (.str "set")) (ae (af 0) (ae (eC .aE) aj)))) (ae (aH (ae (eC (.str "do")) (ae (af 0) (ae (eC (.str "sun")) (ae (af 0) (ae (af 0) aj)))))) (ae (aH (ae (eC (.str "do")) (ae (af 0) (ae (eC (.int (0))) (ae (af 0) (ae (af 0) aj)))))) (ae (aH (ae (eC (.str "go")) (ae (d5 dP (eC (.int (1)))) aj))) aj))))) (σ:=[some (aB a),some (.int m),some (.int c),some (.ref i4)]) rfl g4 rfl (by simp);obtain⟨i6,H6,e6,x6,g6⟩:=more (m:=(ae (aH (ae (eC (.str "go")) (ae (ag addW (af 1) (eC (.int (9)))) aj))) (ae (aH (ae (eC (.str "if")) (ae (af 0) (ae (eC (.str "0")) aj)))) (ae (aH (ae (eC (.str "if")) (ae (af 0) (ae (eC (.bl true)) aj)))) (ae (aH (ae (eC (.str "turn")) (ae (af 0) aj))) (ae (aH (ae (eC (.str "end")) (ae (eC (.int (0))) aj))) (ae (aH (ae (eC (.str "if")) (ae (af 0) aj))) aj))))))) (σ:=[some (aB a),some (.int m),some (.int c),some (.ref i5)]) rfl g5 rfl (by simp);obtain⟨i7,H7,e7,x7,g7⟩:=more (m:=(ae (aH (ae (eC (.str "do")) (ae (af 0) (ae (eC (.str "sum")) (ae (af 0) aj))))) (ae (aH (ae (eC (.str "copy")) (ae (af 0) (ae (af 0) (ae (af 0) aj))))) (ae (aH (ae (eC (.str "take")) (ae (eC .aE) aj))) (ae (aH (ae (eC (.int (5))) (ae (af 0) aj))) aj))))) (σ:=[some (aB a),some (.int m),some (.int c),some (.ref i6)]) rfl g6 rfl (by simp);obtain⟨i8,H8,e8,x8,g8⟩:=more (m:=(ae (aH (ae (eC (.str "copy")) (ae (af 0) (ae (eC (.str "A")) aj)))) (ae (aH (ae (eC (.str "set")) (ae (af 0) (ae (eC (.bl false)) aj)))) (ae (aH (ae (eC (.str "go")) (ae (eC (.bl false)) aj))) aj)))) (σ:=[some (aB a),some (.int m),some (.int c),some (.ref i7)]) rfl g7 rfl (by simp);obtain⟨k,hk,ek⟩:=dm (a:=c) (n:=35) (by decide);obtain⟨w,hw⟩:∃w,(wL a d m H.length)[k]? =some w:=k9 (by show k<35;omega);have g8':H8[i8]? =some (.lst (wL a d m H.length)):=g8;refine⟨w,H8,d,H.length,_,?_,x1.trans (x2.trans (x3.trans (x4.trans (x5.trans (x6.trans (x7.trans x8)))))),alF hw,(x2.trans (x3.trans (x4.trans (x5.trans (x6.trans (x7.trans x8)))))).get g1⟩;unfold uf oP;rw[gW];refine bq (ph1:=H2) (σ1:=[some (aB a),some (.int m),some (.int c),some (.ref H1.length)]) ?_ (bq e3 (bq e4 (bq e5 (bq e6 (bq e7 (bq e8 (br (op (x:=.ref i8) (y:=.int k) rfl ?_ (ej g8' ?_)))))))))
 ·refine asg (w:=.ref H1.length) (ph1:=H2) (ay (au (ph1:=H) rfl (au (ph1:=H) rfl (au (ph1:=H) rfl (au (w:=.ref H.length) (ph1:=H1) ?_ (au rfl rfl))))) ?_)
  ·rw[da];exact ay (au rfl (au rfl rfl)) (dw _ H (small (by simp)))
  ·rw[gJ];exact dw _ H1 (small (by simp))
 ·rw[<- ek];exact md rfl rfl (by decide)
 ·rw[jH _ _ (alf.mp hw).1];exact hw
noncomputable def ce(t:Nat):Row->Row
 | .iff a p=>if t<=p then .iff a (p+1) else .iff a p
 | .go p=>if t<=p then .go (p+1) else .go p
 | r=>r
theorem Ar{a b:Int}{c:Bool}(H:PH)(h:decide (b<=a)=c):lift (AL (.int a) (.int b)) H=.ok (.bl c) H:=by
 rw[Ec,h];rfl
theorem dS{s:String}{c:Bool}(hv:af i σ H=.ok r.w H)(hc:decide (r.x=s)=c):eT (ag bh (ag ax (af i) (eC (.int (0)))) (eC (.str s))) σ H=.ok c H:=by
 refine tB (op (sO hv) rfl ?_);rw[<- hc,vc];rfl
variable{ri t:Nat}
theorem adJ(hR:H[ri]? =some (.lst (R.map Row.w)))(hn:R.length<=100):∃H',BJ [.ref ri,.int t] H=.ok (.ref H.length) H'/\Ex H H'/\H'[H.length]? =some (.lst ((R.map (ce t)).map Row.w)):=by
 obtain⟨H1,da⟩:∃H1,H1=H++[PO.lst []]:=⟨_,rfl⟩
 have x1:Ex H H1:=da▸Ex.one _ _;have g1:H1[H.length]? =some (.lst []):=by rw[da];exact aY _ _
 obtain⟨az,H2,e2,o,rfl,x2,g2⟩:=pb (chk:=fun p=>decide (p[ri]? =some (.lst (R.map Row.w)))) (g:=gN 3) (b:=Bv) (fun k σ K=>∃o,σ=[some (.ref ri),some (.int t),some (.ref H.length),o]/\Ex H K/\K[H.length]? =some (.lst (((R.take k).map (ce t)).map Row.w))) (R.map Row.w) [some (.ref ri),some (.int t),some (.ref H.length),none] H1
  (fun _ _ _ h=>by obtain⟨_,_,q,_⟩:=h;exact decide_eq_true (q.get hR)) (fun k x σ K hk hI=>by
   obtain⟨o,rfl,y,gk⟩:=hI;rw[aln] at hk;obtain⟨r,hr,rfl⟩:=alv.mp hk;have hkl:=(alf.mp hr).1;refine⟨_,K,rfl,?_⟩;unfold Bv;have ap:∀{q:Row},q=ce t r->∃f ph2,eo (cX eL dY (af 2) (ae (af 3) aj)) [some (.ref ri),some (.int t),some (.ref H.length),some q.w] K=.ok f ph2/\∃bo,(f=.nx bo\/f=.ct bo)/\∃o,bo=[some (.ref ri),some (.int t),some (.ref H.length),o]/\Ex H ph2/\ph2[H.length]? =some (.lst (((R.take (k+1)).map (ce t)).map Row.w)):=fun{q} hq=>by
    refine⟨_,_,tX rfl ⟨_,gk⟩ rfl gk (by simp;omega),_,.inl rfl,_,rfl,Ex.set y (ali _) _,?_⟩;rw[pK gk,aoH,hr,hq];simp
   have fwd:∀{q:Row} {s:SM} {Ga:aT},q=ce t r->s Ga K=.ok (.nx [some (.ref ri),some (.int t),some (.ref H.length),some q.w]) K->∃f ph2,aD s (eo (cX eL dY (af 2) (ae (af 3) aj))) Ga K=.ok f ph2/\∃bo,(f=.nx bo\/f=.ct bo)/\∃o,bo=[some (.ref ri),some (.int t),some (.ref H.length),o]/\Ex H ph2/\ph2[H.length]? =some (.lst (((R.take (k+1)).map (ce t)).map Row.w)):=fun{q s Ga} hq hs=>by
    obtain⟨f,ph2,e,h⟩:=ap hq;exact⟨f,ph2,sq hs e,h⟩
   cases r with
   | iff a p=>
    by_cases h:t<=p
    ·refine fwd (q:=.iff a (p+1)) (if_pos h).symm (b9 (tT (oT (dS (r:=.iff a p) rfl rfl)) (tB (op (x:=.int p) rfl rfl (Ar K (decide_eq_true (by omega)))))) ?_);exact asg (w:=(Row.iff a (p+1)).w) (ph1:=K) rfl
    ·exact fwd (q:=.iff a p) (if_neg h).symm (aW (tT (oT (dS (r:=.iff a p) rfl rfl)) (tB (op (x:=.int p) rfl rfl (Ar K (decide_eq_false (by omega)))))) rfl)
   | go p=>
    by_cases h:t<=p
    ·refine fwd (q:=.go (p+1)) (if_pos h).symm (b9 (tT (oF (dS (r:=.go p) rfl rfl) (dS (r:=.go p) rfl rfl)) (tB (op (x:=.int p) rfl rfl (Ar K (decide_eq_true (by omega)))))) ?_);exact asg (w:=(Row.go (p+1)).w) (ph1:=K) rfl
    ·exact fwd (q:=.go p) (if_neg h).symm (aW (tT (oF (dS (r:=.go p) rfl rfl) (dS (r:=.go p) rfl rfl)) (tB (op (x:=.int p) rfl rfl (Ar K (decide_eq_false (by omega)))))) rfl)
   | set a v=>exact fwd (q:=.set a v) rfl (aW (tF (oF (dS (r:=.set a v) rfl rfl) (dS (r:=.set a v) rfl rfl))) rfl)
   | copy a b=>exact fwd (q:=.copy a b) rfl (aW (tF (oF (dS (r:=.copy a b) rfl rfl) (dS (r:=.copy a b) rfl rfl))) rfl)
   | dE a v b c=>exact fwd (q:=.dE a v b c) rfl (aW (tF (oF (dS (r:=.dE a v b c) rfl rfl) (dS (r:=.dE a v b c) rfl rfl))) rfl)
   | take a=>exact fwd (q:=.take a) rfl (aW (tF (oF (dS (r:=.take a) rfl rfl) (dS (r:=.take a) rfl rfl))) rfl)
   | tell a=>exact fwd (q:=.tell a) rfl (aW (tF (oF (dS (r:=.tell a) rfl rfl) (dS (r:=.tell a) rfl rfl))) rfl)
   | turn=>exact fwd (q:=.turn) rfl (aW (tF (oF (dS (r:=.turn) rfl rfl) (dS (r:=.turn) rfl rfl))) rfl)
   | fin=>exact fwd (q:=.fin) rfl (aW (tF (oF (dS (r:=.fin) rfl rfl) (dS (r:=.fin) rfl rfl))) rfl)) ⟨none,rfl,x1,g1⟩
 rw[alg,anL] at g2;refine⟨H2,?_,x2,g2⟩;unfold BJ oS;rw[dQ];exact bq (ph1:=H1) (σ1:=[some (.ref ri),some (.int t),some (.ref H.length),none]) (by rw[da];exact asg rfl) (bq (fB (oX rfl (x1.get hR)) e2) (br rfl))
theorem N1{w:W}(hR:H[ri]? =some (.lst (R.map Row.w)))(hn:R.length<=100):∃i H',nc [.ref ri,.int t,w] H=.ok (.ref i) H'/\Ex H H'/\H'[i]? =some (.lst (((R.map (ce t)).take t).map Row.w++w::((R.map (ce t)).drop t).map Row.w)):=by
 obtain⟨H1,e1,x1,g1⟩:=adJ (t:=t) hR hn;obtain⟨P,eP⟩:∃P,P=R.map (ce t):=⟨_,rfl⟩
 have hP:P.length=R.length:=by rw[eP,alg]
 rw[<- eP] at g1 ⊢;obtain⟨H3,h9⟩:∃H3,H3=H1++[PO.lst ((P.map Row.w).take t)]:=⟨_,rfl⟩
 obtain⟨H4,kD⟩:∃H4,H4=H3++[PO.lst [w]]:=⟨_,rfl⟩
 obtain⟨H5,kE⟩:∃H5,H5=H4++[PO.lst ((P.map Row.w).take t++[w])]:=⟨_,rfl⟩
 obtain⟨H6,qD⟩:∃H6,H6=H5++[PO.lst ((P.map Row.w).drop t)]:=⟨_,rfl⟩
 have x3:Ex H1 H3:=h9▸Ex.one _ _;have x4:Ex H3 H4:=kD▸Ex.one _ _;have x5:Ex H4 H5:=kE▸Ex.one _ _;have x6:Ex H5 H6:=qD▸Ex.one _ _;have g3:H3[H1.length]? =some (.lst ((P.map Row.w).take t)):=by rw[h9];exact aY _ _
 have g4:H4[H3.length]? =some (.lst [w]):=by rw[kD];exact aY _ _
 have g5:H5[H4.length]? =some (.lst ((P.map Row.w).take t++[w])):=by rw[kE];exact aY _ _
 have g6:H6[H5.length]? =some (.lst ((P.map Row.w).drop t)):=by rw[qD];exact aY _ _
 refine⟨H6.length,H6++[.lst ((P.take t).map Row.w++w::(P.drop t).map Row.w)],?_,((((x1.trans x3).trans x4).trans x5).trans x6).trans (Ex.one _ _),aY _ _⟩;unfold nc m9;rw[gW];refine bq (ph1:=H1) (σ1:=[some (.ref H.length),some (.int t),some w]) (asg (ay (au rfl (au rfl rfl)) e1)) (br (op (x:=.ref H4.length) (ph1:=H5) (y:=.ref H5.length) (ph2:=H6) (op (x:=.ref H1.length) (ph1:=H3) (y:=.ref H3.length) (ph2:=H4) ?_ ?_ ?_) ?_ ?_))
 ·rw[h9];exact qB rfl g1 rfl
 ·rw[kD];exact ay (au rfl rfl) (dw _ H3 (small (by simp)))
 ·rw[jG (x4.get g3) g4 (small (by simp;omega)),<- kE]
 ·rw[qD];exact Qh rfl (x5.get (x4.get (x3.get g1))) rfl
 ·rw[jG (x6.get g5) g6 (small (by simp;omega)),aoh,aoX,ark];rfl
theorem kn{w:W}(h:us[k]? =some w):cZ us (k:Int)=some w:=by
 rw[jH _ _ (alf.mp h).1];exact h
theorem LV(hR:H[ri]? =some (.lst us))(hp:us[p]? =some r.w)(jm:∀k∈r.to,k<=p->us[k]? =some Row.turn.w):∃H',t9 [.ref ri,.int p] H=.ok (.bl false) H'/\Ex H H':=by
 obtain⟨H1,e1,x1,g1⟩:=LQ r (e:=ag ax (af 0) (af 1)) (σ:=[some (.ref ri),some (.int p),none]) (H:=H) (op rfl rfl (ej hR (kn hp)));obtain⟨az,H2,e2,⟨o,rfl⟩,x2⟩:=pb (chk:=fun p=>decide (p[H.length]? =some (.lst (iw r.to)))) (g:=gN 2) (b:=t8) (fun _ σ K=>(∃o,σ=[some (.ref ri),some (.int p),o])/\Ex H1 K) (iw r.to) [some (.ref ri),some (.int p),none] H1
  (fun _ _ _ h=>decide_eq_true (h.2.get g1)) (fun j x σ K hj hI=>by
   obtain⟨⟨o,rfl⟩,y⟩:=hI;obtain⟨k,hk,rfl⟩:=ahS hj;refine⟨_,_,rfl,?_⟩;unfold t8;refine⟨_,K,aW ?_ rfl,_,.inl rfl,⟨_,rfl⟩,y⟩;by_cases h:k<=p
   ·have hw:ag ax (af 0) (af 2) [some (.ref ri),some (.int p),some (.int k)] K=.ok Row.turn.w K:=op rfl rfl (ej (y.get (x1.get hR)) (kn (jm k (alF hk) h)));refine tT (tB (op rfl rfl (gq K (decide_eq_true (by omega))))) (tB (op (sO hw) rfl ?_));show lift (cS (.str (ala "turn")) (.str (ala "turn"))) K=_;rw[vd];rfl
   ·exact tF (tB (op rfl rfl (gq K (decide_eq_false (by omega)))))) ⟨⟨none,rfl⟩,Ex.refl _⟩
 refine⟨H2,?_,x1.trans x2⟩;unfold t9 mY;rw[dQ];exact bq (fB e1 e2) (br rfl)
theorem afx{x:W}{xs:List W}{w:W}(hc:chk ph=true)(hg:g x σ ph=.ok σ1 ph1)(hb:b σ1 ph1=.ok (.rt w) ph2):cM chk g b (x::xs) σ ph=.ok (.rt w) ph2:=by
 unfold cM;rw[if_pos hc,cu hg,cu hb];rfl
variable{q:Row}
theorem afy(hR:H[ri]? =some (.lst us))(hp:us[p]? =some r.w)(hr:r.to=[k])(hk:k<=p)(hq:us[k]? =some q.w)(ht:q.x≠"turn"):∃H',t9 [.ref ri,.int p] H=.ok (.bl true) H'/\Ex H H':=by
 obtain⟨H1,e1,x1,g1⟩:=LQ r (e:=ag ax (af 0) (af 1)) (σ:=[some (.ref ri),some (.int p),none]) (H:=H) (op rfl rfl (ej hR (kn hp)));rw[hr] at e1 g1;refine⟨H1,?_,x1⟩;unfold t9 mY;rw[dQ];refine d7 (fB e1 ?_);have hw:ag ax (af 0) (af 2) [some (.ref ri),some (.int p),some (.int k)] H1=.ok q.w H1:=op rfl rfl (ej (x1.get hR) (kn hq));have hb:t8 [some (.ref ri),some (.int p),some (.int k)] H1=.ok (.rt (.bl true)) H1:=by
  unfold t8;refine b9 (tT (tB (op rfl rfl (gq H1 (decide_eq_true (by omega))))) (tB (op (sO hw) rfl ?_))) rfl;rw[vd,decide_eq_false ht];rfl
 exact afx (x:=.int k) (xs:=[]) (decide_eq_true g1) rfl hb
noncomputable def dA(MS:List Nm)(a:Nm):List Nm:=if a∈MS then MS else MS++[a]
noncomputable def ko(MS:List Nm)(r:Row):List Nm:=r.nm.foldl dA MS
noncomputable def fo(R:List Row):List Nm:=R.foldl ko []
theorem zg{a:Nm}(h:∀b∈MS,bG b)(ha:bG a):∀b∈dA MS a,bG b:=fun b hb=>by
 unfold dA at hb;split at hb
 ·exact h b hb
 ·rcases amC.mp hb with z | z
  ·exact h b z
  ·rw[aly.mp z];exact ha
theorem zh(MS:List Nm)(a:Nm):MS.length<=(dA MS a).length/\(dA MS a).length<=MS.length+1:=by
 unfold dA;split
 ·exact⟨ali _,aoD _⟩
 ·simp
theorem Cr:∀(l:List Nm) {MS:List Nm},(∀b∈MS,bG b)->(∀a∈l,bG a)->∀b∈l.foldl dA MS,bG b
 | [],_,h,_=>h
 | a::l,_,h,h2=>Cr l (zg h (h2 a amc)) fun b hb=>h2 b (alE _ hb)
theorem KD:∀(l:List Nm) (MS:List Nm),MS.length<=(l.foldl dA MS).length/\(l.foldl dA MS).length<=MS.length+l.length
 | [],MS=>⟨ali _,ali _⟩
 | a::l,MS=>by
  have h1:=zh MS a;have h2:=KD l (dA MS a);rw[aqo,alA];omega
theorem ajw(r:Row):r.nm.length<=3:=by cases r <;> exact alx rfl
theorem M7(hM:H[ni]? =some (.lst (MS.map aB)))(nk:∀a∈MS,bG a)(nr:∀a∈r.nm,bG a)(hl:MS.length<=100):∃(i:Nat) (H':PH),Bu [r.w,.ref ni] H=.ok (.ref i) H'/\Ex H H'/\H'[i]? =some (.lst ((ko MS r).map aB)):=by
 obtain⟨H1,da⟩:∃H1,H1=H++[PO.lst (MS.map aB)]:=⟨_,rfl⟩
 have x1:Ex H H1:=da▸Ex.one _ _;have g1:H1[H.length]? =some (.lst (MS.map aB)):=by rw[da];exact aY _ _
 obtain⟨H2,e2,x2,g2⟩:=ah4 r (e:=af 0) (σ:=[some r.w,some (.ref ni),some (.ref H.length),none]) (H:=H1) rfl;have iU:H1.length=H.length+1:=by rw[da];simp
 have hr3:=ajw r;obtain⟨az,H3,e3,⟨o,rfl⟩,x3,g3,_⟩:=pb (chk:=fun p=>decide (p[H1.length]? =some (.lst (r.nm.map aB)))) (g:=gN 3) (b:=Bl) (fun k σ K=>(∃o,σ=[some r.w,some (.ref ni),some (.ref H.length),o])/\Ex H K/\K[H.length]? =some (.lst (((r.nm.take k).foldl dA MS).map aB))/\K[H1.length]? =some (.lst (r.nm.map aB))) (r.nm.map aB) [some r.w,some (.ref ni),some (.ref H.length),none] H2
  (fun _ _ _ h=>decide_eq_true h.2.2.2) (fun k x σ K hk hI=>by
   obtain⟨⟨o,rfl⟩,y,gm,gk⟩:=hI;rw[aln] at hk;obtain⟨a,ha,rfl⟩:=alv.mp hk;have hna:=nr a (alF ha);obtain⟨M,eM⟩:∃M,M=(r.nm.take k).foldl dA MS:=⟨_,rfl⟩
   have hM2:∀b∈M,bG b:=by
    rw[eM];exact Cr _ nk fun b hb=>nr b (amq hb)
   have hMl:M.length<=103:=by
    have:=(KD (r.nm.take k) MS).2;have h3:(r.nm.take k).length<=3:=alT (by rw[alX];omega) hr3;rw[<- eM] at this;omega
   have hx:(r.nm.take (k+1)).foldl dA MS=dA M a:=by
    rw[aoH,ha,List.foldl_append,<- eM];rfl
   rw[<- eM] at gm;refine⟨_,_,rfl,?_⟩;unfold Bl;have cO:eT (ag kj (af 3) (af 2)) [some r.w,some (.ref ni),some (.ref H.length),some (aB a)] K=.ok (!decide (a∈M)) K:=tB (op rfl rfl (M3 gm hM2 hna));rw[hx];by_cases h:a∈M
   ·rw[decide_eq_true h] at cO;exact⟨_,K,aW cO rfl,_,.inl rfl,⟨_,rfl⟩,y,by unfold dA;rw[if_pos h];exact gm,gk⟩
   ·rw[decide_eq_false h] at cO;refine⟨_,_,b9 cO (tX rfl ⟨_,gm⟩ rfl gm (by rw[alg];omega)),_,.inl rfl,⟨_,rfl⟩,Ex.set y (ali _) _,(pK gm).trans (by unfold dA;rw[if_neg h,apg];rfl),(zy (by omega)).trans gk⟩) ⟨⟨none,rfl⟩,x1.trans x2,x2.get g1,g2⟩
 rw[alg,anL] at g3;refine⟨H.length,H3,?_,x3,g3⟩;unfold Bu oG;rw[dQ];refine bq (ph1:=H1) (σ1:=[some r.w,some (.ref ni),some (.ref H.length),none]) ?_ (bq (fB e2 e3) (br rfl));rw[da];exact asg (ay (au rfl rfl) (Jz hM))
structure Pre(us:List W)(L:List Row):Prop where
 at_:∀(p:Nat) r,L[p]? =some r->us[p]? =some r.w
 nm:∀r∈L,∀a∈r.nm,bG a
 num:∀r∈L,∀a v,r=.set a v->oy v
 to:∀(p:Nat) r,L[p]? =some r->∀k∈r.to,k<=us.length/\(k<=p->us[k]? =some Row.turn.w)
 cnt:∀k,(fo (L.take k)).length<=12
 n:us.length<=60
variable{L:List Row}
theorem zz(h:∀r∈L,∀a∈r.nm,bG a):∀b∈fo L,bG b:=by
 unfold fo;have:∀(L:List Row) (MS:List Nm),(∀b∈MS,bG b)->(∀r∈L,∀a∈r.nm,bG a)->∀b∈L.foldl ko MS,bG b:=by
  intro L
  induction L with
  | nil=>exact fun _ h _=>h
  | cons r L ih=>exact fun MS h1 h2=>ih _ (Cr r.nm h1 (h2 r amc)) fun q hq=>h2 q (alE _ hq)
 exact this L [] (fun _ h=>nomatch h) h
theorem Cs(h:L[k]? =some r):fo (L.take (k+1))=ko (fo (L.take k)) r:=by
 unfold fo;rw[aoH,h,List.foldl_append];rfl
noncomputable def NI(H:PH)(ri:Nat)(L:List Row)(k:Nat)(σ:aT)(K:PH):Prop:=∃(ni:Nat) (o2 o3:Option W),σ=[some (.ref ri),some (.ref ni),o2,o3]/\Ex H K/\K[ni]? =some (.lst ((fo (L.take k)).map aB))
theorem Qo{w:W}(h:(gc us)[j]? =some w):∃x,us[j]? =some x/\w=.tup [.int j,x]:=by
 obtain⟨x,h1,h2⟩:=Ly h;exact⟨x,h1,h2⟩
theorem ajx{x:W}(h:us[j]? =some x):(gc us)[j]? =some (.tup [.int j,x]):=by
 obtain⟨w,hw⟩:∃w,(gc us)[j]? =some w:=k9 (by rw[Lz];exact(alf.mp h).1);obtain⟨y,h1,h2⟩:=Qo hw;rw[h] at h1;cases h1;rw[hw,h2]
theorem aia(P:Pre us L)(hr:L[k]? =some r)(K:PH):∃K',fA [r.w,.int us.length] K=.ok (.bl true) K'/\Ex K K':=
 Cq (NS:=r.nm) (P.nm r (alF hr)) ⟨fun _ h=>h,P.num r (alF hr)⟩ (fun j hj=>(P.to k r hr j hj).1) P.n K
theorem JK(hR:H[ri]? =some (.lst us))(P:Pre us L)(hr:L[k]? =some r)(I:NI H ri L k σ K) :
  ∃σ1 ph1,iL 2 [(gN 2),(gN 3)] (.tup [.int k,r.w]) σ K=.ok σ1 ph1/\∃bo ph2,il σ1 ph1=.ok (.nx bo) ph2/\NI H ri L (k+1) bo ph2:=by
 obtain⟨ni,o2,o3,rfl,y,gm⟩:=I;refine⟨[some (.ref ri),some (.ref ni),some (.int k),some r.w],K,rfl,?_⟩;have hc:=P.cnt k;have tH:=P.cnt (k+1);rw[Cs hr] at tH;obtain⟨K1,f1,z1⟩:=aia P hr K;obtain⟨K2,f2,z2⟩:=LV (H:=K1) (z1.get (y.get hR)) (P.at_ k r hr) (fun j hj=>(P.to k r hr j hj).2);obtain⟨i,K3,f3,z3,g3⟩:=M7 (H:=K2) (z2.get (z1.get gm)) (zz fun q hq=>P.nm q (amq hq)) (P.nm r (alF hr)) (by omega);have len:bz bR (ae (af 0) aj) [some (.ref ri),some (.ref ni),some (.int k),some r.w] K=.ok (.int us.length) K:=ay (au rfl rfl) (gS (y.get hR));unfold il;refine⟨_,K3,sq (aW (oF (cj (c:=true) (eB (ay (au rfl (au len rfl)) f1))) (eB (ay (au rfl (au rfl rfl)) f2))) rfl) (sq (asg (ay (au rfl (au rfl rfl)) f3)) (aW (tB (op (x:=.int ((ko (fo (L.take k)) r).length:Int)) (y:=.int 12) (ay (au (w:=.ref i) rfl rfl) ((gS g3).trans (by rw[alg]))) rfl ?_)) rfl)),i,_,_,rfl,((y.trans z1).trans z2).trans z3,by rw[Cs hr];exact g3⟩;rw[tm,decide_eq_false (by omega)];rfl
noncomputable def fW(w:W):XC:=⟨"BadProgram",[("at",w)]⟩
theorem JL(hR:H[ri]? =some (.lst us))(hn:us.length<=60){r:Out W}(h:aA (aD (gj (sE (ae (af 0) aj)) (iL 2 [(gN 2),(gN 3)]) il) (aU (af 1)) [some (.ref ri),some (.ref H.length),none,none]) dO (H++[.lst []])=r):fv [.ref ri] H=r:=by
 unfold fv kI;rw[fk];refine bq (ph1:=H) (aW (oF (cj (c:=true) (eB (ay rfl (se hR)))) (tB (op (x:=.int us.length) (y:=.int 60) (ay (au rfl rfl) (gS hR)) rfl ?_))) rfl) (bq (ph1:=H++[.lst []]) (σ1:=[some (.ref ri),some (.ref H.length),none,none]) (asg rfl) h);rw[tm,decide_eq_false (by omega)];rfl
theorem LW(hR:H[ri]? =some (.lst (R.map Row.w)))(P:Pre (R.map Row.w) R):∃i H',fv [.ref ri] H=.ok (.ref i) H'/\Ex H H'/\H'[i]? =some (.lst ((fo R).map aB)):=by
 have x1:Ex H (H++[PO.lst []]):=Ex.one _ _;obtain⟨az,H2,e2,ni,o2,o3,rfl,x2,g2⟩:=pb (chk:=fun p=>decide (p[ri]? =some (.lst (R.map Row.w)))) (g:=iL 2 [(gN 2),(gN 3)]) (b:=il) (NI H ri R) (gc (R.map Row.w)) [some (.ref ri),some (.ref H.length),none,none] (H++[.lst []])
  (fun _ _ _ h=>by obtain⟨_,_,_,_,q,_⟩:=h;exact decide_eq_true (q.get hR)) (fun j x σ K hj hI=>by
   obtain⟨r,hr,rfl⟩:=enW R hj;obtain⟨σ1,ph1,a1,bo,ph2,a2,a3⟩:=JK hR P hr hI;exact⟨σ1,ph1,a1,_,ph2,a2,bo,.inl rfl,a3⟩) ⟨H.length,none,none,rfl,x1,aY _ _⟩
 rw[Lz,alg,anL] at g2;exact⟨ni,H2,JL hR P.n (bq (fB (Jl rfl (x1.get hR)) e2) (br rfl)),x2,g2⟩
theorem KG{w:W}(hR:H[ri]? =some (.lst us))(P:Pre us L)(hw:us[L.length]? =some w)
  (hs:∀ni K,Ex H K->K[ni]? =some (.lst ((fo L).map aB))->∃K',il [some (.ref ri),some (.ref ni),some (.int L.length),some w] K=.ex (fW (.int L.length)) K'/\Ex K K'):∃H',fv [.ref ri] H=.ex (fW (.int L.length)) H'/\Ex H H':=by
 have x1:Ex H (H++[PO.lst []]):=Ex.one _ _;obtain⟨e,H2,e2,rfl,x2⟩:=LR (chk:=fun p=>decide (p[ri]? =some (.lst us))) (g:=iL 2 [(gN 2),(gN 3)]) (b:=il) (NI H ri L) (fun e K=>e=fW (.int L.length)/\Ex H K) (gc us) 0 L.length [some (.ref ri),some (.ref H.length),none,none] (H++[.lst []])
  (fun _ _ _ h=>by obtain⟨_,_,_,_,q,_⟩:=h;exact decide_eq_true (q.get hR)) (fun j x σ K Qi hj hI=>by
   obtain⟨r,hr⟩:∃r,L[j]? =some r:=k9 Qi;obtain⟨y,hy,rfl⟩:=Qo hj;rw[P.at_ j r hr] at hy;cases hy;rw[anY] at hI ⊢;exact JK hR P hr hI) ⟨.tup [.int L.length,w],ajx hw,fun σ K hI=>by
    obtain⟨ni,o2,o3,rfl,y,gm⟩:=hI;rw[anY,anL] at gm;obtain⟨K',e,z⟩:=hs ni K y gm;exact⟨[some (.ref ri),some (.ref ni),some (.int L.length),some w],K,rfl,_,K',e,rfl,y.trans z⟩⟩ ⟨H.length,none,none,rfl,x1,aY _ _⟩
 exact⟨H2,JL hR P.n (qC (fB (Jl rfl (x1.get hR)) e2)),x2⟩
theorem jf{x:W}{xs:List W}{bo:aT}{r:Out Fl}(hc:chk ph=true)(hg:g x σ ph=.ok σ1 ph1)(hb:b σ1 ph1=.ok (.nx bo) ph2)(h:cM chk g b xs bo ph2=r):cM chk g b (x::xs) σ ph=r:=by
 unfold cM;rw[if_pos hc,cu hg,cu hb];exact h
theorem lV(hc:chk ph=true):cM chk g b [] σ ph=.ok (.nx σ) ph:=by
 unfold cM;rw[if_pos hc]
noncomputable def sn(ri ai:Nat)(r:Row)(o:Option W):aT:=[some (.ref ri),some (.ref ai),some r.w,o]
noncomputable def Qp(H K K':PH)(ai:Nat)(MS:List Nm):Prop:=(Ex H K->Ex H K')/\K'[ai]? =some (.lst (MS.map aB))
variable{ai:Nat}
theorem DP{k:Int}{w:W}(hv:ag ax (af 2) (af 3) (sn ri ai r (some (.int k))) K=.ok w K)(h:lift (du "str" w) K=.ok (.bl false) K):oB (sn ri ai r (some (.int k))) K=.ok (.nx (sn ri ai r (some (.int k)))) K:=by
 unfold oB;exact aW (tF (eB (ay hv h))) rfl
theorem ajy{w:Str}(hv:ag ax (af 2) (af 3) (sn ri ai r (some (.int 2))) K=.ok (.str w) K)(hx:r.x="do"):oB (sn ri ai r (some (.int 2))) K=.ok (.nx (sn ri ai r (some (.int 2)))) K:=by
 unfold oB;exact aW (tT (eB (ay hv rfl)) (tF (cj (c:=true) (tT (dS (r:=r) rfl (decide_eq_true hx)) (eI (g:=2) rfl rfl))))) rfl
theorem me{k:Int}{a:Nm}(kF:H.length<=ai)(hM:K[ai]? =some (.lst (MS.map aB)))(nk:∀b∈MS,bG b)(na:bG a)(hl:MS.length<=1000)(hv:ag ax (af 2) (af 3) (sn ri ai r (some (.int k))) K=.ok (aB a) K)(hx:r.x≠"do"\/k≠2):∃K',oB (sn ri ai r (some (.int k))) K=.ok (.nx (sn ri ai r (some (.int k)))) K'/\Qp H K K' ai (dA MS a):=by
 have t2:el (dJ (eT (ag bh (ag ax (af 2) (eC (.int (0)))) (eC (.str "do")))) (eT (ag bh (af 3) (eC (.int (2)))))) (sn ri ai r (some (.int k))) K=.ok true K:=by
  refine cj (c:=false) ?_;by_cases h:r.x="do"
  ·refine tT (dS (r:=r) rfl (decide_eq_true h)) (eI (g:=k) rfl (decide_eq_false ?_))
   rcases hx with z | z
   ·exact absurd h z
   ·exact z
  ·exact tF (dS (r:=r) rfl (decide_eq_false h))
 have t3:eT (ag kj (ag ax (af 2) (af 3)) (af 1)) (sn ri ai r (some (.int k))) K=.ok (!decide (a∈MS)) K:=tB (op hv rfl (M3 hM nk na));unfold oB;by_cases h:a∈MS
 ·rw[decide_eq_true h] at t3;exact⟨K,aW (tT (eB (ay hv rfl)) (tT t2 t3)) rfl,id,by unfold dA;rw[if_pos h];exact hM⟩
 ·rw[decide_eq_false h] at t3;exact⟨_,b9 (tT (eB (ay hv rfl)) (tT t2 t3)) (tX rfl ⟨_,hM⟩ hv hM (by rw[alg];omega)),fun y=>Ex.set y kF _,(pK hM).trans (by unfold dA;rw[if_neg h,apg];rfl)⟩
theorem afz{o:Option W}(kF:H.length<=ai)(hM:K[ai]? =some (.lst (MS.map aB)))(nk:∀b∈MS,bG b)(nr:∀a∈r.nm,bG a)(hl:MS.length<=900):∃K' o',wY (sn ri ai r o) K=.ok (.nx (sn ri ai r o')) K'/\Qp H K K' ai (ko MS r):=by
 have hi:∀(m:Nat),r.ks.length=m->tN (ae (eC (.int (1))) (ae (bz bR (ae (af 2) aj)) aj)) (sn ri ai r o) K=.ok (gn 1 m,fun _=>true) K:=fun m hm=>by
  have:=ahg (σ:=sn ri ai r o) (ph:=K) (i:=1) (j:=((m+1:Nat):Int)) (m:=ae (eC (.int (1))) (ae (bz bR (ae (af 2) aj)) aj)) (ph':=K) (au rfl (au (ay (au (w:=r.w) (ph1:=K) rfl rfl) (by rw[vp];show Out.ok (W.int (((W.str r.x::r.ks.map (·.2)).length:Nat):Int)) K=_;rw[alA,alg,hm])) rfl)) (by decide) (by decide) (by omega) (by have:=Do r;omega);rw[show(((m+1:Nat):Int)-1).toNat=m by omega] at this;exact this
 unfold wY;cases r with
 | set a v=>
  obtain⟨K1,e1,q1,q2⟩:=me (r:=.set a v) (k:=1) (ri:=ri) kF hM nk (nr a (by simp[Row.nm])) (by omega) rfl (.inl (by simp[Row.x]));exact⟨K1,_,fB (hi 2 rfl) (jf rfl rfl e1 (jf rfl rfl (DP (r:=.set a v) (k:=2) (w:=.int v) rfl rfl) (lV rfl))),q1,q2⟩
 | copy a b=>
  obtain⟨K1,e1,q1,q2⟩:=me (r:=.copy a b) (k:=1) (ri:=ri) kF hM nk (nr a (by simp[Row.nm])) (by omega) rfl (.inl (by simp[Row.x]));obtain⟨K2,e2,q3,q4⟩:=me (r:=.copy a b) (k:=2) (ri:=ri) kF q2 (zg nk (nr a (by simp[Row.nm]))) (nr b (by simp[Row.nm])) (by have:=(zh MS a).2;omega) rfl (.inl (by simp[Row.x]));exact⟨K2,_,fB (hi 2 rfl) (jf rfl rfl e1 (jf rfl rfl e2 (lV rfl))),fun y=>q3 (q1 y),q4⟩
 | dE a w b c=>
  obtain⟨K1,e1,q1,q2⟩:=me (r:=.dE a w b c) (k:=1) (ri:=ri) kF hM nk (nr a (by simp[Row.nm])) (by omega) rfl (.inr (by decide));have k1:=zg nk (nr a (by simp[Row.nm]));have l1:=(zh MS a).2;obtain⟨K2,e2,q3,q4⟩:=me (r:=.dE a w b c) (k:=3) (ri:=ri) kF q2 k1 (nr b (by simp[Row.nm])) (by omega) rfl (.inr (by decide));have k2:=zg k1 (nr b (by simp[Row.nm]));have l2:=(zh (dA MS a) b).2;obtain⟨K3,e3,q5,q6⟩:=me (r:=.dE a w b c) (k:=4) (ri:=ri) kF q4 k2 (nr c (by simp[Row.nm])) (by omega) rfl (.inr (by decide));exact⟨K3,_,fB (hi 4 rfl) (jf rfl rfl e1 (jf rfl rfl (ajy (r:=.dE a w b c) rfl rfl) (jf rfl rfl e2 (jf rfl rfl e3 (lV rfl))))),fun y=>q5 (q3 (q1 y)),q6⟩
 | take a=>
  obtain⟨K1,e1,q1,q2⟩:=me (r:=.take a) (k:=1) (ri:=ri) kF hM nk (nr a (by simp[Row.nm])) (by omega) rfl (.inl (by simp[Row.x]));exact⟨K1,_,fB (hi 1 rfl) (jf rfl rfl e1 (lV rfl)),q1,q2⟩
 | tell a=>
  obtain⟨K1,e1,q1,q2⟩:=me (r:=.tell a) (k:=1) (ri:=ri) kF hM nk (nr a (by simp[Row.nm])) (by omega) rfl (.inl (by simp[Row.x]));exact⟨K1,_,fB (hi 1 rfl) (jf rfl rfl e1 (lV rfl)),q1,q2⟩
 | turn=>exact⟨K,_,fB (hi 0 rfl) (lV rfl),id,hM⟩
 | iff a p=>
  obtain⟨K1,e1,q1,q2⟩:=me (r:=.iff a p) (k:=1) (ri:=ri) kF hM nk (nr a (by simp[Row.nm])) (by omega) rfl (.inl (by simp[Row.x]));exact⟨K1,_,fB (hi 2 rfl) (jf rfl rfl e1 (jf rfl rfl (DP (r:=.iff a p) (k:=2) (w:=.int p) rfl rfl) (lV rfl))),q1,q2⟩
 | go p=>exact⟨K,_,fB (hi 1 rfl) (jf rfl rfl (DP (r:=.go p) (k:=1) (w:=.int p) rfl rfl) (lV rfl)),id,hM⟩
 | fin=>exact⟨K,_,fB (hi 0 rfl) (lV rfl),id,hM⟩
theorem aa0(hR:H[ri]? =some (.lst (R.map Row.w)))(nm:∀r∈R,∀a∈r.nm,bG a)(hc:∀k,(fo (R.take k)).length<=12):∃H',xo [.ref ri] H=.ok (.ref H.length) H'/\Ex H H'/\H'[H.length]? =some (.lst ((fo R).map aB)):=by
 have x1:Ex H (H++[PO.lst []]):=Ex.one _ _;obtain⟨az,H2,e2,o2,o3,rfl,x2,g2⟩:=pb (chk:=fun p=>decide (p[ri]? =some (.lst (R.map Row.w)))) (g:=gN 2) (b:=wY) (fun k σ K=>∃o2 o3:Option W,σ=[some (.ref ri),some (.ref H.length),o2,o3]/\Ex H K/\K[H.length]? =some (.lst ((fo (R.take k)).map aB))) (R.map Row.w) [some (.ref ri),some (.ref H.length),none,none] (H++[.lst []])
  (fun _ _ _ h=>by obtain⟨_,_,_,q,_⟩:=h;exact decide_eq_true (q.get hR)) (fun k x σ K hk hI=>by
   obtain⟨o2,o3,rfl,y,gm⟩:=hI;rw[aln] at hk;obtain⟨r,hr,rfl⟩:=alv.mp hk;have:=hc k;obtain⟨K',o',e,q1,q2⟩:=afz (H:=H) (ri:=ri) (r:=r) (o:=o3) (ali _) gm (zz fun q hq=>nm q (amq hq)) (nm r (alF hr)) (by omega);rw[<- Cs hr] at q2;exact⟨sn ri H.length r o3,K,rfl,_,K',e,_,.inl rfl,_,_,rfl,q1 y,q2⟩) ⟨none,none,rfl,x1,aY _ _⟩
 rw[alg,anL] at g2;refine⟨H2,?_,x2,g2⟩;unfold xo oJ;rw[fk];exact bq (ph1:=H++[.lst []]) (σ1:=[some (.ref ri),some (.ref H.length),none,none]) (asg rfl) (bq (fB (oX rfl (x1.get hR)) e2) (br rfl))
theorem ju{c:Str}{fs:List Str}{vs:List W}{b:Bool}(hv:af 4 σ H=.ok (.exc c fs vs) H)(h:tb.lookup c=some b):cL (eF tb (af 4)) σ H=.ok b H:=by
 refine eB (ay hv ?_);have e:tR tb (.exc c fs vs) H=some (.bl b,H):=by
  unfold tR;simp only[h];rfl
 unfold lift;rw[e]
theorem akw{c:Str}{fs:List Str}{vs:List W}{b:Bool}(hv:af 4 σ H=.ok (.exc c fs vs) H)(h:tb.lookup c=some b):eF tb (af 4) σ H=.ok (.bl b) H:=by
 refine ay hv ?_;have e:tR tb (.exc c fs vs) H=some (.bl b,H):=by
  unfold tR;simp only[h];rfl
 unfold lift;rw[e]
noncomputable def qA:SM:=(aD (bf (dN (cL (eF [("BadProgram",false),("BadRun",false),("ByNought",false)] (af 4))) (dN (cL (eF [("BadProgram",false),("BadRun",false),("ByNought",true)] (af 4))) (cL (eF [("BadProgram",false),("BadRun",false),("ByNought",false)] (af 4))))) (aU (eC (.str "otherwise"))) bv) (aD (bf (el (cL (eF [("BadProgram",true),("BadRun",true),("ByNought",true)] (af 4)))) (aU (eC (.str "otherwise"))) bv) (aD (bf (dJ (cL (eF [("BadProgram",true),("BadRun",false),("ByNought",false)] (af 4))) (cL (eF [("BadProgram",false),("BadRun",true),("ByNought",false)] (af 4)))) (aU (eC (.str "otherwise"))) bv) (aD (bf (cL (eF [("BadProgram",true),("BadRun",false),("ByNought",false)] (af 4))) (aU (ag c8 (aI (ae (aH (ae (eC (.str "program")) (ae (pU "BadProgram" "at" (af 4)) aj))) (ae (eC (.str "otherwise")) aj))) (bz nT (ae (gG "bool" (pU "BadProgram" "at" (af 4))) aj)))) bv) (aU (ag c8 (aI (ae (eC (.str "otherwise")) (ae (eC (.str "run")) aj))) (bz nT (ae (eF [("BadProgram",false),("BadRun",true),("ByNought",false)] (af 4)) aj))))))))
noncomputable def A6(w:W):W:=.exc "BadProgram" ["at"] [w]
noncomputable def FN:W:=.exc "BadRun" [] []
theorem ajz{w:W}(K:PH)(hw:∀K,lift (du "bool" w) K=.ok (.bl false) K):∃K',qA [none,none,none,none,some (A6 w)] K=.ok (.rt (.tup [.str "program",w])) K'/\Ex K K':=by
 have v:∀{K:PH},af 4 [none,none,none,none,some (A6 w)] K=.ok (A6 w) K:=fun{K}=>rfl
 have xf:∀{K:PH},pU "BadProgram" "at" (af 4) [none,none,none,none,some (A6 w)] K=.ok w K:=fun{K}=>ay v (akt K)
 refine⟨K++[.lst [.tup [.str "program",w],.str "otherwise"]],?_,Ex.one _ _⟩;unfold qA;refine sq (aW (oF (ju v nofun) (oF (ju v nofun) (ju v nofun))) rfl) (sq (aW (cj (ju (b:=true) v nofun)) rfl) (sq (aW (tT (ju v nofun) (ju v nofun)) rfl) (Qg (b9 (ju v nofun) (retS (op (x:=.ref K.length) (ph1:=K++[.lst [.tup [.str "program",w],.str "otherwise"]]) (y:=.int 0) (ph2:=K++[.lst [.tup [.str "program",w],.str "otherwise"]]) (ay (au (tp (au rfl (au xf rfl)) rfl) (au rfl rfl)) (dw _ K (small (by simp)))) (ay (au (ay xf (hw _)) rfl) rfl) (Dd (aY _ _) rfl)))))))
theorem ajA(K:PH):∃K',qA [none,none,none,none,some FN] K=.ok (.rt (.str "run")) K'/\Ex K K':=by
 have v:∀{K:PH},af 4 [none,none,none,none,some FN] K=.ok FN K:=fun{K}=>rfl
 refine⟨K++[.lst [.str "otherwise",.str "run"]],?_,Ex.one _ _⟩;unfold qA;refine sq (aW (oF (ju v nofun) (oF (ju v nofun) (ju v nofun))) rfl) (sq (aW (cj (ju (b:=true) v nofun)) rfl) (sq (aW (tF (ju v nofun)) rfl) (sq (aW (ju v nofun) rfl) (retS (op (x:=.ref K.length) (ph1:=K++[.lst [.str "otherwise",.str "run"]]) (y:=.int 1) (ph2:=K++[.lst [.str "otherwise",.str "run"]]) (ay (au rfl (au rfl rfl)) (dw _ K (small (by simp)))) (ay (au (akw (b:=true) v nofun) rfl) rfl) (Dd (aY _ _) rfl))))))
noncomputable def XR:XC:=⟨"BadRun",[]⟩
noncomputable def sx(K:PH)(u t:W):Prop:=∀K2,Ex K K2->∃K3,uo [u,t] K2=.ex XR K3/\Ex K2 K3
theorem N2{t:W}(h:∀K,lift (du "list" u) K=.ok (.bl false) K):sx K u t:=fun K2 _=>by
 refine⟨K2,?_,Ex.refl _⟩;unfold uo lJ;rw[dQ];exact qC (b9 (oT (cj (c:=false) (eB (ay rfl (h K2))))) rfl)
theorem OP{t:W}(as:List (W×Bool))(hi:K[i]? =some (.lst (as.map (·.1))))(hn:∀p∈as,∀K,eR [p.1] K=.ok (.bl p.2) K)(hl:as.length<=10):∃K',bz lj (ae (dn (er (af 0)) [none] (gN 0) dz (aV eR (ae (af 0) aj))) aj) [some (.ref i),some t] K=.ok (.bl (as.all (·.2))) K'/\Ex K K':=by
 obtain⟨H1,e1,x1⟩:=lP as (·.1) (im:=er (af 0)) (cap:=[none]) (g:=gN 0) (c:=dz) (e:=aV eR (ae (af 0) aj)) (σ:=[some (.ref i),some t]) (ph:=K) (ph0:=K) (oX rfl hi) (fun p y=>decide_eq_true (y.get hi)) (small (by omega)) (fun p=>some (.bl p.2)) (fun σ=>∃o,σ=[o]) ⟨none,rfl⟩
  (fun p hp σ K hS _=>by
   obtain⟨o,rfl⟩:=hS;exact⟨_,rfl,⟨_,rfl⟩,true,K,rfl,Ex.refl _,.inr ⟨rfl,_,K,ay (au rfl rfl) (hn p hp K),Ex.refl _,rfl⟩⟩)
 rw[pw] at x1;have g:H1[K.length]? =some (.lst ((as.map (·.2)).map W.bl)):=by
  rw[ans];exact x1.get (aY _ _)
 refine⟨H1,ay (au e1 rfl) ((y4 g).trans ?_),(Ex.one _ _).trans x1⟩;rw[arE];rfl
theorem pW{t:W}(as:List (W×Bool))(hi:K[i]? =some (.lst (as.map (·.1))))(hn:∀p∈as,∀K,eR [p.1] K=.ok (.bl p.2) K)(hl:as.length<=10)(hf:as.all (·.2)=false):sx K (.ref i) t:=fun K2 y=>by
 obtain⟨K3,e,x⟩:=OP (t:=t) as (y.get hi) hn hl;rw[hf] at e;refine⟨K3,?_,x⟩;unfold uo lJ;rw[dQ];exact qC (b9 (oF (cj (c:=true) (eB (ay rfl (se (y.get hi))))) (cj (c:=false) (eB e))) rfl)
theorem sP{t:W}(hi:K[i]? =some (.lst []))(h:(∀K,eR [t] K=.ok (.bl false) K)\/∃n,t=.int n/\oy n/\(n<0\/10000<n)):sx K (.ref i) t:=fun K2 y=>by
 obtain⟨K3,e,x⟩:=OP (t:=t) [] (y.get hi) (fun _ h=>nomatch h) (by decide);refine⟨K3,?_,x⟩;unfold uo lJ;rw[dQ];refine bq (ph1:=K3) (σ1:=[some (.ref i),some t]) (aW (oF (cj (c:=true) (eB (ay rfl (se (y.get hi))))) (cj (c:=true) (eB e))) rfl) (bx (b9 ?_ rfl))
 rcases h with h | ⟨n,rfl,hs,hn⟩
 ·exact oT (cj (c:=false) (eB (ay (au rfl rfl) (h K3))))
 ·refine oF (cj (c:=true) (eB (ay (au rfl rfl) (lQ hs K3)))) (cj (c:=false) (tB ?_));by_cases h0:n<0
  ·exact zf (y:=.int n) rfl rfl (gq K3 (decide_eq_false (by omega)))
  ·exact ny (y:=.int n) rfl rfl (gq K3 (decide_eq_true (by omega))) rfl (gq K3 (decide_eq_false (by omega)))
theorem M8(way:Nat)(h1:1<=way)(h2:way<=15)(w:W)(H:PH):∃u t K,sx K u t/\Ex H K/\∀{r:Out Fl},(aA (lF [w,u,t]) fun w=>aK (.rt w)) K=r->(aD (aP (aI (ae (aI aj) (ae (eC (.int (0))) (ae (aI (ae (eC (.bl true)) aj)) (ae (aI (ae (eC (.int (2147483648))) aj)) (ae (aI aj) (ae (aI aj) (ae (aI aj) (ae (aI (ae (eC (.int (1))) (ae (eC .aE) aj))) aj))))))))) (gN 2)) (aD (aP (ag addW (af 2) (aI (ae (aH (ae (eC (.int (1))) aj)) (ae (aI (ae (d5 dP (eC (.int (2147483649)))) aj)) (ae (aI aj) (ae (aI aj) (ae (aI (ae (eC (.int (0))) (ae (eC (.str "1")) aj))) (ae (aI aj) (ae (aI (ae (eC (.int (0))) (ae (eC (.bl false)) aj))) (ae (aI (ae (eC .aE) (ae (eC (.int (1))) (ae (eC (.int (2))) aj)))) aj)))))))))) (gN 2)) (aD (aP (aI (ae (eC (.int (0))) (ae (eC (.int (5))) (ae (eC (.int (5))) (ae (eC (.int (5))) (ae (d5 dP (eC (.int (1)))) (ae (eC (.bl true)) (ae (eC (.int (10001))) (ae (eC (.int (0))) (ae (eC (.int (10000))) (ae (eC (.int (1))) (ae (eC .aE) (ae (eC (.str "1")) (ae (eC (.int (2))) (ae (eC (.bl false)) (ae (eC (.int (7))) (ae (eC (.int (3))) aj))))))))))))))))) (gN 3)) (aU (aV lF (ae (af 1) (ae (ag ax (af 2) (af 0)) (ae (ag ax (af 3) (af 0)) aj)))))))) [some (.int way),some w,none,none,none] H=r:=by
 obtain⟨K1,FO⟩:∃K1,K1=H++[PO.lst []]:=⟨_,rfl⟩
 have xK1:Ex H K1:=FO▸Ex.one _ _;have gK1:K1[H.length]? =some (.lst []):=by rw[FO];exact aY _ _
 obtain⟨K2,FP⟩:∃K2,K2=K1++[PO.lst [.bl true]]:=⟨_,rfl⟩
 have xK2:Ex K1 K2:=FP▸Ex.one _ _;have gK2:K2[K1.length]? =some (.lst [.bl true]):=by rw[FP];exact aY _ _
 obtain⟨K3,FQ⟩:∃K3,K3=K2++[PO.lst [.int 2147483648]]:=⟨_,rfl⟩
 have Qq:Ex K2 K3:=FQ▸Ex.one _ _;have gK3:K3[K2.length]? =some (.lst [.int 2147483648]):=by rw[FQ];exact aY _ _
 obtain⟨K4,FR⟩:∃K4,K4=K3++[PO.lst []]:=⟨_,rfl⟩
 have FT:Ex K3 K4:=FR▸Ex.one _ _;have gK4:K4[K3.length]? =some (.lst []):=by rw[FR];exact aY _ _
 obtain⟨K5,FU⟩:∃K5,K5=K4++[PO.lst []]:=⟨_,rfl⟩
 have A7:Ex K4 K5:=FU▸Ex.one _ _;have gK5:K5[K4.length]? =some (.lst []):=by rw[FU];exact aY _ _
 obtain⟨K6,FV⟩:∃K6,K6=K5++[PO.lst []]:=⟨_,rfl⟩
 have wM:Ex K5 K6:=FV▸Ex.one _ _;have gK6:K6[K5.length]? =some (.lst []):=by rw[FV];exact aY _ _
 obtain⟨K7,FW⟩:∃K7,K7=K6++[PO.lst [.int 1,.aE]]:=⟨_,rfl⟩
 have tZ:Ex K6 K7:=FW▸Ex.one _ _;have gK7:K7[K6.length]? =some (.lst [.int 1,.aE]):=by rw[FW];exact aY _ _
 obtain⟨K8,FX⟩:∃K8,K8=K7++[PO.lst [.ref H.length,.int 0,.ref K1.length,.ref K2.length,.ref K3.length,.ref K4.length,.ref K5.length,.ref K6.length]]:=⟨_,rfl⟩
 have qE:Ex K7 K8:=FX▸Ex.one _ _;have gK8:K8[K7.length]? =some (.lst [.ref H.length,.int 0,.ref K1.length,.ref K2.length,.ref K3.length,.ref K4.length,.ref K5.length,.ref K6.length]):=by rw[FX];exact aY _ _
 obtain⟨K9,FY⟩:∃K9,K9=K8++[PO.lst [.int (-2147483649)]]:=⟨_,rfl⟩
 have oz:Ex K8 K9:=FY▸Ex.one _ _;have gK9:K9[K8.length]? =some (.lst [.int (-2147483649)]):=by rw[FY];exact aY _ _
 obtain⟨ia,Eo⟩:∃ia,ia=K9++[PO.lst []]:=⟨_,rfl⟩
 have mD:Ex K9 ia:=Eo▸Ex.one _ _;have akx:ia[K9.length]? =some (.lst []):=by rw[Eo];exact aY _ _
 obtain⟨ib,Ep⟩:∃ib,ib=ia++[PO.lst []]:=⟨_,rfl⟩
 have lq:Ex ia ib:=Ep▸Ex.one _ _;have aky:ib[ia.length]? =some (.lst []):=by rw[Ep];exact aY _ _
 obtain⟨ic,Er⟩:∃ic,ic=ib++[PO.lst [.int 0,.str "1"]]:=⟨_,rfl⟩
 have kq:Ex ib ic:=Er▸Ex.one _ _;have akz:ic[ib.length]? =some (.lst [.int 0,.str "1"]):=by rw[Er];exact aY _ _
 obtain⟨ie,Es⟩:∃ie,ie=ic++[PO.lst []]:=⟨_,rfl⟩
 have jV:Ex ic ie:=Es▸Ex.one _ _;have akA:ie[ic.length]? =some (.lst []):=by rw[Es];exact aY _ _
 obtain⟨ig,Et⟩:∃ig,ig=ie++[PO.lst [.int 0,.bl false]]:=⟨_,rfl⟩
 have jp:Ex ie ig:=Et▸Ex.one _ _;have akB:ig[ie.length]? =some (.lst [.int 0,.bl false]):=by rw[Et];exact aY _ _
 obtain⟨lA,Eu⟩:∃lA,lA=ig++[PO.lst [.aE,.int 1,.int 2]]:=⟨_,rfl⟩
 have iN:Ex ig lA:=Eu▸Ex.one _ _;have akC:lA[ig.length]? =some (.lst [.aE,.int 1,.int 2]):=by rw[Eu];exact aY _ _
 obtain⟨jw,Ew⟩:∃jw,jw=lA++[PO.lst [.tup [.int 1],.ref K8.length,.ref K9.length,.ref ia.length,.ref ib.length,.ref ic.length,.ref ie.length,.ref ig.length]]:=⟨_,rfl⟩
 have gY:Ex lA jw:=Ew▸Ex.one _ _;have akD:jw[lA.length]? =some (.lst [.tup [.int 1],.ref K8.length,.ref K9.length,.ref ia.length,.ref ib.length,.ref ic.length,.ref ie.length,.ref ig.length]):=by rw[Ew];exact aY _ _
 obtain⟨jx,Ey⟩:∃jx,jx=jw++[PO.lst ([.ref H.length,.int 0,.ref K1.length,.ref K2.length,.ref K3.length,.ref K4.length,.ref K5.length,.ref K6.length]++[.tup [.int 1],.ref K8.length,.ref K9.length,.ref ia.length,.ref ib.length,.ref ic.length,.ref ie.length,.ref ig.length])]:=⟨_,rfl⟩
 have iO:Ex jw jx:=Ey▸Ex.one _ _;have akE:jx[jw.length]? =some (.lst ([.ref H.length,.int 0,.ref K1.length,.ref K2.length,.ref K3.length,.ref K4.length,.ref K5.length,.ref K6.length]++[.tup [.int 1],.ref K8.length,.ref K9.length,.ref ia.length,.ref ib.length,.ref ic.length,.ref ie.length,.ref ig.length])):=by rw[Ey];exact aY _ _
 obtain⟨lB,Ez⟩:∃lB,lB=jx++[PO.lst [.int 0,.int 5,.int 5,.int 5,.int (-1),.bl true,.int 10001,.int 0,.int 10000,.int 1,.aE,.str "1",.int 2,.bl false,.int 7,.int 3]]:=⟨_,rfl⟩
 have gZ:Ex jx lB:=Ez▸Ex.one _ _;have akF:lB[jx.length]? =some (.lst [.int 0,.int 5,.int 5,.int 5,.int (-1),.bl true,.int 10001,.int 0,.int 10000,.int 1,.aE,.str "1",.int 2,.bl false,.int 7,.int 3]):=by rw[Ez];exact aY _ _
 have hS:lB[jw.length]? =some (.lst ([.ref H.length,.int 0,.ref K1.length,.ref K2.length,.ref K3.length,.ref K4.length,.ref K5.length,.ref K6.length]++[.tup [.int 1],.ref K8.length,.ref K9.length,.ref ia.length,.ref ib.length,.ref ic.length,.ref ie.length,.ref ig.length])):=gZ.get akE;have key:∀{u t:W},([.ref H.length,.int 0,.ref K1.length,.ref K2.length,.ref K3.length,.ref K4.length,.ref K5.length,.ref K6.length]++[.tup [.int 1],.ref K8.length,.ref K9.length,.ref ia.length,.ref ib.length,.ref ic.length,.ref ie.length,.ref ig.length])[way]? =some u->([.int 0,.int 5,.int 5,.int 5,.int (-1),.bl true,.int 10001,.int 0,.int 10000,.int 1,.aE,.str "1",.int 2,.bl false,.int 7,.int 3]:List W)[way]? =some t->sx lB u t->∃u t K,sx K u t/\Ex H K/\∀{r:Out Fl},(aA (lF [w,u,t]) fun w=>aK (.rt w)) K=r->(aD (aP (aI (ae (aI aj) (ae (eC (.int (0))) (ae (aI (ae (eC (.bl true)) aj)) (ae (aI (ae (eC (.int (2147483648))) aj)) (ae (aI aj) (ae (aI aj) (ae (aI aj) (ae (aI (ae (eC (.int (1))) (ae (eC .aE) aj))) aj))))))))) (gN 2)) (aD (aP (ag addW (af 2) (aI (ae (aH (ae (eC (.int (1))) aj)) (ae (aI (ae (d5 dP (eC (.int (2147483649)))) aj)) (ae (aI aj) (ae (aI aj) (ae (aI (ae (eC (.int (0))) (ae (eC (.str "1")) aj))) (ae (aI aj) (ae (aI (ae (eC (.int (0))) (ae (eC (.bl false)) aj))) (ae (aI (ae (eC .aE) (ae (eC (.int (1))) (ae (eC (.int (2))) aj)))) aj)))))))))) (gN 2)) (aD (aP (aI (ae (eC (.int (0))) (ae (eC (.int (5))) (ae (eC (.int (5))) (ae (eC (.int (5))) (ae (d5 dP (eC (.int (1)))) (ae (eC (.bl true)) (ae (eC (.int (10001))) (ae (eC (.int (0))) (ae (eC (.int (10000))) (ae (eC (.int (1))) (ae (eC .aE) (ae (eC (.str "1")) (ae (eC (.int (2))) (ae (eC (.bl false)) (ae (eC (.int (7))) (ae (eC (.int (3))) aj))))))))))))))))) (gN 3)) (aU (aV lF (ae (af 1) (ae (ag ax (af 2) (af 0)) (ae (ag ax (af 3) (af 0)) aj)))))))) [some (.int way),some w,none,none,none] H=r:=fun{u t} hu ht hb=>by
  refine⟨u,t,lB,hb,(xK1.trans (xK2.trans (Qq.trans (FT.trans (A7.trans (wM.trans (tZ.trans (qE.trans (oz.trans (mD.trans (lq.trans (kq.trans (jV.trans (jp.trans (iN.trans (gY.trans (iO.trans gZ))))))))))))))))),fun{r} h=>?_⟩;refine sq (ph1:=K8) (σ1:=[some (.int way),some w,some (.ref K7.length),none,none]) (asg (ay (au (w:=.ref H.length) (ph1:=K1) (by rw[FO];rfl) (au rfl (au (w:=.ref K1.length) (ph1:=K2) (by rw[FP];rfl) (au (w:=.ref K2.length) (ph1:=K3) (by rw[FQ];rfl) (au (w:=.ref K3.length) (ph1:=K4) (by rw[FR];rfl) (au (w:=.ref K4.length) (ph1:=K5) (by rw[FU];rfl) (au (w:=.ref K5.length) (ph1:=K6) (by rw[FV];rfl) (au (w:=.ref K6.length) (ph1:=K7) (by rw[FW];rfl) rfl)))))))) ?_)) (sq (ph1:=jx) (σ1:=[some (.int way),some w,some (.ref jw.length),none,none]) (asg (op (x:=.ref K7.length) (ph1:=K8) (y:=.ref lA.length) (ph2:=jw) rfl (ay (au (w:=.tup [.int 1]) (ph1:=K8) rfl (au (w:=.ref K8.length) (ph1:=K9) (by rw[FY];rfl) (au (w:=.ref K9.length) (ph1:=ia) (by rw[Eo];rfl) (au (w:=.ref ia.length) (ph1:=ib) (by rw[Ep];rfl) (au (w:=.ref ib.length) (ph1:=ic) (by rw[Er];rfl) (au (w:=.ref ic.length) (ph1:=ie) (by rw[Es];rfl) (au (w:=.ref ie.length) (ph1:=ig) (by rw[Et];rfl) (au (w:=.ref ig.length) (ph1:=lA) (by rw[Eu];rfl) rfl)))))))) ?_) ?_)) (sq (ph1:=lB) (σ1:=[some (.int way),some w,some (.ref jw.length),some (.ref jx.length),none]) (asg (ay (a:=[.int 0,.int 5,.int 5,.int 5,.int (-1),.bl true,.int 10001,.int 0,.int 10000,.int 1,.aE,.str "1",.int 2,.bl false,.int 7,.int 3]) (ph':=jx) rfl ?_)) ?_))
  ·rw[FX];exact dw _ K7 (small (by simp))
  ·rw[Ew];exact dw _ lA (small (by simp))
  ·rw[jG ((oz.trans (mD.trans (lq.trans (kq.trans (jV.trans (jp.trans (iN.trans gY))))))).get gK8) akD (small (by simp)),<- Ey]
  ·rw[Ez];exact dw _ jx (small (by simp))
  ·have ea:ae (af 1) (ae (ag ax (af 2) (af 0)) (ae (ag ax (af 3) (af 0)) aj)) [some (.int way),some w,some (.ref jw.length),some (.ref jx.length),none] lB=.ok [w,u,t] lB:=au rfl (au (op (x:=.ref jw.length) (y:=.int way) rfl rfl (ej hS (kn hu))) (au (op (x:=.ref jx.length) (y:=.int way) rfl rfl (ej akF (kn ht))) rfl));rw[uH,Ck,i9,cu ea];exact h
 have hw:way=1\/way=2\/way=3\/way=4\/way=5\/way=6\/way=7\/way=8\/way=9\/way=10\/way=11\/way=12\/way=13\/way=14\/way=15:=by omega
 rcases hw with rfl | rfl | rfl | rfl | rfl | rfl | rfl | rfl | rfl | rfl | rfl | rfl | rfl | rfl | rfl
 ·exact key rfl rfl (N2 fun _=>rfl)
 ·exact key rfl rfl (pW [(.bl true,false)] ((Qq.trans (FT.trans (A7.trans (wM.trans (tZ.trans (qE.trans (oz.trans (mD.trans (lq.trans (kq.trans (jV.trans (jp.trans (iN.trans (gY.trans (iO.trans gZ))))))))))))))).get gK2) (in1 (fun K=>nH)) (alx rfl) rfl)
 ·exact key rfl rfl (pW [(.int 2147483648,false)] ((FT.trans (A7.trans (wM.trans (tZ.trans (qE.trans (oz.trans (mD.trans (lq.trans (kq.trans (jV.trans (jp.trans (iN.trans (gY.trans (iO.trans gZ)))))))))))))).get gK3) (in1 (fun K=>(zT (by omega)))) (alx rfl) rfl)
 ·exact key rfl rfl (sP ((A7.trans (wM.trans (tZ.trans (qE.trans (oz.trans (mD.trans (lq.trans (kq.trans (jV.trans (jp.trans (iN.trans (gY.trans (iO.trans gZ))))))))))))).get gK4) (.inr ⟨(-1),rfl,jg (by decide) (by decide),by decide⟩))
 ·exact key rfl rfl (sP ((wM.trans (tZ.trans (qE.trans (oz.trans (mD.trans (lq.trans (kq.trans (jV.trans (jp.trans (iN.trans (gY.trans (iO.trans gZ)))))))))))).get gK5) (.inl fun K=>nH))
 ·exact key rfl rfl (sP ((tZ.trans (qE.trans (oz.trans (mD.trans (lq.trans (kq.trans (jV.trans (jp.trans (iN.trans (gY.trans (iO.trans gZ))))))))))).get gK6) (.inr ⟨(10001),rfl,jg (by decide) (by decide),by decide⟩))
 ·exact key rfl rfl (pW [(.int 1,true),(.aE,false)] ((qE.trans (oz.trans (mD.trans (lq.trans (kq.trans (jV.trans (jp.trans (iN.trans (gY.trans (iO.trans gZ)))))))))).get gK7) (bV (fun K=>lQ (jg (by decide) (by decide)) K) (in1 (fun K=>(pV rfl)))) (alx rfl) rfl)
 ·exact key rfl rfl (N2 fun _=>rfl)
 ·exact key rfl rfl (pW [(.int (-2147483649),false)] ((mD.trans (lq.trans (kq.trans (jV.trans (jp.trans (iN.trans (gY.trans (iO.trans gZ)))))))).get gK9) (in1 (fun K=>(zT (by omega)))) (alx rfl) rfl)
 ·exact key rfl rfl (sP ((lq.trans (kq.trans (jV.trans (jp.trans (iN.trans (gY.trans (iO.trans gZ))))))).get akx) (.inl fun K=>(pV rfl)))
 ·exact key rfl rfl (sP ((kq.trans (jV.trans (jp.trans (iN.trans (gY.trans (iO.trans gZ)))))).get aky) (.inl fun K=>(pV rfl)))
 ·exact key rfl rfl (pW [(.int 0,true),(.str "1",false)] ((jV.trans (jp.trans (iN.trans (gY.trans (iO.trans gZ))))).get akz) (bV (fun K=>lQ (jg (by decide) (by decide)) K) (in1 (fun K=>(pV rfl)))) (alx rfl) rfl)
 ·exact key rfl rfl (sP ((jp.trans (iN.trans (gY.trans (iO.trans gZ)))).get akA) (.inl fun K=>nH))
 ·exact key rfl rfl (pW [(.int 0,true),(.bl false,false)] ((iN.trans (gY.trans (iO.trans gZ))).get akB) (bV (fun K=>lQ (jg (by decide) (by decide)) K) (in1 (fun K=>nH))) (alx rfl) rfl)
 ·exact key rfl rfl (pW [(.aE,false),(.int 1,true),(.int 2,true)] ((gY.trans (iO.trans gZ)).get akC) (bV (fun K=>(pV rfl)) (bV (fun K=>lQ (jg (by decide) (by decide)) K) (in1 (fun K=>lQ (jg (by decide) (by decide)) K)))) (alx rfl) rfl)
theorem aib{h:SM}{f:Fl}(e:b σ ph=.ok f ph1):kT tb i b h σ ph=.ok f ph1:=by
 unfold kT;rw[e]
variable{aw:W}
theorem afA{w t:W}{K':PH}(e:fv [w] K=.ex (fW aw) K'):lF [w,u,t] K=.ex (fW aw) K':=by
 unfold lF m7;rw[gW];exact qC (bx (ay (au rfl rfl) e))
variable{way:Nat}
theorem aic(akG:way<=15){w:W}(haw:∀K,lift (du "bool" aw) K=.ok (.bl false) K)(hN:∀K,Ex H K->∃K',fv [w] K=.ex (fW aw) K'/\Ex K K'):∃H',i0 [.int way,w] H=.ok (.tup [.str "program",aw]) H'/\Ex H H':=by
 have fin:∀{b:SM} {H1:PH},b [some (.int way),some w,none,none,none] H=.ex (fW aw) H1->Ex H H1->∃H',aA (kT [("BadProgram",true),("BadRun",true),("ByNought",true)] 4 b qA [some (.int way),some w,none,none,none]) dO H=.ok (.tup [.str "program",aw]) H'/\Ex H H':=fun{b H1} e x=>by
  obtain⟨H2,e2,x2⟩:=ajz H1 haw;exact⟨H2,ay (NZ e (by show aml (ala "BadProgram") [(ala "BadProgram",true),(ala "BadRun",true),(ala "ByNought",true)]=some true;decide +kernel) e2) rfl,x.trans x2⟩
 unfold i0 j8;rw[dQ];by_cases h0:way=0
 ·obtain⟨H1,e1,x1⟩:=hN H (Ex.refl _);exact fin (FL (b9 (eI (g:=(way:Int)) rfl (decide_eq_true (by omega))) (bx (ay (au rfl rfl) e1)))) x1
 ·obtain⟨u,t,K,_,xK,hr⟩:=M8 way (by omega) akG w H;obtain⟨K',e,z⟩:=hN K xK;exact fin (sq (aW (eI (g:=(way:Int)) rfl (decide_eq_false (by omega))) rfl) (hr (bx (afA e)))) (xK.trans z)
theorem aid(h1:1<=way)(h2:way<=15){w:W}(hN:∀K,Ex H K->∃v K',fv [w] K=.ok v K'/\Ex K K'):∃H',i0 [.int way,w] H=.ok (.str "run") H'/\Ex H H':=by
 obtain⟨u,t,K,hb,xK,hr⟩:=M8 way h1 h2 w H;obtain⟨v,K1,e1,z1⟩:=hN K xK;obtain⟨K2,e2,z2⟩:=hb K1 z1;obtain⟨K3,e3,z3⟩:=ajA K2;refine⟨K3,?_,((xK.trans z1).trans z2).trans z3⟩;have ef:lF [w,u,t] K=.ex XR K2:=by
  unfold lF m7;rw[gW];exact bq (ph1:=K1) (σ1:=[some w,some u,some t]) (ay (ay (au rfl rfl) e1) rfl) (qC (bx (ay (au rfl (au rfl rfl)) e2)))
 unfold i0 j8;rw[dQ];exact ay (NZ (x:=XR) (sq (aW (eI (g:=(way:Int)) rfl (decide_eq_false (by omega))) rfl) (hr (bx ef))) (by show aml (ala "BadRun") [(ala "BadProgram",true),(ala "BadRun",true),(ala "ByNought",true)]=some true;decide +kernel) e3) rfl
theorem aie{w v:W}{H':PH}(e:fv [w] H=.ok v H'):i0 [.int 0,w] H=.ok v H':=by
 unfold i0 j8;rw[dQ];exact ay (aib (Qg (b9 (eI (g:=0) rfl rfl) (retS (ay (au rfl rfl) e))))) rfl
theorem afB{w:W}(h:lift (du "list" w) K=.ok (.bl false) K):fv [w] K=.ex (fW .aE) K:=by
 unfold fv kI;rw[fk];exact qC (b9 (oT (cj (c:=false) (eB (ay rfl h)))) (uK rfl rfl))
theorem afC(h:K[i]? =some (.lst us))(hl:60<us.length):fv [.ref i] K=.ex (fW .aE) K:=by
 unfold fv kI;rw[fk];refine qC (b9 (oF (cj (c:=true) (eB (ay rfl (se h)))) (tB (op (x:=.int us.length) (y:=.int 60) (ay (au rfl rfl) (gS h)) rfl ?_))) (uK rfl rfl));rw[tm,decide_eq_true (by omega)];rfl
noncomputable def Sp(H:PH)(o:Out Fl):Prop:=∃w aw si H',o=.ok (.rt (.ref si)) H'/\Ex H H'/\H'[si]? =some (.lst [w,aw])/\(aw=.aE\/∃m:Nat,aw=.int m)/\∀K,Ex H' K->∃K',fv [w] K=.ex (fW aw) K'/\Ex K K'
theorem uW{H1:PH}{e e2:EM}{w:W}(he:e σ H=.ok w H1)(Fm:e2 σ H1=.ok aw H1)(x:Ex H H1)(ha:aw=.aE\/∃m:Nat,aw=.int m)(h:∀K,Ex H1 K->∃K',fv [w] K=.ex (fW aw) K'/\Ex K K'):Sp H (aU (aI (ae e (ae e2 aj))) σ H):=
 ⟨w,aw,H1.length,H1++[.lst [w,aw]],retS (ay (au he (au Fm rfl)) (dw _ H1 (small (by simp)))),x.trans (Ex.one _ _),aY _ _,ha,fun K hK=>h K ((Ex.one _ _).trans hK)⟩
noncomputable def s8(ri ni:Nat)(c:Int)(t:Nat)(o4 o5 o6 o7:Option W):aT:=[some (.ref ri),some (.ref ni),some (.int c),some (.int t),o4,o5,o6,o7]
theorem acD(h:H[i]? =some (.lst ws)):lift (pE [.ref i]) H=.ok (.tup ws) H:=by
 have e:pE [.ref i] H=some (.tup ws,H):=by
  unfold pE c7;simp only[h]
 unfold lift;rw[e]
theorem akH:dZ "dict" "list"=false:=nofun
theorem aif{c:String}{ws:List (W×W)}(h:ph[i]? =some (.dR ws)):lift (du c (.ref i)) ph=.ok (.bl (dZ "dict" c)) ph:=by
 unfold lift du sC;simp only[h]
theorem ajB(hR:H[ri]? =some (.lst us)):Sp H (aU (aI (ae (ag ax (aI (ae (bz pE (ae (af 0) aj)) (ae (eC .aE) (ae (eC (.str "")) (ae vE (ae (eC (.int (5))) aj)))))) (ag aR (ag aZ (af 2) (eC (.int (8)))) (eC (.int (5))))) (ae (eC .aE) aj))) (s8 ri ni c t none none none none) H):=by
 obtain⟨H1,da⟩:∃H1,H1=H++[PO.dR []]:=⟨_,rfl⟩
 have x1:Ex H H1:=da▸Ex.one _ _;have g1:H1[H.length]? =some (.dR []):=by rw[da];exact aY _ _
 obtain⟨k,hk,ek⟩:=dm (a:=c.fdiv 8) (n:=5) (by decide);obtain⟨ws,FZ⟩:∃ws:List W,ws=[.tup us,.aE,.str "",.ref H.length,.int 5]:=⟨_,rfl⟩
 obtain⟨w,hw⟩:∃w,ws[k]? =some w:=k9 (by rw[FZ];show k<5;omega);refine uW (H1:=H1++[.lst ws]) (w:=w) (aw:=.aE) (op (x:=.ref H1.length) (ph1:=H1++[.lst ws]) (y:=.int k) (ay (au (ph1:=H) (ay (au rfl rfl) (acD hR)) (au (ph1:=H) rfl (au (ph1:=H) rfl (au (w:=.ref H.length) (ph1:=H1) (by rw[da];rfl) (au (ph1:=H1) rfl rfl))))) (by rw[FZ];exact dw _ H1 (small (by simp)))) ?_ (ej (aY _ _) (kn hw))) rfl (x1.trans (Ex.one _ _)) (.inl rfl) fun K hK=>⟨K,afB ?_,Ex.refl _⟩
 ·rw[<- ek];exact md (dv rfl rfl (by decide) (by decide)) rfl (by decide)
 ·have hd:lift (du "list" (.ref H.length)) K=.ok (.bl false) K:=(aif (((Ex.one _ _).trans hK).get g1)).trans (by rw[akH]);have hm:=alF hw;rw[FZ] at hm;simp only[alD,List.not_mem_nil,or_false] at hm
  rcases hm with rfl | rfl | rfl | rfl | rfl
  ·rfl
  ·rfl
  ·rfl
  ·exact hd
  ·rfl
theorem case1(hR:H[ri]? =some (.lst us)):Sp H (aU (aI (ae (ag addW (ag cJ (cE (af 0) cB (cc (eC (.int (1))))) (eC (.int (61)))) (ag cJ (aI (ae (aH (ae (eC (.str "turn")) aj)) aj)) (ag iJ (eC (.int (61))) (ag cJ (eC (.int (61))) (bz bR (ae (cE (af 0) cB (cc (eC (.int (1))))) aj)))))) (ae (eC .aE) aj))) (s8 ri ni c t none none none none) H):=by
 obtain⟨vs,F0⟩:∃vs,vs=us.take 1:=⟨_,rfl⟩
 have iU:vs.length<=1:=by rw[F0,alX];omega
 obtain⟨m,em⟩:∃m:Int,m=61-61*(vs.length:Int):=⟨_,rfl⟩
 obtain⟨A,eA⟩:∃A,A=(alj (61:Int).toNat vs).flatten:=⟨_,rfl⟩
 obtain⟨B,t4⟩:∃B,B=(alj m.toNat [Row.turn.w]).flatten:=⟨_,rfl⟩
 have hAB:A.length=61*vs.length/\B.length=m.toNat:=by
  constructor
  ·rw[eA,aot,aoA,anR];rfl
  ·rw[t4,aot,aoA,anR];simp
 obtain⟨H1,da⟩:∃H1,H1=H++[PO.lst vs]:=⟨_,rfl⟩
 obtain⟨H2,gJ⟩:∃H2,H2=H1++[PO.lst A]:=⟨_,rfl⟩
 obtain⟨H3,h9⟩:∃H3,H3=H2++[PO.lst [Row.turn.w]]:=⟨_,rfl⟩
 obtain⟨H4,kD⟩:∃H4,H4=H3++[PO.lst vs]:=⟨_,rfl⟩
 obtain⟨H5,kE⟩:∃H5,H5=H4++[PO.lst B]:=⟨_,rfl⟩
 have x1:Ex H H1:=da▸Ex.one _ _;have x2:Ex H1 H2:=gJ▸Ex.one _ _;have x3:Ex H2 H3:=h9▸Ex.one _ _;have x4:Ex H3 H4:=kD▸Ex.one _ _;have x5:Ex H4 H5:=kE▸Ex.one _ _;have g1:H1[H.length]? =some (.lst vs):=by rw[da];exact aY _ _
 have g2:H2[H1.length]? =some (.lst A):=by rw[gJ];exact aY _ _
 have g3:H3[H2.length]? =some (.lst [Row.turn.w]):=by rw[h9];exact aY _ _
 have g4:H4[H3.length]? =some (.lst vs):=by rw[kD];exact aY _ _
 have g5:H5[H4.length]? =some (.lst B):=by rw[kE];exact aY _ _
 have hR3:=(((x1.trans x2).trans x3)).get hR;refine uW (H1:=H5++[.lst (A++B)]) (w:=.ref H5.length) (aw:=.aE) (op (x:=.ref H1.length) (ph1:=H2) (y:=.ref H4.length) (ph2:=H5) (op (x:=.ref H.length) (ph1:=H1) (y:=.int 61) (ph2:=H1) ?_ rfl ?_) (op (x:=.ref H2.length) (ph1:=H3) (y:=.int m) (ph2:=H4) ?_ ?_ ?_) (jG (((x3.trans x4).trans x5).get g2) g5 (small (by omega)))) rfl (((((x1.trans x2).trans x3).trans x4).trans x5).trans (Ex.one _ _)) (.inl rfl) fun K hK=>⟨K,afC (hK.get (aY _ _)) (by rw[alH];omega),Ex.refl _⟩
 ·rw[da,F0];exact qB (k:=1) rfl hR rfl
 ·rw[yR g1 (by decide) (by decide) (small (by show vs.length*61<=_;omega)),<- eA,<- gJ]
 ·rw[h9];exact ay (au rfl rfl) (dw _ H2 (small (by simp)))
 ·rw[em];refine sb rfl (ml (i:=61) (j:=(vs.length:Int)) (ph1:=H3) rfl (ay (au (w:=.ref H3.length) (ph1:=H4) (by rw[kD,F0];exact qB (k:=1) rfl hR3 rfl) rfl) (gS g4)) (zx (by decide) (by decide)))
 ·rw[yR (x4.get g3) (by omega) (by omega) (small (by simp;omega)),<- t4,<- kE]
theorem aig(L:List Row):(fo L).Nodup:=by
 have a1:∀{MS:List Nm} {a:Nm},MS.Nodup->(dA MS a).Nodup:=fun{MS a} nd=>by
  unfold dA;split
  ·exact nd
  ·rename_i h;rw[List.nodup_append];refine⟨nd,anV.mpr ⟨fun z=>(nomatch z),apA⟩,fun b hb c hc z=>?_⟩;rw[aly] at hc;exact h (hc▸z▸hb)
 have a2:∀(l:List Nm) (MS:List Nm),MS.Nodup->(l.foldl dA MS).Nodup:=by
  intro l
  induction l with
  | nil=>exact fun _ h=>h
  | cons a l ih=>exact fun MS h=>ih _ (a1 h)
 have a3:∀(L:List Row) (MS:List Nm),MS.Nodup->(L.foldl ko MS).Nodup:=by
  intro L
  induction L with
  | nil=>exact fun _ h=>h
  | cons r L ih=>exact fun MS h=>ih _ (a2 r.nm MS h)
 exact a3 L [] apA
theorem afD(h:∀r∈L,∀a∈r.nm,a∈NS):∀a∈fo L,a∈NS:=by
 have a2:∀(l:List Nm) (MS:List Nm),(∀a∈MS,a∈NS)->(∀a∈l,a∈NS)->∀a∈l.foldl dA MS,a∈NS:=by
  intro l
  induction l with
  | nil=>exact fun _ h _=>h
  | cons b l ih=>
   refine fun MS h1 h2=>ih _ (fun a ha=>?_) fun a ha=>h2 a (alE _ ha)
   unfold dA at ha;split at ha
   ·exact h1 a ha
   ·rcases amC.mp ha with z | z
    ·exact h1 a z
    ·rw[aly.mp z];exact h2 b amc
 have a3:∀(L:List Row) (MS:List Nm),(∀a∈MS,a∈NS)->(∀r∈L,∀a∈r.nm,a∈NS)->∀a∈L.foldl ko MS,a∈NS:=by
  intro L
  induction L with
  | nil=>exact fun _ h _=>h
  | cons r L ih=>exact fun MS h1 h2=>ih _ (a2 r.nm MS h1 (h2 r amc)) fun q hq=>h2 q (alE _ hq)
 exact a3 L [] (fun _ h=>nomatch h) h
theorem Dq(hN:NS.length<=12)(h:∀r∈L,∀a∈r.nm,a∈NS)(k:Nat):(fo (L.take k)).length<=12:=alT (M4 (aig _) (afD fun r hr=>h r (amq hr))) hN
theorem KH(t:Nat)(r:Row):(ce t r).nm=r.nm:=by cases r <;> first | rfl | (unfold ce;simp only[];split <;> rfl)
theorem afE(t:Nat)(r:Row):(ce t r).x=r.x:=by cases r <;> first | rfl | (unfold ce;simp only[];split <;> rfl)
theorem adK(h:k∈(ce t r).to):∃j,j∈r.to/\k=if t<=j then j+1 else j:=by
 cases r with
 | iff a p=>
  refine⟨p,by simp[Row.to],?_⟩;unfold ce at h;simp only[] at h;split at h <;> rename_i z <;> simp[Row.to] at h
  ·rw[if_pos z];exact h
  ·rw[if_neg z];exact h
 | go p=>
  refine⟨p,by simp[Row.to],?_⟩;unfold ce at h;simp only[] at h;split at h <;> rename_i z <;> simp[Row.to] at h
  ·rw[if_pos z];exact h
  ·rw[if_neg z];exact h
 | _=>cases h
theorem acE{a:Nm}{v:Int}(h:ce t r=.set a v):r=.set a v:=by
 cases r with
 | iff a p=>unfold ce at h;simp only[] at h;split at h <;> cases h
 | go p=>unfold ce at h;simp only[] at h;split at h <;> cases h
 | _=>exact h
theorem afF{w:W}{rest:List W}(nk:∀a∈NS,bG a)(hN:NS.length<=12)(ok:lp NS R)(ht:t<=R.length)(hn:R.length<=57)(hr:rest.length<=R.length-t+2)(tQ:R.length-t<=rest.length):Pre (((R.map (ce t)).take t).map Row.w++w::rest) ((R.map (ce t)).take t):=by
 have hl:((R.map (ce t)).take t).length=t:=by rw[alX,alg];omega
 have qF:(((R.map (ce t)).take t).map Row.w++w::rest).length=t+1+rest.length:=by rw[alH,alg,hl,alA];omega
 have Qr:∀(p:Nat) r,((R.map (ce t)).take t)[p]? =some r->p<t/\∃q,R[p]? =some q/\r=ce t q:=fun p r h=>by
  have hp:=(alf.mp h).1;rw[hl] at hp;rw[aps,if_pos hp,aln] at h;obtain⟨q,hq,rfl⟩:=alv.mp h;exact⟨hp,q,hq,rfl⟩
 have at2:∀(p:Nat) q,p<t->R[p]? =some q->(((R.map (ce t)).take t).map Row.w++w::rest)[p]? =some (ce t q).w:=fun p q hp hq=>by
  rw[alR (by rw[alg,hl];exact hp),aln,aps,if_pos hp,aln,hq];rfl
 have EA:∀r∈(R.map (ce t)).take t,∃q∈R,r=ce t q:=fun r hr=>by
  obtain⟨q,hq,e⟩:=aow.mp (amq hr);exact⟨q,hq,e.symm⟩
 refine⟨fun p r h=>?_,fun r hr a ha=>?_,fun r hr a v e=>?_,fun p r h k hk=>?_,fun k=>Dq hN (fun r hr a ha=>?_) k,by rw[qF];omega⟩
 ·obtain⟨hp,q,hq,rfl⟩:=Qr p r h;exact at2 p q hp hq
 ·obtain⟨q,hq,rfl⟩:=EA r hr;rw[KH] at ha;exact nk a ((ok.ok q hq).1 a ha)
 ·obtain⟨q,hq,rfl⟩:=EA r hr;exact(ok.ok q hq).2 a v (acE e)
 ·obtain⟨hp,q,hq,rfl⟩:=Qr p r h;obtain⟨j,hj,rfl⟩:=adK hk;obtain⟨j1,j2⟩:=ok.jm p q hq j hj;rw[qF];by_cases z:t<=j
  ·rw[if_pos z];exact⟨by omega,fun y=>by omega⟩
  ·rw[if_neg z];exact⟨by omega,fun y=>at2 j .turn (by omega) (j2 y)⟩
 ·obtain⟨q,hq,rfl⟩:=EA r hr;rw[KH] at ha;exact(ok.ok q hq).1 a ha
theorem LX{w:W}{rest:List W}(nk:∀a∈NS,bG a)(hN:NS.length<=12)(ok:lp NS R)(ht:t<=R.length)(hn:R.length<=57)(hr:rest.length<=R.length-t+2)(tQ:R.length-t<=rest.length)(hK:K[ri]? =some (.lst (((R.map (ce t)).take t).map Row.w++w::rest)))
  (hb:∀ni K2,Ex K K2->K2[ni]? =some (.lst ((fo ((R.map (ce t)).take t)).map aB))->∃K',il [some (.ref ri),some (.ref ni),some (.int t),some w] K2=.ex (fW (.int t)) K'/\Ex K2 K'):∃K',fv [.ref ri] K=.ex (fW (.int t)) K'/\Ex K K':=by
 have hl:((R.map (ce t)).take t).length=t:=by rw[alX,alg];omega
 have:=KG hK (afF nk hN ok ht hn hr tQ) (w:=w) (by rw[aol (by rw[alg];exact ali _),alg,Nat.sub_self];rfl) (by rw[hl];exact hb);rw[hl] at this;exact this
theorem EB(h:t<=100):A0 (.int t)=true:=by
 show decide ((t:Int).natAbs<2 ^ 64)=true;exact decide_eq_true (by omega)
theorem aih{w:W}(hK:K[ri]? =some (.lst us))(ht:t<=100)(hb:Bd (us.length:Int) w K):∃K',il [some (.ref ri),some (.ref ni),some (.int t),some w] K=.ex (fW (.int t)) K'/\Ex K K':=by
 obtain⟨K',e,x⟩:=hb;refine⟨K',?_,x⟩;unfold il;exact FL (b9 (oT (cj (c:=false) (eB (ay (au rfl (au (ay (au rfl rfl) (gS hK)) rfl)) e)))) (uK rfl (EB ht)))
theorem aii{g:Nat}{z:Row}(hK:K[ri]? =some (.lst us))(ht:t<=100)(hn:us.length<=60)(hq:us[t]? =some q.w)(nk:∀a∈q.nm,bG a)(hs:∀a v,q≠.set a v)(wN:q.to=[g])(hg:g<=t)(htl:t<=us.length)(hz:us[g]? =some z.w)(hx:z.x≠"turn"):∃K',il [some (.ref ri),some (.ref ni),some (.int t),some q.w] K=.ex (fW (.int t)) K'/\Ex K K':=by
 obtain⟨K1,e1,x1⟩:=Cq (NS:=q.nm) nk (r:=q) (n:=us.length) ⟨fun _ h=>h,fun a v e=>absurd e (hs a v)⟩ (fun k hk=>by rw[wN] at hk;rw[aly.mp hk];omega) hn K;obtain⟨K2,e2,x2⟩:=afy (H:=K1) (x1.get hK) hq wN hg hz hx;refine⟨K2,?_,x1.trans x2⟩;unfold il;exact FL (b9 (oF (cj (c:=true) (eB (ay (au rfl (au (ay (au rfl rfl) (gS hK)) rfl)) e1))) (eB (ay (au rfl (au rfl rfl)) e2))) (uK rfl (EB ht)))
theorem aij(hK:K[ri]? =some (.lst us))(ht:t<=100)(hn:us.length<=60)(hq:us[t]? =some q.w)(nk:∀a∈q.nm,bG a)(hs:∀a v,q≠.set a v)(wN:∀k∈q.to,k<=us.length/\t<k)(hM:K[ni]? =some (.lst (MS.map aB)))(nM:∀a∈MS,bG a)(hl:MS.length<=100)(hc:12<(ko MS q).length):∃K',il [some (.ref ri),some (.ref ni),some (.int t),some q.w] K=.ex (fW (.int t)) K'/\Ex K K':=by
 obtain⟨K1,e1,x1⟩:=Cq (NS:=q.nm) nk (r:=q) (n:=us.length) ⟨fun _ h=>h,fun a v e=>absurd e (hs a v)⟩ (fun k hk=>(wN k hk).1) hn K;obtain⟨K2,e2,x2⟩:=LV (H:=K1) (x1.get hK) hq (fun k hk h=>by have:=(wN k hk).2;omega);obtain⟨i,K3,e3,x3,g3⟩:=M7 (H:=K2) (x2.get (x1.get hM)) nM nk hl;refine⟨K3,?_,(x1.trans x2).trans x3⟩;unfold il;refine sq (aW (oF (cj (c:=true) (eB (ay (au rfl (au (ay (au rfl rfl) (gS hK)) rfl)) e1))) (eB (ay (au rfl (au rfl rfl)) e2))) rfl) (sq (asg (ay (au rfl (au rfl rfl)) e3)) (b9 (tB (op (x:=.int ((ko MS q).length:Int)) (y:=.int 12) (ay (au (w:=.ref i) rfl rfl) ((gS g3).trans (by rw[alg]))) rfl ?_)) (uK rfl (EB ht))));rw[tm,decide_eq_true (by omega)];rfl
theorem afG(hi:K[i]? =some (.lst us))(hz:us.length<=100):∃j K' xs,(bf (eT (ag bh (ag aR (ag aZ (af 2) (eC (.int (8)))) (eC (.int (3)))) (eC (.int (1))))) (aP (ag addW (af 0) (ag ax (aI (ae (aI (ae (aH (ae (eC (.str "tell")) (ae (eC (.str "B")) aj))) (ae (eC .aE) aj))) (ae (aI (ae (aH (ae (eC (.str "tell")) (ae (eC (.str "B")) aj))) aj)) (ae (aI (ae (aH (ae (eC (.str "go")) (ae (bz bR (ae (af 0) aj)) aj))) aj)) aj)))) (ag aR (ag aZ (af 2) (eC (.int (24)))) (eC (.int (3)))))) (gN 0)) bv) (s8 i ni c t none none none none) K=.ok (.nx (s8 j ni c t none none none none)) K'/\Ex K K'/\K'[j]? =some (.lst (us++xs))/\xs.length<=2:=by
 have d8:ag aR (ag aZ (af 2) (eC (.int (8)))) (eC (.int (3))) (s8 i ni c t none none none none) K=.ok (.int ((c.fdiv 8).fmod 3)) K:=md (dv rfl rfl (by decide) (by decide)) rfl (by decide);by_cases h:(c.fdiv 8).fmod 3=1
 ·obtain⟨k,hk,ek⟩:=dm (a:=c.fdiv 24) (n:=3) (by decide);obtain⟨A,eA⟩:∃A,A=K++[PO.lst [.tup [.str "tell",.str "B"],.aE]]:=⟨_,rfl⟩
  obtain⟨B,t4⟩:∃B,B=A++[PO.lst [.tup [.str "tell",.str "B"]]]:=⟨_,rfl⟩
  obtain⟨C,F1⟩:∃C,C=B++[PO.lst [.tup [.str "go",.int us.length]]]:=⟨_,rfl⟩
  have xA:Ex K A:=eA▸Ex.one _ _;have xB:Ex A B:=t4▸Ex.one _ _;have xC:Ex B C:=F1▸Ex.one _ _;have gA:A[K.length]? =some (.lst [.tup [.str "tell",.str "B"],.aE]):=by rw[eA];exact aY _ _
  have gB:B[A.length]? =some (.lst [.tup [.str "tell",.str "B"]]):=by rw[t4];exact aY _ _
  have gC:C[B.length]? =some (.lst [.tup [.str "go",.int us.length]]):=by rw[F1];exact aY _ _
  obtain⟨D,eD⟩:∃D,D=C++[PO.lst [.ref K.length,.ref A.length,.ref B.length]]:=⟨_,rfl⟩
  have xD:Ex C D:=eD▸Ex.one _ _;have gD:D[C.length]? =some (.lst [.ref K.length,.ref A.length,.ref B.length]):=by rw[eD];exact aY _ _
  have Qs:Ex K D:=((xA.trans xB).trans xC).trans xD;have pick:∃r xs,([.ref K.length,.ref A.length,.ref B.length]:List W)[k]? =some (.ref r)/\D[r]? =some (.lst xs)/\xs.length<=2:=by
   have:k=0\/k=1\/k=2:=by omega
   rcases this with rfl | rfl | rfl
   ·exact⟨_,_,rfl,((xB.trans xC).trans xD).get gA,by simp⟩
   ·exact⟨_,_,rfl,(xC.trans xD).get gB,by simp⟩
   ·exact⟨_,_,rfl,xD.get gC,by simp⟩
  obtain⟨r,xs,p1,p2,p3⟩:=pick;refine⟨D.length,D++[.lst (us++xs)],xs,b9 (eI d8 (decide_eq_true h)) (asg (w:=.ref D.length) (op (x:=.ref i) (ph1:=K) (y:=.ref r) (ph2:=D) rfl (op (x:=.ref C.length) (ph1:=D) (y:=.int k) (ay (au (w:=.ref K.length) (ph1:=A) ?_ (au (w:=.ref A.length) (ph1:=B) ?_ (au (w:=.ref B.length) (ph1:=C) ?_ rfl))) ?_) ?_ (ej gD (kn p1))) (jG (Qs.get hi) p2 (small (by omega))))),Qs.trans (Ex.one _ _),aY _ _,p3⟩
  ·rw[eA];exact ay (au rfl (au rfl rfl)) (dw _ K (small (by simp)))
  ·rw[t4];exact ay (au rfl rfl) (dw _ A (small (by simp)))
  ·rw[F1];exact ay (au (tp (au rfl (au (ay (au rfl rfl) (gS ((xA.trans xB).get hi))) rfl)) rfl) rfl) (dw _ B (small (by simp)))
  ·rw[eD];exact dw _ C (small (by simp))
  ·rw[<- ek];exact md (dv rfl rfl (by decide) (by decide)) rfl (by decide)
 ·exact⟨i,K,[],aW (eI d8 (decide_eq_false h)) rfl,Ex.refl _,by rw[anC];exact hi,by simp⟩
theorem ajC(hR:H[ri]? =some (.lst (R.map Row.w)))(hN:H[ni]? =some (.lst (NS.map aB)))(h0:NS≠[])(nk:∀a∈NS,bG a)(t5:NS.length<=12)(ok:lp NS R)(ht:t<=R.length)(hn:R.length<=57){F:SM}(hF:F=(aD (aP (aV nc (ae (af 0) (ae (af 3) (ae (aV uf (ae (ag ax (af 1) (ag aR (ag aZ (af 2) (eC (.int (64)))) (bz bR (ae (af 1) aj)))) (ae (bz bR (ae (af 0) aj)) (ae (ag aZ (af 2) (eC (.int (640)))) aj)))) aj)))) (gN 0)) (aD (bf (eT (ag bh (ag aR (ag aZ (af 2) (eC (.int (8)))) (eC (.int (3)))) (eC (.int (1))))) (aP (ag addW (af 0) (ag ax (aI (ae (aI (ae (aH (ae (eC (.str "tell")) (ae (eC (.str "B")) aj))) (ae (eC .aE) aj))) (ae (aI (ae (aH (ae (eC (.str "tell")) (ae (eC (.str "B")) aj))) aj)) (ae (aI (ae (aH (ae (eC (.str "go")) (ae (bz bR (ae (af 0) aj)) aj))) aj)) aj)))) (ag aR (ag aZ (af 2) (eC (.int (24)))) (eC (.int (3)))))) (gN 0)) bv) (aU (aI (ae (af 0) (ae (af 3) aj))))))):Sp H (F (s8 ri ni c t none none none none) H):=by
 have hNp:0<NS.length:=aph.mpr h0;obtain⟨k,hk,ek⟩:=dm (a:=c.fdiv 64) (n:=(NS.length:Int)) (by omega);obtain⟨a,ha⟩:∃a,NS[k]? =some a:=k9 (by omega);have A8:=nk a (alF ha);obtain⟨w,H1,c',li,vs,e1,x1,hw,gl⟩:=acC (m:=(R.length:Int)) (c:=c.fdiv 640) A8 H;obtain⟨i,H2,e2,x2,g2⟩:=N1 (t:=t) (w:=w) (x1.get hR) (by omega);have b7:(((R.map (ce t)).take t).map Row.w++w::((R.map (ce t)).drop t).map Row.w).length=R.length+1:=by simp;omega
 obtain⟨j,H3,xs,e3,x3,g3,hx⟩:=afG (ni:=ni) (t:=t) (c:=c) g2 (by omega);rw[aoh,List.cons_append] at g3;have hr:(((R.map (ce t)).drop t).map Row.w++xs).length=R.length-t+xs.length:=by simp
 have hS:Sp H3 (aU (aI (ae (af 0) (ae (af 3) aj))) (s8 j ni c t none none none none) H3):=uW (w:=.ref j) (aw:=.int t) rfl rfl (Ex.refl _) (.inr ⟨t,rfl⟩) fun K hK=>LX nk t5 ok ht hn (by rw[hr];omega) (by rw[hr];omega) (hK.get g3) fun Qt K2 oA _=>by
  refine aih (oA.get (hK.get g3)) (by omega) ?_;refine afw (c:=c') A8 (m:=(R.length:Int)) (by omega) (by omega) ?_ (((x2.trans x3).trans (hK.trans oA)).get gl) w hw;rw[alH,alA,hr,alg,alX,alg];omega
 have a1:aP (aV nc (ae (af 0) (ae (af 3) (ae (aV uf (ae (ag ax (af 1) (ag aR (ag aZ (af 2) (eC (.int (64)))) (bz bR (ae (af 1) aj)))) (ae (bz bR (ae (af 0) aj)) (ae (ag aZ (af 2) (eC (.int (640)))) aj)))) aj)))) (gN 0) (s8 ri ni c t none none none none) H=.ok (.nx (s8 i ni c t none none none none)) H2:=by
  refine asg (ay (au rfl (au rfl (au (w:=w) (ph1:=H1) (ay (au (w:=aB a) (ph1:=H) (op (x:=.ref ni) (y:=.int k) rfl ?_ (ej hN (kn (by rw[aln,ha];rfl)))) (au (w:=.int R.length) (ph1:=H) (ay (au rfl rfl) ((gS hR).trans (by rw[alg]))) (au (w:=.int (c.fdiv 640)) (ph1:=H) (dv rfl rfl (by decide) (by decide)) rfl))) e1) rfl))) e2);rw[<- ek];exact md (dv rfl rfl (by decide) (by decide)) (ay (au rfl rfl) ((gS hN).trans (by rw[alg]))) (by omega)
 obtain⟨w',aw,si,H4,e4,x4,q1,q2,q3⟩:=hS;refine⟨w',aw,si,H4,?_,((x1.trans x2).trans x3).trans x4,q1,q2,q3⟩;rw[hF];exact sq a1 (sq e3 e4)
theorem ajD(h:r.gI=false):r.x≠"turn":=by cases r <;> first | (cases h;done) | (simp[Row.x];done)
theorem case2(hR:H[ri]? =some (.lst (R.map Row.w)))(hN:H[ni]? =some (.lst (NS.map aB)))(h0:NS≠[])(nk:∀a∈NS,bG a)(t5:NS.length<=12)(ok:lp NS R)(ht:t<=R.length)(hn:R.length<=57):Sp H ((aD (aP (ag aR (ag aZ (af 2) (eC (.int (500)))) (ag addW (af 3) (eC (.int (1))))) (gN 4)) (aD (bf (dJ (eT (ag hV (af 4) (af 3))) (eT (ag bh (ag ax (af 0) (af 4)) (aH (ae (eC (.str "turn")) aj))))) (aP (af 3) (gN 4)) bv) (aD (aP (aV nc (ae (af 0) (ae (af 3) (ae (ag ax (aI (ae (aH (ae (eC (.str "go")) (ae (af 4) aj))) (ae (aH (ae (eC (.str "if")) (ae (ag ax (af 1) (eC (.int (0)))) (ae (af 4) aj)))) aj))) (ag aR (ag aZ (af 2) (eC (.int (250)))) (eC (.int (2))))) aj)))) (gN 0)) (aU (aI (ae (ag addW (af 0) (ag cJ (aI (ae (aH (ae (eC (.str "tell")) (ae (eC (.str "B")) aj))) aj)) (ag aR (ag aZ (af 2) (eC (.int (16)))) (eC (.int (2)))))) (ae (af 3) aj))))))) (s8 ri ni c t none none none none) H):=by
 obtain⟨a,ha⟩:∃a,NS[0]? =some a:=k9 (aph.mpr h0);have A8:=nk a (alF ha);obtain⟨g0,hg0,eg0⟩:=dm (a:=c.fdiv 500) (n:=(t:Int)+1) (by omega);have a1:aP (ag aR (ag aZ (af 2) (eC (.int (500)))) (ag addW (af 3) (eC (.int (1))))) (gN 4) (s8 ri ni c t none none none none) H=.ok (.nx (s8 ri ni c t (some (.int g0)) none none none)) H:=by
  rw[<- eg0];exact asg (md (dv rfl rfl (by decide) (by decide)) (ad (i:=(t:Int)) (j:=1) rfl rfl) (by omega))
 obtain⟨g,hg,hgt,a2⟩:∃g:Nat,g<=t/\(g<t->∃z,R[g]? =some z/\z.gI=false)/\(bf (dJ (eT (ag hV (af 4) (af 3))) (eT (ag bh (ag ax (af 0) (af 4)) (aH (ae (eC (.str "turn")) aj))))) (aP (af 3) (gN 4)) bv) (s8 ri ni c t (some (.int g0)) none none none) H=.ok (.nx (s8 ri ni c t (some (.int g)) none none none)) H:=by
  have lt:∀{b:Bool},decide (g0<t)=b->eT (ag hV (af 4) (af 3)) (s8 ri ni c t (some (.int g0)) none none none) H=.ok b H:=fun{b} hb=>by
   refine tB (op (x:=.int g0) (y:=.int t) rfl rfl ?_);rw[Al,<- hb]
   congr 2
   exact decide_eq_decide.mpr (by omega)
  by_cases hl:g0<t
  ·obtain⟨z,hz⟩:∃z,R[g0]? =some z:=k9 (by omega);have nz:∀a∈z.nm,bG a:=fun a ha=>nk a ((ok.ok z (alF hz)).1 a ha)
   have cO:eT (ag bh (ag ax (af 0) (af 4)) (aH (ae (eC (.str "turn")) aj))) (s8 ri ni c t (some (.int g0)) none none none) H=.ok z.gI H:=by
    refine tB (op (x:=z.w) (y:=Row.turn.w) (op (x:=.ref ri) (y:=.int g0) rfl rfl (ej hR (NY hz))) rfl (zJ ?_));unfold fJ;rw[uJ H 39 nz,uJ H 39 (r:=.turn) (fun a ha=>nomatch ha)];simp only[Kw]
   cases hT:z.gI with
   | true=>
    rw[hT] at cO;exact⟨t,ali _,fun h=>absurd h (amX _),b9 (tT (lt (decide_eq_true hl)) cO) (asg rfl)⟩
   | false=>
    rw[hT] at cO;exact⟨g0,by omega,fun _=>⟨z,hz,hT⟩,aW (tT (lt (decide_eq_true hl)) cO) rfl⟩
  ·exact⟨g0,by omega,fun h=>absurd h hl,aW (tF (lt (decide_eq_false hl))) rfl⟩
 obtain⟨k,hk,ek⟩:=dm (a:=c.fdiv 250) (n:=2) (by decide);obtain⟨q,hq,q1,q2,q3,q4⟩:∃q:Row,([(Row.go g).w,(Row.iff a g).w]:List W)[k]? =some q.w/\q.to=[g]/\(∀b∈q.nm,bG b)/\(∀b v,q≠.set b v)/\q.x≠"turn":=by
  have:k=0\/k=1:=by omega
  rcases this with rfl | rfl
  ·exact⟨.go g,rfl,rfl,fun _ h=>(nomatch h),fun _ _ h=>(nomatch h),by simp[Row.x]⟩
  ·exact⟨.iff a g,rfl,rfl,fun b h=>by rw[aly.mp h];exact A8,fun _ _ h=>(nomatch h),by simp[Row.x]⟩
 obtain⟨H1,da⟩:∃H1,H1=H++[PO.lst [(Row.go g).w,(Row.iff a g).w]]:=⟨_,rfl⟩
 have x1:Ex H H1:=da▸Ex.one _ _;have g1:H1[H.length]? =some (.lst [(Row.go g).w,(Row.iff a g).w]):=by rw[da];exact aY _ _
 obtain⟨i,H2,e2,x2,g2⟩:=N1 (t:=t) (w:=q.w) (x1.get hR) (by omega);obtain⟨us,qG⟩:∃us,us=((R.map (ce t)).take t).map Row.w++q.w::((R.map (ce t)).drop t).map Row.w:=⟨_,rfl⟩
 have b7:us.length=R.length+1:=by rw[qG];simp;omega
 rw[<- qG] at g2;have a3:aP (aV nc (ae (af 0) (ae (af 3) (ae (ag ax (aI (ae (aH (ae (eC (.str "go")) (ae (af 4) aj))) (ae (aH (ae (eC (.str "if")) (ae (ag ax (af 1) (eC (.int (0)))) (ae (af 4) aj)))) aj))) (ag aR (ag aZ (af 2) (eC (.int (250)))) (eC (.int (2))))) aj)))) (gN 0) (s8 ri ni c t (some (.int g)) none none none) H=.ok (.nx (s8 i ni c t (some (.int g)) none none none)) H2:=by
  refine asg (ay (au (ph1:=H) rfl (au (ph1:=H) rfl (au (w:=q.w) (ph1:=H1) (op (x:=.ref H.length) (ph1:=H1) (y:=.int k) ?_ ?_ (ej g1 (kn hq))) rfl))) e2)
  ·rw[da];exact ay (au (w:=(Row.go g).w) (ph1:=H) rfl (au (w:=(Row.iff a g).w) (ph1:=H) (tp (au rfl (au (w:=aB a) (ph1:=H) (op (x:=.ref ni) (y:=.int 0) rfl rfl (ej hN (kn (k:=0) (by rw[aln,ha];rfl)))) (au rfl rfl))) rfl) rfl)) (dw _ H (small (by simp)))
  ·rw[<- ek];exact md (dv rfl rfl (by decide) (by decide)) rfl (by decide)
 obtain⟨m,hm,em⟩:=dm (a:=c.fdiv 16) (n:=2) (by decide);obtain⟨xs,wO⟩:∃xs,xs=(alj (m:Int).toNat [W.tup [.str "tell",.str "B"]]).flatten:=⟨_,rfl⟩
 have F2:xs.length=m:=by rw[wO,aot,aoA,anR];simp
 obtain⟨H3,h9⟩:∃H3,H3=H2++[PO.lst [.tup [.str "tell",.str "B"]]]:=⟨_,rfl⟩
 obtain⟨H4,kD⟩:∃H4,H4=H3++[PO.lst xs]:=⟨_,rfl⟩
 have x3:Ex H2 H3:=h9▸Ex.one _ _;have x4:Ex H3 H4:=kD▸Ex.one _ _;have g3:H3[H2.length]? =some (.lst [.tup [.str "tell",.str "B"]]):=by rw[h9];exact aY _ _
 have g4:H4[H3.length]? =some (.lst xs):=by rw[kD];exact aY _ _
 have hr:(((R.map (ce t)).drop t).map Row.w++xs).length=R.length-t+m:=by simp[F2]
 have qF:(us++xs).length<=60:=by rw[alH];omega
 have jt:(us++xs)[t]? =some q.w:=by
  rw[alR (by omega),qG,aol (by simp;omega)];have:t-(((R.map (ce t)).take t).map Row.w).length=0:=by simp;omega
  rw[this];rfl
 obtain⟨z,hz,hzx⟩:∃z:Row,(us++xs)[g]? =some z.w/\z.x≠"turn":=by
  by_cases h:g<t
  ·obtain⟨y,hy,hT⟩:=hgt h;refine⟨ce t y,?_,by rw[afE];exact ajD hT⟩;rw[alR (by omega),qG,alR (by simp;omega),aln,aps,if_pos h,aln,hy];rfl
  ·rw[show g=t by omega];exact⟨q,jt,q4⟩
 have hS:Sp H2 (aU (aI (ae (ag addW (af 0) (ag cJ (aI (ae (aH (ae (eC (.str "tell")) (ae (eC (.str "B")) aj))) aj)) (ag aR (ag aZ (af 2) (eC (.int (16)))) (eC (.int (2)))))) (ae (af 3) aj))) (s8 i ni c t (some (.int g)) none none none) H2):=by
  refine uW (w:=.ref H4.length) (H1:=H4++[.lst (us++xs)]) (aw:=.int t) (op (x:=.ref i) (ph1:=H2) (y:=.ref H3.length) (ph2:=H4) rfl (op (x:=.ref H2.length) (ph1:=H3) (y:=.int m) (ph2:=H3) ?_ ?_ ?_) (jG ((x3.trans x4).get g2) g4 (small (by omega)))) rfl ((x3.trans x4).trans (Ex.one _ _)) (.inr ⟨t,rfl⟩) fun K hK=>?_
  ·rw[h9];exact ay (au rfl rfl) (dw _ H2 (small (by simp)))
  ·rw[<- em];exact md (dv rfl rfl (by decide) (by decide)) rfl (by decide)
  ·rw[yR g3 (by omega) (by omega) (small (by simp;omega)),<- wO,<- kD]
  ·have t6:=hK.get (aY H4 (.lst (us++xs)));refine LX nk t5 ok ht hn (w:=q.w) (rest:=((R.map (ce t)).drop t).map Row.w++xs) (by rw[hr];omega) (by rw[hr];omega) (by rw[t6,qG,aoh,List.cons_append]) fun Qt K2 oA _=>?_
   exact aii (oA.get t6) (by omega) qF jt q2 q3 q1 hg (by rw[alH];omega) hz hzx
 obtain⟨w',aw,si,H5,e5,x5,r1,r2,r3⟩:=hS;exact⟨w',aw,si,H5,sq a1 (sq a2 (sq a3 e5)),(x1.trans x2).trans x5,r1,r2,r3⟩
noncomputable def six(c:Nat):Nm:=[c,c,c,c,c,c]
noncomputable def gu:List Nat:=[97,98,99,100,101,102,103,104,105,106,107,108]
noncomputable def d9:List Row:=gu.map fun c=>.take (six c)
noncomputable def mm:Nm:=[109,109]
noncomputable def zU:List Row:=[.take mm,.tell mm,.copy (six 97) mm,.dE (six 97) .sum mm (six 98),.dE (six 97) .part (six 98) mm,.iff mm 13]
theorem OQ:ala "mm"=tx mm:=nofun
theorem OR:ala "aaaaaa"=tx (six 97):=nofun
theorem OS:ala "bbbbbb"=tx (six 98):=nofun
theorem akI:ala "abcdefghijkl"=tx gu:=nofun
theorem Dr{c:Nat}(h:Ab c):bG (six c):=⟨by simp[six],by simp[six],fun d hd=>by
 have:d=c:=by simpa[six] using hd
 rw[this];exact h⟩
theorem ajE:bG mm:=⟨by simp[mm],by simp[mm],fun d hd=>by
 have:d=109:=by simpa[mm] using hd
 rw[this];exact⟨by decide,by decide⟩⟩
theorem pL:fo d9=gu.map six:=nofun
theorem akJ{c:Nat}(hv:af 0 σ K=.ok (cN c) K):ag gp (af 0) (eC (.int (6))) σ K=.ok (aB (six c)) K:=by
 refine op hv rfl ?_;have e:gp (aB [c]) (.int 6) K=some (aB (six c),K):=by
  unfold gp aB;simp only[];rw[if_pos ⟨by decide,by decide,by show #[c].size≠0;simp,by show #[c].size<=1000;simp⟩];rfl
 show lift (gp (aB [c]) (.int 6)) K=_;unfold lift;rw[e]
theorem afH:∃H',dn (jU (eC (.str "abcdefghijkl"))) [none] (gN 0) dz (aH (ae (eC (.str "take")) (ae (ag gp (af 0) (eC (.int (6)))) aj))) σ H=.ok (.ref H.length) H'/\Ex H H'/\H'[H.length]? =some (.lst (d9.map Row.w)):=by
 have mW:jU (eC (.str "abcdefghijkl")) σ H=.ok (gu.map cN,fun _=>true) H:=by
  refine ay (a:=aB gu) (ph':=H) (by show Out.ok (W.str (ala "abcdefghijkl")) H=_;rw[akI];rfl) ?_;have e:nY (aB gu) H=some ((gu.map cN,fun _=>true),H):=by
   unfold nY aB;simp only[];rw[if_pos nofun];rfl
  unfold lift;rw[e]
 obtain⟨H1,e1,x1⟩:=lP gu cN (im:=jU (eC (.str "abcdefghijkl"))) (cap:=[none]) (g:=gN 0) (c:=dz) (e:=aH (ae (eC (.str "take")) (ae (ag gp (af 0) (eC (.int (6)))) aj))) mW (fun _ _=>rfl) (small (by simp[gu])) (fun c=>some (Row.take (six c)).w) (fun σ=>∃o,σ=[o]) ⟨none,rfl⟩
  (fun c hc σ K hS _=>by
   obtain⟨o,rfl⟩:=hS;exact⟨_,rfl,⟨_,rfl⟩,true,K,rfl,Ex.refl _,.inr ⟨rfl,_,K,tp (au rfl (au (akJ rfl) rfl)) rfl,Ex.refl _,rfl⟩⟩)
 rw[pw] at x1;refine⟨H1,e1,(Ex.one _ _).trans x1,?_⟩;have e:d9.map Row.w=gu.map fun c=>(Row.take (six c)).w:=by unfold d9;rw[ans];rfl
 rw[e];exact x1.get (aY _ _)
theorem afI:∀q∈zU,(∀a∈q.nm,bG a)/\(∀a v,q≠.set a v)/\(∀k∈q.to,k=13)/\12<(ko (fo d9) q).length:=by
 have A:=Dr (c:=97) ⟨by decide,by decide⟩;have B:=Dr (c:=98) ⟨by decide,by decide⟩;have M:=ajE;unfold zU;refine bV ⟨in1 M,fun _ _ h=>(nomatch h),wK,by rw[pL];decide +kernel⟩ (bV ⟨in1 M,fun _ _ h=>(nomatch h),wK,by rw[pL];decide +kernel⟩ (bV ⟨bV A (in1 M),fun _ _ h=>(nomatch h),wK,by rw[pL];decide +kernel⟩ (bV ⟨bV A (bV M (in1 B)),fun _ _ h=>(nomatch h),wK,by rw[pL];decide +kernel⟩ (bV ⟨bV A (bV B (in1 M)),fun _ _ h=>(nomatch h),wK,by rw[pL];decide +kernel⟩ (in1 ⟨in1 M,fun _ _ h=>(nomatch h),in1 rfl,by rw[pL];decide +kernel⟩)))))
theorem M9{w:W}{rest:List W}(hr:rest.length<=40):Pre (d9.map Row.w++w::rest) d9:=by
 have hl:d9.length=12:=rfl;have hm:∀r∈d9,∃c∈gu,r=.take (six c):=fun r hr=>by
  unfold d9 at hr;obtain⟨c,hc,e⟩:=aow.mp hr;exact⟨c,hc,e.symm⟩
 have wF:∀c∈gu,Ab c:=by
  unfold gu Ab
  decide
 refine⟨fun p r h=>?_,fun r hr a ha=>?_,fun r hr a v e=>?_,fun p r h k hk=>?_,fun k=>?_,?_⟩
 ·rw[alR (by rw[alg];exact(alf.mp h).1),aln,h];rfl
 ·obtain⟨c,hc,rfl⟩:=hm r hr;rw[aly.mp ha];exact Dr (wF c hc)
 ·obtain⟨c,hc,rfl⟩:=hm r hr;cases e
 ·obtain⟨c,hc,rfl⟩:=hm r (alF h);cases hk
 ·exact Dq (NS:=gu.map six) (by simp[gu]) (fun r hr a ha=>by
   obtain⟨c,hc,rfl⟩:=hm r hr;rw[aly.mp ha];exact aow.mpr ⟨c,hc,rfl⟩) k
 ·rw[alH,alg,alA,hl];omega
theorem ajF{m:AM}(hv:af 6 σ=aK (.ref i))(h:ph[i]? =some (.lst ws))(he:m σ ph=.ok us ph)(hz:ws.length+us.length<=1000):∃j H',aP (ag addW (af 6) (aI m)) (gN 6) σ ph=.ok (.nx (σ.set 6 (some (.ref j)))) H'/\Ex ph H'/\H'[j]? =some (.lst (ws++us)):=by
 have x1:Ex ph (ph++[PO.lst us]):=Ex.one _ _;exact⟨(ph++[PO.lst us]).length,(ph++[PO.lst us])++[.lst (ws++us)],asg (op (x:=.ref i) (ph1:=ph) (y:=.ref ph.length) (by rw[hv];rfl) (ay he (dw us ph (small (by omega)))) (jG (x1.get h) (aY _ _) (small (by omega)))),x1.trans (Ex.one _ _),aY _ _⟩
theorem case3(hR:H[ri]? =some (.lst (R.map Row.w)))(hn:R.length<=100):Sp H ((aD (aP (dn (er (af 0)) [none] (gN 0) (dJ (eT (ag cS (ag ax (af 0) (eC (.int (0)))) (eC (.str "if")))) (eT (ag cS (ag ax (af 0) (eC (.int (0)))) (eC (.str "go"))))) (af 0)) (gN 5)) (aD (aP (aI (ae (aH (ae (eC (.str "take")) (ae (eC (.str "mm")) aj))) (ae (aH (ae (eC (.str "tell")) (ae (eC (.str "mm")) aj))) (ae (aH (ae (eC (.str "copy")) (ae (eC (.str "aaaaaa")) (ae (eC (.str "mm")) aj)))) (ae (aH (ae (eC (.str "do")) (ae (eC (.str "aaaaaa")) (ae (eC (.str "sum")) (ae (eC (.str "mm")) (ae (eC (.str "bbbbbb")) aj)))))) aj))))) (gN 6)) (aD (aP (ag addW (af 6) (aI (ae (aH (ae (eC (.str "do")) (ae (eC (.str "aaaaaa")) (ae (eC (.str "part")) (ae (eC (.str "bbbbbb")) (ae (eC (.str "mm")) aj)))))) (ae (aH (ae (eC (.str "if")) (ae (eC (.str "mm")) (ae (eC (.int (13))) aj)))) aj)))) (gN 6)) (aD (aP (ag addW (dn (jU (eC (.str "abcdefghijkl"))) [none] (gN 0) dz (aH (ae (eC (.str "take")) (ae (ag gp (af 0) (eC (.int (6)))) aj)))) (aI (ae (ag ax (af 6) (ag aR (ag aZ (af 2) (eC (.int (8)))) (eC (.int (6))))) aj))) (gN 7)) (aU (aI (ae (ag addW (ag addW (af 7) (cE (af 5) cB (cc (eC (.int (20)))))) (ag cJ (aI (ae (eC .aE) aj)) (ag aR (ag aZ (af 2) (eC (.int (48)))) (eC (.int (2)))))) (ae (eC (.int (12))) aj)))))))) (s8 ri ni c t none none none none) H):=by
 obtain⟨H1,e1,x1⟩:=lP R Row.w (im:=er (af 0)) (cap:=[none]) (g:=gN 0) (c:=dJ (eT (ag cS (ag ax (af 0) (eC (.int (0)))) (eC (.str "if")))) (eT (ag cS (ag ax (af 0) (eC (.int (0)))) (eC (.str "go"))))) (e:=af 0) (σ:=s8 ri ni c t none none none none) (ph:=H) (ph0:=H) (oX rfl hR) (fun p y=>decide_eq_true (y.get hR)) (small (by omega)) (fun r=>if(!decide (r.x="if")&& !decide (r.x="go"))=true then some r.w else none) (fun σ=>∃o,σ=[o]) ⟨none,rfl⟩
  (fun r hr σ K hS _=>by
   obtain⟨o,rfl⟩:=hS;have ne:∀{s:String},eT (ag cS (ag ax (af 0) (eC (.int (0)))) (eC (.str s))) [some r.w] K=.ok (!decide (r.x=s)) K:=fun{s}=>tB (op (sO rfl) rfl (by rw[vd];rfl))
   refine⟨_,rfl,⟨_,rfl⟩,_,K,zW ne ne,Ex.refl _,?_⟩;cases h:(!decide (r.x="if")&& !decide (r.x="go")) with
   | false=>exact .inl ⟨rfl,rfl⟩
   | true=>exact .inr ⟨rfl,_,K,rfl,Ex.refl _,rfl⟩)
 have g1:=x1.get (aY _ _);obtain⟨P,eP⟩:∃P,P=R.filterMap (fun r=>if(!decide (r.x="if")&& !decide (r.x="go"))=true then some r.w else none):=⟨_,rfl⟩
 rw[<- eP] at g1;have x1':Ex H H1:=(Ex.one _ _).trans x1;obtain⟨H2,gJ⟩:∃H2,H2=H1++[PO.lst ([Row.take mm,.tell mm,.copy (six 97) mm,.dE (six 97) .sum mm (six 98)].map Row.w)]:=⟨_,rfl⟩
 have x2:Ex H1 H2:=gJ▸Ex.one _ _;have g2:H2[H1.length]? =some (.lst ([Row.take mm,.tell mm,.copy (six 97) mm,.dE (six 97) .sum mm (six 98)].map Row.w)):=by rw[gJ];exact aY _ _
 obtain⟨i3,H3,e3,x3,g3⟩:=ajF (m:=(ae (aH (ae (eC (.str "do")) (ae (eC (.str "aaaaaa")) (ae (eC (.str "part")) (ae (eC (.str "bbbbbb")) (ae (eC (.str "mm")) aj)))))) (ae (aH (ae (eC (.str "if")) (ae (eC (.str "mm")) (ae (eC (.int (13))) aj)))) aj))) (us:=[Row.dE (six 97) .part (six 98) mm,.iff mm 13].map Row.w) (σ:=s8 ri ni c t none (some (.ref H.length)) (some (.ref H1.length)) none) rfl g2 (by
  show(ae (aH (ae (eC (.str (ala "do"))) (ae (eC (.str (ala "aaaaaa"))) (ae (eC (.str (ala "part"))) (ae (eC (.str (ala "bbbbbb"))) (ae (eC (.str (ala "mm"))) aj)))))) (ae (aH (ae (eC (.str (ala "if"))) (ae (eC (.str (ala "mm"))) (ae (eC (.int (13))) aj)))) aj)) _ _=_;rw[OQ,OR,OS];rfl) (by simp)
 have g3':H3[i3]? =some (.lst (zU.map Row.w)):=g3;obtain⟨k,hk,ek⟩:=dm (a:=c.fdiv 8) (n:=6) (by decide);obtain⟨q,hq⟩:∃q,zU[k]? =some q:=k9 (by show k<6;omega);obtain⟨q1,q2,q3,q4⟩:=afI q (alF hq);obtain⟨H4,e4,x4,g4⟩:=afH (σ:=s8 ri ni c t none (some (.ref H.length)) (some (.ref i3)) none) (H:=H3);obtain⟨H5,kE⟩:∃H5,H5=H4++[PO.lst [q.w]]:=⟨_,rfl⟩
 have x5:Ex H4 H5:=kE▸Ex.one _ _;have g5:H5[H4.length]? =some (.lst [q.w]):=by rw[kE];exact aY _ _
 obtain⟨H6,qD⟩:∃H6,H6=H5++[PO.lst (d9.map Row.w++[q.w])]:=⟨_,rfl⟩
 have x6:Ex H5 H6:=qD▸Ex.one _ _;have g6:H6[H5.length]? =some (.lst (d9.map Row.w++[q.w])):=by rw[qD];exact aY _ _
 obtain⟨Q,eQ⟩:∃Q,Q=P.take 20:=⟨_,rfl⟩
 have hQ:Q.length<=20:=by rw[eQ,alX];omega
 obtain⟨m,hm,em⟩:=dm (a:=c.fdiv 48) (n:=2) (by decide);obtain⟨xs,wO⟩:∃xs,xs=(alj (m:Int).toNat [W.aE]).flatten:=⟨_,rfl⟩
 have F2:xs.length=m:=by rw[wO,aot,aoA,anR];simp
 have As:(d9.map Row.w).length=12:=rfl;obtain⟨H7,F3⟩:∃H7,H7=H6++[PO.lst Q]:=⟨_,rfl⟩
 obtain⟨H8,F4⟩:∃H8,H8=H7++[PO.lst (d9.map Row.w++[q.w]++Q)]:=⟨_,rfl⟩
 obtain⟨H9,F5⟩:∃H9,H9=H8++[PO.lst [.aE]]:=⟨_,rfl⟩
 obtain⟨HA,F6⟩:∃HA,HA=H9++[PO.lst xs]:=⟨_,rfl⟩
 have x7:Ex H6 H7:=F3▸Ex.one _ _;have x8:Ex H7 H8:=F4▸Ex.one _ _;have x9:Ex H8 H9:=F5▸Ex.one _ _;have xA:Ex H9 HA:=F6▸Ex.one _ _;have g7:H7[H6.length]? =some (.lst Q):=by rw[F3];exact aY _ _
 have g8:H8[H7.length]? =some (.lst (d9.map Row.w++[q.w]++Q)):=by rw[F4];exact aY _ _
 have g9:H9[H8.length]? =some (.lst [.aE]):=by rw[F5];exact aY _ _
 have gA:HA[H9.length]? =some (.lst xs):=by rw[F6];exact aY _ _
 have hp6:H6[H.length]? =some (.lst P):=((((x2.trans x3).trans x4).trans x5).trans x6).get g1;have hS:Sp H6 (aU (aI (ae (ag addW (ag addW (af 7) (cE (af 5) cB (cc (eC (.int (20)))))) (ag cJ (aI (ae (eC .aE) aj)) (ag aR (ag aZ (af 2) (eC (.int (48)))) (eC (.int (2)))))) (ae (eC (.int (12))) aj))) (s8 ri ni c t none (some (.ref H.length)) (some (.ref i3)) (some (.ref H5.length))) H6):=by
  refine uW (w:=.ref HA.length) (H1:=HA++[.lst (d9.map Row.w++[q.w]++Q++xs)]) (aw:=.int 12) (op (x:=.ref H7.length) (ph1:=H8) (y:=.ref H9.length) (ph2:=HA) (op (x:=.ref H5.length) (ph1:=H6) (y:=.ref H6.length) (ph2:=H7) rfl ?_ ?_) (op (x:=.ref H8.length) (ph1:=H9) (y:=.int m) (ph2:=H9) ?_ ?_ ?_) (jG ((x9.trans xA).get g8) gA (small (by simp[As,F2];omega)))) rfl ((((x7.trans x8).trans x9).trans xA).trans (Ex.one _ _)) (.inr ⟨12,rfl⟩) fun K hK=>?_
  ·rw[F3,eQ];exact qB (k:=20) rfl hp6 rfl
  ·rw[jG (x7.get g6) g7 (small (by simp[As];omega)),<- F4]
  ·rw[F5];exact ay (au rfl rfl) (dw _ H8 (small (by simp)))
  ·rw[<- em];exact md (dv rfl rfl (by decide) (by decide)) rfl (by decide)
  ·rw[yR g9 (by omega) (by omega) (small (by simp;omega)),<- wO,<- F6]
  ·have t6:=hK.get (aY HA (.lst (d9.map Row.w++[q.w]++Q++xs)));have qG:d9.map Row.w++[q.w]++Q++xs=d9.map Row.w++q.w::(Q++xs):=by simp
   rw[qG] at t6;have hrl:(Q++xs).length<=21:=by rw[alH];omega
   have qF:(d9.map Row.w++q.w::(Q++xs)).length=13+(Q++xs).length:=by rw[alH,alA,As];omega
   have jt:(d9.map Row.w++q.w::(Q++xs))[12]? =some q.w:=rfl;refine KG t6 (M9 (by omega)) (L:=d9) jt fun Qt K2 oA hM=>?_
   exact aij (t:=12) (oA.get t6) (by omega) (by rw[qF];omega) jt q1 q2 (fun k hk=>by rw[q3 k hk,qF];omega) hM (zz (M9 (w:=.aE) (rest:=[]) (by simp)).nm) (by rw[pL];simp[gu]) q4
 obtain⟨w',aw,si,H',e',x',r1,r2,r3⟩:=hS;refine⟨w',aw,si,H',sq (σ1:=s8 ri ni c t none (some (.ref H.length)) none none) (asg e1) (sq (ph1:=H2) (σ1:=s8 ri ni c t none (some (.ref H.length)) (some (.ref H1.length)) none) ?_ (sq (σ1:=s8 ri ni c t none (some (.ref H.length)) (some (.ref i3)) none) e3 (sq (ph1:=H6) (σ1:=s8 ri ni c t none (some (.ref H.length)) (some (.ref i3)) (some (.ref H5.length))) (asg (op (x:=.ref H3.length) (ph1:=H4) (y:=.ref H4.length) (ph2:=H5) e4 ?_ ?_)) e'))),(((((x1'.trans x2).trans x3).trans x4).trans x5).trans x6).trans x',r1,r2,r3⟩
 ·refine asg (w:=.ref H1.length) (ay (a:=[Row.take mm,.tell mm,.copy (six 97) mm,.dE (six 97) .sum mm (six 98)].map Row.w) (ph':=H1) ?_ (by rw[gJ];exact dw _ H1 (small (by simp))));show(ae (aH (ae (eC (.str (ala "take"))) (ae (eC (.str (ala "mm"))) aj))) (ae (aH (ae (eC (.str (ala "tell"))) (ae (eC (.str (ala "mm"))) aj))) (ae (aH (ae (eC (.str (ala "copy"))) (ae (eC (.str (ala "aaaaaa"))) (ae (eC (.str (ala "mm"))) aj)))) (ae (aH (ae (eC (.str (ala "do"))) (ae (eC (.str (ala "aaaaaa"))) (ae (eC (.str (ala "sum"))) (ae (eC (.str (ala "mm"))) (ae (eC (.str (ala "bbbbbb"))) aj)))))) aj)))) _ _=_;rw[OQ,OR,OS];rfl
 ·rw[kE];refine ay (au (w:=q.w) (ph1:=H4) (op (x:=.ref i3) (y:=.int k) rfl ?_ (ej (x4.get g3') (NY hq))) rfl) (dw _ H4 (small (by simp)));rw[<- ek];exact md (dv rfl rfl (by decide) (by decide)) rfl (by decide)
 ·rw[jG (x5.get g4) g5 (small (by simp[As])),<- qD]
theorem adL(hR:H[ri]? =some (.lst (R.map Row.w)))(hN:H[ni]? =some (.lst (NS.map aB)))(h0:NS≠[])(nk:∀a∈NS,bG a)(t5:NS.length<=12)(ok:lp NS R)(hn:R.length<=57) :
  ∃w aw si H',xR [.ref ri,.ref ni,.int c] H=.ok (.ref si) H'/\Ex H H'/\H'[si]? =some (.lst [w,aw])/\(aw=.aE\/∃m:Nat,aw=.int m)/\∀K,Ex H' K->∃K',fv [w] K=.ex (fW aw) K'/\Ex K K':=by
 obtain⟨t,ht,et⟩:=dm (a:=c.fdiv 8) (n:=(R.length:Int)+1) (by omega);have a1:aP (ag aR (ag aZ (af 2) (eC (.int (8)))) (ag addW (bz bR (ae (af 0) aj)) (eC (.int (1))))) (gN 3) [some (.ref ri),some (.ref ni),some (.int c),none,none,none,none,none] H=.ok (.nx (s8 ri ni c t none none none none)) H:=by
  unfold s8;rw[<- et];exact asg (md (dv rfl rfl (by decide) (by decide)) (ad (i:=(R.length:Int)) (j:=1) (ay (au rfl rfl) ((gS hR).trans (by rw[alg]))) rfl) (by omega))
 have cO:∀(z:Int) {b:Bool},decide (c.fmod 8=z)=b->eT (ag bh (ag aR (af 2) (eC (.int (8)))) (eC (.int z))) (s8 ri ni c t none none none none) H=.ok b H:=fun z {b} hb=>eI (md rfl rfl (by decide)) hb
 unfold xR oU;rw[gW];by_cases wQ:c.fmod 8=0
 ·obtain⟨w,aw,si,H',e,q⟩:=ajB (ni:=ni) (t:=t) (c:=c) hR;exact⟨w,aw,si,H',bq a1 (d7 (b9 (cO 0 (decide_eq_true wQ)) e)),q⟩
 by_cases h1:c.fmod 8=1
 ·obtain⟨w,aw,si,H',e,q⟩:=case1 (ni:=ni) (t:=t) (c:=c) hR;exact⟨w,aw,si,H',bq a1 (bq (aW (cO 0 (decide_eq_false wQ)) rfl) (d7 (b9 (cO 1 (decide_eq_true h1)) e))),q⟩
 by_cases h2:c.fmod 8=2
 ·obtain⟨w,aw,si,H',e,q⟩:=case2 (t:=t) (c:=c) hR hN h0 nk t5 ok (by omega) hn;exact⟨w,aw,si,H',bq a1 (bq (aW (cO 0 (decide_eq_false wQ)) rfl) (bq (aW (cO 1 (decide_eq_false h1)) rfl) (d7 (b9 (cO 2 (decide_eq_true h2)) e)))),q⟩
 by_cases h3:c.fmod 8=3
 ·obtain⟨w,aw,si,H',e,q⟩:=case3 (ni:=ni) (t:=t) (c:=c) hR (by omega);exact⟨w,aw,si,H',bq a1 (bq (aW (cO 0 (decide_eq_false wQ)) rfl) (bq (aW (cO 1 (decide_eq_false h1)) rfl) (bq (aW (cO 2 (decide_eq_false h2)) rfl) (d7 (b9 (cO 3 (decide_eq_true h3)) e))))),q⟩
 ·obtain⟨w,aw,si,H',e,q⟩:=ajC (t:=t) (c:=c) hR hN h0 nk t5 ok (by omega) hn rfl;exact⟨w,aw,si,H',bq a1 (bq (aW (cO 0 (decide_eq_false wQ)) rfl) (bq (aW (cO 1 (decide_eq_false h1)) rfl) (bq (aW (cO 2 (decide_eq_false h2)) rfl) (bq (aW (cO 3 (decide_eq_false h3)) rfl) (ay e rfl))))),q⟩
theorem ajG(nk:∀a∈NS,bG a)(hN:NS.length<=12)(ok:lp NS R)(hn:R.length<=57):Pre (R.map Row.w) R:=by
 refine⟨fun p r h=>by rw[aln,h];rfl,fun r hr a ha=>nk a ((ok.ok r hr).1 a ha),fun r hr=>(ok.ok r hr).2,fun p r h k hk=>?_,Dq hN fun r hr=>(ok.ok r hr).1,by rw[alg];omega⟩;obtain⟨q1,q2⟩:=ok.jm p r h k hk;exact⟨by rw[alg];exact q1,fun z=>by rw[aln,q2 z];rfl⟩
theorem acF(h:∀a∈MS,bG a)(H:PH)(n:Nat):bW (dat H n) (MS.map aB)=some (MS.map fun b=>aqA (tx b)):=by
 refine CS (by simp) fun j a d ha hd=>?_
 rw[aln] at ha hd;obtain⟨r,hr,rfl⟩:=alv.mp ha;rw[hr] at hd;cases hd;exact jM (h r (alF hr)) H n
noncomputable def s9(ns:List Int)(n ri:Nat)(c:Int)(wi:Nat)(o6 o7 o8:Option W):aT:=[some (.fl (ns.map W.int)),some (.ref 0),some (.int n),some (.ref ri),some (.int c),some (.ref wi),o6,o7,o8]
theorem akK{wi:Nat}(hR:H[ri]? =some (.lst (R.map Row.w)))(hw:H[wi]? =some (.lst [.int 0,.int way]))(h1:1<=way)(h2:way<=15)(nk:∀a∈NS,bG a)(hN:NS.length<=12)(ok:lp NS R)(hn:R.length<=57) :
  ∃H',(aD (aP (bz l5 (ae (af 3) aj)) (gN 6)) (aD (aP (aV i0 (ae (eC (.int (0))) (ae (af 6) aj))) (gN 7)) (aD (bf (dN (el (cL (gG "list" (af 7)))) (dN (eT (ag cS (af 7) (aV xo (ae (af 3) aj)))) (eT (ag cS (af 6) (af 3))))) (aU (eC (.bl false))) bv) (aU (lc (ag bh (aV i0 (ae (ag ax (af 5) (eC (.int (1)))) (ae (af 6) aj))) (eC (.str "run"))) (ag bh (af 6) (af 3))))))) (s9 ns R.length ri c wi none none none) H=.ok (.rt (.bl true)) H':=by
 have P:=ajG nk hN ok hn;obtain⟨H1,da⟩:∃H1,H1=H++[PO.lst (R.map Row.w)]:=⟨_,rfl⟩
 have x1:Ex H H1:=da▸Ex.one _ _;have g1:H1[H.length]? =some (.lst (R.map Row.w)):=by rw[da];exact aY _ _
 obtain⟨i,H2,e2,x2,g2⟩:=LW g1 P;have A9:=x1.trans x2;obtain⟨H3,e3,x3,g3⟩:=aa0 (A9.get hR) P.nm P.cnt;have F7:=A9.trans x3;obtain⟨H4,e4,x4⟩:=aid h1 h2 (w:=.ref H.length) (H:=H3) fun K hK=>by
  obtain⟨i,K',e,x,_⟩:=LW (hK.get (x3.get (x2.get g1))) P;exact⟨_,K',e,x⟩
 have x14:=F7.trans x4;refine⟨H4,sq (ph1:=H1) (σ1:=s9 ns R.length ri c wi (some (.ref H.length)) none none) (by rw[da];exact asg (ay (au rfl rfl) (Jz hR))) (sq (ph1:=H2) (σ1:=s9 ns R.length ri c wi (some (.ref H.length)) (some (.ref i)) none) (asg (ay (au rfl (au rfl rfl)) (aie e2))) (sq (ph1:=H3) (aW (oF (cj (c:=true) (eB (ay rfl (se g2)))) (oF (tB (op (x:=.ref i) (ph1:=H2) (y:=.ref H2.length) (ph2:=H3) rfl (ay (au rfl rfl) e3) (DI (y6 (x3.get g2) g3 (acF (zz P.nm) H3 39))))) (tB (op rfl rfl (DI (y6 (x3.get (x2.get g1)) (F7.get hR) (KA nk ok H3 38))))))) rfl) (retS (aku (ph1:=H4) (op (x:=.str "run") (y:=.str "run") (ay (au (w:=.int way) (ph1:=H3) (op (x:=.ref wi) (y:=.int 1) rfl rfl (ej (F7.get hw) rfl)) (au rfl rfl)) e4) rfl ?_) (op rfl rfl (zJ (y6 ((x2.trans (x3.trans x4)).get g1) (x14.get hR) (KA nk ok H4 38)))))))) ⟩;show lift (bh (.str (ala "run")) (.str (ala "run"))) H4=_;rw[vc];rfl
theorem aik(h:aw=.aE\/∃m:Nat,aw=.int m)(H:PH):∃d,dat H 39 (.tup [.str "program",aw])=some d:=by
 rcases h with rfl | ⟨m,rfl⟩
 ·exact⟨_,kc (mc (jL H 38 "program") (mc rfl rfl))⟩
 ·exact⟨_,kc (mc (jL H 38 "program") (mc (ve H 38 _) rfl))⟩
theorem akL{wi:Nat}(hR:H[ri]? =some (.lst (R.map Row.w)))(hNm:H[0]? =some (.lst (NS.map aB)))(h0:NS≠[])(hw:H[wi]? =some (.lst [.int 0,.int way]))(h2:way<=15)(nk:∀a∈NS,bG a)(hN:NS.length<=12)(ok:lp NS R)(hn:R.length<=57){T:SM}(hT:T=(aD (aP (aV xR (ae (af 3) (ae (af 1) (ae (ag aZ (af 4) (eC (.int (9)))) aj)))) (gN 8)) (aU (ag bh (dn (er (af 5)) [none,some 8] (gN 0) dz (aV i0 (ae (af 0) (ae (ag ax (af 1) (eC (.int (0)))) aj)))) (aI (ae (aH (ae (eC (.str "program")) (ae (ag ax (af 8) (eC (.int (1)))) aj))) (ae (aH (ae (eC (.str "program")) (ae (ag ax (af 8) (eC (.int (1)))) aj))) aj))))))) :
  ∃H',aA (T (s9 ns R.length ri c wi none none none)) dO H=.ok (.bl true) H':=by
 obtain⟨w,aw,si,H1,e1,x1,g1,ha,hs⟩:=adL (c:=c.fdiv 9) hR hNm h0 nk hN ok hn;have hb:∀K,lift (du "bool" aw) K=.ok (.bl false) K:=by
  rcases ha with rfl | ⟨m,rfl⟩
  ·exact fun _=>rfl
  ·exact fun _=>rfl
 have hi:er (af 5) (s9 ns R.length ri c wi none none (some (.ref si))) H1=.ok (([0,way]:List Nat).map (fun k:Nat=>W.int k),fun p=>decide (p[wi]? =some (.lst (([0,way]:List Nat).map fun k:Nat=>W.int k)))) H1:=oX rfl (x1.get hw);obtain⟨H2,e2,x2⟩:=lP [0,way] (fun k:Nat=>W.int k) (im:=er (af 5)) (cap:=[none,some 8]) (g:=gN 0) (c:=dz) (e:=aV i0 (ae (af 0) (ae (ag ax (af 1) (eC (.int (0)))) aj))) hi (fun p y=>decide_eq_true (y.get (x1.get hw))) (small (by simp)) (fun _=>some (.tup [.str "program",aw])) (fun σ=>∃o,σ=[o,some (.ref si)]) ⟨none,rfl⟩
  (fun k hk σ K hS y=>by
   obtain⟨o,rfl⟩:=hS;have akM:k<=15:=by
    rcases alD.mp hk with rfl | z
    ·omega
    ·rw[aly.mp z];exact h2
   obtain⟨K',e,x⟩:=aic akM (w:=w) (H:=K) hb fun K2 oA=>hs K2 (y.trans oA)
   exact⟨[some (.int k),some (.ref si)],rfl,⟨_,rfl⟩,true,K,rfl,Ex.refl _,.inr ⟨rfl,_,K',ay (au rfl (au (op (x:=.ref si) (y:=.int 0) rfl rfl (ej (y.get g1) rfl)) rfl)) e,x,rfl⟩⟩)
 have g2:H2[H1.length]? =some (.lst [.tup [.str "program",aw],.tup [.str "program",aw]]):=x2.get (aY _ _);have A9:Ex H1 H2:=(Ex.one _ _).trans x2;obtain⟨d,hd⟩:=aik ha (H2++[.lst [.tup [.str "program",aw],.tup [.str "program",aw]]]);have s1:ag ax (af 8) (eC (.int (1))) (s9 ns R.length ri c wi none none (some (.ref si))) H2=.ok aw H2:=op (x:=.ref si) (y:=.int 1) rfl rfl (ej (A9.get g1) rfl);refine⟨H2++[.lst [.tup [.str "program",aw],.tup [.str "program",aw]]],?_⟩;rw[hT];exact bq (ph1:=H1) (σ1:=s9 ns R.length ri c wi none none (some (.ref si))) (asg (ay (au rfl (au rfl (au (dv rfl rfl (by decide) (by decide)) rfl))) e1)) (br (op e2 (y:=.ref H2.length) (ph2:=H2++[.lst [.tup [.str "program",aw],.tup [.str "program",aw]]]) (ay (au (tp (au rfl (au s1 rfl)) rfl) (au (tp (au rfl (au s1 rfl)) rfl) rfl)) (dw _ H2 (small (by simp)))) (zJ (y6 ((Ex.one _ _).get g2) (aY _ _) (mc hd (mc hd rfl))))))
theorem good(ns:List Int)(bM:ns.length<=63):∃ph',vj [.fl (ns.map W.int)] []=.ok (.bl true) ph':=by
 obtain⟨m,hm,em⟩:=dm (a:=ns.getD 1 0) (n:=6) (by decide);obtain⟨NS,H1,e1,x1,g1,l1,nk⟩:=aft (ns.getD 0 0) (m+1) (by omega) [];have Qu:NS.length<=12:=by omega
 have Qv:NS≠[]:=fun z=>by rw[z] at l1;simp at l1
 obtain⟨q,hq,eq⟩:=dm (a:=(ns.getD 1 0).fdiv 6) (n:=25) (by decide);obtain⟨q2,hq2,eq2⟩:=dm (a:=(ns.getD 1 0).fdiv 1200) (n:=33) (by decide);obtain⟨n,hn,h3⟩:∃n:Nat,n<=57/\(bf (eT (ag bh (ag aR (ag aZ (aV dX (ae (af 0) (ae (eC (.int (1))) aj))) (eC (.int (150)))) (eC (.int (8)))) (eC (.int (1))))) (aP (ag addW (eC (.int (25))) (ag aR (ag aZ (aV dX (ae (af 0) (ae (eC (.int (1))) aj))) (eC (.int (1200)))) (eC (.int (33))))) (gN 2)) bv) [some (.fl (ns.map W.int)),some (.ref 0),some (.int q),none,none,none,none,none,none] H1=.ok (.nx [some (.fl (ns.map W.int)),some (.ref 0),some (.int n),none,none,none,none,none,none]) H1:=by
  have c1:∀{o:Option W},aV dX (ae (af 0) (ae (eC (.int (1))) aj)) [some (.fl (ns.map W.int)),some (.ref 0),o,none,none,none,none,none,none] H1=.ok (.int (ns.getD 1 0)) H1:=fun{o}=>cl (i:=1) rfl rfl (by decide)
  by_cases h:((ns.getD 1 0).fdiv 150).fmod 8=1
  ·refine⟨25+q2,by omega,b9 (eI (md (dv c1 rfl (by decide) (by decide)) rfl (by decide)) (decide_eq_true h)) ?_⟩;rw[show((25+q2:Nat):Int)=25+(q2:Int) by omega,<- eq2];exact asg (ad rfl (md (dv c1 rfl (by decide) (by decide)) rfl (by decide)))
  ·exact⟨q,by omega,aW (eI (md (dv c1 rfl (by decide) (by decide)) rfl (by decide)) (decide_eq_false h)) rfl⟩
 obtain⟨R,H2,e2,x2,g2,l2,ok⟩:=ah0 ns (ni:=0) (n:=n) g1 Qv nk (by omega);subst l2;obtain⟨c,ec⟩:∃c,c=(ns.getD 2 0*48271).fmod 2147483647:=⟨_,rfl⟩
 obtain⟨v,hv,ev⟩:=dm (a:=c.fdiv 3) (n:=15) (by decide);obtain⟨H3,h9⟩:∃H3,H3=H2++[PO.lst [.int 0,.int ((1+v:Nat):Int)]]:=⟨_,rfl⟩
 have x3:Ex H2 H3:=h9▸Ex.one _ _;have g3:H3[H2.length]? =some (.lst [.int 0,.int ((1+v:Nat):Int)]):=by rw[h9];exact aY _ _
 have head:∀{T:SM} {w:W} {H':PH},aA (T (s9 ns R.length H1.length c H2.length none none none)) dO H3=.ok w H'->aA (aD (aP (aV xn (ae (aV dX (ae (af 0) (ae (eC (.int (0))) aj))) (ae (ag addW (eC (.int (1))) (ag aR (aV dX (ae (af 0) (ae (eC (.int (1))) aj))) (eC (.int (6))))) aj))) (gN 1)) (aD (aP (ag aR (ag aZ (aV dX (ae (af 0) (ae (eC (.int (1))) aj))) (eC (.int (6)))) (eC (.int (25)))) (gN 2)) (aD (bf (eT (ag bh (ag aR (ag aZ (aV dX (ae (af 0) (ae (eC (.int (1))) aj))) (eC (.int (150)))) (eC (.int (8)))) (eC (.int (1))))) (aP (ag addW (eC (.int (25))) (ag aR (ag aZ (aV dX (ae (af 0) (ae (eC (.int (1))) aj))) (eC (.int (1200)))) (eC (.int (33))))) (gN 2)) bv) (aD (aP (aV xy (ae (af 0) (ae (eC (.int (3))) (ae (af 2) (ae (af 1) aj))))) (gN 3)) (aD (aP (ag aR (ag cJ (aV dX (ae (af 0) (ae (eC (.int (2))) aj))) (eC (.int (48271)))) (eC (.int (2147483647)))) (gN 4)) (aD (aP (aI (ae (eC (.int (0))) (ae (ag addW (eC (.int (1))) (ag aR (ag aZ (af 4) (eC (.int (3)))) (eC (.int (15))))) aj))) (gN 5)) T))))) [some (.fl (ns.map W.int)),none,none,none,none,none,none,none,none]) dO []=.ok w H':=fun{T w H'} h=>by
  refine bq (ph1:=H1) (σ1:=[some (.fl (ns.map W.int)),some (.ref 0),none,none,none,none,none,none,none]) ?_ (bq (ph1:=H1) (σ1:=[some (.fl (ns.map W.int)),some (.ref 0),some (.int q),none,none,none,none,none,none]) ?_ (bq h3 (bq (ph1:=H2) (σ1:=[some (.fl (ns.map W.int)),some (.ref 0),some (.int R.length),some (.ref H1.length),none,none,none,none,none]) (asg (ay (au rfl (au rfl (au rfl (au rfl rfl)))) e2)) (bq (ph1:=H2) (σ1:=[some (.fl (ns.map W.int)),some (.ref 0),some (.int R.length),some (.ref H1.length),some (.int c),none,none,none,none]) ?_ (bq (ph1:=H3) (σ1:=s9 ns R.length H1.length c H2.length none none none) ?_ h)))))
  ·refine asg (ay (au (cl (i:=0) rfl rfl (by decide)) (au (w:=.int ((m+1:Nat):Int)) ?_ rfl)) e1);rw[show((m+1:Nat):Int)=1+(m:Int) by omega,<- em];exact ad rfl (md (cl (i:=1) rfl rfl (by decide)) rfl (by decide))
  ·rw[<- eq];exact asg (md (dv (cl (i:=1) rfl rfl (by decide)) rfl (by decide) (by decide)) rfl (by decide))
  ·rw[ec];exact asg (md (ml (cl (i:=2) rfl rfl (by decide)) rfl (Dk (by decide) (by decide))) rfl (by decide))
  ·refine asg (ay (a:=[.int 0,.int ((1+v:Nat):Int)]) (ph':=H2) (au rfl (au ?_ rfl)) (by rw[h9];exact dw _ H2 (small (by simp))));rw[show((1+v:Nat):Int)=1+(v:Int) by omega,<- ev];exact ad rfl (md (dv rfl rfl (by decide) (by decide)) rfl (by decide))
 have cO:∀{b:Bool},decide (c.fmod 3=0)=b->eT (ag bh (ag aR (af 4) (eC (.int (3)))) (eC (.int (0)))) (s9 ns R.length H1.length c H2.length none none none) H3=.ok b H3:=fun{b} hb=>eI (md rfl rfl (by decide)) hb
 unfold vj sN;rw[fk];by_cases h:c.fmod 3=0
 ·obtain⟨H',e⟩:=akK (ns:=ns) (c:=c) (x3.get g2) g3 (by omega) (by omega) nk Qu ok hn;exact⟨H',head (d7 (b9 (cO (decide_eq_true h)) e))⟩
 ·obtain⟨H',e⟩:=akL (ns:=ns) (c:=c) (x3.get g2) (x3.get (x2.get g1)) Qv g3 (by omega) nk Qu ok hn rfl;exact⟨H',head (bq (aW (cO (decide_eq_false h)) rfl) e)⟩
end IL.K02
open PySem PySem.W PyProof.Rows
namespace PySem.W.Fast
def tw12767629252610969993:=0
def tw9754225637386683554:=0
def tw15355721254109536098:=0
def tw12255910998550602054:=0
def tw9295759184961363027:=0
def tw11371645324664623598:=0
def tw14905869616448498684:=0
def tw13427268344949502539:=0
def tw2273564387223761335:=0
def tw13742899149614217993:=0
def tw2859959737410488375:=0
def tw4754607533298803728:=0
def tw14165723971121560067:=0
def tw16783909944647101014:=0
def tw7533640821835138971:=0
def tw2312894597867443421:=0
def tw4222297592193043280:=0
def tw11498119919747181717:=0
def tw6592227534243745336:=0
def tw18126345554504370989:=0
def tw9819242467183218256:=0
def tw7446344421108435716:=0
def tw7167081894247053547:=0
def tw17661544531019109437:=0
def tw14825107881315519977:=0
def tw12232908522371217331:=0
def tw6381922354660349242:=0
def tw15321582246901949434:=0
def tw5007483953992787237:=0
def tw5429462661473485106:=0
def tw16214402417859079359:=0
def tw4521969937884195739:=0
def tw9070030331292402966:=0
def tw1996324762691694194:=0
def tw10383540505557369120:=0
def tw8354830667269081339:=0
def tw9350160529384253:=0
def tw17365898794029519805:=0
def tw17264293296581131142:=0
def tw1158305399463225622:=0
def tw5286086878984308400:=0
def tw3718213249747465681:=0
def tw18385443889192121491:=0
def tw9520970234766860307:=0
def tw6412556769117665174:=0
def tw8557721134826111375:=0
def tw9174514556647609150:=0
def tw7495410364390723345:=0
def tw7669427819633321131:=0
def tw1336126417163646890:=0
def tw1748827428058944630:=0
def tw13844200232034688311:=0
def tw5475341091958926488:=0
def tw6369183460582382453:=0
def tw6571192843228543973:=0
def tw3225748795405127328:=0
def tw15785175088734231933:=0
def tw11216600229729352668:=0
def tw8554753022157728131:=0
def tw16128503070805829560:=0
def tw5815326844580156532:=0
def tw15563173542515708242:=0
def tw17912480982730371124:=0
def tw18264025782852333322:=0
def tw10920833115142356814:=0
def tw2896830613264738893:=0
def tw17772241650942417161:=0
def tw9693963181345878966:=0
def tw10886908994410135590:=0
def tw12407336558299782684:=0
def tw5876296002800692474:=0
def tw7650010390394638214:=0
def tw16000113557804757463:=0
def tw13009336669158858527:=0
def tw8060885924851623950:=0
def tw14375762847036210734:=0
def tw2499695151354896265:=0
def tw10075560451025844693:=0
def tw5642227438945546356:=0
def tw2147478607470123375:=0
def tw12236487238063648146:=0
def tw13290295475015455168:=0
def tw3912063928534237543:=0
def tw8147798923940773128:=0
def tw2762075592804706737:=0
def tw13373186700827359807:=0
def tw14112592565111964818:=0
def tw8040149141655281311:=0
def tw6309852299268812411:=0
def tw11257458135687085998:=0
def tw17082866001966791953:=0
def tw1012492621871996461:=0
def tw17023960233290003495:=0
def tw14140158775656501020:=0
def tw15362347716040765351:=0
def tw7082530125164506423:=0
def tw16298320943512519667:=0
def tw3591128636003322808:=0
def tw3061459729683875075:=0
def tw12921645780452808615:=0
def tw3184923654199408412:=0
def tw10493501385937222340:=0
def tw8465386920902764318:=0
def tw15280242942057579494:=0
def tw13776721628845219034:=0
def tw9488347240691208045:=0
def tw17702465906382850236:=0
def tw5425998244463196024:=0
def tw1870812295088479561:=0
def tw10840097834665268954:=0
def tw9254805788563488521:=0
def tw14486943648082520194:=0
def tw4444054406032923929:=0
def tw642382132818797794:=0
def tw11214752967496317373:=0
def tw9689934962776212601:=0
def tw17016779910689772154:=0
def tw17040132478697205940:=0
def tw18213354594631635298:=0
def tw16877142783866633450:=0
def tw4354139209335632094:=0
def tw4357084343601326981:=0
def tw16269565759809006927:=0
def tw16332096619046070066:=0
def tw7309696510755308901:=0
def tw15113410496225506681:=0
def tw5626872655876398668:=0
def tw1554665943214651718:=0
def tw2785331573314948160:=0
def tw15874540753413960449:=0
def tw1018867299868806454:=0
def tw9158910656870757222:=0
def tw3024759783856641099:=0
def tw9500309025288444215:=0
def tw9711828381246411491:=0
def tw11102328669374772028:=0
def tw18147206408906943626:=0
def tw8694302405981705175:=0
def tw1769016395553301850:=0
def tw2114709796138728119:=0
def tw5497914503533734236:=0
def tw5710744746534015042:=0
def tw10683916226153966196:=0
def tw1936239960008876452:=0
def tw13505488129751322831:=0
def tw2594313330223385478:=0
def tw3893498154556610416:=0
def tw15909647632878247019:=0
def tw3216160509345181367:=0
def tw10229221603748017699:=0
def tw8299844973665143253:=0
def tw2282992484248049960:=0
def tw4456859723797289803:=0
def tw1625023331096911810:=0
def tw749993985683662334:=0
def tw3933863075904911379:=0
def tw11272673486237014171:=0
def tw3430469853331878060:=0
def tw13613242265909786634:=0
def tw3210833442503675241:=0
def tw5360238245919292168:=0
def tw4808202473134955628:=0
def tw4797461698657001530:=0
def tw16263056559094940952:=0
def tw2663614454004277314:=0
def tw15576302234084042445:=0
def tw16035231187387893975:=0
def tw8047789534862342782:=0
def tw6809266749657356518:=0
def tw3784646830929773757:=0
def tw5192884946077285530:=0
def tw14626981289540757290:=0
def tw14674368827521749386:=0
def tw10597190549133568861:=0
def tw2113602543625706858:=0
def tw4960421011748535347:=0
def tw3168030223530761040:=0
def tw16844652823603439030:=0
def tw16578090635967070512:=0
def tw14774741578379205418:=0
def tw2942449343880135734:=0
def tw14660497849576044831:=0
def tw14829332676302387591:=0
def tw5255636962084807256:=0
def tw814633016583426980:=0
def tw15831137584756524595:=0
def tw2653191809802922162:=0
def tw11434026496193881554:=0
def tw17674995418274530211:=0
def tw18107645940048809817:=0
def tw4090185395614696409:=0
def tw14136227429361522934:=0
def tw8583697000205503229:=0
def tw669265305542133758:=0
def tw11033440399488480686:=0
def tw16410077683012888043:=0
def tw10528699692066035191:=0
def tw5136770693185088757:=0
def tw27578067671825880:=0
def tw16626973298664282306:=0
def tw14860788684671849090:=0
def tw1788627448463049020:=0
def tw1371274414725101473:=0
def tw4073829218328560568:=0
def tw9884277177455071381:=0
def tw16011634561907715345:=0
def tw12577695192210414278:=0
def tw9572670677013852901:=0
def tw5859676734995226775:=0
def tw8544013199629997751:=0
def tw12220169414731736870:=0
def tw14203170954999930359:=0
def tw17052337161690325240:=0
def tw15639916701618515372:=0
def tw13005728090206853068:=0
def tw180796376941523645:=0
def tw17260458234508275682:=0
def tw4421799885755349101:=0
def tw5520293606896822728:=0
def tw9115879386701785245:=0
def tw5294250746486257738:=0
def tw16819395283606012449:=0
def tw13531958478921549830:=0
def tw11907320706307416011:=0
def tw16810191007969190217:=0
def tw14247564764948734665:=0
def tw1408725718600495896:=0
def tw12898784916111610033:=0
def tw3885353935986602813:=0
def tw196294920161047822:=0
def tw5573687223387001709:=0
def tw17678700485612380385:=0
def tw12014129809547524265:=0
def tw14137124990638222036:=0
def tw16150720711171209457:=0
def tw7254360760520504413:=0
def tw1644902581563830922:=0
def tw13024192629678296907:=0
def tw17738592582225465710:=0
def tw7954637079031529540:=0
def tw2703645157866412720:=0
def tw4537982166416676457:=0
def tw10690237922632560538:=0
def tw8252356573063180129:=0
def tw14671690079196228863:=0
def tw11335445247969237715:=0
def tw46805697941271226:=0
def tw14160579876664423857:=0
def tw7450207611079745912:=0
def tw8665682208614882173:=0
def tw918471480690777321:=0
def tw10951737384103682905:=0
def tw8492942223903548131:=0
def tw8246821870223651961:=0
def tw10712601833885869224:=0
def tw659391690951444953:=0
def tw7544691378398495303:=0
def tw2689426284850742187:=0
def tw14147521914203553480:=0
def tw8213839357033926955:=0
def tw3193098530741818178:=0
def tw93163516462850659:=0
def tw17926866918962543170:=0
def tw2751308082684809354:=0
def tw10080978739597119221:=0
def tw3386859866975873:=0
def tw3789725805977392091:=0
def tw13118071564820505259:=0
def tw6437447120005908470:=0
def tw16467284012507496276:=0
def tw11138501280401624475:=0
def tw17450910859020913847:=0
def tw2025451404251471790:=0
def tw14973584428361097216:=0
def tw13339009939971819059:=0
def tw12208138867521547368:=0
def tw4854586874361628284:=0
def tw9354305476762330755:=0
def tw8977610893581801643:=0
def tw16936552361202591693:=0
def tw18212651822798788720:=0
def tw17654074048908060843:=0
def tw4347068343460445745:=0
def tw12807623307930662032:=0
def tw4531235944193881974:=0
def tw14074466669986130007:=0
def tw12059923385098323288:=0
def tw8116127622093699552:=0
def tw14634894808285001873:=0
def tw3158018348766406726:=0
def tw16074063312127078359:=0
def tw4954340125807121115:=0
def tw17558103838974110346:=0
def tw1922565074385419635:=0
def tw12329195456113964877:=0
def tw12018896734159632530:=0
def tw6148378247327701828:=0
def tw3569353065345309178:=0
def tw15619206180883480064:=0
def tw7949252110045871578:=0
def tw14140726417095924796:=0
def tw8943421138643671388:=0
def tw17295495718515979742:=0
def tw6521903287692886580:=0
def tw16308602833501326645:=0
def tw2721207979764227404:=0
def tw2269811522180722551:=0
def tw5862951402604165757:=0
def tw4311168567639063288:=0
def tw1365576858308454138:=0
def tw17747440171411400636:=0
def tw18364242750675704810:=0
def tw5409791605262087565:=0
def tw18224824712087271466:=0
def tw9874626730775032074:=0
def tw12281092627744553114:=0
def tw10035487283738386874:=0
def tw16975588292636759935:=0
def tw11461104912685109355:=0
def tw14812033031776792945:=0
def tw5953178721934756419:=0
def tw3657225615973844469:=0
def tw3794080291491643616:=0
def tw12635618625260430661:=0
def tw11898411959824080127:=0
def tw1771515930333242433:=0
def tw8201635945016158270:=0
def tw5629077736590300045:=0
def tw11392149816204887531:=0
def tw7104757181571385296:=0
def tw9407544188540166468:=0
def tw5353706673985961438:=0
def tw1329672229261600066:=0
def tw18019435649802503427:=0
def tw368661703748924411:=0
def tw1690538577862168893:=0
def tw15229872697770204821:=0
def tw5880598392880664780:=0
def tw17574676092930515563:=0
def tw18408342494489807864:=0
def tw18195594791692009981:=0
def tw6273181927648568143:=0
def tw14903813086923819506:=0
def tw7231022161563312312:=0
def tw13832587497429686525:=0
def tw8387675309670921163:=0
end PySem.W.Fast
set_option maxHeartbeats 0 in
theorem PySem.Challenge.cw_boxwright_k02_programs_refused_holds : PySem.Challenge.rw_boxwright_k02_programs_refused.Holds := by
 w_on
 o_law
 k_head
 (case hw=>w_witness2)
 k_fill
 refine IL.K02.adG (l:=PySem.Challenge.rw_boxwright_k02_programs_refused) (fun ns hn=>IL.K02.good ns hn) rfl rfl (fun w h Y=>PySem.W.kIn_of Y) ?K ?T ?F
 case K=>intro w;kernel_rfl
 case T=>
  intro w h Y;refine IL.aeQ ?_
  kernel_rfl
 case F=>
  intro w mg fa h KX G hmg;refine' IL.K02.all_mk KX G hmg ?a_law_cell_at ?l_law_cell_at ?c_law_cell_at ?k_law_cell_at ?a_law_names_by ?l_law_names_by ?c_law_names_by ?k_law_names_by ?a_law_number_by ?l_law_number_by ?c_law_number_by ?k_law_number_by ?a_law_jump_by ?l_law_jump_by ?c_law_jump_by ?k_law_jump_by ?a_law_row_by ?l_law_row_by ?c_law_row_by ?k_law_row_by ?a_law_rows_by ?l_law_rows_by ?c_law_rows_by ?k_law_rows_by ?a_is_name ?l_is_name ?c_is_name ?k_is_name ?a_is_number ?l_is_number ?c_is_number ?k_is_number ?a_is_word ?l_is_word ?c_is_word ?k_is_word ?a_is_place ?l_is_place ?c_is_place ?k_is_place ?a_is_part ?l_is_part ?c_is_part ?k_is_part ?a_is_row ?l_is_row ?c_is_row ?k_is_row ?a_parts_of_kind ?l_parts_of_kind ?c_parts_of_kind ?k_parts_of_kind ?a_jumps_back_badly ?l_jumps_back_badly ?c_jumps_back_badly ?k_jumps_back_badly ?a_with_names_of ?l_with_names_of ?c_with_names_of ?k_with_names_of ?a_need_program ?l_need_program ?c_need_program ?k_need_program ?a_need_run ?l_need_run ?c_need_run ?k_need_run ?a_Run_init ?i_Run_init ?l_Run_init ?c_Run_init ?k_Run_init ?a_held ?l_held ?c_held ?k_held ?a_fit ?l_fit ?c_fit ?k_fit ?a_parted ?l_parted ?c_parted ?k_parted ?a_reckoned ?l_reckoned ?c_reckoned ?k_reckoned ?a_taken ?l_taken ?c_taken ?k_taken ?a_make_turn ?l_make_turn ?c_make_turn ?k_make_turn ?a_do_row ?l_do_row ?c_do_row ?k_do_row ?a_outcome ?l_outcome ?c_outcome ?k_outcome ?a_first_run ?l_first_run ?c_first_run ?k_first_run ?a_law_said ?l_law_said ?c_law_said ?k_law_said ?a_law_names_of ?l_law_names_of ?c_law_names_of ?k_law_names_of ?a_law_turned ?l_law_turned ?c_law_turned ?k_law_turned ?a_law_put ?l_law_put ?c_law_put ?k_law_put ?a_law_bad_row ?l_law_bad_row ?c_law_bad_row ?k_law_bad_row ?a_law_spoilt ?l_law_spoilt ?c_law_spoilt ?k_law_spoilt ?a_law ?l_law ?c_law ?k_law ?z_ValueError ?z_all ?z_bool ?z_enumerate ?z_int ?z_isinstance ?z_len ?z_list ?z_range ?z_str ?z_tuple ?z_zip ?g_FORMS ?gk_FORMS ?g_HALF ?g_LETTERS ?g_MOST_LETTERS ?g_MOST_NAMES ?g_MOST_ROWS ?g_MOST_TURNS ?g_WORDS ?gk_WORDS ?x_BadProgram ?xk_BadProgram ?hi_BadProgram ?hf_BadProgram ?l_BadProgram_init ?c_BadProgram_init ?tl_BadProgram_init ?td_BadProgram_init ?xI_BadProgram ?kX_BadProgram ?sA_BadProgram ?cd_BadProgram ?ch_BadProgram ?cm_BadProgram ?tk_BadProgram ?hX_BadProgram ?nX_BadProgram ?x_BoxError ?xk_BoxError ?bA_BoxError ?bR_BoxError ?bF_BoxError ?xt_BoxError ?x_BadRun ?xk_BadRun ?xi_BadRun ?x_Run ?pg_Run ?hd_Run ?po_Run ?sa_Run ?mk_Run ?kc_Run ?na_at_Run ?na_holds_Run ?na_inputs_Run ?na_takes_Run ?na_told_Run ?na_turns_left_Run ?na_word_Run ?x_ByNought ?xk_ByNought ?xi_ByNought ?xt_ByNought ?x_BadBoxes ?x_NoText ?y_su_ByNought_ByNought ?y_su_ByNought_BoxError ?y_su_BadRun_BoxError ?y_su_BadProgram_BoxError ?y_kt_ByNought_BadBoxes ?y_kt_BadRun_BadBoxes ?y_kt_BadProgram_BadBoxes ?y_kt_ByNought_ByNought ?y_kt_BadRun_ByNought ?y_kt_BadProgram_ByNought ?y_kt_ByNought_NoText ?y_kt_BadRun_NoText ?y_kt_BadProgram_NoText ?y_kt_ByNought_ValueError ?y_kt_BadRun_ValueError ?y_kt_BadProgram_ValueError ?y_kt_ByNought_BadProgram ?y_kt_BadRun_BadProgram ?y_kt_BadProgram_BadProgram ?y_kt_ByNought_BadRun ?y_kt_BadRun_BadRun ?y_kt_BadProgram_BadRun
  (case x_BadProgram=>k_is)
  (case x_BoxError=>k_is)
  (case x_BadRun=>k_is)
  (case x_Run=>k_is)
  (case x_ByNought=>k_is)
  (case x_BadBoxes=>k_is)
  (case x_NoText=>k_is)
  (case a_law_cell_at=>k_is)
  (case l_law_cell_at=>k_is)
  (case c_law_cell_at=>k_is)
  (case k_law_cell_at=>k_is)
  (case a_law_names_by=>k_is)
  (case l_law_names_by=>k_is)
  (case c_law_names_by=>k_is)
  (case k_law_names_by=>k_is)
  (case a_law_number_by=>k_is)
  (case l_law_number_by=>k_is)
  (case c_law_number_by=>k_is)
  (case k_law_number_by=>k_is)
  (case a_law_jump_by=>k_is)
  (case l_law_jump_by=>k_is)
  (case c_law_jump_by=>k_is)
  (case k_law_jump_by=>k_is)
  (case a_law_row_by=>k_is)
  (case l_law_row_by=>k_is)
  (case c_law_row_by=>k_is)
  (case k_law_row_by=>k_is)
  (case a_law_rows_by=>k_is)
  (case l_law_rows_by=>k_is)
  (case c_law_rows_by=>k_is)
  (case k_law_rows_by=>k_is)
  (case a_is_name=>k_is)
  (case l_is_name=>k_is)
  (case c_is_name=>k_is)
  (case k_is_name=>k_is)
  (case a_is_number=>k_is)
  (case l_is_number=>k_is)
  (case c_is_number=>k_is)
  (case k_is_number=>k_is)
  (case a_is_word=>k_is)
  (case l_is_word=>k_is)
  (case c_is_word=>k_is)
  (case k_is_word=>k_is)
  (case a_is_place=>k_is)
  (case l_is_place=>k_is)
  (case c_is_place=>k_is)
  (case k_is_place=>k_is)
  (case a_is_part=>k_is)
  (case l_is_part=>k_is)
  (case c_is_part=>k_is)
  (case k_is_part=>k_is)
  (case a_is_row=>k_is)
  (case l_is_row=>k_is)
  (case c_is_row=>k_is)
  (case k_is_row=>k_is)
  (case a_parts_of_kind=>k_is)
  (case l_parts_of_kind=>k_is)
  (case c_parts_of_kind=>k_is)
  (case k_parts_of_kind=>k_is)
  (case a_jumps_back_badly=>k_is)
  (case l_jumps_back_badly=>k_is)
  (case c_jumps_back_badly=>k_is)
  (case k_jumps_back_badly=>k_is)
  (case a_with_names_of=>k_is)
  (case l_with_names_of=>k_is)
  (case c_with_names_of=>k_is)
  (case k_with_names_of=>k_is)
  (case a_need_program=>k_is)
  (case l_need_program=>k_is)
  (case c_need_program=>k_is)
  (case k_need_program=>k_is)
  (case a_need_run=>k_is)
  (case l_need_run=>k_is)
  (case c_need_run=>k_is)
  (case k_need_run=>k_is)
  (case a_Run_init=>k_is)
  (case i_Run_init=>k_is)
  (case l_Run_init=>k_is)
  (case c_Run_init=>k_is)
  (case k_Run_init=>k_is)
  (case a_held=>k_is)
  (case l_held=>k_is)
  (case c_held=>k_is)
  (case k_held=>k_is)
  (case a_fit=>k_is)
  (case l_fit=>k_is)
  (case c_fit=>k_is)
  (case k_fit=>k_is)
  (case a_parted=>k_is)
  (case l_parted=>k_is)
  (case c_parted=>k_is)
  (case k_parted=>k_is)
  (case a_reckoned=>k_is)
  (case l_reckoned=>k_is)
  (case c_reckoned=>k_is)
  (case k_reckoned=>k_is)
  (case a_taken=>k_is)
  (case l_taken=>k_is)
  (case c_taken=>k_is)
  (case k_taken=>k_is)
  (case a_make_turn=>k_is)
  (case l_make_turn=>k_is)
  (case c_make_turn=>k_is)
  (case k_make_turn=>k_is)
  (case a_do_row=>k_is)
  (case l_do_row=>k_is)
  (case c_do_row=>k_is)
  (case k_do_row=>k_is)
  (case a_outcome=>k_is)
  (case l_outcome=>k_is)
  (case c_outcome=>k_is)
  (case k_outcome=>k_is)
  (case a_first_run=>k_is)
  (case l_first_run=>k_is)
  (case c_first_run=>k_is)
  (case k_first_run=>k_is)
  (case a_law_said=>k_is)
  (case l_law_said=>k_is)
  (case c_law_said=>k_is)
  (case k_law_said=>k_is)
  (case a_law_names_of=>k_is)
  (case l_law_names_of=>k_is)
  (case c_law_names_of=>k_is)
  (case k_law_names_of=>k_is)
  (case a_law_turned=>k_is)
  (case l_law_turned=>k_is)
  (case c_law_turned=>k_is)
  (case k_law_turned=>k_is)
  (case a_law_put=>k_is)
  (case l_law_put=>k_is)
  (case c_law_put=>k_is)
  (case k_law_put=>k_is)
  (case a_law_bad_row=>k_is)
  (case l_law_bad_row=>k_is)
  (case c_law_bad_row=>k_is)
  (case k_law_bad_row=>k_is)
  (case a_law_spoilt=>k_is)
  (case l_law_spoilt=>k_is)
  (case c_law_spoilt=>k_is)
  (case k_law_spoilt=>k_is)
  (case a_law=>k_is)
  (case l_law=>k_is)
  (case c_law=>k_is)
  (case k_law=>k_is)
  (case z_ValueError=>k_is)
  (case z_all=>k_is)
  (case z_bool=>k_is)
  (case z_enumerate=>k_is)
  (case z_int=>k_is)
  (case z_isinstance=>k_is)
  (case z_len=>k_is)
  (case z_list=>k_is)
  (case z_range=>k_is)
  (case z_str=>k_is)
  (case z_tuple=>k_is)
  (case z_zip=>k_is)
  (case g_FORMS=>k_is)
  (case gk_FORMS=>kernel_rfl)
  (case g_HALF=>k_is)
  (case g_LETTERS=>k_is)
  (case g_MOST_LETTERS=>k_is)
  (case g_MOST_NAMES=>k_is)
  (case g_MOST_ROWS=>k_is)
  (case g_MOST_TURNS=>k_is)
  (case g_WORDS=>k_is)
  (case gk_WORDS=>kernel_rfl)
  (case xk_BadProgram=>kernel_rfl)
  (case hi_BadProgram=>k_is)
  (case hf_BadProgram=>k_is)
  (case l_BadProgram_init=>k_is)
  (case c_BadProgram_init=>k_is)
  (case tl_BadProgram_init=>k_is)
  (case td_BadProgram_init=>exact rfl)
  (case xI_BadProgram=>kernel_rfl)
  (case kX_BadProgram=>k_is)
  (case sA_BadProgram=>k_is)
  (case cd_BadProgram=>k_is)
  (case ch_BadProgram=>exact rfl)
  (case cm_BadProgram=>exact rfl)
  (case tk_BadProgram=>kernel_rfl)
  (case hX_BadProgram=>k_is)
  (case nX_BadProgram=>k_is)
  (case xk_BoxError=>kernel_rfl)
  (case bA_BoxError=>kernel_rfl)
  (case bR_BoxError=>kernel_rfl)
  (case bF_BoxError=>kernel_rfl)
  (case xt_BoxError=>k_is)
  (case xk_BadRun=>kernel_rfl)
  (case xi_BadRun=>k_exc)
  (case pg_Run=>k_is)
  (case hd_Run=>k_is)
  (case po_Run=>k_is)
  (case sa_Run=>k_is)
  (case mk_Run=>k_is)
  (case kc_Run=>k_is)
  (case na_at_Run=>k_is)
  (case na_holds_Run=>k_is)
  (case na_inputs_Run=>k_is)
  (case na_takes_Run=>k_is)
  (case na_told_Run=>k_is)
  (case na_turns_left_Run=>k_is)
  (case na_word_Run=>k_is)
  (case xk_ByNought=>kernel_rfl)
  (case xi_ByNought=>k_exc)
  (case xt_ByNought=>k_is)
  (case y_su_ByNought_ByNought=>k_is)
  (case y_su_ByNought_BoxError=>k_is)
  (case y_su_BadRun_BoxError=>k_is)
  (case y_su_BadProgram_BoxError=>k_is)
  (case y_kt_ByNought_BadBoxes=>kernel_rfl)
  (case y_kt_BadRun_BadBoxes=>kernel_rfl)
  (case y_kt_BadProgram_BadBoxes=>kernel_rfl)
  (case y_kt_ByNought_ByNought=>kernel_rfl)
  (case y_kt_BadRun_ByNought=>kernel_rfl)
  (case y_kt_BadProgram_ByNought=>kernel_rfl)
  (case y_kt_ByNought_NoText=>kernel_rfl)
  (case y_kt_BadRun_NoText=>kernel_rfl)
  (case y_kt_BadProgram_NoText=>kernel_rfl)
  (case y_kt_ByNought_ValueError=>kernel_rfl)
  (case y_kt_BadRun_ValueError=>kernel_rfl)
  (case y_kt_BadProgram_ValueError=>kernel_rfl)
  (case y_kt_ByNought_BadProgram=>kernel_rfl)
  (case y_kt_BadRun_BadProgram=>kernel_rfl)
  (case y_kt_BadProgram_BadProgram=>kernel_rfl)
  (case y_kt_ByNought_BadRun=>kernel_rfl)
  (case y_kt_BadRun_BadRun=>kernel_rfl)
  (case y_kt_BadProgram_BadRun=>kernel_rfl)
