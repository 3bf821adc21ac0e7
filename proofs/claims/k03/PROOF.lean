import PyProof.Rows.All
import Wide.All
import OpenK.AllK
import Wide.FinOn
import Lean
import PyProof.EqAt
import PyProof.EqKinds
import PyProof.TupleCall
import KE.KLam
import PyProof.P3Eq
import PyProof.NeData
import PyProof.AttrMissHeap
import KE.KDictOf
import PyProof.DictItems
import PyProof.Rows.Range3
import KE.KEqDict
import PyProof.FactsAll.NoneType_1
import PyProof.FactsAll.bool_1
import KE.KDictSum
import KE.KSorted
import PyProof.ListRange
import PyProof.DictTruth
import PyProof.DictWalks
import PyProof.NeKinds
import KE.KTab
import KE.KTabLook
import PySem.Challenge.RW_boxwright_k03_first_runs
set_option Elab.async false
set_option linter.all false
set_option maxRecDepth 100000
set_option maxHeartbeats 8000000
noncomputable section
local macro_rules | `(tactic| omega) => `(tactic| lia)
open Array renaming length_toList->ahg,append_assoc->ajl,toList->ajE
open Bool renaming and_eq_true->aev,false_ne_true->aeK,or_eq_true->ahn,false_and->aiV,or_false->ajo,and_self->ajq
open Decidable renaming isFalse->aer,isTrue->aeU
open Eq renaming refl->aeQ
open False renaming elim->agE
open ForInStep renaming yield->agd
open Function renaming comp->ajs,comp_def->ajC
open Int renaming toNat_natCast->agz,mul_fdiv_add_fmod->aiM
open List renaming getElem?_eq_some_iff->aen,length_map->aep,size_toArray->aew,getElem?_map->aeA,replicate->aeF,mem_cons->aeG,lookup_cons->aeH,length_append->aeI,mem_singleton->aeJ,getD_eq_getElem?_getD->aeL,length_cons->aeO,map_cons->aeP,mem_cons_of_mem->aeR,mem_of_getElem?->aeV,mem_append_right->afe,getElem?_eq_getElem->afj,getElem?_append_left->afq,range->afr,mem_append->afs,any_cons->aft,mem_cons_self->afw,all_eq_true->afz,all_cons->afG,length_take->afI,replicate_succ->afN,length_set->afO,getElem?_eq_none->afP,lookup->afQ,filterMap_cons->afZ,find?_cons->agb,map_append->age,drop_eq_nil_of_le->agf,getElem?_append_right->agg,getElem?_set_ne->agq,flatten_cons->agw,length_range->agy,getElem?_set_self->agG,nodup_cons->agM,forIn_cons->agN,set_append_right->agO,getElem?_concat_length->agU,append_assoc->agX,mem_of_mem_take->agZ,mem_range->aha,mem_nil_iff->ahf,mem_map->ahi,mem_filterMap->ahk,append_nil->ahl,mem_append_left->ahB,getElem_range->ahQ,map_map->ahS,forIn_nil->ahU,nodup_nil->ahW,map_take->ain,length_drop->aio,any_eq_true->aip,all_toArray->air,of_mem_zip->aiF,map_nil->aiH,mem_of_mem_drop->aiT,getElem?_range->aje,getElem_of_mem->ajf,map_congr_left->ajh,any_map->ajJ
open List.cons renaming inj->ajp
open Nat renaming le_refl->aeq,le_of_ble_eq_true->aey,lt_of_lt_of_le->aeB,le_trans->aeW,ne_of_lt->afi,lt_succ_self->afH,le_succ->afM,zero_le->afR,lt_irrefl->agj,ne_of_gt->ahh,min_eq_left->aho,le_succ_of_le->aht,zero_add->ahy,min_eq_right->ais,le_of_lt->aiz,le_of_eq->ajF,add_comm->ajI,sub_self->ajK
open Nat.succ renaming inj->aiL
open Ne renaming symm->ahH
open Option renaming map_eq_some_iff->aeC,map_some->afa,bind_some->afy,isSome_iff_exists->afC,some->ago,isSome_map->aib,getD_some->aiq,none->ajO
open Option.some renaming inj->afn
open PyProof.Rows renaming boot_list->afx,callWith_type1->aga,slot_tuple_getitem->agu,boot_str->agS,boot_all->agT,boot_int->ahz,AllBare->aie,subscriptTail->aih,boot_tuple->aim,boot_bool->aix,envOfC->aiX
open PySem renaming wpAny_bind->aeh,mainGlobals->ael,Shared->aem,wpAny_pure->aes,sizeLine->aeD,starEach->aeS,FuncData->aeT,boot_len->aeZ,compareOp->afh,Program->afm,wpAny_truthy_bool->afo,foldedSetIterable->afp,bootBuiltins->afv,wpAny_field->afA,behindInMarks->afE,wpAny_callSpecial?_slot->afF,wpAny_mono->afJ,assignEach->afK,Around->afU,wpAny_newObj_type->afW,wpAny_call_entry->agi,tupleKind_room_in1->agk,wpAny_setField_rec->agm,wpAny_seqItems->agp,sysModules->ags,wpAny_passesOwn->agt,attributeBase->agA,mem_of_lookup->agB,PyData->agJ,swapsWith->agL,wpAny_holding->agV,NameKind->agW,IsPair->ahc,binaryOp->ahe,wpAny_execs_nil->ahj,wpAny_Call_Name_kw->ahm,sliceBounds->ahr,backTo->ahx,lookup_relabel_local->ahC,wpAny_updateSeq_pair->ahD,builtinsNs->ahG,letOwnedTupleGo->ahI,wpAny_pyIter_tuple->ahP,slot_dict_contains->ahR,tupleKind->ahX,slot_dict_getitem->aic,sizeLine_eq->aif,wpAny_onRaise->ail,Paired->aiy,PassesOwn->aiA,lastMarks->aiB,codeAny_mono->aiE,call_meetsIn->aiI,noteFrame->aiJ,call_meets->aiO,assign->aiU,holding->aja,keywordEach->ajb,getItem->ajc,subscripted->ajd,Operator->ajm,ZipApart->ajr,codeAny->ajw,PlainAttrs->ajy,valueAt->ajz,Within->ajD,IsPart->ajN
open PySem.Around renaming under->ajG
open PySem.Builtin.List renaming listTooLong->agx
open PySem.Builtin.Slice renaming slicePlaces->agn,sliceAdjust->ahb,sliceApplied->ahM
open PySem.Builtin.SmallTypes renaming nextOf->afg,ownedTupleIsFree->afB,ownedTupleHandOut->ahd
open PySem.Builtin.Str renaming occurrences->afS
open PySem.Builtin.Tuple renaming tupleExact->agv
open PySem.Calls renaming Name_function_global->ahL,evalArgs_plain->aiR
open PySem.Challenge renaming pw_boxwright_k03_first_runs->aej
open PySem.Code renaming isFrame->ajH
open PySem.F renaming plainAttrs_list->aeX,slot_dict_get->aeY,slot_list_append->afc,type_list_append->afd,plainAttrs_dict->afu,type_dict_get->afD,slot_tuple_iterator_next->agh,entry_dict_get->agH,plainAttrs_str->agI,slot_str_join->agQ,type_str_join->agR,args_tuple_iterator_next_1->ahF,entry_tuple_iterator_next->ahJ,slot_zip_next->ahK,excBase_ValueError->ahN,args_tuple_add_2->aia,entry_tuple_add->aig,args_dict_get_2->aii,args_dict_get_3->aij,slot_tuple_add->aiu
open PySem.Heap renaming get?_push_of_some->aek,lt_size->aex,get?_push_size->aeN,size_push->afV,IsTuple->agP,SameBut->ahw,get?_update_other->aiv,get?_update_self->aiG,get?_none_of_le->aiQ
open PySem.Heap.SameBut renaming update->ajg
open PySem.NameKind renaming free->aeM,cell->afT,globalImplicit->aik
open PySem.Obj renaming mapSeq->aiN
open PySem.Paired renaming length->aid
open PySem.PyData renaming eqv->afb,strOk->agl,eqvAll->agY,int->ahs,canLay0->ahT,str->aiP,canLayAll0->ajB
open PySem.SeqAt renaming eqBoolOverData->aiS,EqAt->ajx
open PySem.SeqAt.EqAt renaming int_str->ajj,str_int->ajk
open PySem.Str renaming ofString->aei,ofString_eq_toList->ahp
open PySem.Txt renaming join->ajM
open PySem.Value renaming ref->afl,none->agr,int->ahv,str->aji,bool->ajv
open PySem.W renaming Frag->acs,nsIn->aeo,mg_of->aet,keepIn->aeu,codeIn->aez,fnOf->aeE,findIn->aff,mg_none_of->afk,emptyDict->afL,instObj->afX,hideAll_get->afY,kia_one->agc,excIn->agC,tabObj->agF,hideAll->agK,hasDictIn->ahq,typeIn->ahu,plainGet->ahA,subIn->ahE,of_hideAll->ahO,CodeHd->ahV,methodObj->ahY,plainOver->ahZ,cellsFrom_some->ait,funFrames_hide->aiw,takerIn->aiC,makesIn->aiD,OpenLaw->aiK,lookIn->aiW,notCls->aiY,noTabs->aiZ,callWith_K->ajn,kitx_dict->ajA,handedIn->ajL
open Sum renaming inl->ajt,inr->aju
open True renaming intro->agD
namespace L2
open PySem PySem.Spec PyProof.Rows
abbrev Key:=Sum Int Str
noncomputable def oZ:Key->Value->Bool
 | .inl k,v=>Value.isInt k v
 | .inr x,v=>Value.isStrOf x v
noncomputable def AI(w:World):Key->Int
 | .inl k=>hashInt k
 | .inr x=>hashStr w x
theorem jf:∀{k:Key} {v:Value},oZ k v=true->(∃i t,k=ajt i/\v=ahv i t)\/(∃x t,k=aju x/\v=aji x t)
 | .inl i,v,h=>by
  obtain⟨t,e⟩:=Value.isInt_shape (k:=i) (v:=v) h;exact .inl ⟨i,t,rfl,e⟩
 | .inr x,v,h=>by
  obtain⟨t,e⟩:=Value.isStrOf_shape (x:=x) (v:=v) h;exact .inr ⟨x,t,rfl,e⟩
theorem Us(i:Int)(t:Tok):oZ (.inl i) (.int i t)=true:=by simp[oZ,Value.isInt]
theorem Ut(x:Str)(t:Tok):oZ (.inr x) (.str x t)=true:=by simp[oZ,Value.isStrOf]
theorem Y2(a b:Int):decide ((ajt a:Key)=ajt b)=(a==b):=by
 by_cases e:a=b
 ·subst e;simp
 ·have h:¬(ajt a:Key)=ajt b:=fun q=>e (Sum.inl.inj q)
  rw[decide_eq_false h];exact(beq_eq_false_iff_ne.mpr e).symm
theorem Y3(a b:Str):decide ((aju a:Key)=aju b)=decide (a=b):=by
 by_cases e:a=b
 ·subst e;simp
 ·have h:¬(aju a:Key)=aju b:=fun q=>e (Sum.inr.inj q)
  rw[decide_eq_false h,decide_eq_false e]
theorem Y4(a:Int)(b:Str):decide ((ajt a:Key)=aju b)=false:=decide_eq_false (fun q=>nomatch q)
theorem Y5(a:Str)(b:Int):decide ((aju a:Key)=ajt b)=false:=decide_eq_false (fun q=>nomatch q)
noncomputable def c7(prog:afm)(w:World):PySem.KeyKind prog w Key where
 is:=oZ
 hash:=AI w
 inj:=fun v a b ha hb=>by
  rcases jf ha with⟨i,t,rfl,rfl⟩ | ⟨x,t,rfl,rfl⟩
  ·rcases jf hb with⟨j,u,rfl,e⟩ | ⟨y,u,rfl,e⟩
   ·injection e with e1 _;rw[e1]
   ·exact nomatch e
  ·rcases jf hb with⟨j,u,rfl,e⟩ | ⟨y,u,rfl,e⟩
   ·exact nomatch e
   ·injection e with e1 _;rw[e1]
 byValue:=fun k v h=>by
  rcases jf h with⟨i,t,rfl,rfl⟩ | ⟨x,t,rfl,rfl⟩ <;> rfl
 pyHash:=fun hv h=>by
  rcases jf hv with⟨i,t,rfl,rfl⟩ | ⟨x,t,rfl,rfl⟩
  ·exact wpAny_pyHash_int h
  ·exact wpAny_pyHash_str h
 eqBool:=fun hu hv h=>by
  rcases jf hu with⟨i,t,rfl,rfl⟩ | ⟨x,t,rfl,rfl⟩
  ·rcases jf hv with⟨j,u,rfl,rfl⟩ | ⟨y,u,rfl,rfl⟩
   ·rw[Y2] at h;exact wpAny_eqBool_int h
   ·rw[Y4] at h;exact ajj i t y u _ _ _ _ h
  ·rcases jf hv with⟨j,u,rfl,rfl⟩ | ⟨y,u,rfl,rfl⟩
   ·rw[Y5] at h;exact ajk x t j u _ _ _ _ h
   ·rw[Y3] at h;exact wpAny_eqBool_str h
 «strs»:=fun k x t v h=>by
  rcases jf h with⟨i,u,rfl,e⟩ | ⟨y,u,rfl,e⟩
  ·exact nomatch e
  ·injection e with e1 _
   subst e1;cases v <;> rfl
theorem RF(prog:afm)(w:World)(i:Int)(t:Tok):(c7 prog w).is (.inl i) (.int i t)=true:=Us i t
theorem RG(prog:afm)(w:World)(x:Str)(t:Tok):(c7 prog w).is (.inr x) (.str x t)=true:=Ut x t
inductive V where
 | aE | bl (b:Bool) | int (i:Int) | str (x:Str) | pU (b:Array UInt8) | xm (b:UInt64) | ref (a:Addr) | ty (n:String)
 deriving DecidableEq
noncomputable def RelV:V->Value->Prop
 | .aE,u=>u=agr
 | .bl b,u=>u=ajv b
 | .int i,u=>∃t,u=ahv i t
 | .str x,u=>∃t,u=aji x t
 | .pU b,u=>∃t,u=Value.bytes b t
 | .xm b,u=>∃t,u=Value.float b t
 | .ref a,u=>u=afl a
 | .ty n,u=>u=Value.type n
abbrev Vals:List V->List Value->Prop:=aiy RelV
theorem Vals.length{xs:List V}{us:List Value}(r:Vals xs us):xs.length=us.length:=aid r
theorem Vals.get:∀{xs:List V} {us:List Value} {i:Nat} {x:V},Vals xs us->xs[i]? =some x->∃u,us[i]? =some u/\RelV x u
 | _,_,_,_,.nil,e=>by simp at e
 | _,_,0,_,.cons r _,e=>by simp at e;subst e;exact⟨_,rfl,r⟩
 | _,_,i+1,x,.cons _ t,e=>by
  obtain⟨u,h1,h2⟩:=Vals.get (i:=i) (x:=x) t (by simpa using e);exact⟨u,by simpa using h1,h2⟩
theorem Vals.set{x:V}{u:Value}(r:RelV x u):∀{xs:List V} {us:List Value} (i:Nat),Vals xs us->Vals (xs.set i x) (us.set i u)
 | _,_,_,.nil=>.nil
 | _,_,0,.cons _ t=>.cons r t
 | _,_,i+1,.cons q t=>.cons q (Vals.set r i t)
theorem Vals.append:∀{xs ys:List V} {us ws:List Value},Vals xs us->Vals ys ws->Vals (xs++ys) (us++ws)
 | _,_,_,_,.nil,s=>s
 | _,_,_,_,.cons r t,s=>.cons r (Vals.append t s)
theorem Vals.take:∀{xs:List V} {us:List Value} (n:Nat),Vals xs us->Vals (xs.take n) (us.take n)
 | _,_,0,_=>.nil
 | _,_,_+1,.nil=>.nil
 | _,_,n+1,.cons r t=>.cons r (Vals.take n t)
theorem Vals.drop:∀{xs:List V} {us:List Value} (n:Nat),Vals xs us->Vals (xs.drop n) (us.drop n)
 | _,_,0,r=>r
 | _,_,_+1,.nil=>.nil
 | _,_,n+1,.cons _ t=>Vals.drop n t
noncomputable def fS:Option V->Option Value->Prop
 | some v,some u=>RelV v u
 | none,none=>True
 | _,_=>False
noncomputable def KV{κ:Type}:List (κ×V)->List (κ×Value)->Prop:=aiy fun(p:κ×V) (q:κ×Value)=>p.1=q.1/\RelV p.2 q.2
noncomputable def kV:Key->V
 | .inl i=>.int i
 | .inr x=>.str x
noncomputable def uA:V->Option Key
 | .int i=>some (.inl i)
 | .bl b=>some (.inl (if b then 1 else 0))
 | .str x=>some (.inr x)
 | _=>none
noncomputable def Ip:List V->Option (List Key)
 | []=>some []
 | v::vs=>match uA v,Ip vs with
  | some k,some ks=>some (k::ks)
  | _,_=>none
inductive HO where
  | lst (xs:List V)
  | tup (xs:List V)
  | dK (kvs:List (Key×V)) | dT (kvs:List (List Key×V))
  | dU (kvs:List (V×V))
  | set (S:Int->Bool) (n:Nat)
  | ins (C dx:Addr) (fs:List (Str×V))
  | own (x:Addr)
  | xd (fs:List (Str×V))
  | met (f x:Addr)
  | xn (lo hi:Int)
  | bN (o:Obj) (u:HO)
  | gG (ps:Array Value)
  | ext (φ:Heap->Prop)
abbrev Hp:=Addr->Option HO
noncomputable def upd(H:Hp)(a:Addr)(o:HO):Hp:=fun b=>if b=a then some o else H b
variable{H:Hp}{a:Addr}{o:HO}
theorem bZ:upd H a o a=some o:=by unfold upd;rw[if_pos rfl]
variable{b:Addr}
theorem bz(h:b≠a):upd H a o b=H b:=by unfold upd;rw[if_neg h]
variable{u:HO}
theorem zy:upd (upd H a o) a u=upd H a u:=by
 funext b;unfold upd;split <;> rfl
theorem lg(h:H a=some o)(h':H b=some u)(d:o≠u):a≠b:=by
 intro e;subst e;rw[h] at h';exact d (afn h')
theorem fo(h:H a=some o)(h':H b=none):a≠b:=by
 intro e;subst e;rw[h] at h';cases h'
section
variable(P:afm)(w:World)
noncomputable def cX(H:Hp)(h:Heap)(a:Addr):HO->Prop
 | .lst xs=>xs.length<=aeD/\∃(its:List Value) (n:Nat),Vals xs its/\h.get? a=some { cls:=.type "list",data:=.seq its.toArray n }
 | .tup xs=>xs.length<=aeD/\∃its:List Value,Vals xs its/\IsTup h a its.toArray
 | .dK kvs=>kvs.length<=aeD/\(a==ags)=false/\∃vs,KV kvs vs/\h.DictOf (c7 P w) a vs
 | .dT kvs=>kvs.length<=aeD/\(a==ags)=false/\∃xs:List (List Key×Addr×Value),
   aiy (fun(p:List Key×V) (q:List Key×Addr×Value)=>p.1=q.1/\H q.2.1=some (.tup (p.1.map kV))/\RelV p.2 q.2.2) kvs xs /\
   ∃o es ep,h.get? a=some o/\o.ExactDict/\o.data=.dict es ep/\es.toList=xs.map (entryOfKey (ahX (c7 P w)))/\(xs.map (·.1)).Nodup
 | .dU kvs=>kvs.length<=aeD/\(a==ags)=false/\∃o es ep,h.get? a=some o/\o.ExactDict/\o.data=.dict es ep/\aiy (fun(p:V×V) (e:DictEntry)=>RelV p.1 e.key/\RelV p.2 e.val /\
   ((∃k,uA p.1=some k/\e.hash=AI w k)\/∃b ts ks,p.1=.ref b/\H b=some (.tup ts)/\Ip ts=some ks/\e.hash=tupleKeyHash (c7 P w) ks)) kvs es.toList
 | .set S n=>h.SetOf (intKind P w) a S n
 | .ins C dx fs=>H dx=some (.own a)/\fs.length<=1000/\dx≠a/\h.get? a=some (afX C dx) /\
   ∃mA,h.Ns1 dx mA/\(∀f,fS (fs.lookup f) (mA f))/\ajD mA (fs.map (·.1))
 | .own _=>∃o,h.get? a=some o
 | .xd fs=>∃mA,h.Ns1 a mA/\∀f,fS (fs.lookup f) (mA f)
 | .xn lo hi=>∃t u v,h.get? a=some { cls:=.type "range",data:=.fields #[.int lo t,.int hi u,.int 1 v] }
 | .bN o u=>h.get? a=some o/\cX H h a u
 | .gG ps=>h.get? a=some { cls:=.none,data:=.fields ps }
 | .met f x=>h.get? a=some (ahY (.ref f) (.ref x))
 | .ext φ=>φ h/\(∃o,h.get? a=some o)/\∀h1 h2:Heap,φ h1->(∀o,h1.get? a=some o->h2.get? a=some o)->φ h2
noncomputable def cu(H:Hp)(h:Heap):Prop:=∀a o,H a=some o->cX P w H h a o
end
section
variable{P:afm}{w:World}{H H':Hp}{h h':Heap}{a:Addr}{o:HO}
theorem cX.lt(x:cX P w H h a o):a<h.objs.size:=by
 cases o with
 | lst xs=>obtain⟨_,_,_,_,e⟩:=x;exact aex e
 | tup xs=>obtain⟨_,_,_,p⟩:=x;exact p.lt
 | dK kvs=>obtain⟨_,_,_,_,o,_,_,e,_⟩:=x;exact aex e
 | dT kvs=>obtain⟨_,_,_,_,o,_,_,e,_⟩:=x;exact aex e
 | dU kvs=>obtain⟨_,_,o,_,_,e,_⟩:=x;exact aex e
 | set S n=>obtain⟨o,_,_,_,e,_⟩:=x;exact aex e
 | ins C dx fs=>obtain⟨_,_,_,e,_⟩:=x;exact aex e
 | own y=>obtain⟨_,e⟩:=x;exact aex e
 | xd fs=>obtain⟨_,⟨_,_,_,e,_⟩,_⟩:=x;exact aex e
 | xn lo hi=>obtain⟨_,_,_,e⟩:=x;exact aex e
 | bN ob u=>obtain⟨e,_⟩:=x;exact aex e
 | gG ps=>exact aex (show h.get? a=some _ from x)
 | met f y=>exact aex (show h.get? a=some _ from x)
 | ext φ=>obtain⟨_,⟨_,e⟩,_⟩:=x;exact aex e
theorem aiy.wJ{α β:Type}{F G:α->β->Prop}:∀{Kk:List α} {Kl:List β},aiy F Kk Kl->(∀a b,F a b->G a b)->aiy G Kk Kl
 | _,_,.nil,_=>.nil
 | _,_,.cons r t,f=>.cons (f _ _ r) (aiy.wJ t f)
theorem cX.jy(x:cX P w H h a o)(k:∀b u,(b=a\/H b=some (.own a))->h.get? b=some u->h'.get? b=some u)
  (ho:∀b,H b=some (.own a)->H' b=some (.own a)) (ht:∀b xs,H b=some (.tup xs)->H' b=some (.tup xs)):cX P w H' h' a o:=by
 induction o with
 | lst xs=>obtain⟨z,its,n,r,e⟩:=x;exact⟨z,its,n,r,k _ _ (.inl rfl) e⟩
 | tup xs=>obtain⟨z,its,r,ob,e,c⟩:=x;exact⟨z,its,r,ob,k _ _ (.inl rfl) e,c⟩
 | dK kvs=>obtain⟨z,y,vs,r,ob,es,ep,e,c⟩:=x;exact⟨z,y,vs,r,ob,es,ep,k _ _ (.inl rfl) e,c⟩
 | dT kvs=>
  obtain⟨z,y,xs,r,ob,es,ep,e,c⟩:=x;exact⟨z,y,xs,aiy.wJ r fun p q z=>⟨z.1,ht _ _ z.2.1,z.2.2⟩,ob,es,ep,k _ _ (.inl rfl) e,c⟩
 | dU kvs=>
  obtain⟨z,y,ob,es,ep,e,c1,c2,r⟩:=x;exact⟨z,y,ob,es,ep,k _ _ (.inl rfl) e,c1,c2,aiy.wJ r fun p q z=>⟨z.1,z.2.1,z.2.2.imp_right fun⟨b,ts,ks,h1,h2,h3⟩=>⟨b,ts,ks,h1,ht _ _ h2,h3⟩⟩⟩
 | set S n=>obtain⟨ob,es,ep,t,e,c⟩:=x;exact⟨ob,es,ep,t,k _ _ (.inl rfl) e,c⟩
 | ins C dx fs=>
  obtain⟨d,z,ne,e,mA,⟨od,es,ep,e2,c⟩,r⟩:=x;exact⟨ho _ d,z,ne,k _ _ (.inl rfl) e,mA,⟨od,es,ep,k _ _ (.inr d) e2,c⟩,r⟩
 | own y=>obtain⟨ob,e⟩:=x;exact⟨ob,k _ _ (.inl rfl) e⟩
 | xd fs=>obtain⟨mA,⟨od,es,ep,e,c⟩,r⟩:=x;exact⟨mA,⟨od,es,ep,k _ _ (.inl rfl) e,c⟩,r⟩
 | xn lo hi=>obtain⟨t,u,v,e⟩:=x;exact⟨t,u,v,k _ _ (.inl rfl) e⟩
 | bN ob u ih=>obtain⟨e,q⟩:=x;exact⟨k _ _ (.inl rfl) e,ih q⟩
 | gG ps=>
  have e:h.get? a=some { cls:=.none,data:=.fields ps }:=x;show h'.get? a=some { cls:=.none,data:=.fields ps };exact k a _ (.inl rfl) e
 | met f y=>
  have e:h.get? a=some (ahY (.ref f) (.ref y)):=x;show h'.get? a=some (ahY (.ref f) (.ref y));exact k a _ (.inl rfl) e
 | ext φ=>obtain⟨p,⟨o,e⟩,st⟩:=x;exact⟨st _ _ p fun o q=>k _ _ (.inl rfl) q,⟨o,k _ _ (.inl rfl) e⟩,st⟩
theorem cu.lt(x:cu P w H h)(e:H a=some o):a<h.objs.size:=(x a o e).lt
theorem cu.fresh(x:cu P w H h)(e:h.objs.size<=a):H a=none:=by
 cases q:H a with
 | none=>rfl
 | some u=>exact absurd (aeB (x.lt q) e) (agj _)
theorem cu.kept(x:cu P w H h)(k:∀b u,h.get? b=some u->h'.get? b=some u):cu P w H h':=fun a o e=>
 (x a o e).jy (fun b u _ q=>k b u q) (fun _ q=>q) fun _ _ q=>q
theorem cu.laid(x:cu P w H h)(k:∀b u,h.get? b=some u->h'.get? b=some u)(hp:h.objs.size<=a)(new:cX P w (upd H a o) h' a o):cu P w (upd H a o) h':=fun b u e=>by
 have hn:=x.fresh hp;by_cases hb:b=a
 ·subst hb;rw[bZ] at e;cases e;exact new
 ·rw[bz hb] at e;exact(x b u e).jy (fun c v _ q=>k c v q) (fun c q=>by rw[bz (fo q hn)];exact q) fun c xs q=>by rw[bz (fo q hn)];exact q
end
noncomputable def Rd(H:Hp)(a:Addr)(u:HO):Prop:=H a=some u\/∃o,H a=some (.bN o u)
variable{P:afm}{h:Heap}
theorem Rd.ok{w:World}(r:Rd H a u)(x:cu P w H h):cX P w H h a u:=by
 rcases r with r | ⟨o,r⟩
 ·exact x a u r
 ·obtain⟨_,q⟩:=x a _ r;exact q
noncomputable def kg:Option HO->Prop
 | some (.lst _)=>True
 | some (.dK _)=>True
 | some (.dT _)=>True
 | some (.dU _)=>True
 | some (.set _ _)=>True
 | some (.ins _ _ _)=>True
 | some (.ext _)=>True
 | _=>False
section
variable{P:afm}{w:World}{H:Hp}{h h':Heap}{x e:Addr}{o':HO}
theorem cu.write(ok:cu P w H h)(mu:kg (H x))(he:e=x\/H e=some (.own x))(k:∀b u,b≠e->h.get? b=some u->h'.get? b=some u)(pV:∃u,h'.get? e=some u)
  (new:cX P w (upd H x o') h' x o'):cu P w (upd H x o') h':=fun b u q=>by
 have Hs:∀c y,H c=some (.own y)->c≠x:=fun c y r z=>by subst z;rw[r] at mu;exact mu
 have acX:∀c xs,H c=some (.tup xs)->c≠x:=fun c xs r z=>by subst z;rw[r] at mu;exact mu
 by_cases hb:b=x
 ·subst hb;rw[bZ] at q;cases q;exact new
 ·rw[bz hb] at q;by_cases nD:b=e
  ·have q':H b=some (.own x):=by
    rcases he with z | z
    ·exact absurd (nD.trans z) hb
    ·rw[nD];exact z
   rw[q] at q';cases q';obtain⟨v,hv⟩:=pV;exact⟨v,by rw[nD];exact hv⟩
  ·refine(ok b u q).jy (fun c v hc r=>k c v ?_ r) (fun c r=>by rw[bz (Hs c b r)];exact r) fun c xs r=>by rw[bz (acX c xs r)];exact r
   rcases hc with rfl | hc
   ·exact nD
   ·rintro rfl
    rcases he with z | z
    ·exact Hs c b hc z
    ·rw[hc] at z;cases z;exact hb rfl
end
structure Un(fs ex:List Addr)(H H':Hp)(h h':Heap):Prop where
 keep:∀b o,h.get? b=some o->H b=none->b∉fs->b∉ex->h'.get? b=some o
 slot:∀b o,h.get? b=some o->H b=none->b∈fs->b∉ex->∃sl,h'.get? b=some { o with slots:=sl }
 free:∀b o,h.get? b=some o->H b=none->b∉ex->H' b=none
 there:∀b o,h.get? b=some o->b∉ex->∃o',h'.get? b=some o'
 gB:∀b xs,H b=some (.tup xs)->H' b=some (.tup xs)
 eW:∀b o u,H b=some (.bN o u)->H' b=some (.bN o u)
 fT:∀b ps,H b=some (.gG ps)->∃more,H' b=some (.gG (ps++more))
section
variable{fs pW ex ex':List Addr}{H H1 H2:Hp}{h h1 h2 h':Heap}{a x e:Addr}{o:HO}
theorem Un.any(u:Un fs ex H H1 h h1){b:Addr}{ob:Obj}(q:h.get? b=some ob)(n:H b=none)(hx:b∉ex):∃sl,h1.get? b=some { ob with slots:=sl }:=by
 by_cases hb:b∈fs
 ·exact u.slot b ob q n hb hx
 ·exact⟨ob.slots,u.keep b ob q n hb hx⟩
theorem Un.kept(k:∀b u,h.get? b=some u->h'.get? b=some u):Un fs ex H H h h':=
 ⟨fun b ob q _ _ _=>k b ob q,fun b ob q _ _ _=>⟨ob.slots,k b ob q⟩,fun _ _ _ n _=>n,fun b ob q _=>⟨ob,k b ob q⟩,fun _ _ q=>q,fun _ _ _ q=>q,fun _ ps q=>⟨#[],by rw[q];simp⟩⟩
theorem Un.refl:Un fs ex H H h h:=Un.kept fun _ _ q=>q
theorem Un.laid(k:∀b u,h.get? b=some u->h'.get? b=some u)(hp:h.objs.size<=a)(hn:H a=none):Un fs ex H (upd H a o) h h' where
 keep:=fun b u q _ _ _=>k b u q
 slot:=fun b u q _ _ _=>⟨u.slots,k b u q⟩
 free:=fun b u q n _=>by rw[bz (afi (aeB (aex q) hp))];exact n
 there:=fun b u q _=>⟨u,k b u q⟩
 gB:=fun b xs q=>by rw[bz (fo q hn)];exact q
 eW:=fun b u xs q=>by rw[bz (fo q hn)];exact q
 fT:=fun b ps q=>⟨#[],by rw[bz (fo q hn),q];simp⟩
theorem Un.write(mu:kg (H x))(he:e=x\/H e=some (.own x))(k:∀b u,b≠e->h.get? b=some u->h'.get? b=some u)(pV:∃u,h'.get? e=some u):Un fs ex H (upd H x o) h h':=by
 have hx:∀b,H b=none->b≠x:=fun b n z=>by subst z;rw[n] at mu;exact mu
 have hb:∀b,H b=none->b≠e:=fun b n z=>by
  subst z
  rcases he with r | r
  ·exact hx b n r
  ·rw[n] at r;cases r
 have hm:∀b u,H b=some u->¬kg (some u)->b≠x:=fun b u q nm z=>by subst z;rw[q] at mu;exact nm mu
 refine⟨fun b u q n _ _=>k b u (hb b n) q,fun b u q n _ _=>⟨u.slots,k b u (hb b n) q⟩,fun b u q n _=>by rw[bz (hx b n)];exact n,fun b u q _=>?_,
  fun b xs q=>by rw[bz (hm b _ q fun z=>z)];exact q,fun b u xs q=>by rw[bz (hm b _ q fun z=>z)];exact q,fun b ps q=>⟨#[],by rw[bz (hm b _ q fun z=>z),q];simp⟩⟩
 by_cases nD:b=e
 ·subst nD;exact pV
 ·exact⟨u,k b u nD q⟩
end
noncomputable def xo(h:Heap)(H:Hp):List Addr:=(afr h.objs.size).filter fun a=>(H a).isSome
noncomputable def j0(h:Heap)(H:Hp):Heap:=agK h (xo h H)
theorem Uu(h:Heap)(H:Hp):(j0 h H).objs.size=h.objs.size:=PySem.W.hideAll_size _ _
theorem VZ{o:Obj}(e:h.get? b=some o)(n:H b=none):(j0 h H).get? b=some o:=
 afY _ e fun hm=>by
  have q:(H b).isSome=true:=(List.mem_filter.mp hm).2;rw[n] at q;simp at q
theorem W5{o:Obj}(e:(j0 h H).get? b=some o):h.get? b=some o/\H b=none:=by
 have e':h.get? b=some o:=ahO (xo h H) e;refine⟨e',?_⟩;cases q:H b with
 | none=>rfl
 | some x=>
  have hm:b∈xo h H:=List.mem_filter.mpr ⟨aha.mpr (aex e'),by simp[q]⟩;have z:(j0 h H).get? b=none:=PySem.W.hideAll_none (xo h H) hm;rw[z] at e;cases e
noncomputable def W6(g h:Heap)(L:Addr):List (Addr×Obj):=(afr h.objs.size).filterMap fun a=>if a=L\/(g.get? a).isSome=true then none else(h.get? a).map fun o=>(a,o)
noncomputable def rest(g h:Heap)(L d:Addr):List (Addr×Obj):=(W6 g h L).filter fun p=>decide (p.1≠d)
structure Mod(K:acs)(mg:Str->Option Value)(base:Heap):Prop where
 fB:K.In base
 glob:base.Ns ael mg
 blt:∃mb,base.Ns ahG mb/\∀x:Str,x≠"__name__"->mb x=afv x
 nolimit:base.NoLimit
 bm:∃bm ob,mg "__builtins__"=some (.ref bm)/\bm≠ahG/\base.get? bm=some ob/\ob.cls=.type "module"/\ob.dict=some ahG/\ob.data=.plain
structure Cx where
 prog:afm
 w:World
 K:acs
 mg:Str->Option Value
 base:Heap
 A:afU
 N:List Str
 aN:aem
 aU:Hp
 env:Env
 outer:List Env
 stack:List Env
 ex:List Addr
 fn:Str->Bool
 calm:Bool
 pn:List (Addr×Obj)
 xe:Value->aem->Prop
 kp:List (Option V)->Prop
noncomputable def cS(l:List Env):List Addr:=l.filterMap (·.frame)
abbrev Cx.fs(X:Cx):List Addr:=cS X.outer
noncomputable def aH(sc:Scope)(x:Str):Prop:=sc.names.lookup x=some .local\/sc.names.lookup x=some .cell\/sc.names.lookup x=some .free
noncomputable def Loc(sc:Scope)(x:Str):Prop:=sc.names.lookup x=some .local\/sc.names.lookup x=some .cell
noncomputable def Look(env:Env)(h:Heap)(m:Str->Option Value)(x:Str)(u:Value):Prop:=
 (env.kindOf x=some .local/\m x=some u)\/((env.kindOf x=some .cell\/env.kindOf x=some .free)/\∃c,env.cells.lookup x=some c/\h.IsCell c (some u))
structure Cx.Ok(X:Cx):Prop where
 mod:Mod X.K X.mg X.base
 kind:X.env.scope.kind=.function
 glob:X.env.globals=ael
 blt:X.env.builtins=ahG
 above:X.aN.heap.objs.size<=X.env.locals
 inj:∀x y c,X.env.cells.lookup x=some c->X.env.cells.lookup y=some c->x=y
 has:∀x,(X.env.kindOf x=some .cell\/X.env.kindOf x=some .free)->∃c,X.env.cells.lookup x=some c
 lB:∀x c,X.fn x=true->X.env.cells.lookup x=some c->X.aN.heap.objs.size<=c
 hd:X.calm=true->X.A.handled=none
 frames:X.A.frames=some X.stack
 nE:X.stack=X.outer\/(X.stack=X.env::X.outer/\X.env.frame=some X.env.locals)
 sk:∀b∈X.ex,b≠X.env.locals/\∀x c,X.env.cells.lookup x=some c->c≠b
 bs:∀b o,X.base.get? b=some o->X.aN.heap.get? b=some o/\X.aU b=none
 i4:X.base.objs.size<=X.aN.heap.objs.size
 ll:∀b o,X.base.get? b=some o->b∉X.ex
 lm:∀b∈X.ex,b∉X.fs
 eX:X.aN.heap.FunFrames X.base X.outer
 jC:∀b∈X.fs,X.aU b=none
structure Inv(X:Cx)(pins:List (Addr×Obj))(σ:List (Option V))(H:Hp)(s:aem):Prop where
 ok:X.Ok
 os:s.os=X.aN.os
 bare:aie s.gens
 base:Un X.fs X.ex X.aU H X.aN.heap s.heap
 loc:∃m,s.heap.Ns X.env.locals m/\∀(i:Nat) (x:Str) (v:V),X.N[i]? =some x->σ[i]? =some (some v)->aH X.env.scope x->∃u,RelV v u/\Look X.env s.heap m x u
 cell:∀x c,X.env.cells.lookup x=some c->∃v,s.heap.IsCell c v
 free:H X.env.locals=none
 ie:∀x c,X.env.cells.lookup x=some c->(X.fn x=true->H c=none)/\(H c=none\/∃o,H c=some (.bN o (.ext fun _=>True)))
 pin:∀p∈X.pn++pins,s.heap.get? p.1=some p.2/\H p.1=none/\p.1≠X.env.locals/\p.1∉X.fs/\∀v,p.2.data≠.cell v
 aI:cu X.prog X.w H s.heap
 lk:σ.length=X.N.length/\X.kp σ
variable{X:Cx}
theorem Inv.len{pins:List (Addr×Obj)}{σ:List (Option V)}{s:aem}(I:Inv X pins σ H s):σ.length=X.N.length:=I.lk.1
noncomputable def jz(X:Cx)(x:Str):Prop:=∀i,X.N[i]? =some x->∀(σ:List (Option V)) (o:Option V),X.kp σ->X.kp (σ.set i o)
section
variable{X:Cx}{pins:List (Addr×Obj)}{σ:List (Option V)}{H H':Hp}{s:aem}{h':Heap}
theorem Cx.Ok.acY(ok:X.Ok){b:Addr}{o:Obj}(e:X.base.get? b=some o):b∉X.fs:=fun hb=>by
 have:=(ok.eX.mem hb).1;rw[e] at this;cases this
theorem Inv.bs(I:Inv X pins σ H s):∀b o,X.base.get? b=some o->s.heap.get? b=some o/\H b=none:=fun b o e=>
 ⟨I.base.keep b o (I.ok.bs b o e).1 (I.ok.bs b o e).2 (I.ok.acY e) (I.ok.ll b o e),I.base.free b o (I.ok.bs b o e).1 (I.ok.bs b o e).2 (I.ok.ll b o e)⟩
theorem Inv.bk(I:Inv X pins σ H s):∀b o,X.base.get? b=some o->s.heap.get? b=some o:=fun b o e=>(I.bs b o e).1
theorem Inv.mod(I:Inv X pins σ H s):Mod X.K X.mg X.base:=I.ok.mod
theorem Inv.dC(I:Inv X pins σ H s):X.K.In s.heap:=I.ok.mod.fB.keeps I.bk
theorem Inv.lt(I:Inv X pins σ H s):X.env.locals<s.heap.objs.size:=let ⟨_,hn,_⟩:=I.loc;hn.lt
theorem Inv.sz(I:Inv X pins σ H s):X.aN.heap.objs.size<=s.heap.objs.size:=aeW I.ok.above (aiz I.lt)
theorem Inv.acZ(I:Inv X pins σ H s){a:Addr}(h:s.heap.objs.size<=a):a∉X.fs:=fun hb=>by
 obtain⟨_,o,ho,_⟩:=I.ok.eX.mem hb;exact absurd (aeB (aex ho) (aeW I.sz h)) (agj _)
theorem Inv.nF(I:Inv X pins σ H s):∀x c,X.env.cells.lookup x=some c->c≠X.env.locals:=fun x c e z=>by
 obtain⟨v,o,ho,hd⟩:=I.cell x c e;obtain⟨m,⟨o',es,ep,dM,iB,_⟩,_⟩:=I.loc;rw[z,dM] at ho;cases ho;rw[iB] at hd;cases hd
theorem Inv.eX(I:Inv X pins σ H s):s.heap.FunFrames X.base X.outer:=by
 have all:∀(l:List Env),(∀b∈cS l,b∈X.fs)->X.aN.heap.FunFrames X.base l->s.heap.FunFrames X.base l:=by
  intro l
  induction l with
  | nil=>intro _ _;trivial
  | cons env r ih=>
   intro hs hl;obtain⟨hk,⟨L,o,hf,hn,ho,hd⟩,hr⟩:=hl;have hL:L∈X.fs:=hs L (by unfold cS;rw[afZ,hf];exact afw);obtain⟨sl,e⟩:=I.base.slot L o ho (I.ok.jC L hL) hL fun z=>I.ok.lm L z hL
   exact⟨hk,⟨L,_,hf,hn,e,hd⟩,ih (fun b hb=>hs b (by unfold cS;rw[afZ,hf];exact aeR _ hb)) hr⟩
 exact all X.outer (fun _ hb=>hb) I.ok.eX
theorem Inv.stack(I:Inv X pins σ H s):s.heap.FunFrames X.base X.stack:=by
 rcases I.ok.nE with e | ⟨e,hf⟩
 ·rw[e];exact I.eX
 ·rw[e];obtain⟨m,hn,_⟩:=I.loc;refine .cons (by rw[I.ok.kind];decide) hf hn ?_ I.eX;exact aiQ (aeW I.ok.i4 I.ok.above)
theorem Inv.zR(I:Inv X pins σ H s):∀b∈cS X.stack,b∈X.env.locals::X.fs:=fun b hb=>by
 rcases I.ok.nE with e | ⟨e,hf⟩
 ·rw[e] at hb;exact aeR _ hb
 ·rw[e] at hb;unfold cS at hb;rw[afZ,hf] at hb;exact hb
theorem Inv.qO(I:Inv X pins σ H s):∀b∈cS X.stack,H b=none:=fun b hb=>by
 rcases aeG.mp (I.zR b hb) with e | hb
 ·rw[e];exact I.free
 ·obtain⟨_,o,ho,_⟩:=I.ok.eX.mem hb;exact I.base.free b o ho (I.ok.jC b hb) fun z=>I.ok.lm b z hb
variable{t':Nat}{ch:List Addr}
theorem Inv.step{g':Array GenState}{d':Drawn}(I:Inv X pins σ H s)
  (jD:∀b∈ch,(b∈X.ex\/X.aN.heap.objs.size<=b)/\b≠X.env.locals/\(∀x c,X.env.cells.lookup x=some c->c≠b)/\∀p∈X.pn++pins,p.1≠b)
  (keep:∀b o,b≠X.env.locals->b∉X.fs->b∉ch->s.heap.get? b=some o->H b=none->h'.get? b=some o)
  (slot:∀b o,b≠X.env.locals->b∈X.fs->b∉ch->s.heap.get? b=some o->H b=none->∃sl,h'.get? b=some { o with slots:=sl }) (free:∀b o,b∉ch->s.heap.get? b=some o->H b=none->H' b=none)
  (there:∀b o,b∉ch->s.heap.get? b=some o->∃o',h'.get? b=some o')
  (gB:∀b xs,H b=some (.tup xs)->H' b=some (.tup xs)) (eW:∀b o u,H b=some (.bN o u)->H' b=some (.bN o u)) (fT:∀b ps,H b=some (.gG ps)->∃more,H' b=some (.gG (ps++more)))
  (ns:∀m,s.heap.Ns X.env.locals m->h'.Ns X.env.locals m) (aI:cu X.prog X.w H' h') (hg:aie g') :
  Inv X pins σ H' { s with heap:=h',gens:=g',drawn:=d',toks:=t' }:=by
 have su:∀b o,X.aN.heap.get? b=some o->b≠X.env.locals:=fun b o e=>afi (aeB (aex e) I.ok.above)
 have nG:∀b o,X.aN.heap.get? b=some o->b∉X.ex->b∉ch:=fun b o e hx hb=>by
  rcases(jD b hb).1 with z | z
  ·exact hx z
  ·exact absurd (aeB (aex e) z) (agj _)
 have cellK:∀x c,X.env.cells.lookup x=some c->∀v,s.heap.IsCell c v->h'.IsCell c v:=fun x c e v ⟨o,ho,hd⟩=>by
  have lC:c∉ch:=fun z=>(jD c z).2.2.1 x c e rfl
  rcases(I.ie x c e).2 with fr | ⟨ob,fr⟩
  ·by_cases hc:c∈X.fs
   ·obtain⟨sl,q⟩:=slot c o (I.nF x c e) hc lC ho fr;exact⟨_,q,hd⟩
   ·exact⟨o,keep c o (I.nF x c e) hc lC ho fr,hd⟩
  ·have e1:s.heap.get? c=some ob:=(I.aI c _ fr).1;have e2:h'.get? c=some ob:=(aI c _ (eW c _ _ fr)).1;rw[ho] at e1;cases e1;exact⟨o,e2,hd⟩
 refine⟨I.ok,I.os,hg,⟨fun b o e n hb hx=>?_,fun b o e n hb hx=>?_,fun b o e n hx=>?_,fun b o e hx=>?_,fun b xs e=>gB b xs (I.base.gB b xs e),fun b o xs e=>eW b o xs (I.base.eW b o xs e),fun b ps e=>?_⟩,?_,fun x c e=>?_,?_,fun x c e=>?_,fun p hp=>?_,aI,I.lk⟩
 ·exact keep b o (su b o e) hb (nG b o e hx) (I.base.keep b o e n hb hx) (I.base.free b o e n hx)
 ·obtain⟨sl,e1⟩:=I.base.slot b o e n hb hx;obtain⟨A6,e2⟩:=slot b _ (su b o e) hb (nG b o e hx) e1 (I.base.free b o e n hx);exact⟨A6,e2⟩
 ·obtain⟨o',e1⟩:=I.base.there b o e hx;exact free b o' (nG b o e hx) e1 (I.base.free b o e n hx)
 ·obtain⟨o',e1⟩:=I.base.there b o e hx;exact there b o' (nG b o e hx) e1
 ·obtain⟨m1,e1⟩:=I.base.fT b ps e;obtain⟨m2,e2⟩:=fT b _ e1;exact⟨m1++m2,by rw[e2,ajl]⟩
 ·obtain⟨m,hn,hl⟩:=I.loc;refine⟨m,ns m hn,fun i x v e1 e2 e3=>?_⟩;obtain⟨u,r,l⟩:=hl i x v e1 e2 e3;refine⟨u,r,?_⟩
  rcases l with l | ⟨k,c,e,z⟩
  ·exact .inl l
  ·exact .inr ⟨k,c,e,cellK x c e _ z⟩
 ·obtain⟨v,z⟩:=I.cell x c e;exact⟨v,cellK x c e v z⟩
 ·obtain⟨m,⟨o,_,_,ho,_⟩,_⟩:=I.loc;exact free _ o (fun z=>(jD _ z).2.1 rfl) ho I.free
 ·obtain⟨v,o,ho,hd⟩:=I.cell x c e;have lC:c∉ch:=fun z=>(jD c z).2.2.1 x c e rfl
  exact⟨fun hf=>free c o lC ho ((I.ie x c e).1 hf),(I.ie x c e).2.imp (fun fr=>free c o lC ho fr) fun⟨ob,fr⟩=>⟨ob,eW c _ _ fr⟩⟩
 ·obtain⟨e,n,ne,nf,d⟩:=I.pin p hp;have lC:p.1∉ch:=fun z=>(jD p.1 z).2.2.2 p hp rfl
  exact⟨keep p.1 p.2 ne nf lC e n,free p.1 p.2 lC e n,ne,nf,d⟩
theorem Inv.un(I:Inv X pins σ H s)(u:Un X.fs [] H H' s.heap h')(aI:cu X.prog X.w H' h'):Inv X pins σ H' { s with heap:=h',toks:=t' }:=by
 obtain⟨m,⟨o,es,ep,ho,r⟩,_⟩:=id I.loc;obtain⟨sl,hL⟩:=u.any ho I.free (by simp);exact I.step (g':=s.gens) (d':=s.drawn) (ch:=[]) (fun _ z=>nomatch z) (fun b o _ hb _ e n=>u.keep b o e n hb (by simp)) (fun b o _ hb _ e n=>u.slot b o e n hb (by simp)) (fun b o _ e n=>u.free b o e n (by simp)) (fun b o _ e=>u.there b o e (by simp)) u.gB u.eW u.fT (fun m' hm=>by
  obtain⟨o',A7,A8,dM,r'⟩:=hm;rw[ho] at dM;cases dM;exact⟨_,A7,A8,hL,r'⟩) aI I.bare
theorem Inv.call{g':Array GenState}{d':Drawn}(I:Inv X pins σ H s)(u:Un (cS X.stack) ch H H' s.heap h')(aI:cu X.prog X.w H' h')(hg:aie g')
  (jD:∀b∈ch,(b∈X.ex\/X.aN.heap.objs.size<=b)/\b≠X.env.locals/\(∀x c,X.env.cells.lookup x=some c->c≠b)/\∀p∈X.pn++pins,p.1≠b) :
  Inv X pins σ H' { s with heap:=h',gens:=g',drawn:=d',toks:=t' }:=by
 obtain⟨m,⟨o,es,ep,ho,r⟩,_⟩:=id I.loc;obtain⟨sl,hL⟩:=u.any ho I.free fun z=>(jD _ z).2.1 rfl
 exact I.step (ch:=ch) jD (fun b o hL hb hc e n=>u.keep b o e n (fun z=>(aeG.mp (I.zR b z)).elim hL hb) hc) (fun b o _ _ hc e n=>u.any e n hc) (fun b o hc e n=>u.free b o e n hc) (fun b o hc e=>u.there b o e hc) u.gB u.eW u.fT (fun m' hm=>by
  obtain⟨o',A7,A8,dM,r'⟩:=hm;rw[ho] at dM;cases dM;exact⟨_,A7,A8,hL,r'⟩) aI hg
theorem Inv.turned{it:Addr}(I:Inv X pins σ H s)(k:∀b o,b≠it->s.heap.get? b=some o->h'.get? b=some o)(hn:H it=none)(hL:it≠X.env.locals)
  (h1:it∈X.ex\/X.aN.heap.objs.size<=it) (h2:∀x c,X.env.cells.lookup x=some c->c≠it) (h3:∀p∈X.pn++pins,p.1≠it):Inv X pins σ H { s with heap:=h',toks:=t' }:=by
 have lD:∀b u,H b=some u->b≠it:=fun b u e z=>by rw[z,hn] at e;cases e
 refine I.step (g':=s.gens) (d':=s.drawn) (ch:=[it]) (fun b hb=>?_) (fun b o _ _ hc e _=>k b o (fun z=>hc (by simp[z])) e) (fun b o _ _ hc e _=>⟨o.slots,k b o (fun z=>hc (by simp[z])) e⟩) (fun _ _ _ _ n=>n)
  (fun b o hc e=>⟨o,k b o (fun z=>hc (by simp[z])) e⟩) (fun _ _ e=>e) (fun _ _ _ e=>e) (fun b ps e=>⟨#[],by rw[e];simp⟩) (fun m hm=>?_) (fun b u e=>?_) I.bare
 ·have e:b=it:=by simpa using hb
  subst e;exact⟨h1,hL,h2,h3⟩
 ·obtain⟨o,es,ep,ho,r⟩:=hm;exact⟨o,es,ep,k _ o (ahH hL) ho,r⟩
 ·refine(I.aI b u e).jy (fun c v hc q=>k c v ?_ q) (fun _ q=>q) fun _ _ q=>q
  rcases hc with z | z
  ·rw[z];exact lD b u e
  ·exact lD c _ z
theorem Inv.tok(I:Inv X pins σ H s)(t:Nat):Inv X pins σ H { s with toks:=t }:=I.un (h':=s.heap) (t':=t) Un.refl I.aI
theorem Inv.kept{t':Nat}(I:Inv X pins σ H s)(k:∀b u,s.heap.get? b=some u->h'.get? b=some u):Inv X pins σ H { s with heap:=h',toks:=t' }:=I.un (Un.kept k) (I.aI.kept k)
theorem Inv.laid{a:Addr}{o:HO}{t':Nat}(I:Inv X pins σ H s)(k:∀b u,s.heap.get? b=some u->h'.get? b=some u)(hp:s.heap.objs.size<=a)(new:cX X.prog X.w (upd H a o) h' a o) :
  Inv X pins σ (upd H a o) { s with heap:=h',toks:=t' }:=I.un (Un.laid k hp (I.aI.fresh hp)) (I.aI.laid k hp new)
theorem Inv.write{x e:Addr}{o:HO}{t':Nat}(I:Inv X pins σ H s)(mu:kg (H x))(he:e=x\/H e=some (.own x))(k:∀b u,b≠e->s.heap.get? b=some u->h'.get? b=some u)(pV:∃u,h'.get? e=some u)
  (new:cX X.prog X.w (upd H x o) h' x o):Inv X pins σ (upd H x o) { s with heap:=h',toks:=t' }:=I.un (Un.write mu he k pV) (I.aI.write mu he k pV new)
theorem Inv.ET{gX:List (Addr×Obj)}(I:Inv X pins σ H s)(h:∀p∈gX,s.heap.get? p.1=some p.2/\H p.1=none/\p.1≠X.env.locals/\p.1∉X.fs/\∀v,p.2.data≠.cell v):Inv X gX σ H s:=
 ⟨I.ok,I.os,I.bare,I.base,I.loc,I.cell,I.free,I.ie,fun p hp=>(afs.mp hp).elim (fun z=>I.pin p (ahB _ z)) (h p),I.aI,I.lk⟩
variable{i:Nat}
theorem Ec{N:List Str}(hN:N.Nodup){j:Nat}{x:Str}(a:N[i]? =some x)(b:N[j]? =some x):i=j:=by
 obtain⟨h1,e1⟩:=aen.mp a;obtain⟨h2,e2⟩:=aen.mp b;exact(List.getElem_inj hN).mp (e1.trans e2.symm)
theorem DL{M:Model}{A:afU}{E:Value->aem->Prop}{x:Str}{v:V}{u:Value}{Q:Unit->aem->Prop}(I:Inv X pins σ H s)(hN:X.N.Nodup)(hi:X.N[i]? =some x)(hx:Loc X.env.scope x)(r:RelV v u)
  (h:∀s',Inv X pins (σ.set i (some v)) H s'->(∃a,ahw a s.heap s'.heap/\(a=X.env.locals\/X.env.cells.lookup x=some a))->Q () s') (hf:(X.fn x=true\/X.env.scope.names.lookup x=some .local)/\jz X x):wpAny M A (storeName X.env x u) Q E s:=by
 obtain⟨m,hn,hl⟩:=id I.loc;have ac0:(X.env.scope.kind==.class||(X.env.scope.kind==.module&&X.env.locals != X.env.globals))=false:=by rw[I.ok.kind];rfl
 have Iq:i<σ.length:=by rw[I.len];exact(aen.mp hi).1
 have nF:=I.nF;have tracked:∀{a:Addr} {h':Heap},(∃o,s.heap.get? a=some o/\H a=none)->ahw a s.heap h'->cu X.prog X.w H h':=fun{a h'} ha hs b ob e=>by
  obtain⟨_,_,GO⟩:=ha;refine(I.aI b ob e).jy (fun c w' hc q=>(hs.2 c ?_).trans q) (fun _ q=>q) fun _ _ q=>q
  rintro rfl
  rcases hc with rfl | hc
  ·rw[GO] at e;cases e
  ·rw[GO] at hc;cases hc
 rcases hx with hk | hk
 ·refine wpAny_storeName_local hk hn (fun h' sx hs=>?_) ac0;obtain⟨oL,_,_,hoL,_⟩:=id hn;refine h _ ⟨I.ok,I.os,I.bare,⟨fun b o e n hb hx=>?_,fun b o e n hb hx=>?_,I.base.free,fun b o e hx=>?_,I.base.gB,I.base.eW,I.base.fT⟩,⟨_,sx,fun j y v' e1 e2 e3=>?_⟩,fun y c e=>?_,I.free,I.ie,fun p hp=>?_,tracked ⟨oL,hoL,I.free⟩ hs,⟨by simpa using I.len,hf.2 i hi σ (some v) I.lk.2⟩⟩ ⟨_,hs,.inl rfl⟩
  ·exact(hs.2 b (afi (aeB (aex e) I.ok.above))).trans (I.base.keep b o e n hb hx)
  ·obtain⟨sl,e1⟩:=I.base.slot b o e n hb hx;exact⟨sl,(hs.2 b (afi (aeB (aex e) I.ok.above))).trans e1⟩
  ·obtain⟨o',e1⟩:=I.base.there b o e hx;exact⟨o',(hs.2 b (afi (aeB (aex e) I.ok.above))).trans e1⟩
  ·by_cases hj:j=i
   ·subst hj;rw[hi] at e1;cases e1;rw[agG Iq] at e2;cases e2;exact⟨u,r,.inl ⟨hk,by simp⟩⟩
   ·rw[agq (ahH hj)] at e2;obtain⟨u',r',q⟩:=hl j y v' e1 e2 e3;refine⟨u',r',?_⟩
    rcases q with⟨k,e⟩ | ⟨k,c,e,z⟩
    ·refine .inl ⟨k,?_⟩;have:y≠x:=fun e=>hj (Ec hN e1 (e▸hi))
     simp[this,e]
    ·exact .inr ⟨k,c,e,z.sameBut hs (nF y c e)⟩
  ·obtain⟨w',z⟩:=I.cell y c e;exact⟨w',z.sameBut hs (nF y c e)⟩
  ·obtain⟨e,n,ne,nf,d⟩:=I.pin p hp;exact⟨(hs.2 p.1 ne).trans e,n,ne,nf,d⟩
 ·have xp:X.fn x=true:=by
   rcases hf.1 with z | z
   ·exact z
   ·rw[z] at hk;cases hk
  obtain⟨c,hc⟩:=I.ok.has x (.inl hk);obtain⟨w',z⟩:=I.cell x c hc;refine wpAny_storeName_cell I.ok.kind hk hc z (fun h' lE hs=>?_);obtain⟨oc,Ir,ac1⟩:=id z;refine h { s with heap:=h' } ⟨I.ok,I.os,I.bare,⟨fun b o e n hb hx=>?_,fun b o e n hb hx=>?_,I.base.free,fun b o e hx=>?_,I.base.gB,I.base.eW,I.base.fT⟩,⟨m,hn.sameBut hs (ahH (nF x c hc)),fun j y v' e1 e2 e3=>?_⟩,fun y c' e=>?_,I.free,I.ie,fun p hp=>?_,tracked ⟨oc,Ir,(I.ie x c hc).1 xp⟩ hs,⟨by simpa using I.len,hf.2 i hi σ (some v) I.lk.2⟩⟩ ⟨c,hs,.inr hc⟩
  ·exact(hs.2 b (afi (aeB (aex e) (I.ok.lB x c xp hc)))).trans (I.base.keep b o e n hb hx)
  ·obtain⟨sl,e1⟩:=I.base.slot b o e n hb hx;exact⟨sl,(hs.2 b (afi (aeB (aex e) (I.ok.lB x c xp hc)))).trans e1⟩
  ·obtain⟨o',e1⟩:=I.base.there b o e hx;exact⟨o',(hs.2 b (afi (aeB (aex e) (I.ok.lB x c xp hc)))).trans e1⟩
  ·by_cases hj:j=i
   ·subst hj;rw[hi] at e1;cases e1;rw[agG Iq] at e2;cases e2;exact⟨u,r,.inr ⟨.inl hk,c,hc,lE⟩⟩
   ·rw[agq (ahH hj)] at e2;obtain⟨u',r',q⟩:=hl j y v' e1 e2 e3;refine⟨u',r',?_⟩
    rcases q with q | ⟨k,c',e,z'⟩
    ·exact .inl q
    ·refine .inr ⟨k,c',e,z'.sameBut hs ?_⟩;rintro rfl;exact hj (Ec hN e1 (I.ok.inj _ _ _ e hc▸hi))
  ·by_cases lG:c'=c
   ·subst lG;exact⟨_,lE⟩
   ·obtain⟨w2,z2⟩:=I.cell y c' e;exact⟨w2,z2.sameBut hs lG⟩
  ·obtain⟨e,n,ne,nf,d⟩:=I.pin p hp;refine⟨(hs.2 p.1 ?_).trans e,n,ne,nf,d⟩;intro q;rw[q,Ir] at e;have q':oc=p.2:=afn e;exact d w' (by rw[<- q'];exact ac1)
theorem Ed{M:Model}{A:afU}{E:Value->aem->Prop}{x:Str}{v:V}{u:Value}{Q:Unit->aem->Prop}(I:Inv X pins σ H s)(hN:X.N.Nodup)(hi:X.N[i]? =some x)(hx:Loc X.env.scope x)(r:RelV v u)
  (h:∀s',Inv X pins (σ.set i (some v)) H s'->Q () s') (hf:(X.fn x=true\/X.env.scope.names.lookup x=some .local)/\jz X x):wpAny M A (storeName X.env x u) Q E s:=
 DL I hN hi hx r (fun s' I' _=>h s' I') hf
theorem Inv.GP{s':aem}(I:Inv X pins σ H s)(ho:s'.os=s.os)(u:Un (cS X.stack) ch H H' s.heap s'.heap)(aI:cu X.prog X.w H' s'.heap)(hg:aie s'.gens)
  (jD:∀b∈ch,(b∈X.ex\/X.aN.heap.objs.size<=b)/\b≠X.env.locals/\(∀x c,X.env.cells.lookup x=some c->c≠b)/\∀p∈X.pn++pins,p.1≠b):Inv X pins σ H' s':=by
 obtain⟨h',g',d',t',o'⟩:=s';have e:o'=s.os:=ho;subst e;exact I.call (g':=g') (t':=t') (d':=d') u aI hg jD
end
abbrev XK:=Value->Option Addr->Hp->Prop
abbrev St:=List (Option V)
abbrev VK:=V->Hp->Prop
abbrev TE:=St->Hp->VK->Prop
abbrev TT:=St->Hp->(Bool->Hp->Prop)->Prop
abbrev TA:=St->Hp->(List V->Hp->Prop)->Prop
structure Ends where
 nx:St->Hp->Prop
 rt:VK
 bk:St->Hp->Prop:=fun _ _=>False
 ct:St->Hp->Prop:=fun _ _=>False
abbrev TS:=Ends->St->Hp->Prop
noncomputable def EP(X:Cx)(pins:List (Addr×Obj))(σ:St)(Q:VK)(u:Value)(s':aem):Prop:=∃v H',Inv X pins σ H' s'/\RelV v u/\Q v H'
noncomputable def TP(X:Cx)(pins:List (Addr×Obj))(σ:St)(Q:Bool->Hp->Prop)(b:Bool)(s':aem):Prop:=∃H',Inv X pins σ H' s'/\Q b H'
noncomputable def AP(X:Cx)(pins:List (Addr×Obj))(σ:St)(Q:List V->Hp->Prop)(us:List Value)(s':aem):Prop:=∃vs H',Inv X pins σ H' s'/\Vals vs us/\Q vs H'
noncomputable def SP(X:Cx)(pins:List (Addr×Obj))(D:Ends)(f:Flow)(s':aem):Prop:=
 match f with
 | .next=>∃ay H',Inv X pins ay H' s'/\D.nx ay H'
 | .brk=>∃ay H',Inv X pins ay H' s'/\D.bk ay H'
 | .cont=>∃ay H',Inv X pins ay H' s'/\D.ct ay H'
 | .ret u=>∃v ay H',Inv X pins ay H' s'/\RelV v u/\D.rt v H'
noncomputable def PE(X:Cx)(e:Expr)(t:TE):Prop:=
 ∀(pins:List (Addr×Obj)) (s:aem) (σ:St) (H:Hp) (Q:VK),Inv X pins σ H s->t σ H Q->wpAny (model X.prog X.w) X.A (eval e X.env) (EP X pins σ Q) X.xe s
noncomputable def PT(X:Cx)(e:Expr)(t:TT):Prop:=
 ∀(pins:List (Addr×Obj)) (s:aem) (σ:St) (H:Hp) (Q:Bool->Hp->Prop),Inv X pins σ H s->t σ H Q->wpAny (model X.prog X.w) X.A (isTrue e X.env (eval e X.env)) (TP X pins σ Q) X.xe s
noncomputable def PW(X:Cx)(e:Expr)(t:TT):Prop:=
 ∀(whole:Sem Value) (pins:List (Addr×Obj)) (s:aem) (σ:St) (H:Hp) (Q:Bool->Hp->Prop),Inv X pins σ H s->t σ H Q->wpAny (model X.prog X.w) X.A (isTrue e X.env whole) (TP X pins σ Q) X.xe s
theorem PW.pt{e:Expr}{t:TT}(h:PW X e t):PT X e t:=h _
noncomputable def PA(X:Cx)(es:List Expr)(t:TA):Prop:=
 ∀(pos:Pos) (pins:List (Addr×Obj)) (s:aem) (σ:St) (H:Hp) (Q:List V->Hp->Prop),Inv X pins σ H s->t σ H Q->wpAny (model X.prog X.w) X.A (spliced (ahx pos (aeS es X.env))) (AP X pins σ Q) X.xe s
noncomputable def PS(X:Cx)(st:Stmt)(t:TS):Prop:=
 ∀(pins:List (Addr×Obj)) (s:aem) (σ:St) (H:Hp) (D:Ends),Inv X pins σ H s->t D σ H->wpAny (model X.prog X.w) X.A (exec st X.env) (SP X pins D) X.xe s
noncomputable def fX(X:Cx)(st:List Stmt)(t:TS):Prop:=
 ∀(pins:List (Addr×Obj)) (s:aem) (σ:St) (H:Hp) (D:Ends),Inv X pins σ H s->t D σ H->wpAny (model X.prog X.w) X.A (execs st X.env) (SP X pins D) X.xe s
variable{A:afU}
theorem aV{α:Type}{t:Sem α}{Q Q':α->aem->Prop}{M:Model}{E:Value->aem->Prop}{s:aem}(h:wpAny M A t Q E s)(hQ:∀a s,Q a s->Q' a s):wpAny M A t Q' E s:=afJ h hQ fun _ _ x=>x
section
variable{X:Cx}
variable{σ:St}{H:Hp}
theorem bin{a b:Expr}{ta tb:TE}(ha:PE X a ta)(hb:PE X b tb){pins:List (Addr×Obj)}{s:aem}{R:V->V->Hp->Prop}(I:Inv X pins σ H s)(h:ta σ H fun x H1=>tb σ H1 fun y H2=>R x y H2)
  {α:Type} {Q:α->aem->Prop} {f:Value->Value->Sem α}
  (hf:∀v u s2 x y H2,Inv X pins σ H2 s2->RelV x v->RelV y u->R x y H2->wpAny (model X.prog X.w) X.A (f v u) Q X.xe s2) :
  wpAny (model X.prog X.w) X.A (eval a X.env) (fun v bL=>wpAny (model X.prog X.w) X.A (eval b X.env) (fun u sX=>wpAny (model X.prog X.w) X.A (f v u) Q X.xe sX) X.xe bL) X.xe s:=by
 refine aV (ha pins s σ H _ I h) fun v s1 ⟨x,H1,I1,r1,q1⟩=>?_
 refine aV (hb pins s1 σ H1 _ I1 q1) fun u s2 ⟨y,H2,I2,r2,q2⟩=>?_
 exact hf v u s2 x y H2 I2 r1 r2 q2
noncomputable def ac2(i:Nat):TE:=fun σ H Q=>∃v,σ[i]? =some (some v)/\Q v H
noncomputable def tC(v:V):TE:=fun _ H Q=>Q v H
theorem Y6{i:Nat}{x:Str}{pos:Pos}(hN:X.N[i]? =some x)(hv:aH X.env.scope x)(hd:(x==("__debug__":Str))=false:=by decide)(hcd:(x==("__classdict__":Str))=false:=by decide):PE X (.Name x pos) (ac2 i):=by
 intro pins s σ H Q I h;obtain⟨v,e,h⟩:=h;obtain⟨m,hn,hl⟩:=I.loc;obtain⟨u,r,l⟩:=hl i x v hN e hv;have fin:EP X pins σ Q u s:=⟨v,H,I,r,h⟩
 rcases l with⟨hk,hm⟩ | ⟨hk,c,hc,vX⟩
 ·exact wpAny_Name (wpAny_loadName_local I.ok.kind hk hn hm fin) hd
 ·rcases hk with hk | hk
  ·exact wpAny_Name (wpAny_loadName_cell I.ok.kind hk hc vX fin) hd
  ·exact wpAny_Name (wpAny_loadName_free I.ok.kind hk hc vX fin hcd) hd
theorem Y7{i j pos}:PE X (.Constant (.int i) j pos) (tC (.int i)):=fun _ _ _ H _ I h=>wpAny_Constant_int ⟨.int i,H,I.tok _,⟨_,rfl⟩,h⟩
theorem abH{b j pos}:PE X (.Constant (.bool b) j pos) (tC (.bl b)):=fun _ _ _ H _ I h=>Constant_bool ⟨.bl b,H,I,rfl,h⟩
theorem Y8{j pos}:PE X (.Constant .none j pos) (tC .aE):=fun _ _ _ H _ I h=>Constant_none ⟨.aE,H,I,rfl,h⟩
theorem Y9{x j pos}:PE X (.Constant (.str x) j pos) (tC (.str x)):=fun _ _ _ H _ I h=>Calls.Constant_str ⟨.str x,H,I.tok _,⟨_,rfl⟩,h⟩
noncomputable def Gl(X:Cx)(x:Str):Prop:=X.env.kindOf x=some .globalImplicit
variable{u:Value}
theorem qP{E:Value->aem->Prop}{pins:List (Addr×Obj)}{s:aem}{x:Str}{pos:Pos}{Q:Value->aem->Prop}(I:Inv X pins σ H s)(hg:Gl X x)(hm:X.mg x=some u)(h:Q u s)
  (hd:(x==("__debug__":Str))=false:=by decide):wpAny (model X.prog X.w) X.A (eval (.Name x pos) X.env) Q E s:=
 ahL I.ok.kind hg (Calls.loadGlobal_global (by rw[I.ok.glob];exact I.mod.glob.keeps I.bk) hm h) hd
theorem oN{E:Value->aem->Prop}{pins:List (Addr×Obj)}{s:aem}{x:Str}{pos:Pos}{Q:Value->aem->Prop}(I:Inv X pins σ H s)(hg:Gl X x)(hm:X.mg x=none)(hv:afv x=some u)(h:Q u s)
  (hn:x≠"__name__":=by decide) (hd:(x==("__debug__":Str))=false:=by decide):wpAny (model X.prog X.w) X.A (eval (.Name x pos) X.env) Q E s:=by
 obtain⟨mb,h1,h2⟩:=I.mod.blt;exact ahL I.ok.kind hg (Calls.loadGlobal_builtin (by rw[I.ok.glob];exact I.mod.glob.keeps I.bk) hm (by rw[I.ok.blt];exact h1.keeps I.bk) ((h2 x hn).trans hv) h) hd
theorem qQ{x:Str}{v:V}{pos:Pos}(hg:Gl X x)(hm:X.mg x=some u)(r:RelV v u)(hd:(x==("__debug__":Str))=false:=by decide):PE X (.Name x pos) (tC v):=
 fun _ _ _ H _ I h=>qP I hg hm ⟨v,H,I,r,h⟩ hd
theorem W7{x:Str}{v:V}{pos:Pos}(hg:Gl X x)(hm:X.mg x=none)(hv:afv x=some u)(r:RelV v u)(hn:x≠"__name__":=by decide)(hd:(x==("__debug__":Str))=false:=by decide):PE X (.Name x pos) (tC v):=
 fun _ _ _ H _ I h=>oN I hg hm hv ⟨v,H,I,r,h⟩ hn hd
variable{a b:Expr}{ta tb:TE}{pos:Pos}
noncomputable def tB(t:TE):TT:=fun σ H Q=>t σ H fun x H1=>∃c,x=.bl c/\Q c H1
variable{tA xq:TT}{rest:List Expr}
noncomputable def rN(t u:TT):TT:=fun σ H Q=>t σ H fun c H1=>if c=true then u σ H1 Q else Q false H1
noncomputable def Iu(t u:TT):TT:=fun σ H Q=>t σ H fun c H1=>if c=true then Q true H1 else u σ H1 Q
noncomputable def ac3(t:TT):TT:=fun σ H Q=>t σ H fun c H1=>Q (!c) H1
theorem W8(ha:PT X a tA):PW X (.BoolOp .And [a] pos) tA:=by
 intro wh pins s σ H Q I h;refine isTrue_and (aV (ha pins s σ H Q I h) fun c s1 e=>?_);cases c with
 | true=>exact isTrue_and_nil e
 | false=>exact e
theorem Za(ha:PT X a tA):PW X (.BoolOp .Or [a] pos) tA:=by
 intro wh pins s σ H Q I h;refine isTrue_or (aV (ha pins s σ H Q I h) fun c s1 e=>?_);cases c with
 | false=>exact isTrue_or_nil e
 | true=>exact e
theorem Zb(ha:PT X a tA)(hb:PW X (.BoolOp .And (b::rest) pos) xq):PW X (.BoolOp .And (a::b::rest) pos) (rN tA xq):=by
 intro wh pins s σ H Q I h;refine isTrue_and (aV (ha pins s σ H _ I h) fun c s1 ⟨H1,I1,q1⟩=>?_);cases c with
 | true=>exact hb wh pins s1 σ H1 Q I1 q1
 | false=>exact⟨H1,I1,q1⟩
theorem abI(ha:PT X a tA)(hb:PW X (.BoolOp .Or (b::rest) pos) xq):PW X (.BoolOp .Or (a::b::rest) pos) (Iu tA xq):=by
 intro wh pins s σ H Q I h;refine isTrue_or (aV (ha pins s σ H _ I h) fun c s1 ⟨H1,I1,q1⟩=>?_);cases c with
 | true=>exact⟨H1,I1,q1⟩
 | false=>exact hb wh pins s1 σ H1 Q I1 q1
theorem Zc(ha:PT X a tA):PT X (.UnaryOp .Not a pos) (ac3 tA):=by
 intro pins s σ H Q I h;exact isTrue_not (ha pins s σ H (fun c H1=>Q (!c) H1) I h)
noncomputable def abJ(ta tb:TE):TE:=fun σ H Q=>ta σ H fun x H1=>∃c,x=.bl c/\if c=true then tb σ H1 Q else Q (.bl false) H1
noncomputable def ac4(ta tb:TE):TE:=fun σ H Q=>ta σ H fun x H1=>∃c,x=.bl c/\if c=true then Q (.bl true) H1 else tb σ H1 Q
noncomputable def abK(ta:TE):TE:=fun σ H Q=>ta σ H fun x H1=>∃c,x=.bl c/\Q (.bl (!c)) H1
theorem Zd{op}{t:TE}(h:PE X a t):PE X (.BoolOp op [a] pos) t:=fun pins s σ H Q I hw=>BoolOp_one (h pins s σ H Q I hw)
theorem Ze(ha:PE X a ta)(hb:PE X (.BoolOp .And (b::rest) pos) tb):PE X (.BoolOp .And (a::b::rest) pos) (abJ ta tb):=by
 intro pins s σ H Q I h;refine BoolOp_and (aV (ha pins s σ H _ I h) fun v s1 ⟨x,H1,I1,r1,q1⟩=>?_);obtain⟨c,rfl,q1⟩:=q1;cases r1;refine afo ?_;cases c with
 | true=>exact hb pins s1 σ H1 Q I1 q1
 | false=>exact⟨.bl false,H1,I1,rfl,q1⟩
theorem abL(ha:PE X a ta)(hb:PE X (.BoolOp .Or (b::rest) pos) tb):PE X (.BoolOp .Or (a::b::rest) pos) (ac4 ta tb):=by
 intro pins s σ H Q I h;refine BoolOp_or (aV (ha pins s σ H _ I h) fun v s1 ⟨x,H1,I1,r1,q1⟩=>?_);obtain⟨c,rfl,q1⟩:=q1;cases r1;refine afo ?_;cases c with
 | false=>exact hb pins s1 σ H1 Q I1 q1
 | true=>exact⟨.bl true,H1,I1,rfl,q1⟩
theorem Zf(ha:PE X a ta):PE X (.UnaryOp .Not a pos) (abK ta):=by
 intro pins s σ H Q I h;refine UnaryOp_ (aV (ha pins s σ H _ I h) fun v s1 ⟨x,H1,I1,r1,q1⟩=>?_);obtain⟨c,rfl,q1⟩:=q1;cases r1;exact not_of (afo ⟨.bl (!c),H1,I1,rfl,q1⟩)
noncomputable def tIf(t:TT)(ta tb:TE):TE:=fun σ H Q=>t σ H fun c H1=>if c=true then ta σ H1 Q else tb σ H1 Q
theorem V0{c:Expr}(hc:PT X c tA)(ha:PE X a ta)(hb:PE X b tb):PE X (.IfExp c a b pos) (tIf tA ta tb):=by
 intro pins s σ H Q I h;refine wpAny_IfExp (aV (hc pins s σ H _ I h) fun d s1 ⟨H1,I1,q1⟩=>?_);cases d with
 | true=>exact ha pins s1 σ H1 Q I1 q1
 | false=>exact hb pins s1 σ H1 Q I1 q1
end
noncomputable def bC(K:acs)(H:Hp)(a:Addr)(xs:List V):Prop:=
 Rd H a (.lst xs) \/
  ∃(o:Obj) (its:Array Value) (n:Nat),K.lookup a=some o/\o.cls=.type "list"/\o.dict=none/\o.data=.seq its n/\its.size<=aeD/\Vals xs its.toList
noncomputable def bJ(K:acs)(H:Hp)(a:Addr)(xs:List V):Prop:=
 Rd H a (.tup xs) \/
  ∃(o:Obj) (its:Array Value) (n:Nat),K.lookup a=some o/\o.cls=.type "tuple"/\o.data=.seq its n/\its.size<=aeD/\Vals xs its.toList
noncomputable def ac5:Value->Option V
 | .none=>some .aE
 | .bool b=>some (.bl b)
 | .int i _=>some (.int i)
 | .str x _=>some (.str x)
 | .bytes b _=>some (.pU b)
 | .float b _=>some (.xm b)
 | .ref a=>some (.ref a)
 | .type n=>some (.ty n)
 | _=>none
theorem RelV.abs{x:V}{u:Value}(r:RelV x u):ac5 u=some x:=by
 cases x with
 | aE=>cases r;rfl
 | bl _=>cases r;rfl
 | int _=>obtain⟨t,rfl⟩:=r;rfl
 | str _=>obtain⟨t,rfl⟩:=r;rfl
 | pU _=>obtain⟨t,rfl⟩:=r;rfl
 | xm _=>obtain⟨t,rfl⟩:=r;rfl
 | ref _=>cases r;rfl
 | ty _=>cases r;rfl
theorem RelV.inj{x y:V}{u:Value}(r:RelV x u)(q:RelV y u):x=y:=afn (r.abs.symm.trans q.abs)
theorem Vals.inj:∀{xs ys:List V} {us:List Value},Vals xs us->Vals ys us->xs=ys
 | _,_,_,.nil,.nil=>rfl
 | _,_,_,.cons r t,.cons r' t'=>by rw[r.inj r',Vals.inj t t']
section
variable{X:Cx}{pins:List (Addr×Obj)}{σ:St}{H:Hp}{s:aem}{a:Addr}{xs ys:List V}
theorem bC.of{K:acs}(h:H a=some (.lst xs)):bC K H a xs:=.inl (.inl h)
theorem bJ.of{K:acs}(h:H a=some (.tup xs)):bJ K H a xs:=.inl (.inl h)
theorem Inv.list(I:Inv X pins σ H s)(h:bC X.K H a xs):∃its:List Value,Vals xs its/\PlainL s.heap a its.toArray/\xs.length<=sizeLine:=by
 rcases h with h | ⟨o,its,n,hk,hc,hd,hs,hz,r⟩
 ·obtain⟨z,its,n,r,e⟩:=h.ok I.aI;exact⟨its,r,⟨_,n,e,rfl,rfl,rfl⟩,z⟩
 ·refine⟨its.toList,r,⟨o,n,I.dC a o hk,hc,hd,by simpa using hs⟩,?_⟩;have e:=r.length;simp only[ahg] at e;omega
theorem Inv.tuple(I:Inv X pins σ H s)(h:bJ X.K H a xs):∃its:List Value,Vals xs its/\IsTup s.heap a its.toArray/\xs.length<=sizeLine:=by
 rcases h with h | ⟨o,its,n,hk,hc,hs,hz,r⟩
 ·obtain⟨z,its,r,p⟩:=h.ok I.aI;exact⟨its,r,p,z⟩
 ·refine⟨its.toList,r,⟨o,I.dC a o hk,hc,n,by simpa using hs⟩,?_⟩;have e:=r.length;simp only[ahg] at e;omega
theorem Inv.Ee(I:Inv X pins σ H s)(h:bC X.K H a xs)(h':bC X.K H a ys):xs=ys:=by
 obtain⟨its,r,⟨o,n,e,_,_,d⟩,_⟩:=I.list h;obtain⟨its',r',⟨o',n',e',_,_,d'⟩,_⟩:=I.list h';rw[e] at e';cases e';rw[d] at d';injection d' with d1 _
 have:its=its':=by simpa using congrArg ajE d1
 subst this;exact r.inj r'
theorem Inv.yR(I:Inv X pins σ H s)(h:bJ X.K H a xs)(h':bJ X.K H a ys):xs=ys:=by
 obtain⟨its,r,⟨o,e,_,n,d⟩,_⟩:=I.tuple h;obtain⟨its',r',⟨o',e',_,n',d'⟩,_⟩:=I.tuple h';rw[e] at e';cases e';rw[d] at d';injection d' with d1 _
 have:its=its':=by simpa using congrArg ajE d1
 subst this;exact r.inj r'
end
section
variable{X:Cx}{st:Stmt}{rest:List Stmt}{t u:TS}{e:Expr}{te:TE}{pos:Pos}
noncomputable def abM:TS:=fun D σ H=>D.nx σ H
noncomputable def Ht(t u:TS):TS:=fun D σ H=>t { D with nx:=u D } σ H
theorem W9:fX X [] abM:=fun _ _ σ H _ I h=>ahj ⟨σ,H,I,h⟩
theorem V1(h1:PS X st t)(h2:fX X rest u):fX X (st::rest) (Ht t u):=by
 intro pins s σ H D I h;refine wpAny_execs_cons (aV (h1 pins s σ H { D with nx:=u D } I h) fun f s1 q=>?_);cases f with
 | next=>
  obtain⟨ay,H',I',q⟩:=q;exact h2 pins s1 ay H' D I' q
 | ret v=>exact q
 | brk=>exact q
 | cont=>exact q
theorem Xa(h1:PS X st t):fX X [st] t:=by
 intro pins s σ H D I h;refine wpAny_execs_cons (aV (h1 pins s σ H D I h) fun f s1 q=>?_);cases f with
 | next=>exact ahj q
 | ret v=>exact q
 | brk=>exact q
 | cont=>exact q
theorem Inv.quiet{pins:List (Addr×Obj)}{σ:St}{H:Hp}{s:aem}(I:Inv X pins σ H s):interactive X.env=false:=by simp[interactive,I.ok.kind]
noncomputable def abN(te:TE):TS:=fun D σ H=>te σ H fun _ H1=>D.nx σ H1
theorem Xb(he:PE X e te)(hs:agL e none pos.line X.env=pure false:=by rfl):PS X (.Expr e pos) (abN te):=by
 intro pins s σ H D I h;exact wpAny_Expr_any (aV (he pins s σ H _ I h) fun v s1 ⟨x,H1,I1,r1,q1⟩=>⟨σ,H1,I1,q1⟩) I.quiet hs
noncomputable def ac6(te:TE):TS:=fun D σ H=>te σ H D.rt
theorem Zg(he:PE X e te):PS X (.Return (some e) pos) (ac6 te):=by
 intro pins s σ H D I h;exact wpAny_Return_some (aV (he pins s σ H _ I h) fun v s1 ⟨x,H1,I1,r1,q1⟩=>⟨x,σ,H1,I1,r1,q1⟩)
noncomputable def ac7(c:TT)(t u:TS):TS:=fun D σ H=>c σ H fun b H1=>if b=true then t D σ H1 else u D σ H1
theorem abO{c:Expr}{a b:List Stmt}{tc:TT}(hc:PT X c tc)(ha:fX X a t)(hb:fX X b u):PS X (.If c a b pos) (ac7 tc t u):=by
 intro pins s σ H D I h;refine wpAny_If (aV (hc pins s σ H _ I h) fun d s1 ⟨H1,I1,q1⟩=>?_);cases d with
 | true=>exact ha pins s1 σ H1 D I1 q1
 | false=>exact hb pins s1 σ H1 D I1 q1
noncomputable def Zh:TS:=fun _ _ _=>False
theorem V2:PS X st Zh:=fun _ _ _ _ _ _ h=>h.elim
end
abbrev TG:=V->St->Hp->(St->Hp->Prop)->Prop
abbrev kh:=List V->St->Hp->(St->Hp->Prop)->Prop
noncomputable def PG(X:Cx)(target:Expr)(t:TG):Prop:=
 ∀(pins:List (Addr×Obj)) (s:aem) (σ:St) (H:Hp) (v:V) (u:Value) (Q:St->Hp->Prop),Inv X pins σ H s->RelV v u->t v σ H Q →
  wpAny (model X.prog X.w) X.A (aiU target X.env u) (fun _ s'=>∃ay H',Inv X pins ay H' s'/\Q ay H') X.xe s
noncomputable def gH(X:Cx)(ts:List Expr)(t:kh):Prop:=
 ∀(pins:List (Addr×Obj)) (s:aem) (σ:St) (H:Hp) (vs:List V) (us:List Value) (Q:St->Hp->Prop),Inv X pins σ H s->Vals vs us->t vs σ H Q →
  wpAny (model X.prog X.w) X.A (assignInOrder ((afK ts X.env).map (·.2)) us) (fun _ s'=>∃ay H',Inv X pins ay H' s'/\Q ay H') X.xe s
abbrev wK:=V->V->V->Hp->(Hp->Prop)->Prop
noncomputable def lp(X:Cx)(t:wK):Prop:=
 ∀(pins:List (Addr×Obj)) (s:aem) (σ:St) (H:Hp) (o i v:V) (ov iv u:Value) (Q:Hp->Prop),Inv X pins σ H s->RelV o ov->RelV i iv->RelV v u->t o i v H Q →
  wpAny (model X.prog X.w) X.A (setItem ov iv u) (fun _ s'=>∃H',Inv X pins σ H' s'/\Q H') X.xe s
section
variable{X:Cx}{pos:Pos}
noncomputable def Af(i:Nat):TG:=fun v σ H Q=>Q (σ.set i (some v)) H
theorem Xc{i:Nat}{x:Str}(hN:X.N.Nodup)(hi:X.N[i]? =some x)(hx:Loc X.env.scope x)(hf:(X.fn x=true\/X.env.scope.names.lookup x=some .local)/\jz X x):PG X (.Name x pos) (Af i):=by
 intro pins s σ H v u Q I r h;exact wpAny_assign_Name (Ed I hN hi hx r (fun s' I'=>⟨_,H,I',h⟩) hf)
noncomputable def ac8:kh:=fun vs σ H Q=>vs=[]/\Q σ H
noncomputable def abP(t:TG)(u:kh):kh:=fun vs σ H Q=>∃v r,vs=v::r/\t v σ H fun ay H'=>u r ay H' Q
theorem Xd:gH X [] ac8:=by
 intro pins s σ H vs us Q I r h;obtain⟨e,h⟩:=h;subst e;cases r;exact assignInOrder_nil ⟨σ,H,I,h⟩
theorem V3{e:Expr}{es:List Expr}{t:TG}{u:kh}(h1:PG X e t)(h2:gH X es u)
  (hs:(afK (e::es) X.env).map (·.2)=aiU e X.env::(afK es X.env).map (·.2):=by rfl):gH X (e::es) (abP t u):=by
 intro pins s σ H vs us Q I r h;obtain⟨v,vr,e1,h⟩:=h;subst e1;cases r with
 | cons r rr=>
  rw[hs];refine assignInOrder_cons (aV (h1 pins s σ H _ _ _ I r h) fun _ s1 ⟨σ1,H1,I1,q1⟩=>?_);exact h2 pins s1 σ1 H1 _ _ Q I1 rr q1
noncomputable def ac9(K:acs)(n:Nat)(t:kh):TG:=fun v σ H Q=>∃a xs,v=.ref a/\bJ K H a xs/\xs.length=n/\t xs σ H Q
theorem Zi{es:List Expr}{k:Nat}{t:kh}{n:Nat}(hc:X.calm=true)(h:gH X es t)
  (hn:(afK es X.env).length=n:=by rfl) (g8:(afK es X.env).findIdx? (·.1)=none:=by rfl):PG X (.Tuple es k pos) (ac9 X.K n t):=by
 intro pins s σ H v u Q I r hw;obtain⟨a,xs,e1,hq,hl,hw⟩:=hw;subst e1;cases r;obtain⟨its,rv,ht,hz⟩:=I.tuple hq;refine assign_Tuple_tuple (I.ok.hd hc) ht (by simp[hn,<- hl,rv.length]) g8 fun h' hx=>?_
 have I1:Inv X pins σ H { s with heap:=h' }:=I.kept (t':=s.toks) fun b o e=>hx b o (afi (aex e)) e
 exact h pins _ σ H xs _ Q I1 (by simpa using rv) hw
noncomputable def ada(to ti:TE)(t:wK):TG:=fun v σ H Q=>to σ H fun o H1=>ti σ H1 fun i H2=>t o i v H2 fun H3=>Q σ H3
theorem Zj{o i:Expr}{to ti:TE}{t:wK}(ho:PE X o to)(hi:PE X i ti)(hs:lp X t)
  (ha:∀v,aiU (.Subscript o i pos) X.env v=(do
   let ov <- aja [v] (eval o X.env)
   let iv <- aja [v,ov] (eval i X.env)
   standAt pos
   aja [v,ov,iv] (setItem ov iv v)
   release [v,ov,iv] []):=by intro _;rfl):PG X (.Subscript o i pos) (ada to ti t):=by
 intro pins s σ H v u Q I r h;rw[ha];refine aeh (agV (aV (ho pins s σ H _ I h) fun ov s1 ⟨x,H1,I1,r1,q1⟩=>?_));refine aeh (agV (aV (hi pins s1 σ H1 _ I1 q1) fun iv s2 ⟨y,H2,I2,r2,q2⟩=>?_));refine aeh (wpAny_standAt (aeh (agV (aV (hs pins s2 σ H2 x y v ov iv u _ I2 r1 r2 r q2) fun _ s3 ⟨H3,I3,q3⟩=>?_))));exact wpAny_release ⟨σ,H3,I3,q3⟩
noncomputable def wL(te:TE)(g:TG):TS:=fun D σ H=>te σ H fun x H1=>g x σ H1 D.nx
theorem Zk{tg e:Expr}{te:TE}{g:TG}(he:PE X e te)(hg:PG X tg g)(hs:swapsWithSole [tg] e pos.line X.env=pure false:=by rfl)(hw:swappedStores [tg] e X.env=pure none:=by rfl)
  (h1:(afK [tg] X.env).map (·.2)=[aiU tg X.env]:=by rfl):PS X (.Assign [tg] e pos) (wL te g):=by
 intro pins s σ H D I h;refine wpAny_Assign_stores (aV (he pins s σ H _ I h) fun v s1 ⟨x,H1,I1,r1,q1⟩=>?_) hs hw;rw[h1];exact aV (hg pins s1 σ H1 x v _ I1 r1 q1) fun _ s2 q=>q
theorem Zl{i:Nat}{x:Str}{e:Expr}{te:TE}{pos':Pos}(hN:X.N.Nodup)(hi:X.N[i]? =some x)(hx:Loc X.env.scope x)(he:PE X e te)(hs:agL e (some (.Name x pos')) pos.line X.env=pure false:=by rfl)(hf:(X.fn x=true\/X.env.scope.names.lookup x=some .local)/\jz X x) :
  PS X (.Assign [.Name x pos'] e pos) (wL te (Af i)):=by
 intro pins s σ H D I h;refine wpAny_Assign_Name (aV (he pins s σ H _ I h) fun v s1 ⟨y,H1,I1,r1,q1⟩=>?_) hs;exact Ed I1 hN hi hx r1 (fun s2 I2=>⟨_,H1,I2,q1⟩) hf
end
section
variable{X:Cx}{pos:Pos}
noncomputable def FK(c:TT)(tb:TS):TS:=fun D σ H=>∃W:Nat->St->Hp->Prop,(∃m,W m σ H)/\∀m σ H,W m σ H →
 c σ H fun b H1=>if b=true then ∃N:St->Hp->Prop,(∀ay H',N ay H'->∃m',m'<m/\W m' ay H')/\tb { D with nx:=N,ct:=N,bk:=D.nx } σ H1 else D.nx σ H1
theorem V4{c:Expr}{body:List Stmt}{tc:TT}{tb:TS}(hp:aiA (model X.prog X.w) X.A X.env X.xe)(hc:PT X c tc)(hb:fX X body tb):PS X (.While c body [] pos) (FK tc tb):=by
 intro pins s σ H D I h;obtain⟨W,⟨m0,w0⟩,turn⟩:=h;refine wpAny_While (codeAny_whileLoop (fun n s'=>∃ay H',Inv X pins ay H' s'/\W n ay H') ?_ m0 ⟨σ,H,I,w0⟩);rintro n s1 ⟨σ1,H1,I1,w1⟩;refine agt hp (aV (hc pins s1 σ1 H1 _ I1 (turn n σ1 H1 w1)) fun b s2 ⟨H2,I2,q2⟩=>?_);cases b with
 | true=>
  obtain⟨N,hN,q2⟩:=q2;rw[if_pos rfl];refine agt hp (aV (hb pins s2 σ1 H2 _ I2 q2) fun f s3 q3=>?_);cases f with
  | next=>
   obtain⟨fi,H3,I3,n3⟩:=q3;obtain⟨m',hm,w3⟩:=hN fi H3 n3;exact⟨m',hm,fi,H3,I3,w3⟩
  | cont=>
   obtain⟨fi,H3,I3,n3⟩:=q3;obtain⟨m',hm,w3⟩:=hN fi H3 n3;exact⟨m',hm,fi,H3,I3,w3⟩
  | brk=>exact q3
  | ret v=>exact q3
 | false=>
  rw[if_neg aeK];exact ahj ⟨σ1,H2,I2,q2⟩
end
structure It where
 go:Nat->Hp->Prop
 sy:Nat->Hp->V->Hp->Prop
 stop:Nat->Hp->Prop
noncomputable def iq(X:Cx)(pins:List (Addr×Obj))(H:Hp)(b:Addr):Prop:=
 H b=none/\b≠X.env.locals/\b∉X.fs/\(b∈X.ex\/X.aN.heap.objs.size<=b)/\(∀x c,X.env.cells.lookup x=some c->c≠b)/\∀p∈X.pn++pins,p.1≠b
theorem Inv.pB{pins:List (Addr×Obj)}{σ:St}{H':Hp}{s:aem}(I:Inv X pins σ H s)(hb:s.heap.objs.size<=b)(hn:H' b=none):iq X pins H' b:=by
 refine⟨hn,ahh (aeB I.lt hb),I.acZ hb,.inr (aeW I.sz hb),fun x c e z=>?_,fun p hp z=>?_⟩
 ·obtain⟨v,q⟩:=I.cell x c e;exact absurd (aeB q.lt (by rw[z];exact hb)) (agj _)
 ·exact absurd (aeB (aex (I.pin p hp).1) (by rw[z];exact hb)) (agj _)
structure Turn(P:afm)(w:World)(K:acs)(tg:Expr)(J:It)(fp:List Addr)(it:Addr)(tn:Nat->Heap->Prop):Prop where
 mem:it∈fp
 obj:∀i h,tn i h->∀b∈fp,∃o,h.get? b=some o/\∀v,o.data≠.cell v
 keep:∀i h h',tn i h->(∀b∈fp,∀o,h.get? b=some o->h'.get? b=some o)->tn i h'
 item:∀(X:Cx),X.prog=P->X.w=w->X.K=K->X.calm=true->∀(i:Nat) (pins:List (Addr×Obj)) (s:aem) (σ:St) (H:Hp) (E:Value->aem->Prop),Inv X pins σ H s->(∀b∈fp,iq X pins H b)->tn i s.heap->J.go i H →
  wpAny (model P w) X.A (pyNext (.ref it)) (fun r s1=>∃u,r=some u /\
   wpAny (model P w) X.A (ahI tg (.ref it) u) (fun _ s2=>∃x H',Inv X pins σ H' s2/\RelV x u/\J.sy i H x H'/\tn (i+1) s2.heap/\∀b∈fp,H' b=none) E s1) E s
 done:∀(X:Cx),X.prog=P->X.w=w->X.K=K->X.calm=true->∀(i:Nat) (pins:List (Addr×Obj)) (s:aem) (σ:St) (H:Hp) (E:Value->aem->Prop),Inv X pins σ H s->(∀b∈fp,iq X pins H b)->tn i s.heap->J.stop i H →
  wpAny (model P w) X.A (pyNext (.ref it)) (fun r s1=>r=none/\Inv X pins σ H s1) E s
 self:∀(A:afU) (i:Nat) (s:aem) (Q:Value->aem->Prop) (E:Value->aem->Prop),tn i s.heap->Q (.ref it) s->wpAny (model P w) A (pyIter (.ref it)) Q E s
abbrev TI:=St->Hp->(It->Hp->Prop)->Prop
noncomputable def Iv(X:Cx)(pins:List (Addr×Obj))(σ:St)(tg:Expr)(R:It->Hp->Prop)(A9:Value)(s2:aem):Prop:=
 ∃(it:Addr) (fp:List Addr) (tn:Nat->Heap->Prop) (J:It) (H':Hp),A9=.ref it/\Inv X pins σ H' s2/\Turn X.prog X.w X.K tg J fp it tn/\tn 0 s2.heap/\(∀b∈fp,iq X pins H' b)/\R J H'
noncomputable def PI(X:Cx)(tg iter:Expr)(wi:TI):Prop:=
 ∀(pins:List (Addr×Obj)) (s:aem) (σ:St) (H:Hp) (R:It->Hp->Prop),Inv X pins σ H s->wi σ H R →
  wpAny (model X.prog X.w) X.A (eval iter X.env) (fun v s1=>wpAny (model X.prog X.w) X.A (pyIter v) (Iv X pins σ tg R) X.xe s1) X.xe s
variable{tg:Expr}
theorem vY {M : Model} {E : Value -> aem -> Prop} {s : aem} {it : Addr} {u : Value} {o : Obj} {n : String} {vs : Array Value} {Q : Unit -> aem -> Prop} (ho : s.heap.get? it = some o) (hc : o.cls = .type n) (hd : o.data = .fields vs)
    (hn : ["enumerate", "zip", "dict_itemiterator", "dict_reverseitemiterator", "odict_iterator", "itertools.zip_longest", "itertools.pairwise"].contains n = false) (hQ : Q () s) : wpAny M A (ahI tg (.ref it) u) Q E s := by
  unfold ahI;cases tg <;> first
    | exact aes hQ
    | (cases u <;> first
        | exact aes hQ
        | (refine aeh (wpAny_load ho ?_)
           rw [hc, hd];show wpAny M A (if (["enumerate", "zip", "dict_itemiterator", "dict_reverseitemiterator", "odict_iterator", "itertools.zip_longest", "itertools.pairwise"].contains n && vs[0]? == some (rawInt _)) = true then _ else _) Q E s;rw [if_neg (by intro h; rw [hn, aiV] at h; cases h)];exact aes hQ))
noncomputable def Iw(K:acs)(a:Addr):It:=
 ⟨fun i H=>∃xs x,bC K H a xs/\xs[i]? =some x,fun i H x H'=>H'=H/\∀xs,bC K H a xs->xs[i]? =some x,fun i H=>∃xs,bC K H a xs/\xs.length<=i⟩
noncomputable def Iy(K:acs)(a:Addr):It:=
 ⟨fun i H=>∃xs x,bJ K H a xs/\xs[i]? =some x,fun i H x H'=>H'=H/\∀xs,bJ K H a xs->xs[i]? =some x,fun i H=>∃xs,bJ K H a xs/\xs.length<=i⟩
noncomputable def xr(lo:Int)(n:Nat):It:=⟨fun i _=>i<n,fun i H x H'=>H'=H/\x=.int (lo+i),fun i _=>n<=i⟩
variable{K:acs}
theorem Uv{w:World}(a it:Addr):Turn P w K tg (Iw K a) [it] it (fun i h=>h.IsListIter it a i) where
 mem:=by simp
 obj:=fun i h st b hb=>by
  have e:b=it:=by simpa using hb
  subst e;obtain⟨o,e,c,d⟩:=st;exact⟨o,e,fun v z=>by rw[d] at z;cases z⟩
 keep:=fun i h h' st k=>st.at fun o e=>k it (by simp) o e
 item:=by
  intro X hP hw hK hc i pins s σ H E I hf st hg;subst hP hw hK;obtain⟨xs,x,hq,hx⟩:=hg;obtain⟨its,rv,p,hz⟩:=I.list hq;obtain⟨u,hu,ru⟩:=rv.get hx;obtain⟨f0,f1,f2,f3,f4,f5⟩:=hf it (by simp);refine wpAny_pyNext_list_item st p.isList (x:=u) (by simpa using hu) fun h' dD sb=>?_
  have I1:Inv X pins σ H { s with heap:=h' }:=I.turned (t':=s.toks) (fun b o hb e=>(sb.2 b hb).trans e) f0 f1 f3 f4 f5;obtain⟨o,e,c,d⟩:=id dD;exact⟨u,rfl,vY (s:={ s with heap:=h' }) e c d (by decide) ⟨x,H,I1,ru,⟨rfl,fun ys hy=>by rw[I.Ee hy hq];exact hx⟩,dD,fun b hb=>(hf b hb).1⟩⟩
 done:=by
  intro X hP hw hK hc i pins s σ H E I hf st hg;subst hP hw hK;obtain⟨xs,hq,hx⟩:=hg;obtain⟨its,rv,p,hz⟩:=I.list hq;obtain⟨f0,f1,f2,f3,f4,f5⟩:=hf it (by simp);have hl:=rv.length;exact wpAny_pyNext_list_end (I.ok.hd hc) st p.isList (by simp;omega) fun h' eb=>⟨rfl,I.turned (t':=s.toks) (fun b o hb e=>eb b o hb e) f0 f1 f3 f4 f5⟩
 self:=fun _ _ _ _ _ st h=>wpAny_pyIter_listiter st h
theorem SV{w:World}(a it:Addr):Turn P w K tg (Iy K a) [it] it (fun i h=>h.IsTupleIter it a i) where
 mem:=by simp
 obj:=fun i h st b hb=>by
  have e:b=it:=by simpa using hb
  subst e;obtain⟨o,e,c,d⟩:=st;exact⟨o,e,fun v z=>by rw[d] at z;cases z⟩
 keep:=fun i h h' st k=>st.at fun o e=>k it (by simp) o e
 item:=by
  intro X hP hw hK hc i pins s σ H E I hf st hg;subst hP hw hK;obtain⟨xs,x,hq,hx⟩:=hg;obtain⟨its,rv,p,hz⟩:=I.tuple hq;obtain⟨u,hu,ru⟩:=rv.get hx;obtain⟨f0,f1,f2,f3,f4,f5⟩:=hf it (by simp);refine wpAny_pyNext_tuple_item st (show s.heap.IsTuple a its.toArray from p) (x:=u) (by simpa using hu) fun h' dD sb=>?_
  have I1:Inv X pins σ H { s with heap:=h' }:=I.turned (t':=s.toks) (fun b o hb e=>(sb.2 b hb).trans e) f0 f1 f3 f4 f5;obtain⟨o,e,c,d⟩:=id dD;exact⟨u,rfl,vY (s:={ s with heap:=h' }) e c d (by decide) ⟨x,H,I1,ru,⟨rfl,fun ys hy=>by rw[I.yR hy hq];exact hx⟩,dD,fun b hb=>(hf b hb).1⟩⟩
 done:=by
  intro X hP hw hK hc i pins s σ H E I hf st hg;subst hP hw hK;obtain⟨xs,hq,hx⟩:=hg;obtain⟨its,rv,p,hz⟩:=I.tuple hq;obtain⟨f0,f1,f2,f3,f4,f5⟩:=hf it (by simp);have hl:=rv.length;exact wpAny_pyNext_tuple_end (I.ok.hd hc) st (show s.heap.IsTuple a its.toArray from p) (by simp;omega) fun h' eb=>⟨rfl,I.turned (t':=s.toks) (fun b o hb e=>eb b o hb e) f0 f1 f3 f4 f5⟩
 self:=fun _ _ _ _ _ st h=>wpAny_pyIter_tupleiter st h
theorem SW{w:World}(it:Addr)(lo:Int)(n:Nat):Turn P w K tg (xr lo n) [it] it (fun i h=>IsRangeIter h it (lo+(i:Nat)*1) ((n:Int)-(i:Nat)) 1) where
 mem:=by simp
 obj:=fun i h st b hb=>by
  have e:b=it:=by simpa using hb
  subst e;exact⟨_,st,fun v z=>by
   have z':Data.fields _=Data.cell v:=z;cases z'⟩
 keep:=fun i h h' st k=>k it (by simp) _ st
 item:=by
  intro X hP hw hK hc i pins s σ H E I hf st hg;subst hP hw hK;obtain⟨f0,f1,f2,f3,f4,f5⟩:=hf it (by simp);have W:=Walks.range (prog:=X.prog) (w:=X.w) (I.ok.hd hc) it lo 1 n;refine W.item i s _ _ hg st fun v h' tk hv dD kk=>?_
  obtain⟨t,rfl⟩:=hv;have I1:Inv X pins σ H { s with heap:=h',toks:=tk }:=I.turned (fun b o hb e=>kk b o (by simpa using hb) e) f0 f1 f3 f4 f5;refine⟨_,rfl,vY (s:={ s with heap:=h',toks:=tk }) (n:="range_iterator") dD rfl rfl (by decide) ⟨.int (lo+i),H,I1,⟨t,?_⟩,⟨rfl,rfl⟩,dD,fun b hb=>(hf b hb).1⟩⟩;rw[Int.mul_one]
 done:=by
  intro X hP hw hK hc i pins s σ H E I hf st hg;subst hP hw hK;obtain⟨f0,f1,f2,f3,f4,f5⟩:=hf it (by simp);exact wpAny_pyNext_range_end (I.ok.hd hc) st (by have:n<=i:=hg;omega) fun h' eb=>⟨rfl,I.turned (t':=s.toks) (fun b o hb e=>eb b o hb e) f0 f1 f3 f4 f5⟩
 self:=fun _ _ _ _ _ st h=>wpAny_pyIter_rangeiter st h
section
variable{X:Cx}{tg:Expr}
noncomputable def abQ(K:acs)(tl:TE):TI:=fun σ H R=>tl σ H fun x H1=>∃a,x=.ref a/\(∃xs,bC K H1 a xs)/\R (Iw K a) H1
noncomputable def adb(K:acs)(tl:TE):TI:=fun σ H R=>tl σ H fun x H1=>∃a,x=.ref a/\(∃xs,bJ K H1 a xs)/\R (Iy K a) H1
theorem Xe{l:Expr}{tl:TE}(hl:PE X l tl):PI X tg l (abQ X.K tl):=by
 intro pins s σ H R I h;refine aV (hl pins s σ H _ I h) fun v s1 ⟨x,H1,I1,r1,q1⟩=>?_
 obtain⟨a,e,⟨xs,hq⟩,q⟩:=q1;subst e;cases r1;obtain⟨its,rv,p,hz⟩:=I1.list hq;refine wpAny_pyIter_list p.isList ?_;refine⟨s1.heap.objs.size,[s1.heap.objs.size],_,_,H1,rfl,I1.kept (t':=s1.toks) fun b o e=>aek _ e,Uv a _,⟨_,aeN _ rfl,rfl,rfl⟩,fun b hb=>?_,q⟩;have e:b=s1.heap.objs.size:=by simpa using hb
 subst e;exact I1.pB (aeq _) (I1.aI.fresh (aeq _))
theorem Zm{l:Expr}{tl:TE}(hl:PE X l tl):PI X tg l (adb X.K tl):=by
 intro pins s σ H R I h;refine aV (hl pins s σ H _ I h) fun v s1 ⟨x,H1,I1,r1,q1⟩=>?_
 obtain⟨a,e,⟨xs,hq⟩,q⟩:=q1;subst e;cases r1;obtain⟨its,rv,p,hz⟩:=I1.tuple hq;refine ahP (show s1.heap.IsTuple a its.toArray from p) ?_;refine⟨s1.heap.objs.size,[s1.heap.objs.size],_,_,H1,rfl,I1.kept (t':=s1.toks) fun b o e=>aek _ e,SV a _,⟨_,aeN _ rfl,rfl,rfl⟩,fun b hb=>?_,q⟩;have e:b=s1.heap.objs.size:=by simpa using hb
 subst e;exact I1.pB (aeq _) (I1.aI.fresh (aeq _))
variable{σ:St}{H:Hp}
theorem V5{pins:List (Addr×Obj)}{s:aem}{R:It->Hp->Prop}{E:Value->aem->Prop}{lo hi:Int}{t u v:Tok}{tk:Nat}(I:Inv X pins σ H s)(h1: -(2 ^ 62)<=lo)(h2:lo<2 ^ 62)(h3: -(2 ^ 62)<=hi)(h4:hi<2 ^ 62)
  (q:R (xr lo (hi-lo).toNat) H):wpAny (model X.prog X.w) X.A (pyIter (.ref s.heap.objs.size)) (Iv X pins σ tg R) E { s with heap:=s.heap.push { cls:=.type "range",data:=.fields #[.int lo t,.int hi u,.int 1 v] },toks:=tk }:=by
 refine wpAny_pyIter_range (IsRange.new ..) (small_one h1 h2 h3 h4) ?_;have I1:Inv X pins σ H { s with heap:=s.heap.push { cls:=.type "range",data:=.fields #[.int lo t,.int hi u,.int 1 v] },toks:=tk }:=I.kept fun b o e=>aek _ e
 refine⟨(s.heap.push { cls:=.type "range",data:=.fields #[.int lo t,.int hi u,.int 1 v] }).objs.size,[(s.heap.push { cls:=.type "range",data:=.fields #[.int lo t,.int hi u,.int 1 v] }).objs.size],_,_,H,rfl,
  I1.kept (t':=tk) fun b o e=>aek _ e,SW _ lo (hi-lo).toNat,?_,fun b hb=>?_,q⟩
 ·have e1:lo+((0:Nat):Int)*1=lo:=by simp
  have e2:(((hi-lo).toNat:Nat):Int)-((0:Nat):Int)=Builtin.Range.rangeSize lo hi 1:=by rw[rangeSize_one];split <;> omega
  show IsRangeIter _ _ (lo+((0:Nat):Int)*1) ((((hi-lo).toNat:Nat):Int)-((0:Nat):Int)) 1;rw[e1,e2];exact aeN _ rfl
 ·have e:b=(s.heap.push { cls:=.type "range",data:=.fields #[.int lo t,.int hi u,.int 1 v] }).objs.size:=by simpa using hb
  subst e;exact I1.pB (aeq _) (I1.aI.fresh (aeq _))
noncomputable def abR(ta:TA):TI:=fun σ H R=>ta σ H fun vs H1=>∃j:Int,vs=[.int j]/\ -(2 ^ 62)<=j/\j<2 ^ 62/\R (xr 0 j.toNat) H1
theorem Uw{a:Expr}{ta:TA}{p pos:Pos}(hg:Gl X "range")(hm:X.mg "range"=none)(ha:PA X [a] ta)(hs:aeS [a] X.env=[(false,eval a X.env)]:=by rfl):PI X tg (.Call (.Name "range" p) [a] [] pos) (abR ta):=by
 intro pins s σ H R I h;refine Call_ (oN I hg hm boot_range (aga (aV (ha pos pins s σ H _ I h) fun us s1 ⟨vs,H1,I1,r1,q1⟩=>?_) hs rfl));obtain⟨j,e,q1,q2,q⟩:=q1;subst e;cases r1 with
 | cons r rr=>
  cases rr;obtain⟨t,rfl⟩:=r;exact call_range_1 (V5 I1 (by omega) (by omega) q1 q2 (by simpa using q))
noncomputable def Hu(wi:TI)(g:TG)(tb:TS):TS:=fun D σ H=>wi σ H fun J H1=>∃W:Nat->Nat->St->Hp->Prop,(∃m,W 0 m σ H1)/\∀i m σ H,W i m σ H →
 (J.stop i H/\D.nx σ H)\/(J.go i H/\∃N:St->Hp->Prop,(∀ay H',N ay H'->∃m',m'<m/\W (i+1) m' ay H')/\∀x H',J.sy i H x H'->g x σ H' fun bM H2=>tb { D with nx:=N,ct:=N,bk:=D.nx } bM H2)
noncomputable def qV(fp:List Addr)(h:Heap):List (Addr×Obj):=fp.filterMap fun b=>(h.get? b).map fun o=>(b,o)
variable{fp:List Addr}
theorem ux{h:Heap}{b:Addr}{o:Obj}(hb:b∈fp)(e:h.get? b=some o):(b,o)∈qV fp h:=ahk.mpr ⟨b,hb,by rw[e];rfl⟩
theorem Ux{h:Heap}{p:Addr×Obj}(hp:p∈qV fp h):p.1∈fp/\h.get? p.1=some p.2:=by
 obtain⟨b,hb,e⟩:=ahk.mp hp;cases q:h.get? b with
 | none=>rw[q] at e;cases e
 | some o=>
  rw[q] at e;have e':(b,o)=p:=afn e;subst e';exact⟨hb,q⟩
theorem Inv.pinned{pins:List (Addr×Obj)}{s:aem}(I:Inv X pins σ H s)(hf:∀b∈fp,iq X pins H b)(ho:∀b∈fp,∃o,s.heap.get? b=some o/\∀v,o.data≠.cell v):Inv X (pins++qV fp s.heap) σ H s:=
 I.ET fun p hp=>(afs.mp hp).elim (fun z=>I.pin p (afe _ z)) fun z=>by
  obtain⟨hb,e⟩:=Ux z;obtain⟨f0,f1,f2,_⟩:=hf p.1 hb;obtain⟨o,e',d⟩:=ho p.1 hb;rw[e] at e';cases e';exact⟨e,f0,f1,f2,d⟩
theorem Inv.uY{pins pl:List (Addr×Obj)}{s:aem}(I:Inv X (pins++pl) σ H s):Inv X pins σ H s:=I.ET fun p hp=>I.pin p (afe _ (ahB _ hp))
theorem Zn{iter:Expr}{body:List Stmt}{wi:TI}{g:TG}{tb:TS}{pos:Pos}(hp:aiA (model X.prog X.w) X.A X.env X.xe)(hc:X.calm=true)(hi:PI X tg iter wi)(hg:PG X tg g)(hb:fX X body tb)
  (hs:∀x,afp iter X.env x=pure x:=by intro _;rfl):PS X (.For tg iter body [] pos) (Hu wi g tb):=by
 intro pins s σ H D I h;refine wpAny_For (aV (hi pins s σ H _ I h) fun v s1 h1=>aV h1 fun A9 s2 h2=>?_) hs;obtain⟨it,fp,tn,J,H2,e,I2,T,gJ,f2,W,⟨m0,w0⟩,turn⟩:=h2;subst e;have AJ:∀{H':Hp},(∀b∈fp,H' b=none)->∀b∈fp,iq X pins H' b:=fun hn b hb=>⟨hn b hb,(f2 b hb).2⟩
 refine codeAny_forLoop_any (fun n s'=>∃i ay H',Inv X pins ay H' s'/\tn i s'.heap/\(∀b∈fp,H' b=none)/\W i n ay H') ?_ m0 ⟨0,σ,H2,I2,gJ,fun b hb=>(f2 b hb).1,w0⟩;rintro n s3 ⟨i,fi,H3,I3,Iz,IB,w3⟩
 rcases turn i n fi H3 w3 with⟨stop,qn⟩ | ⟨go,N,hN,step⟩
 ·refine agt hp (aV (T.done X rfl rfl rfl hc i pins s3 fi H3 X.xe I3 (AJ IB) Iz stop) fun r s4 ⟨hr,I4⟩=>?_);subst hr;exact ahj ⟨fi,H3,I4,qn⟩
 ·refine agt hp (aV (T.item X rfl rfl rfl hc i pins s3 fi H3 X.xe I3 (AJ IB) Iz go) fun r s4 ⟨u,hr,h4⟩=>?_);subst hr;refine agt hp (aV h4 fun _ s5 ⟨x,H5,I5,r5,y5,pX,xt⟩=>?_);have I5':=I5.pinned (AJ xt) (T.obj _ _ pX);refine agt hp (aV (hg _ s5 fi H5 x u _ I5' r5 (step x H5 y5)) fun _ s6 ⟨ja,H6,I6,q6⟩=>?_);refine agt hp (aV (hb _ s6 ja H6 _ I6 q6) fun f s7 q7=>?_);have again:∀{jb:St} {H7:Hp},Inv X (pins++qV fp s5.heap) jb H7 s7->N jb H7->∃m,m<n/\∃i ay H',Inv X pins ay H' s7/\tn i s7.heap/\(∀b∈fp,H' b=none)/\W i m ay H':=fun{jb H7} I7 n7=>by
   obtain⟨m',hm,w7⟩:=hN jb H7 n7;refine⟨m',hm,i+1,jb,H7,I7.uY,T.keep _ _ _ pX fun b hb o e=>(I7.pin (b,o) (afe _ (afe _ (ux hb e)))).1,fun b hb=>?_,w7⟩;obtain⟨o,e,d⟩:=T.obj _ _ pX b hb;exact(I7.pin (b,o) (afe _ (afe _ (ux hb e)))).2.1
  cases f with
  | next=>obtain⟨jb,H7,I7,n7⟩:=q7;exact again I7 n7
  | cont=>obtain⟨jb,H7,I7,n7⟩:=q7;exact again I7 n7
  | brk=>obtain⟨jb,H7,I7,q7⟩:=q7;exact⟨jb,H7,I7.uY,q7⟩
  | ret v=>obtain⟨x7,jb,H7,I7,r7,q7⟩:=q7;exact⟨x7,jb,H7,I7.uY,r7,q7⟩
end
abbrev R2:=V->V->Hp->VK->Prop
noncomputable def bx(X:Cx)(f:Value->Value->Sem Value)(r:R2):Prop:=
 ∀(pins:List (Addr×Obj)) (s:aem) (σ:St) (H:Hp) (x y:V) (v u:Value) (Q:VK),Inv X pins σ H s->RelV x v->RelV y u->r x y H Q →
  wpAny (model X.prog X.w) X.A (f v u) (EP X pins σ Q) X.xe s
noncomputable def xu(X:Cx)(f:Value->Sem Value)(r:V->Hp->VK->Prop):Prop:=
 ∀(pins:List (Addr×Obj)) (s:aem) (σ:St) (H:Hp) (x:V) (v:Value) (Q:VK),Inv X pins σ H s->RelV x v->r x H Q →
  wpAny (model X.prog X.w) X.A (f v) (EP X pins σ Q) X.xe s
noncomputable def cR(X:Cx)(f:Value)(r:List V->Hp->VK->Prop):Prop:=
 ∀(pins:List (Addr×Obj)) (s:aem) (σ:St) (H:Hp) (xs:List V) (us:List Value) (Q:VK),Inv X pins σ H s->Vals xs us->r xs H Q →
  wpAny (model X.prog X.w) X.A (call f us) (EP X pins σ Q) X.xe s
noncomputable def ade(X:Cx)(r:V->Hp->(Bool->Hp->Prop)->Prop):Prop:=
 ∀(pins:List (Addr×Obj)) (s:aem) (σ:St) (H:Hp) (x:V) (v:Value) (Q:Bool->Hp->Prop),Inv X pins σ H s->RelV x v->r x H Q →
  wpAny (model X.prog X.w) X.A (truthy v) (TP X pins σ Q) X.xe s
noncomputable def nH(r:R2)(ta tb:TE):TE:=fun σ H Q=>ta σ H fun x H1=>tb σ H1 fun y H2=>r x y H2 Q
noncomputable def tUn(r:V->Hp->VK->Prop)(ta:TE):TE:=fun σ H Q=>ta σ H fun x H1=>r x H1 Q
noncomputable def rI(C:Int->Int->Prop)(g:Int->Int->V):R2:=fun x y H Q=>∃i j,x=.int i/\y=.int j/\C i j/\Q (g i j) H
noncomputable def i5(g:Int->Int->V):R2:=fun x y H Q=>∃i j,x=.int i/\y=.int j/\Q (g i j) H
noncomputable def rU(g:Int->V):V->Hp->VK->Prop:=fun x H Q=>∃i,x=.int i/\Q (g i) H
section
variable{X:Cx}{a b c:Expr}{ta tb tc:TE}{pos:Pos}
theorem wM(ha:PE X a ta)(hb:PE X b tb){pins:List (Addr×Obj)}{s:aem}{σ:St}{H:Hp}{R:V->V->Hp->Prop}(I:Inv X pins σ H s)
  (h:ta σ H fun x H1=>tb σ H1 fun y H2=>R x y H2) {Q:Value->aem->Prop} {f:Value->Value->Sem Value}
  (hf:∀v u s2 x y H2,Inv X pins σ H2 s2->RelV x v->RelV y u->R x y H2->wpAny (model X.prog X.w) X.A (f v u) Q X.xe s2) :
  wpAny (model X.prog X.w) X.A (eval a X.env) (fun v bL=>wpAny (model X.prog X.w) X.A (eval b X.env) (fun u sX=>wpAny (model X.prog X.w) X.A (f v u) Q X.xe sX) X.xe bL) X.xe s:=by
 refine aV (ha pins s σ H _ I h) fun v s1 ⟨x,H1,I1,r1,q1⟩=>?_
 refine aV (hb pins s1 σ H1 _ I1 q1) fun u s2 ⟨y,H2,I2,r2,q2⟩=>?_
 exact hf v u s2 x y H2 I2 r1 r2 q2
theorem abS{op:ajm}{r:R2}(ho:bx X (ahe op) r)(ha:PE X a ta)(hb:PE X b tb):PE X (.BinOp a op b pos) (nH r ta tb):=by
 intro pins s σ H Q I h;exact wpAny_BinOp (wM ha hb I h fun v u s2 x y H2 I2 rx ry q=>ho pins s2 σ H2 x y v u Q I2 rx ry q)
theorem abT{op:UnaryOp}{r:V->Hp->VK->Prop}(ho:xu X (unaryOp op) r)(ha:PE X a ta):PE X (.UnaryOp op a pos) (tUn r ta):=by
 intro pins s σ H Q I h;exact UnaryOp_ (aV (ha pins s σ H _ I h) fun v s1 ⟨x,H1,I1,r1,q1⟩=>ho pins s1 σ H1 x v Q I1 r1 q1)
variable{f:Value->Value->Sem Value}
theorem Ba{C:Int->Int->Prop}{g:Int->Int->Int}
  (rule:∀(i j:Int) (t u:Tok) (s:aem) (Q:Value->aem->Prop) (E:Value->aem->Prop),C i j->Q (.int (g i j) s.toks) { s with toks:=s.toks+1 }->wpAny (model X.prog X.w) X.A (f (.int i t) (.int j u)) Q E s) :
  bx X f (rI C fun i j=>.int (g i j)):=by
 intro pins s σ H x y v u Q I rx ry h;obtain⟨i,j,rfl,rfl,hc,q⟩:=h;obtain⟨t,rfl⟩:=rx;obtain⟨t',rfl⟩:=ry;exact rule i j t t' s _ _ hc ⟨.int (g i j),H,I.tok _,⟨_,rfl⟩,q⟩
theorem Hv{g:Int->Int->Int}
  (rule:∀(i j:Int) (t u:Tok) (s:aem) (Q:Value->aem->Prop) (E:Value->aem->Prop),Q (.int (g i j) s.toks) { s with toks:=s.toks+1 }->wpAny (model X.prog X.w) X.A (f (.int i t) (.int j u)) Q E s) :
  bx X f (i5 fun i j=>.int (g i j)):=by
 intro pins s σ H x y v u Q I rx ry h;obtain⟨i,j,rfl,rfl,q⟩:=h;obtain⟨t,rfl⟩:=rx;obtain⟨t',rfl⟩:=ry;exact rule i j t t' s _ _ ⟨.int (g i j),H,I.tok _,⟨_,rfl⟩,q⟩
theorem AK{g:Int->Int->Bool}
  (rule:∀(i j:Int) (t u:Tok) (s:aem) (Q:Value->aem->Prop) (E:Value->aem->Prop),Q (.bool (g i j)) s->wpAny (model X.prog X.w) X.A (f (.int i t) (.int j u)) Q E s) :
  bx X f (i5 fun i j=>.bl (g i j)):=by
 intro pins s σ H x y v u Q I rx ry h;obtain⟨i,j,rfl,rfl,q⟩:=h;obtain⟨t,rfl⟩:=rx;obtain⟨t',rfl⟩:=ry;exact rule i j t t' s _ _ ⟨.bl (g i j),H,I,rfl,q⟩
noncomputable def rO(i j:Int):Prop:=(-(2 ^ 64)<i/\i<2 ^ 64)\/(-(2 ^ 64)<j/\j<2 ^ 64)
theorem rO.ok{i j:Int}(h:rO i j):IntMulOk i j:=by
 rcases h with⟨h1,h2⟩ | ⟨h1,h2⟩
 ·exact .of_left (intBits_le_64 h1 h2)
 ·exact .of_right (intBits_le_64 h1 h2)
theorem Zo:bx X (ahe .Add) (i5 fun i j=>.int (i+j)):=Hv fun _ _ _ _ _ _ _ q=>add_int q
theorem Zp:bx X (ahe .Sub) (i5 fun i j=>.int (i-j)):=Hv fun _ _ _ _ _ _ _ q=>sub_int q
theorem Zq:bx X (ahe .Mult) (rI rO fun i j=>.int (i*j)):=Ba fun _ _ _ _ _ _ _ hc q=>mul_int q hc.ok
theorem Xf:bx X (ahe .Mod) (rI (fun _ j=>j≠0) fun i j=>.int (i.fmod j)):=Ba fun _ _ _ _ _ _ _ hc q=>mod_int' hc q
theorem unI{f:Value->Sem Value}{g:Int->Int}
  (rule:∀(i:Int) (t:Tok) (s:aem) (Q:Value->aem->Prop) (E:Value->aem->Prop),Q (.int (g i) s.toks) { s with toks:=s.toks+1 }->wpAny (model X.prog X.w) X.A (f (.int i t)) Q E s) :
  xu X f (rU fun i=>.int (g i)):=by
 intro pins s σ H x v Q I rx h;obtain⟨i,rfl,q⟩:=h;obtain⟨t,rfl⟩:=rx;exact rule i t s _ _ ⟨.int (g i),H,I.tok _,⟨_,rfl⟩,q⟩
theorem Zr:xu X (unaryOp .USub) (rU fun i=>.int (-i)):=unI fun _ _ _ _ _ q=>neg_int q
end
section
variable{X:Cx}{a b c:Expr}{ta tb tc:TE}{pos:Pos}
theorem FL{pins:List (Addr×Obj)}{σ:St}{H:Hp}{s:aem}{Q:VK}{k k':Bool}(I:Inv X pins σ H s)(q:Q (.bl k) H)(e:k=k'):EP X pins σ Q (.bool k') s:=by
 subst e;exact⟨.bl k,H,I,rfl,q⟩
theorem abU:bx X (afh .Lt) (i5 fun i j=>.bl (decide (i<j))):=AK fun _ _ _ _ _ _ _ q=>lt_int q
theorem abV:bx X (afh .LtE) (i5 fun i j=>.bl (decide (i<=j))):=AK fun _ _ _ _ _ _ _ q=>le_int q
theorem abW:bx X (afh .Gt) (i5 fun i j=>.bl (decide (j<i))):=AK fun _ _ _ _ _ _ _ q=>gt_int q
theorem Uy:bx X (afh .In) (fun x y H Q=>∃i j,x=.str i/\y=.str j/\Q (.bl (!(afS j i 0 j.length 1).isEmpty)) H):=by
 intro pins s σ H x y v u Q I rx ry h;obtain⟨i,j,rfl,rfl,q⟩:=h;obtain⟨t,rfl⟩:=rx;obtain⟨t',rfl⟩:=ry;exact in_str (FL I q rfl)
theorem Zs:bx X (afh .Is) (fun x y H Q=>y=.aE/\Q (.bl (decide (x=.aE))) H):=by
 intro pins s σ H x y v u Q I rx ry h;obtain⟨rfl,q⟩:=h;cases ry;refine is_none_gen (FL I q ?_);cases x <;> first
  | (cases rx;rfl)
  | (obtain⟨t,rfl⟩:=rx;rfl)
variable{r r':R2}
theorem bx.or{f:Value->Value->Sem Value}(h:bx X f r)(h':bx X f r'):bx X f (fun x y H Q=>r x y H Q\/r' x y H Q):=by
 intro pins s σ H x y v u Q I rx ry q
 rcases q with q | q
 ·exact h pins s σ H x y v u Q I rx ry q
 ·exact h' pins s σ H x y v u Q I rx ry q
theorem oO(b:Expr){op:CmpOp}(h:op≠.In:=by decide)(h2:op≠.NotIn:=by decide):afE op b=false:=by
 have e1:(op==CmpOp.In)=false:=by cases op <;> first | rfl | exact absurd rfl h
 have e2:(op==CmpOp.NotIn)=false:=by cases op <;> first | rfl | exact absurd rfl h2
 cases b <;> simp[afE,e1,e2]
theorem Xg{op:CmpOp}(ho:bx X (afh op) r)(ha:PE X a ta)(hb:PE X b tb)(hm:afE op b=false):PE X (.Compare a [op] [b] pos) (nH r ta tb):=by
 intro pins s σ H Q I h;exact wpAny_Compare1 (wM ha hb I h fun v u s2 x y H2 I2 rx ry q=>ho pins s2 σ H2 x y v u Q I2 rx ry q) hm
noncomputable def Ag(t:TE):TT:=fun σ H Q=>t σ H fun x H'=>∃k,x=.bl k/\Q k H'
theorem EU{op:CmpOp}(ho:bx X (afh op) r)(ha:PE X a ta)(hb:PE X b tb)(hm:afE op b=false):PT X (.Compare a [op] [b] pos) (Ag (nH r ta tb)):=by
 intro pins s σ H Q I h;refine wpAny_isTrue_Compare1 (aV (ha pins s σ H _ I h) fun v s1 ⟨x,H1,I1,r1,q1⟩=>aV (hb pins s1 σ H1 _ I1 q1) fun u s2 ⟨y,H2,I2,r2,q2⟩=>
  aV (ho pins s2 σ H2 x y v u _ I2 r1 r2 q2) fun c s3 ⟨z,H3,I3,r3,k,e,q3⟩=>?_) hm
 subst e;cases r3;exact afo ⟨H3,I3,q3⟩
noncomputable def zS(r r':R2)(ta tb tc:TE):TE:=fun σ H Q=>ta σ H fun x H1=>tb σ H1 fun y H2=>r x y H2 fun z H3=>∃k,z=.bl k /\
 (if k=true then tc σ H3 fun w' H4=>r' y w' H4 Q else Q (.bl false) H3)
theorem V6{op dE:CmpOp}(ho:bx X (afh op) r)(dM:bx X (afh dE) r')(ha:PE X a ta)(hb:PE X b tb)(hc:PE X c tc)
  (hm:aiB [op,dE] [b,c]=false:=by with_unfolding_all rfl):PE X (.Compare a [op,dE] [b,c] pos) (zS r r' ta tb tc):=by
 intro pins s σ H Q I h;refine Compare_chain (aV (ha pins s σ H _ I h) fun v s1 ⟨x,H1,I1,r1,q1⟩=>chain_link (aV (hb pins s1 σ H1 _ I1 q1) fun u s2 ⟨y,H2,I2,r2,q2⟩=>
  aV (ho pins s2 σ H2 x y v u _ I2 r1 r2 q2) fun d s3 ⟨z,H3,I3,r3,k,e,q3⟩=>?_)) hm
 subst e;cases r3;refine afo ?_;cases k with
 | false=>exact ite_ff ⟨.bl false,H3,I3,rfl,q3⟩
 | true=>exact ite_tt (chain_last (aV (hc pins s3 σ H3 _ I3 q3) fun w' s4 ⟨z',H4,I4,r4,q4⟩=>dM pins s4 σ H4 y z' u w' Q I4 r2 r4 q4))
theorem V7{op dE:CmpOp}(ho:bx X (afh op) r)(dM:bx X (afh dE) r')(ha:PE X a ta)(hb:PE X b tb)(hc:PE X c tc)
  (hm:aiB [op,dE] [b,c]=false:=by with_unfolding_all rfl):PT X (.Compare a [op,dE] [b,c] pos) (Ag (zS r r' ta tb tc)):=by
 intro pins s σ H Q I h;refine isTrue_chain (aV (ha pins s σ H _ I h) fun v s1 ⟨x,H1,I1,r1,q1⟩=>test_link (aV (hb pins s1 σ H1 _ I1 q1) fun u s2 ⟨y,H2,I2,r2,q2⟩=>
  aV (ho pins s2 σ H2 x y v u _ I2 r1 r2 q2) fun d s3 ⟨z,H3,I3,r3,k,e,q3⟩=>?_)) hm
 subst e;cases r3;refine afo ?_;cases k with
 | false=>
  obtain⟨k',e',q'⟩:=q3;cases e';exact ite_ff ⟨H3,I3,q'⟩
 | true=>
  refine ite_tt (test_last (aV (hc pins s3 σ H3 _ I3 q3) fun w' s4 ⟨z',H4,I4,r4,q4⟩=>aV (dM pins s4 σ H4 y z' u w' _ I4 r2 r4 q4) fun d' s5 ⟨z2,H5,I5,r5,k2,e2,q5⟩=>?_));subst e2;cases r5;exact afo ⟨H5,I5,q5⟩
noncomputable def Hw(K:acs)(x:V)(H:Hp)(k:Bool):Prop:=
 match x with
 | .aE=>k=false
 | .bl b=>k=b
 | .int i=>k=(i != 0)
 | .str y=>y.length<=aeD/\k=((y.length:Int) != 0)
 | .pU y=>y.size<=aeD/\k=((y.size:Int) != 0)
 | .ref p=>(∃xs,bC K H p xs/\k= !xs.isEmpty)\/(∃xs,bJ K H p xs/\k= !xs.isEmpty)\/∃kvs,H p=some (.dK kvs)/\k= !kvs.isEmpty
 | _=>False
theorem SX{κ:Type}{kvs:List (κ×V)}{vs:List (κ×Value)}(r:KV kvs vs):(!vs.isEmpty)= !kvs.isEmpty:=by
 cases r <;> rfl
theorem Ds{xs:List V}{its:List Value}(r:Vals xs its):(!its.toArray.isEmpty)= !xs.isEmpty:=by
 cases r <;> simp
theorem mM:(aeD:Nat)<2 ^ 63:=by rw[aif];decide
theorem Zt:ade X (fun x H Q=>∃k,Hw X.K x H k/\Q k H):=by
 intro pins s σ H x v Q I rx h;obtain⟨k,e,q⟩:=h;have hl:=mM;have hs:aeD=16777216:=aif;cases x with
 | aE=>
  cases rx;have e':k=false:=e;subst e';exact truthy_none ⟨H,I,q⟩
 | bl b=>
  cases rx;have e':k=b:=e;subst e';exact afo ⟨H,I,q⟩
 | int i=>
  obtain⟨t,rfl⟩:=rx;have e':k=(i != 0):=e;subst e';exact PySem.P.truthy_int ⟨H,I,q⟩
 | str y=>
  obtain⟨t,rfl⟩:=rx;obtain⟨hy,e'⟩:y.length<=aeD/\k=((y.length:Int) != 0):=e;subst e';exact PySem.P.truthy_str (by omega) ⟨H,I.tok _,q⟩
 | pU y=>
  obtain⟨t,rfl⟩:=rx;obtain⟨hy,e'⟩:y.size<=aeD/\k=((y.size:Int) != 0):=e;subst e';exact PySem.W.truthy_bytes (by omega) ⟨H,I.tok _,q⟩
 | ref p=>
  cases rx;have e':(∃xs,bC X.K H p xs/\k= !xs.isEmpty)\/(∃xs,bJ X.K H p xs/\k= !xs.isEmpty)\/∃kvs,H p=some (.dK kvs)/\k= !kvs.isEmpty:=e
  rcases e' with⟨xs,hx,e'⟩ | ⟨xs,hx,e'⟩ | ⟨kvs,hx,e'⟩
  ·subst e';obtain⟨its,r,pl,hz⟩:=I.list hx;have b6:=r.length;exact wpAny_truthy_list pl.isList (by simp only[aew];omega) ⟨H,I.tok _,by rw[Ds r];exact q⟩
  ·subst e';obtain⟨its,r,pl,hz⟩:=I.tuple hx;have b6:=r.length;exact truthy_tuple pl (by simp only[aew];omega) ⟨H,I.tok _,by rw[Ds r];exact q⟩
  ·subst e';obtain⟨hz,hS,vs,r,m⟩:kvs.length<=aeD/\(p==ags)=false/\∃vs,KV kvs vs/\s.heap.DictOf (c7 X.prog X.w) p vs:=I.aI p _ hx;have b6:kvs.length=vs.length:=aid r;exact wpAny_truthy_dict hS m (by omega) ⟨H,I.tok _,by rw[SX r];exact q⟩
 | _=>exact(show False from e).elim
theorem V8(ha:PE X a ta)(he:∀whole,isTrue a X.env whole=(do let v <- whole;standAt a.pos;aja [v] (truthy v))) :
  PT X a (fun σ H Q=>ta σ H fun x H'=>∃k,Hw X.K x H' k/\Q k H'):=by
 intro pins s σ H Q I h;exact isTrue_plain (aV (ha pins s σ H _ I h) fun v s1 ⟨x,H1,I1,r1,q1⟩=>Zt pins s1 σ H1 x v Q I1 r1 q1) (he _)
theorem SY:bx X (ahe .Add) (fun x y H Q=>∃i j,x=.str i/\y=.str j/\i.length+j.length<=aeD/\Q (.str (i++j)) H):=by
 intro pins s σ H x y v u Q I rx ry h;obtain⟨i,j,rfl,rfl,hz,q⟩:=h;obtain⟨t,rfl⟩:=rx;obtain⟨t',rfl⟩:=ry;exact add_str (fun t' tk=>⟨.str (i++j),H,I.tok _,⟨_,rfl⟩,q⟩) hz
theorem vals1{x:V}{us:List Value}(r:Vals [x] us):∃u,us=[u]/\RelV x u:=by
 cases r with
 | cons r1 r2=>cases r2;exact⟨_,rfl,r1⟩
theorem Uz:cR X (.type "int") (fun xs H Q=>(∃i,xs=[.int i]/\Q (.int i) H)\/∃k,xs=[.bl k]/\Q (.int (if k then 1 else 0)) H):=by
 intro pins s σ H xs us Q I r h
 rcases h with⟨i,rfl,q⟩ | ⟨k,rfl,q⟩
 ·obtain⟨u,rfl,t,rfl⟩:=vals1 r;exact call_int_int ⟨.int i,H,I,⟨_,rfl⟩,q⟩
 ·obtain⟨u,rfl,r1⟩:=vals1 r;cases r1;exact call_int_bool ⟨.int (if k then 1 else 0),H,I.tok _,⟨_,rfl⟩,q⟩
end
structure pC(h:Heap)(x dx C:Addr)(mA:Str->Option Value):Prop where
 obj:h.get? x=some (afX C dx)
 ns:h.Ns1 dx mA
 ne:dx≠x
theorem UA{dx:Addr}{mA:Str->Option Value}(n:h.Ns1 dx mA):∃od,h.get? dx=some od/\∀name,aiW name od=some (mA name):=by
 obtain⟨o,es,ep,ho,hd,hk,_,hm⟩:=n;refine⟨o,ho,fun name=>?_⟩;have e:=hm name;unfold nsFind findBy at e;rw[<- Array.find?_toList] at e;unfold aiW;rw[hd]
 dsimp only
 split
 ·rename_i y q;rw[q] at e;exact congrArg some e
 ·rename_i q;rw[q] at e;have a:es.toList.any (·.refKey)=false:=by
   rw[List.any_eq_false];intro y hy;obtain⟨z,t,adf⟩:=hk y (Array.mem_toList_iff.mp hy);simp[DictEntry.refKey,adf]
  have a':¬es.toList.any (·.refKey)=true:=by rw[a];exact aeK
  rw[if_neg a'];exact congrArg some e
variable{C:Addr}
theorem pC.look{x dx:Addr}{mA:Str->Option Value}(I:pC h x dx C mA):∃od,PySem.W.InstAt h x (afX C dx) C (some od)/\∀name,aiW name od=some (mA name):=
 let ⟨od,ho,hl⟩:=UA I.ns
 ⟨od,⟨I.obj,rfl,rfl,ho⟩,hl⟩
section
variable{prog:afm}{w:World}{A:afU}{E:Value->aem->Prop}{s:aem}{K:acs}{x dx C f:Addr}{mA:Str->Option Value}{name:Str}{v:Value}
theorem get_map{expr:Bool}{Q:Value->aem->Prop}(X:K.In s.heap)(I:pC s.heap x dx C mA)(hg:ahA K C name=true)(hh:ahq K C=true)
  (ha:aff K (.ref C) name=some none) (hv:mA name=some v) (hv':ajL v=true) (h:Q v { s with toks:=s.toks+1 }) :
  wpAny (model prog w) A (getAttr (.ref x) name expr) Q E s:=by
 obtain⟨od,J,hl⟩:=I.look;exact PySem.W.get_value X J (PySem.W.plainGet_of hg).1 (PySem.W.findObj_own hh ha rfl (by rw[hl,hv])) hv' h
theorem Xh{ns:List Str}{Q:Unit->aem->Prop}(X:K.In s.heap)(I:pC s.heap x dx C mA)
  (hs:aff K (.ref C) "__setattr__"=some (some (.builtin "object.__setattr__"))) (hp:ahZ K C=true) (ht:aiC K C name=some none) (hh:ahq K C=true)
  (hw:ajD mA ns) (hsz:ns.length<=aeD)
  (h:∀h',pC h' x dx C (fun y=>if y=name then some v else mA y)->ahw dx s.heap h'->Q () { s with heap:=h',toks:=s.toks+2 }) :
  wpAny (model prog w) A (setAttr (.ref x) name v) Q E s:=by
 obtain⟨od,J,hl⟩:=I.look;refine PySem.W.set_plain X J hs (PySem.W.osa_open (s:={ s with toks:=s.toks+1 }) (r:=none) X J hp ht fun b=>?_);obtain⟨cd,hc,iB⟩:=PySem.W.any_some hh;have hx:s.heap.get? x=some ⟨.ref C,some dx,.plain,#[]⟩:=I.obj;refine aeh (aes (aeh (aeh (wpAny_loadPart hx (aeh (PySem.W.Looks.here (s:={ s with toks:=s.toks+1 }) (PySem.W.looks_clsIn X hc) ?_))))));rw[iB];refine aes (a:=some dx) (aeh (aes (aeh ?_)));refine wpAny_nsSet1 (s:={ s with toks:=s.toks+1 }) I.ns fun h' sA dF=>?_
 obtain⟨oD,esD,epD,hoD,hdD,hcD⟩:=sA.count (PySem.Within.cons name v hw);refine aeh (wpAny_lookBehind hoD (by rw[hdD];exact pastItsLine_dict (aeW hcD (by rw[aeO];omega))) ?_);exact aes (h _ ⟨(dF.2 _ (ahH I.ne)).trans I.obj,sA,I.ne⟩ dF)
theorem V9{R:Result->aem->Prop}{vs:List Value}{kw:List (Str×Value)}(X:K.In s.heap)(hm:aiD K C=true)
  (hi:aff K (.ref C) "__init__"=some (some (.ref f))) (hf:ahu K (.ref f)=some (.type "function"))
  (h:ajw (model prog w) (A.under (.builtin "type.__call__" ⟨.ref C::vs,kw⟩)) (.call (.ref f) ⟨.ref (s.heap.objs.size+1)::vs,kw⟩) (PySem.W.InitBack (s.heap.objs.size+1) R)
   { s with heap:=(s.heap.push afL).push (afX C s.heap.objs.size) }) :
  ajw (model prog w) A (.call (.ref C) ⟨vs,kw⟩) R s:=by
 obtain⟨hh,g,d,t,os⟩:=s;exact PySem.W.make_core (PySem.W.makes_of X hm) (PySem.W.looks_findIn X hi) (fun self=>PySem.W.bind_fn X self hf) (.inl rfl) h
end
noncomputable def dn(f:Str)(v:V):List (Str×V)->List (Str×V)
 | []=>[(f,v)]
 | (g,x)::r=>if g=f then(g,v)::r else(g,x)::dn f v r
theorem C6(f g:Str)(v:V):∀fs:List (Str×V),(dn f v fs).lookup g=if g=f then some v else fs.lookup g
 | []=>by
  show afQ g [(f,v)]=_;by_cases h:g=f
  ·have hb:(g==f)=true:=beq_iff_eq.mpr h;simp only[afQ,hb,if_pos h]
  ·have hb:(g==f)=false:=beq_eq_false_iff_ne.mpr h;simp only[afQ,hb,if_neg h]
 | (k,x)::r=>by
  have ih:=C6 f g v r;rw[show dn f v ((k,x)::r)=(if k=f then(k,v)::r else(k,x)::dn f v r) from rfl];by_cases hk:k=f
  ·rw[if_pos hk];by_cases h:g=k
   ·have hb:(g==k)=true:=beq_iff_eq.mpr h;simp only[afQ,hb,if_pos (h.trans hk)]
   ·have hb:(g==k)=false:=beq_eq_false_iff_ne.mpr h;simp only[afQ,hb,if_neg (fun e:g=f=>h (e.trans hk.symm))]
  ·rw[if_neg hk];by_cases h:g=k
   ·have hb:(g==k)=true:=beq_iff_eq.mpr h;simp only[afQ,hb,if_neg (fun e:g=f=>hk (h.symm.trans e))]
   ·have hb:(g==k)=false:=beq_eq_false_iff_ne.mpr h;simp only[afQ,hb];exact ih
theorem yS(f:Str)(v:V):∀fs:List (Str×V),f∈(dn f v fs).map (·.1)/\∀g,g∈fs.map (·.1)->g∈(dn f v fs).map (·.1)
 | []=>⟨by simp[dn],fun g h=>by simp at h⟩
 | (k,x)::r=>by
  obtain⟨i1,i2⟩:=yS f v r;rw[show dn f v ((k,x)::r)=(if k=f then(k,v)::r else(k,x)::dn f v r) from rfl];by_cases hk:k=f
  ·rw[if_pos hk];subst hk;exact⟨by simp,fun g h=>by simpa using h⟩
  ·rw[if_neg hk];refine⟨?_,fun g h=>?_⟩
   ·rw[aeP];exact aeR _ i1
   ·rw[aeP] at h ⊢
    rcases aeG.mp h with e | e
    ·exact aeG.mpr (.inl e)
    ·exact aeR _ (i2 g e)
theorem C7(f:Str)(v:V):∀fs:List (Str×V),(dn f v fs).length<=fs.length+1
 | []=>by simp[dn]
 | (k,x)::r=>by
  have ih:=C7 f v r;rw[show dn f v ((k,x)::r)=(if k=f then(k,v)::r else(k,x)::dn f v r) from rfl];by_cases hk:k=f
  ·rw[if_pos hk,aeO,aeO];omega
  ·rw[if_neg hk,aeO,aeO];omega
theorem fS.some_of{v:V}{o:Option Value}(r:fS (some v) o):∃u,o=some u/\RelV v u:=by
 cases o with
 | none=>exact(show False from r).elim
 | some u=>exact⟨u,rfl,r⟩
theorem UB{v:V}{u:Value}(r:RelV v u):ajL u=true:=by
 cases v with
 | aE=>cases(show u=agr from r);rfl
 | bl b=>cases(show u=ajv b from r);rfl
 | int i=>obtain⟨t,e⟩:=(show ∃t,u=ahv i t from r);cases e;rfl
 | str x=>obtain⟨t,e⟩:=(show ∃t,u=aji x t from r);cases e;rfl
 | pU b=>obtain⟨t,e⟩:=(show ∃t,u=Value.bytes b t from r);cases e;rfl
 | xm b=>obtain⟨t,e⟩:=(show ∃t,u=Value.float b t from r);cases e;rfl
 | ref a=>cases(show u=afl a from r);rfl
 | ty n=>cases(show u=Value.type n from r);rfl
section
variable{P:afm}{w:World}{H H':Hp}{h h':Heap}{a C dx:Addr}{fs pW:List (Str×V)}
theorem EV(aI:cu P w H h)(e:H a=some (.ins C dx fs)):∃mA,pC h a dx C mA/\(∀f,fS (fs.lookup f) (mA f))/\ajD mA (fs.map (·.1))/\fs.length<=1000/\H dx=some (.own a):=by
 obtain⟨d,z,ne,ob,mA,n,r,q⟩:=(show cX P w H h a (.ins C dx fs) from aI a _ e)
 exact⟨mA,⟨ob,n,ne⟩,r,q,z,d⟩
end
structure gK(K:acs)(C:Addr):Prop where
 pg:ahA K C Str.empty=true
 hd:ahq K C=true
 po:ahZ K C=true
 sa:aff K (.ref C) "__setattr__"=some (some (.builtin "object.__setattr__"))
theorem gK.get(c:gK K C)(f:Str):ahA K C f=true:=c.pg
noncomputable def dP(K:acs)(C:Addr)(f:Str):Prop:=aff K (.ref C) f=some none
theorem dP.abX{f:Str}(n:dP K C f):aiC K C f=some none:=by
 unfold aiC;rw[show aff K (.ref C) f=some none from n];rfl
section
variable{X:Cx}{pins:List (Addr×Obj)}{σ:St}{H:Hp}{s:aem}{a C dx:Addr}{fs:List (Str×V)}{f:Str}{v:V}{A:afU}{E:Value->aem->Prop}
theorem Dt{b:Bool}{Q:Value->aem->Prop}(I:Inv X pins σ H s)(e:H a=some (.ins C dx fs))(c:gK X.K C)(n:dP X.K C f)(l:fs.lookup f=some v)
  (h:∀u s',Inv X pins σ H s'->RelV v u->Q u s'):wpAny (model X.prog X.w) A (getAttr (.ref a) f b) Q E s:=by
 obtain⟨mA,O,r,_,_,_⟩:=EV I.aI e;obtain⟨u,hu,ru⟩:=fS.some_of (v:=v) (o:=mA f) (by rw[<- l];exact r f);exact get_map I.dC O (c.get f) c.hd n hu (UB ru) (h u _ (I.tok _) ru)
theorem Du{y:V}{u:Value}{Q:Unit->aem->Prop}(I:Inv X pins σ H s)(e:H a=some (.ins C dx fs))(c:gK X.K C)(n:dP X.K C f)(hl:fs.length<1000)(ry:RelV y u)
  (h:∀s',Inv X pins σ (upd H a (.ins C dx (dn f y fs))) s'->Q () s'):wpAny (model X.prog X.w) A (setAttr (.ref a) f u) Q E s:=by
 obtain⟨mA,O,r,wi,_,ho⟩:=EV I.aI e;have hz:(fs.map (·.1)).length<=sizeLine:=by rw[aep,aif];omega
 refine Xh I.dC O c.sa c.po n.abX c.hd wi hz fun h' O' sb=>h _ ?_
 have hd:∃o,h'.get? dx=some o:=let ⟨o,_,_,e',_⟩:=O'.ns;⟨o,e'⟩
 refine I.write (x:=a) (e:=dx) (by rw[e];exact agD) (.inr ho) (fun b q hb z=>(sb.2 b hb).trans z) hd ?_;refine⟨by rw[bz O.ne];exact ho,?_,O.ne,O'.obj,_,O'.ns,fun g=>?_,fun g hg=>?_⟩
 ·have:=C7 f y fs;omega
 ·show fS ((dn f y fs).lookup g) (if g=f then some u else mA g);rw[C6];by_cases q:g=f
  ·rw[if_pos q,if_pos q];exact ry
  ·rw[if_neg q,if_neg q];exact r g
 ·by_cases q:g=f
  ·rw[q];exact(yS f y fs).1
  ·refine(yS f y fs).2 g (wi g fun z=>hg ?_);show(if g=f then some u else mA g)=none;rw[if_neg q];exact z
theorem Inv.made(I:Inv X pins σ H s):Inv X pins σ (upd (upd H s.heap.objs.size (.own (s.heap.objs.size+1))) (s.heap.objs.size+1) (.ins C s.heap.objs.size []))
  { s with heap:=(s.heap.push afL).push (afX C s.heap.objs.size) }:=by
 have e1:(s.heap.push afL).get? s.heap.objs.size=some PySem.W.emptyDict:=aeN s.heap rfl;have e2:((s.heap.push afL).push (afX C s.heap.objs.size)).get? (s.heap.objs.size+1)=some (afX C s.heap.objs.size):=by
  have:=aeN (s.heap.push afL) (o:=afX C s.heap.objs.size) rfl
  rwa [afV] at this
 have e3:(s.heap.push afL).Ns s.heap.objs.size (fun _=>none):=⟨afL,#[],_,e1,rfl,(fun e he=>absurd he (by simp)),fun _=>rfl⟩
 have I1:=I.laid (a:=s.heap.objs.size) (o:=.own (s.heap.objs.size+1)) (h':=s.heap.push afL) (t':=s.toks) (fun b u q=>aek _ q) (aeq _) ⟨_,e1⟩;refine I1.laid (a:=s.heap.objs.size+1) (o:=.ins C s.heap.objs.size []) (t':=s.toks) (fun b u q=>aek _ q) (ajF (afV _ _)) ?_;have ne:s.heap.objs.size≠s.heap.objs.size+1:=afi (afH _);refine⟨by rw[bz ne,bZ],afR _,ne,e2,fun _=>none,(Heap.Ns1.of_empty e3).at fun o q=>aek _ q,fun _=>agD,fun y hy=>absurd rfl hy⟩
theorem Xi{prog:afm}{w:World}{env:Env}{e:Expr}{f:Str}{pos:Pos}{s:aem}{Q:Value->aem->Prop}(hb:agA e f env (eval e env)=eval e env)
  (h:wpAny (model prog w) A (eval e env) (fun o bL=>wpAny (model prog w) A (getAttr o f true) Q E bL) E s):wpAny (model prog w) A (eval (.Attribute e f pos) env) Q E s:=
 Attribute_any_ h (by rw[arm_eval_Attribute,hb])
end
noncomputable def adg(K:acs)(ta:TE)(f:Str):TE:=fun σ H Q=>ta σ H fun x H1=>∃a C dx fs v,x=.ref a/\H1 a=some (.ins C dx fs)/\gK K C/\dP K C f/\fs.lookup f=some v/\Q v H1
noncomputable def adh(K:acs)(ta tv:TE)(f:Str):TS:=fun D σ H=>tv σ H fun y H1=>ta σ H1 fun x H2=>∃a C dx fs,x=.ref a/\H2 a=some (.ins C dx fs)/\gK K C/\dP K C f/\fs.length<1000 /\
 D.nx σ (upd H2 a (.ins C dx (dn f y fs)))
noncomputable def rP(X:Cx)(op:ajm)(rd:V->V->Hp->VK->Prop):Prop:=
 ∀(pins:List (Addr×Obj)) (s:aem) (σ:St) (H:Hp) (x y:V) (u v:Value) (Q:VK),Inv X pins σ H s->RelV x u->RelV y v->rd x y H Q->wpAny (model X.prog X.w) X.A (inplaceOp op u v) (EP X pins σ Q) X.xe s
noncomputable def Xj(K:acs)(ta tv:TE)(rd:V->V->Hp->VK->Prop)(f:Str):TS:=fun D σ H=>ta σ H fun x H1=>∃a C dx fs v,x=.ref a/\H1 a=some (.ins C dx fs)/\gK K C/\dP K C f/\fs.lookup f=some v /\
 tv σ H1 fun y H2=>rd v y H2 fun z H3=>∃Bb pW,H3 a=some (.ins C Bb pW)/\pW.length<1000/\D.nx σ (upd H3 a (.ins C Bb (dn f z pW)))
section
variable{X:Cx}{o e value:Expr}{f:Str}{pos pos' wN:Pos}{ta tv:TE}
theorem Zu(he:PE X e ta)(hb:agA e f X.env (eval e X.env)=eval e X.env):PE X (.Attribute e f pos) (adg X.K ta f):=by
 intro pins s σ H Q I h;refine Xi hb (aV (he pins s σ H _ I h) fun u s1 ⟨x,H1,I1,rx,a,C,dx,fs,v,ex,ea,c,n,l,q⟩=>?_);subst ex;obtain rfl:u=afl a:=rx;exact Dt I1 ea c n l fun u' s2 I2 ru=>⟨v,H1,I2,ru,q⟩
theorem Zv(ha:PE X o ta)(hv:PE X value tv)(hs:agL value (some (.Attribute o f pos')) pos.line X.env=pure false):PS X (.Assign [.Attribute o f pos'] value pos) (adh X.K ta tv f):=by
 intro pins s σ H D I h;refine plainObj_wpAny_Assign_Attribute (aV (hv pins s σ H _ I h) fun u s1 ⟨y,H1,I1,ry,q⟩=>aV (ha pins s1 σ H1 _ I1 q) fun ov s2 ⟨x,H2,I2,rx,a,C,dx,fs,ex,ea,c,n,l,q2⟩=>?_) hs;subst ex;obtain rfl:ov=afl a:=rx;exact Du I2 ea c n l ry fun s3 I3=>⟨σ,_,I3,q2⟩
theorem UC{op:ajm}{rd:V->V->Hp->VK->Prop}(ha:PE X o ta)(hv:PE X value tv)(sC:rP X op rd):PS X (.AugAssign (.Attribute o f wN) op value pos) (Xj X.K ta tv rd f):=by
 intro pins s σ H D I h;refine wpAny_AugAssign_AttributeAny (aV (ha pins s σ H _ I h) fun ov s1 ⟨x,H1,I1,rx,a,C,dx,fs,v,ex,ea,c,n,l,q⟩=>?_);subst ex;obtain rfl:ov=afl a:=rx;refine Dt I1 ea c n l fun u s2 I2 ru=>aV (hv pins s2 σ H1 _ I2 q) fun w3 s3 ⟨y,H2,I3,ry,q3⟩=>aV (sC pins s3 σ H2 v y u w3 _ I3 ru ry q3) fun w4 s4 ⟨z,H3,I4,rz,Bb,pW,ea',l',q4⟩=>?_
 exact Du I4 ea' c n l' rz fun s5 I5=>⟨σ,_,I5,q4⟩
noncomputable def Hx:V->V->Hp->VK->Prop:=fun x y H Q=>∃i j,x=.int i/\y=.int j/\Q (.int (i+j)) H
noncomputable def Hy:V->V->Hp->VK->Prop:=fun x y H Q=>∃i j,x=.int i/\y=.int j/\Q (.int (i-j)) H
theorem FN:rP X .Add Hx:=by
 rintro pins s σ H x y u v Q I rx ry ⟨i,j,rfl,rfl,q⟩;obtain⟨t,rfl⟩:=(show ∃t,u=ahv i t from rx)
 obtain⟨t',rfl⟩:=(show ∃t',v=ahv j t' from ry)
 exact PyProof.Rows.iadd_int ⟨.int (i+j),H,I.tok _,⟨_,rfl⟩,q⟩
theorem Zw:rP X .Sub Hy:=by
 rintro pins s σ H x y u v Q I rx ry ⟨i,j,rfl,rfl,q⟩;obtain⟨t,rfl⟩:=(show ∃t,u=ahv i t from rx)
 obtain⟨t',rfl⟩:=(show ∃t',v=ahv j t' from ry)
 exact PyProof.Rows.isub_int ⟨.int (i-j),H,I.tok _,⟨_,rfl⟩,q⟩
end
structure cO(k:Nat)(A:afU):Prop where
 hd:A.handled=none
 dp:A.depth+3*k+5<recursionLimit
 un:A.units+16*k+200<cLine
variable{k:Nat}
theorem cO.mono{j:Nat}(r:cO k A)(h:j<=k):cO j A:=⟨r.hd,by have:=r.dp;omega,by have:=r.un;omega⟩
theorem cO.deeper{k:Nat}{A:afU}(r:cO (k+1) A)(env:Env):cO k (A.deeper env):=
 ⟨r.hd,by have:=r.dp;show A.depth+1+3*k+5<_;omega,by have:=r.un;show A.units+3+16*k+200<_;omega⟩
variable{us:List Value}
theorem S0{kw:List (Str×Value)}:(A.under (.builtin "type.__call__" ⟨.ref C::us,kw⟩)).depth=A.depth+1:=by
 first | rfl | simp[ajG,Code.weight,Code.isCreation,Code.isGuard,Code.isCaller,Code.frames,ajH,guardIds]
theorem S1{kw:List (Str×Value)}:(A.under (.builtin "type.__call__" ⟨.ref C::us,kw⟩)).units=A.units+1:=by
 first | rfl | simp[ajG,Code.cUnits,Code.frames,ajH]
theorem cO.make(r:cO (k+1) A)(C:Addr)(us:List Value)(kw:List (Str×Value)):cO k (A.under (.builtin "type.__call__" ⟨.ref C::us,kw⟩)):=
 ⟨r.hd,by have:=r.dp;rw[S0];omega,by have:=r.un;rw[S1];omega⟩
theorem cO.depth{k:Nat}{A:afU}(r:cO k A):A.depth<recursionLimit:=by have:=r.dp;omega
theorem cO.units{k:Nat}{A:afU}(r:cO k A):A.units+64<cLine:=by have:=r.un;omega
noncomputable def adi:TA:=fun _ H Q=>Q [] H
noncomputable def abY(ta:TE)(tr:TA):TA:=fun σ H Q=>ta σ H fun x H1=>tr σ H1 fun xs H2=>Q (x::xs) H2
section
variable{X:Cx}{e:Expr}{es:List Expr}{te:TE}{t:TA}{pos:Pos}
theorem FO:PA X [] adi:=fun _ _ _ _ H Q I h=>Calls.spliced_nil ⟨[],H,I,.nil,h⟩
theorem zz(ha:PE X e te)(hr:PA X es t)(hs:aeS (e::es) X.env=(false,eval e X.env)::aeS es X.env:=by rfl):PA X (e::es) (abY te t):=by
 intro pos pins s σ H Q I h;rw[hs];show wpAny _ _ (spliced ((false,eval e X.env)::ahx pos (aeS es X.env))) _ _ s;refine Calls.spliced_cons (aV (ha pins s σ H _ I h) fun u s1 ⟨x,H1,I1,r1,q1⟩=>?_);exact aV (hr pos pins s1 σ H1 _ I1 q1) fun us s2 ⟨xs,H2,I2,r2,q2⟩=>⟨x::xs,H2,I2,.cons r1 r2,q2⟩
noncomputable def adj(t:TA):TE:=fun σ H Q=>t σ H fun xs H1=>xs.length<=aeD/\∀p,H1 p=none->Q (.ref p) (upd H1 p (.tup xs))
noncomputable def adk(t:TA):TE:=fun σ H Q=>t σ H fun xs H1=>xs.length<=aeD/\∀p,H1 p=none->Q (.ref p) (upd H1 p (.lst xs))
theorem Zx{x1}(h:PA X es t):PE X (.Tuple es x1 pos) (adj t):=by
 intro pins s σ H Q I hq;refine wpAny_Tuple_spliced (aV (h pos pins s σ H _ I hq) fun us s1 ⟨xs,H1,I1,r,z,q⟩=>⟨by rw[<- r.length];exact z,?_⟩);have hf:H1 s1.heap.objs.size=none:=I1.aI.fresh (aeq _);refine⟨.ref s1.heap.objs.size,upd H1 s1.heap.objs.size (.tup xs),I1.laid (t':=s1.toks) (fun b u e=>aek _ e) (aeq _) ?_,rfl,q _ hf⟩;exact⟨z,us,r,⟨_,aeN _ rfl,rfl,_,rfl⟩⟩
theorem Zy(h:PA X es t):PE X (.List es pos) (adk t):=by
 intro pins s σ H Q I hq;refine wpAny_List_spliced (aV (h pos pins s σ H _ I hq) fun us s1 ⟨xs,H1,I1,r,z,q⟩=>⟨by rw[<- r.length];exact z,?_⟩);have hf:H1 s1.heap.objs.size=none:=I1.aI.fresh (aeq _);refine⟨.ref s1.heap.objs.size,upd H1 s1.heap.objs.size (.lst xs),I1.laid (t':=s1.toks) (fun b u e=>aek _ e) (aeq _) ?_,rfl,q _ hf⟩;exact⟨z,us,0,r,aeN _ rfl⟩
end
abbrev Sp:=List V->Hp->VK->XK->Prop
abbrev ki:=List Env->Hp->aem->XK->Value->aem->Prop
structure nc(P:afm)(w:World)(K:acs)(mg:Str->Option Value)(base:Heap)(A:afU)(outer:List Env)(s:aem)(H:Hp):Prop where
 frames:A.frames=some outer
 mod:Mod K mg base
 bs:∀b o,base.get? b=some o->s.heap.get? b=some o/\H b=none
 i4:base.objs.size<=s.heap.objs.size
 eX:s.heap.FunFrames base outer
 jC:∀b∈cS outer,H b=none
 aI:cu P w H s.heap
 bare:aie s.gens
noncomputable def CE(outer:List Env)(P:afm)(w:World)(H:Hp)(s:aem)(Q:VK)(u:Value)(s':aem):Prop:=
 ∃v H',s'.os=s.os/\aie s'.gens/\Un (cS outer) [] H H' s.heap s'.heap/\cu P w H' s'.heap/\RelV v u/\Q v H'
noncomputable def CR(CX:ki)(outer:List Env)(P:afm)(w:World)(H:Hp)(s:aem)(Q:VK)(E:XK)(r:Result)(s':aem):Prop:=
 match r with
 | .ok (.ret u)=>CE outer P w H s Q u s'
 | .ok _=>False
 | .error e=>CX outer H s E e s'
structure bF(P:afm)(w:World)(K:acs)(mg:Str->Option Value)(base:Heap)(CX:ki)(k:Nat)(f:Addr)(fd:aeT)(ps:List Str)(sp:Sp):Prop where
 len:∀vs H Q E,sp vs H Q E->vs.length=ps.length
 run:∀(A:afU) (outer:List Env) (s:aem) (H:Hp) (args:Args) (us:List Value) (vs:List V) (Q:VK) (E:XK),cO k A->nc P w K mg base A outer s H->BindsTo s fd args (ps.zip us)->Vals vs us->sp vs H Q E →
  ajw (model P w) A (.call (.ref f) args) (CR CX outer P w H s Q E) s
variable{mg:Str->Option Value}
theorem nc.make{w:World}{base:Heap}{outer:List Env}{s:aem}(e:nc P w K mg base A outer s H)(C:Addr)(us:List Value)(kw:List (Str×Value)) :
  nc P w K mg base (A.under (.builtin "type.__call__" ⟨.ref C::us,kw⟩)) outer s H:=⟨by first | exact e.frames | (simpa[ajG,Code.envs,ajH,pushEnvs] using e.frames),e.mod,e.bs,e.i4,e.eX,e.jC,e.aI,e.bare⟩
section
variable{X:Cx}{pins:List (Addr×Obj)}{σ:St}{H:Hp}{s s':aem}
theorem Inv.Hz(I:Inv X pins σ H s):nc X.prog X.w X.K X.mg X.base X.A X.stack s H:=
 ⟨I.ok.frames,I.ok.mod,I.bs,aeW I.ok.i4 I.sz,I.stack,I.qO,I.aI,I.bare⟩
theorem Inv.after{Q:VK}{u:Value}(I:Inv X pins σ H s)(h:CE X.stack X.prog X.w H s Q u s'):EP X pins σ Q u s':=by
 obtain⟨v,H',os,bare,un,aI,r,q⟩:=h;obtain⟨hh,g,d,t,os'⟩:=s';obtain rfl:os'=s.os:=os;exact⟨v,H',I.call (h':=hh) (g':=g) (d':=d) (t':=t) (ch:=[]) un aI bare (fun b z=>absurd z (by simp)),r,q⟩
end
noncomputable def abZ(C:Addr)(sp:Sp)(dvs:List V)(E:XK)(t:TA):TE:=fun σ H Q=>t σ H fun vs H1=>∀x dx,H1 x=none->H1 dx=none->dx≠x →
 sp (.ref x::(vs++dvs)) (upd (upd H1 dx (.own x)) x (.ins C dx [])) (fun v H2=>v=.aE/\Q (.ref x) H2) E
noncomputable def Binds(K:acs)(fd:aeT)(ps:List Str)(ds:List Value):Prop:=
 ∀(s:aem) (us:List Value),K.In s.heap->(us++ds).length=ps.length->BindsTo s fd ⟨us,[]⟩ (ps.zip (us++ds))
theorem Binds.all{fd:aeT}{ps:List Str}(h:∀us:List Value,us.length=ps.length->bindArgs fd ⟨us,[]⟩=pure (ps.zip us)):Binds K fd ps []:=fun s us _ hl=>by
 rw[ahl] at hl ⊢;exact .of_eq (h us hl)
noncomputable def FP(CX:ki)(X:Cx)(E:XK):Prop:=∀(pins:List (Addr×Obj)) (σ:St) (H:Hp) (s:aem) (e:Value) (s':aem),Inv X pins σ H s->CX X.stack H s E e s'->X.xe e s'
section
variable{X:Cx}{CX:ki}{k:Nat}{f C:Addr}{fd:aeT}{ps:List Str}{sp:Sp}{dvs:List V}{ds:List Value}{E:XK}{x m:Str}{p pos apos:Pos}{e o:Expr}{es:List Expr}{ta:TE}{t:TA}
structure Mk(K:acs)(C f:Addr):Prop where
 makes:aiD K C=true
 init:aff K (.ref C) "__init__"=some (some (.ref f))
 fn:PySem.W.isFn K (.ref f)=true
 kp:aeu K (.ref C)=true
theorem Wa{pins:List (Addr×Obj)}{σ:St}{H:Hp}{s:aem}{Q:VK}{us:List Value}{vs:List V}(M:Mk X.K C f)(F:bF X.prog X.w X.K X.mg X.base CX k f fd ps sp)(hr:cO (k+1) X.A)(hb:Binds X.K fd ps ds)(hd:Vals dvs ds)
  (hx:FP CX X E) (I:Inv X pins σ H s) (r:Vals vs us)
  (h:∀x dx,H x=none->H dx=none->dx≠x->sp (.ref x::(vs++dvs)) (upd (upd H dx (.own x)) x (.ins C dx [])) (fun v H2=>v=.aE/\Q (.ref x) H2) E) :
  wpAny (model X.prog X.w) X.A (call (.ref C) us) (EP X pins σ Q) X.xe s:=by
 have hq:=h (s.heap.objs.size+1) s.heap.objs.size (I.aI.fresh (afM _)) (I.aI.fresh (aeq _)) (afi (afH _));have I2:=Inv.made (C:=C) I;have r2:Vals (V.ref (s.heap.objs.size+1)::(vs++dvs)) (afl (s.heap.objs.size+1)::(us++ds)):=.cons rfl (r.append hd);have hl:(afl (s.heap.objs.size+1)::us++ds).length=ps.length:=by
  have e:=r2.length;rw[F.len _ _ _ _ hq] at e;exact e.symm
 refine wpAny_call (V9 (f:=f) I.dC M.makes M.init (beq_iff_eq.mp M.fn) (aiE (F.run _ X.stack _ _ ⟨afl (s.heap.objs.size+1)::us,[]⟩ (afl (s.heap.objs.size+1)::(us++ds)) _ _ E (hr.make C us [])
  (I2.Hz.make C us []) (hb _ (afl (s.heap.objs.size+1)::us) I2.dC hl) r2 hq) fun r s' sD=>?_))
 cases r with
 | error e=>exact hx pins σ _ _ e s' I2 sD
 | ok fl=>
  cases fl with
  | ret u=>
   obtain⟨v,H',I3,rv,ev,q3⟩:=I2.after sD;subst ev;exact⟨rv,⟨V.ref (s.heap.objs.size+1),H',I3,rfl,q3⟩⟩
  | next=>exact agE sD
  | brk=>exact agE sD
  | cont=>exact agE sD
theorem Xk(M:Mk X.K C f)(F:bF X.prog X.w X.K X.mg X.base CX k f fd ps sp)(hr:cO (k+1) X.A)(hg:Gl X x)(hm:X.mg x=some (.ref C))(hb:Binds X.K fd ps ds)(hd:Vals dvs ds)(hx:FP CX X E)
  (ha:PA X (e::es) t) (cf:(x==("__debug__":Str))=false:=by decide) (he:aeS (e::es) X.env=(false,eval e X.env)::aeS es X.env:=by rfl) (hpl:(ahx pos (aeS es X.env)).any (·.1)=false:=by rfl) :
  PE X (.Call (.Name x p) (e::es) [] pos) (abZ C sp dvs E t):=by
 intro pins s σ H Q I h;refine ahm (qP I hg hm ?_ cf);refine ajn (h₀:=X.base) I.ok.mod.fB M.kp (aV (ha pos pins s σ H _ I h) fun us s1 ⟨vs,H1,I1,r,q⟩=>⟨I1.dC,?_⟩) he hpl;exact Wa M F hr hb hd hx I1 r q
end
noncomputable def PK(X:Cx)(kws:List Keyword)(t:TA):Prop:=
 ∀(pos:Pos) (pins:List (Addr×Obj)) (s:aem) (σ:St) (H:Hp) (Q:List V->Hp->Prop),Inv X pins σ H s->t σ H Q->wpAny (model X.prog X.w) X.A (evalAll ((backToKw pos (ajb kws X.env)).map (·.2))) (AP X pins σ Q) X.xe s
structure b8(N P:List Str)(sc:Scope):Prop where
 kind:sc.kind=.function
 co:sc.isCoroutine=false
 gen:sc.isGenerator=false
 nd:N.Nodup
 pre:N.take P.length=P
 IC:∀x∈P,sc.names.lookup x=some .local\/sc.names.lookup x=some .cell
 Zz:∀y∈sc.names,y.2≠.free
theorem DM{kindOf:Str->Option agW}{x:Str}:∀{binds:List (Str×Value)} {m:Str->Option Value},(∀v,(x,v)∉binds)->bindL kindOf binds m x=m x
 | [],_,_=>rfl
 | (n,v)::r,m,h=>by
  unfold bindL;rw[DM fun w hw=>h w (aeR _ hw)];split
  ·have:x≠n:=by rintro rfl;exact h v afw
   simp[this]
  ·rfl
theorem DN{kindOf:Str->Option agW}{x:Str}:∀{binds:List (Str×Value)} {m:Str->Option Value},(∀v,(x,v)∉binds)->bindC kindOf binds m x=m x
 | [],_,_=>rfl
 | (n,v)::r,m,h=>by
  unfold bindC;rw[DN fun w hw=>h w (aeR _ hw)];split
  ·rfl
  ·have:x≠n:=by rintro rfl;exact h v afw
   simp[this]
theorem DO{kindOf:Str->Option agW}{x:Str}{v:Value}:∀{P:List Str} {vs:List Value} {i:Nat} {m:Str->Option Value},P.Nodup->P[i]? =some x->vs[i]? =some v->kindOf x=some .local →
  bindL kindOf (P.zip vs) m x=some v
 | [],_,_,_,_,h,_,_=>by simp at h
 | _::_,[],_,_,_,_,h,_=>by simp at h
 | p::P,w::vs,0,m,nd,h1,h2,hk=>by
  simp at h1 h2;subst h1;subst h2
  show bindL kindOf ((p,w)::P.zip vs) m p=_;unfold bindL;rw[DM fun v hv=>(agM.mp nd).1 (aiF hv).1,if_pos hk];simp
 | p::P,w::vs,i+1,m,nd,h1,h2,hk=>by
  show bindL kindOf ((p,w)::P.zip vs) m x=_;unfold bindL;exact DO (i:=i) (agM.mp nd).2 (by simpa using h1) (by simpa using h2) hk
theorem DP{kindOf:Str->Option agW}{x:Str}{v:Value}:∀{P:List Str} {vs:List Value} {i:Nat} {m:Str->Option Value},P.Nodup->P[i]? =some x->vs[i]? =some v->kindOf x≠some .local →
  bindC kindOf (P.zip vs) m x=some v
 | [],_,_,_,_,h,_,_=>by simp at h
 | _::_,[],_,_,_,_,h,_=>by simp at h
 | p::P,w::vs,0,m,nd,h1,h2,hk=>by
  simp at h1 h2;subst h1;subst h2
  show bindC kindOf ((p,w)::P.zip vs) m p=_;unfold bindC;rw[DN fun v hv=>(agM.mp nd).1 (aiF hv).1,if_neg hk];simp
 | p::P,w::vs,i+1,m,nd,h1,h2,hk=>by
  show bindC kindOf ((p,w)::P.zip vs) m x=_;unfold bindC;exact DP (i:=i) (agM.mp nd).2 (by simpa using h1) (by simpa using h2) hk
noncomputable def start(N:List Str)(vs:List V):St:=vs.map some++aeF (N.length-vs.length) none
noncomputable def j3(CX:ki)(P:afm)(w:World)(K:acs)(mg:Str->Option Value)(base:Heap)(N:List Str)(qual:Str)(scope:Scope)(f:Addr)(cd:Value)(A:afU)(outer:List Env)(s:aem)(H:Hp)(E:XK):Cx where
 prog:=P
 w:=w
 K:=K
 mg:=mg
 base:=base
 A:=A.deeper (aiX qual scope s.heap.objs.size f cd)
 N:=N
 aN:=s
 aU:=H
 env:=aiX qual scope s.heap.objs.size f cd
 outer:=outer
 stack:=aiX qual scope s.heap.objs.size f cd::outer
 ex:=[]
 calm:=true
 fn:=fun _=>true
 pn:=[]
 kp:=fun _=>True
 xe:=fun e s'=>wpAny (model P w) (A.deeper (aiX qual scope s.heap.objs.size f cd)) (leaving (aiX qual scope s.heap.objs.size f cd) e) (fun _ fC=>CX outer H s E e fC) (fun e' fC=>CX outer H s E e' fC) s'
theorem Ef{sc:Scope}{n:Nat}{x:Str}(h:sc.names.lookup x=some .cell):∃c,(cellsFrom n sc.names []).lookup x=some c:=by
 have q:=ait sc.names n [] (.inl h);exact afC.mp q
theorem UD{CX:ki}{w:World}{base:Heap}{N ps:List Str}{qual:Str}{scope:Scope}{f:Addr}{cd:Value}{outer:List Env}{s s1:aem}{E:XK}{vs:List V}
  (S:b8 N ps scope) (hd:A.handled=none) (e0:nc P w K mg base A outer s H) (hl:vs.length=ps.length) (r:Vals vs us)
  (x:InCallC s s.heap.objs.size (bindL (aiX qual scope s.heap.objs.size f cd).kindOf (ps.zip us) fun _=>none) (cellsFrom (s.heap.objs.size+1) scope.names []) (bindC (aiX qual scope s.heap.objs.size f cd).kindOf (ps.zip us) fun _=>none) s1) :
  Inv (j3 CX P w K mg base N qual scope f cd A outer s H E) [] (start N vs) H s1:=by
 have hpl:ps.length<=N.length:=by have:=congrArg List.length S.pre;rw[afI] at this;omega
 obtain⟨h1,tk,rfl,hk⟩:=x.done;have Bc:∀b:Addr,b∉(j3 CX P w K mg base N qual scope f cd A outer s H E).ex:=fun b z=>absurd (show b∈([]:List Addr) from z) (by simp)
 refine⟨⟨e0.mod,S.kind,rfl,rfl,aeq _,fun y z c h1 h2=>?_,fun y hy=>?_,fun y c _ h=>?_,fun _=>hd,Around.frames_deeper e0.frames,.inr ⟨rfl,rfl⟩,fun b z=>absurd z (Bc b),e0.bs,e0.i4,fun b _ _=>Bc b,fun b z=>absurd z (Bc b),e0.eX,e0.jC⟩,
  rfl,e0.bare,Un.kept hk,⟨_,x.toInCall.ns,fun i y v h1 h2 h3=>?_⟩,fun y c h=>⟨_,x.cell y c h⟩,e0.aI.fresh (aeq _),fun y c h=>?_,fun p hp=>absurd (show p∈([]:List (Addr×Obj)) from hp) (by simp),e0.aI.kept hk,⟨?_,trivial⟩⟩
 ·exact name_of_addr x.apart (agB h1) (agB h2)
 ·have hy:scope.names.lookup y=some .cell\/scope.names.lookup y=some .free:=hy
  rcases hy with hy | hy
  ·exact Ef hy
  ·exact absurd rfl (S.Zz _ (agB hy))
 ·exact aiz (x.above y c (agB h))
 ·have hi:i<vs.length:=by
   unfold start at h2;by_cases hi:i<vs.length
   ·exact hi
   ·rw[agg (by simpa using hi)] at h2;rw[List.getElem?_replicate] at h2;split at h2 <;> cases h2
  have ha:vs[i]? =some v:=by
   unfold start at h2;rw[afq (by simpa using hi),aeA] at h2;cases e:vs[i]? with
   | none=>rw[e] at h2;cases h2
   | some a=>rw[e] at h2;cases h2;rfl
  obtain⟨u,hu,rv⟩:=r.get ha;have hp:ps[i]? =some y:=by
   rw[<- S.pre,List.getElem?_take_of_lt (by omega)];exact h1
  have ID:ps.Nodup:=by rw[<- S.pre];exact S.nd.sublist (List.take_sublist _ _)
  refine⟨u,rv,?_⟩
  rcases S.IC y (aeV hp) with k | k
  ·exact .inl ⟨k,DO ID hp hu k⟩
  ·obtain⟨c,e⟩:=Ef (n:=s.heap.objs.size+1) k;refine .inr ⟨.inl k,c,e,?_⟩;have q:=x.cell y c e;rw[DP ID hp hu (by show scope.names.lookup y≠_;rw[k];decide)] at q;exact q
 ·have z:=e0.aI.fresh (aiz (x.above y c (agB h)));exact⟨fun _=>z,.inl z⟩
 ·unfold start;show _=N.length;rw[aeI,aep,List.length_replicate];omega
theorem ab0{CX:ki}{w:World}{base:Heap}{f:Addr}{name qual:Str}{params:Arguments}{body:List Stmt}{scope:Scope}{dV kV doc pm cF ct oc:Value}{an od:Option Addr}
  {jE:Array (Option Value)} {N ps:List Str} {sp:Sp} (lk:K.lookup f=some ⟨oc,od,.func (aeE name qual params body scope dV kV doc pm an cF ct),jE⟩) (hcd:aez K cF qual=true) (S:b8 N ps scope)
  (len:∀vs H Q E,sp vs H Q E->vs.length=ps.length)
  (rh:∀(A:afU) (outer:List Env) (s:aem) (H:Hp) (vs:List V) (Q:VK) (E:XK),cO k (A.deeper (aiX qual scope s.heap.objs.size f cF))->sp vs H Q E →
   ∃t,fX (j3 CX P w K mg base N qual scope f cF A outer s H E) body t/\t { nx:=fun _ H'=>Q .aE H',rt:=Q } (start N vs) H) :
  bF P w K mg base CX (k+1) f (aeE name qual params body scope dV kV doc pm an cF ct) ps sp:=by
 refine⟨len,fun A outer s H args us vs Q E hr e0 hb r IF=>?_⟩;have hl:=len _ _ _ _ IF;have KX:K.In s.heap:=e0.mod.fB.keeps fun b o e=>(e0.bs b o e).1
 have lim:s.heap.NoLimit:=e0.mod.nolimit.keeps fun b o e=>(e0.bs b o e).1
 have ab1:∀y∈ps.zip us,scope.names.lookup y.1=some .local\/(scope.names.lookup y.1=some .cell/\((cellsFrom (s.heap.objs.size+1) scope.names []).lookup y.1).isSome=true):=fun⟨n,v⟩ hy=>by
  rcases S.IC n (aiF hy).1 with q | q
  ·exact .inl q
  ·exact .inr ⟨q,ait _ _ _ (.inl q)⟩
 refine codeAny_call_function hr.depth (KX _ _ lk) rfl S.co S.gen rfl (PySem.W.codeRec_of KX hcd) (hb _ _ _ _ ?_);refine wpAny_newFunctionEnv_cells S.kind ab1 fun env he s1 x=>?_
 subst he;refine⟨lim.keeps x.toInCall.keep,codeAny_func ?_⟩;obtain⟨t,ht,hq⟩:=rh A outer s H vs Q E (hr.deeper _) IF;have I:Inv (j3 CX P w K mg base N qual scope f cF A outer s H E) [] (start N vs) H s1:=UD S hr.hd e0 hl r x;refine afJ (ht [] s1 (start N vs) H _ I hq) (fun fl s' hs=>?_) fun e s' hs=>hs
 have fin:∀{ay:St} {H':Hp} {v:V} {u:Value},Inv (j3 CX P w K mg base N qual scope f cF A outer s H E) [] ay H' s'->RelV v u->Q v H'->CE outer P w H s Q u s':=
  fun{ay H' v u} J rv q=>⟨v,H',J.os,J.bare,J.base,J.aI,rv,q⟩
 cases fl with
 | ret u=>
  obtain⟨v,ay,H',J,rv,q⟩:=hs;exact fin J rv q
 | next=>
  obtain⟨ay,H',J,q⟩:=hs;exact fin (v:=V.aE) (u:=agr) J rfl q
 | brk=>
  obtain⟨_,_,_,q⟩:=hs;exact agE q
 | cont=>
  obtain⟨_,_,_,q⟩:=hs;exact agE q
section
variable{X:Cx}{x:Str}{p pos:Pos}{e:Expr}{es:List Expr}{t:TA}{id T:String}{r:List V->Hp->VK->Prop}
noncomputable def Be(r:List V->Hp->VK->Prop)(t:TA):TE:=fun σ H Q=>t σ H fun vs H1=>r vs H1 Q
theorem Eg(hc:cR X (.builtin id) r)(hg:Gl X x)(hm:X.mg x=none)(hv:afv x=some (.builtin id))(ha:PA X (e::es) t)(hn:x≠"__name__":=by decide)(cf:(x==("__debug__":Str))=false:=by decide)
  (he:aeS (e::es) X.env=(false,eval e X.env)::aeS es X.env:=by rfl) (hpl:(ahx pos (aeS es X.env)).any (·.1)=false:=by rfl):PE X (.Call (.Name x p) (e::es) [] pos) (Be r t):=by
 intro pins s σ H Q I h;refine ahm (oN I hg hm hv ?_ hn cf);exact PyProof.Rows.callWith_builtin1 (aV (ha pos pins s σ H _ I h) fun us s1 ⟨vs,H1,I1,r1,q1⟩=>hc pins s1 σ H1 vs us Q I1 r1 q1) he hpl
theorem UE(hc:cR X (.type T) r)(hg:Gl X x)(hm:X.mg x=none)(hv:afv x=some (.type T))(ha:PA X (e::es) t)(hn:x≠"__name__":=by decide)(cf:(x==("__debug__":Str))=false:=by decide)
  (he:aeS (e::es) X.env=(false,eval e X.env)::aeS es X.env:=by rfl) (hpl:(ahx pos (aeS es X.env)).any (·.1)=false:=by rfl):PE X (.Call (.Name x p) (e::es) [] pos) (Be r t):=by
 intro pins s σ H Q I h;refine ahm (oN I hg hm hv ?_ hn cf);exact aga (aV (ha pos pins s σ H _ I h) fun us s1 ⟨vs,H1,I1,r1,q1⟩=>hc pins s1 σ H1 vs us Q I1 r1 q1) he hpl
end
end L2
namespace HT
open PySem PyProof.Rows
section
open PySem.SeqAt
open PySem.AutoSeq1 (wpAny_loadPart')
open PySem.MeetsSeq PySem.MeetsSeq2 PySem.MeetsSeq3
end
section
variable{prog:afm}{w:World}{A:afU}{E:Value->aem->Prop}{s:aem}
theorem Xl{t b:Addr}{vs ws:List Value}{Q:Value->aem->Prop}(ht:IsTup s.heap t vs.toArray)(hb:IsTup s.heap b ws.toArray)(hv:vs≠[])
  (h1:ws=[]->Q (.ref t) s) (h2:ws≠[]->Q (.ref s.heap.objs.size) { s with heap:=s.heap.push { cls:=.type "tuple",data:=.seq (vs++ws).toArray } })
  (hsz:vs.length+ws.length<=aeD):wpAny (model prog w) A (ahe .Add (.ref t) (.ref b)) Q E s:=by
 obtain⟨⟨cls,dd,data,sl⟩,ho,hc,n,hd⟩:=id ht;obtain⟨⟨ad9,IH,data2,nI⟩,xv,xw,n2,hd2⟩:=id hb;simp only at hc hd xw hd2;subst hc hd xw hd2;have e:vs.toArray++ws.toArray=(vs++ws).toArray:=by simp
 by_cases hw:ws=[]
 ·exact concat_meets ⟨_,ho,rfl⟩ ⟨_,xv,rfl⟩ noFill_tuple_add seq_tuple_add aiu aig (aia _ _)
   (tuple_addW1 t b vs.toArray ws.toArray n n2 dd IH sl nI (by simpa using hv) (by simp[hw])) ⟨ho,xv,h1 hw⟩
 ·refine concat_meets ⟨_,ho,rfl⟩ ⟨_,xv,rfl⟩ noFill_tuple_add seq_tuple_add aiu aig (aia _ _)
   (tuple_addW2 t b vs.toArray ws.toArray n n2 dd IH sl nI (by simpa using hv) (by simpa using hw) (by rw[aew,aew];exact hsz)) ⟨ho,xv,?_⟩
  rw[e];exact h2 hw
noncomputable def bj(n d:Nat):Option Int->Nat
 | none=>d
 | some v=>if v<0 then(v+(n:Int)).toNat else min v.toNat n
theorem ZA(n d:Nat)(hd:d<=n)(o:Option Int):bj n d o<=n:=by
 cases o with
 | none=>exact hd
 | some v=>
  show(if v<0 then(v+(n:Int)).toNat else min v.toNat n)<=n;by_cases hv:v<0
  ·rw[if_pos hv];omega
  ·rw[if_neg hv];exact Nat.min_le_right _ _
theorem EW(v:Int)(n d:Nat):(if v<0 then max (v+(n:Int)) 0 else min v (n:Int))=((bj n d (some v):Nat):Int):=by
 show(if v<0 then max (v+(n:Int)) 0 else min v (n:Int))=(((if v<0 then(v+(n:Int)).toNat else min v.toNat n):Nat):Int);by_cases hv:v<0
 ·simp only[if_pos hv];omega
 ·simp only[if_neg hv];omega
theorem S2(lo hi:Option Int)(n:Nat):ahb lo hi 1 (n:Int)=(((bj n 0 lo:Nat):Int),((bj n n hi:Nat):Int)):=by
 have h1:¬((1:Int)<0):=by omega
 unfold ahb;simp only[h1,if_false];refine Prod.ext ?_ ?_
 ·cases lo with
  | none=>rfl
  | some v=>exact EW v n 0
 ·cases hi with
  | none=>rfl
  | some v=>exact EW v n n
theorem S3(i j:Nat):agn (i:Int) (j:Int) 1=j-i:=by
 unfold agn;have h1:(1:Int)>0:=by omega
 simp only[h1,if_true,Int.ediv_one];split <;> omega
theorem Dv{v:Value}{o:Option Int}{Q:Option Int->aem->Prop}(p:ajN v o)(h:Q o s):wpAny (model prog w) A (Builtin.Slice.slicePartIndex v) Q E s:=by
 cases p with
 | none=>exact slicePart_none h
 | int i t=>exact slicePart_int h
theorem MV{sl:Addr}{vl vu:Value}{lo hi:Option Int}{n:Nat}{Q:Int×Int×Nat->aem->Prop}(hs:s.heap.IsSliceOf sl vl vu .none)(pl:ajN vl lo)(pu:ajN vu hi)
  (h:Q (((bj n 0 lo:Nat):Int),1,bj n n hi-bj n 0 lo) s):wpAny (model prog w) A (ahM (.ref sl) (pure (n:Int))) Q E s:=by
 obtain⟨os,sE,IJ,xx⟩:=id hs;unfold ahM Builtin.Slice.sliceFields;refine aeh (aeh (afA sE xx (x:=vl) rfl (aeh (afA sE xx (x:=vu) rfl (aeh (afA sE xx (x:=.none) rfl (aes ?_)))))));refine aeh (slicePart_none ?_);show wpAny _ _ (if((1:Int)==0)=true then _ else _) _ _ s;rw[if_neg (by decide)];refine aeh (Dv pl (aeh (Dv pu (aeh (aes ?_)))));show wpAny _ _ (match ahb lo hi 1 (n:Int) with | (lo,hi)=>pure (lo,(1:Int),agn lo hi 1)) _ _ s;rw[S2 lo hi n];show wpAny _ _ (pure (((bj n 0 lo:Nat):Int),(1:Int),agn ((bj n 0 lo:Nat):Int) ((bj n n hi:Nat):Int) 1)) _ _ s;rw[S3];exact aes h
theorem Wb(xs:Array Value)(i k:Nat):((afr k).filterMap fun(m:Nat)=>xs[((i:Int)+(m:Int)*1).toNat]?).toArray=((xs.toList.drop i).take k).toArray:=by
 have e:(fun(m:Nat)=>xs[((i:Int)+(m:Int)*1).toNat]?)=fun m=>xs[i+m]? :=by
  funext m
  have:((i:Int)+(m:Int)*1).toNat=i+m:=by omega
  rw[this]
 rw[e];have:=pick_run xs i k;rw[List.filterMap_map] at this;have e2:((fun x=>xs[x]?)∘fun x=>i+x)=fun m=>xs[i+m]? :=rfl
 rw[e2] at this;rw[this]
theorem Mu{t sl:Addr}{items:Array Value}{vl vu:Value}{lo hi:Option Int}{Q:Value->aem->Prop}(ht:IsTup s.heap t items)(hs:s.heap.IsSliceOf sl vl vu .none)(pl:ajN vl lo)(pu:ajN vu hi)
  (hw:¬(bj items.size 0 lo=0/\bj items.size items.size hi=items.size))
  (h:Q (.ref s.heap.objs.size) { s with heap:=s.heap.push { cls:=.type "tuple",data:=.seq ((items.toList.drop (bj items.size 0 lo)).take (bj items.size items.size hi-bj items.size 0 lo)).toArray } })
  (hsz:items.size<=aeD):wpAny (model prog w) A (ajc (.ref t) (.ref sl)) Q E s:=by
 have vZ:sizeOk (.seq ((items.toList.drop (bj items.size 0 lo)).take (bj items.size items.size hi-bj items.size 0 lo)).toArray):=by
  show((items.toList.drop (bj items.size 0 lo)).take (bj items.size items.size hi-bj items.size 0 lo)).toArray.size<=aeD;rw[aew,afI,aio,ahg];omega
 have hj:bj items.size items.size hi<=items.size:=ZA _ _ (aeq _) hi;obtain⟨os,sE,IJ,xx⟩:=id hs;have hTs:s.TypeIs (.ref sl) "slice":=⟨os,sE,IJ⟩
 unfold ajc
 try with_reducible refine agV ?_
 first | refine aeh (aes ?_) | skip
 refine aeh (wpAny_sequenceKey ht.typeIs (by decide) ?_);refine aeh (afF (name:=aei "__getitem__") ht.typeIs agu
  (agi agu ht.typeIs entry_tuple_getitem ?_ (args_tuple_getitem _ _)))
 show wpAny _ _ (Builtin.Tuple.tupleItemsOf (.ref t) >>= _) _ _ s;refine aeh (tupleItemsOf_ ht ?_);refine aeh (wpAny_typeOf hTs ?_);rw[if_pos (by decide)];refine aeh (MV hs pl pu ?_);have sF:¬((((bj items.size 0 lo:Nat):Int)==0&&(1:Int)==1&&(bj items.size items.size hi-bj items.size 0 lo)==items.size)=true):=by
  intro q;rw[aev,aev] at q;have q1:((bj items.size 0 lo:Nat):Int)=0:=eq_of_beq q.1.1;have q2:bj items.size items.size hi-bj items.size 0 lo=items.size:=eq_of_beq q.2;exact hw ⟨by omega,by omega⟩
 show wpAny _ _ (if(((bj items.size 0 lo:Nat):Int)==0&&(1:Int)==1&&(bj items.size items.size hi-bj items.size 0 lo)==items.size)=true then _ else _) _ _ s;rw[if_neg sF,Wb]
 first
  | exact aeh (m:=agv _) (afW (aes ⟨_,rfl,aes h⟩) vZ)
  | exact aeh (m:=agv _) (afW (aeh (aes (aes ⟨_,rfl,aes h⟩))) vZ)
  | exact aeh (aeh (m:=agv _) (afW (aes (aes ⟨_,rfl,aes h⟩)) vZ))
  | exact aeh (aeh (m:=agv _) (afW (aes ⟨_,rfl,aes h⟩) vZ))
end
end HT
namespace L2
open PySem PySem.Spec PyProof.Rows
abbrev TO:=St->Hp->(Option Int->Hp->Prop)->Prop
noncomputable def PO(X:Cx)(e:Option Expr)(t:TO):Prop:=
 ∀(pins:List (Addr×Obj)) (s:aem) (σ:St) (H:Hp) (Q:Option Int->Hp->Prop),Inv X pins σ H s->t σ H Q →
  wpAny (model X.prog X.w) X.A (evalPart e X.env) (fun u s'=>∃o H',Inv X pins σ H' s'/\ajN u o/\Q o H') X.xe s
noncomputable def Xm:TO:=fun _ H Q=>Q none H
noncomputable def ab2(t:TE):TO:=fun σ H Q=>t σ H fun x H1=>∃i,x=.int i/\Q (some i) H1
section
variable{X:Cx}{e:Expr}{te:TE}{lo hi:Option Expr}{tl th:TO}{pos p2:Pos}
theorem Xn:PO X none Xm:=by
 intro pins s σ H Q I h;rw[evalPart_none];exact aes ⟨none,H,I,.none,h⟩
theorem Xo(h:PE X e te):PO X (some e) (ab2 te):=by
 intro pins s σ H Q I hw;rw[evalPart_some];refine aV (h pins s σ H _ I hw) fun u s1 ⟨x,H1,I1,r1,q1⟩=>?_
 obtain⟨i,rfl,q⟩:=q1;obtain⟨t,rfl⟩:=r1;exact⟨some i,H1,I1,.int i t,q⟩
noncomputable def lH(X:Cx)(r:V->Option Int->Option Int->Hp->VK->Prop):Prop:=
 ∀(pins:List (Addr×Obj)) (s:aem) (σ:St) (H:Hp) (x:V) (v vl vu:Value) (lo hi:Option Int) (sl:Addr) (Q:VK),Inv X pins σ H s->RelV x v->s.heap.IsSliceOf sl vl vu .none->ajN vl lo->ajN vu hi->r x lo hi H Q →
  ∃T id,typeLookup (.type T) "__getitem__"=pure (some (.builtin id))/\s.TypeIs v T/\wpAny (model X.prog X.w) X.A (ajc v (.ref sl)) (EP X pins σ Q) X.xe s
theorem lH.or{r r':V->Option Int->Option Int->Hp->VK->Prop}(h:lH X r)(h':lH X r'):lH X (fun x lo hi H Q=>r x lo hi H Q\/r' x lo hi H Q):=by
 intro pins s σ H x v vl vu lo hi sl Q I rx hs pl pu q
 rcases q with q | q
 ·exact h pins s σ H x v vl vu lo hi sl Q I rx hs pl pu q
 ·exact h' pins s σ H x v vl vu lo hi sl Q I rx hs pl pu q
noncomputable def tSl(r:V->Option Int->Option Int->Hp->VK->Prop)(te:TE)(tl th:TO):TE:=fun σ H Q=>te σ H fun x H1=>tl σ H1 fun l H2=>th σ H2 fun u H3=>r x l u H3 Q
theorem Wc{r:V->Option Int->Option Int->Hp->VK->Prop}(hr:lH X r)(he:PE X e te)(hl:PO X lo tl)(hu:PO X hi th):PE X (.Subscript e (.Slice lo hi none p2) pos) (tSl r te tl th):=by
 intro pins s σ H Q I h;refine Subscript_ (aV (he pins s σ H _ I h) fun v s1 ⟨x,H1,I1,r1,q1⟩=>?_);refine wpAny_Slice (aV (hl pins s1 σ H1 _ I1 q1) fun vl s2 ⟨l,H2,I2,pl,q2⟩=>aV (hu pins s2 σ H2 _ I2 q2) fun vu s3 ⟨u,H3,I3,pu,q3⟩=>?_);rw[evalPart_none];refine aes ?_;have I4:Inv X pins σ H3 { s3 with heap:=s3.heap.push { cls:=.type "slice",data:=.fields #[vl,vu,.none] } }:=I3.kept (t':=s3.toks) fun b ob q=>aek _ q
 obtain⟨T,id,hT,ht,hg⟩:=hr pins { s3 with heap:=s3.heap.push { cls:=.type "slice",data:=.fields #[vl,vu,.none] } } σ H3 x v vl vu l u s3.heap.objs.size Q I4 r1 (Heap.IsSliceOf.new ..) pl pu q3;show wpAny (model X.prog X.w) X.A (aih e (.Slice lo hi none p2) v (.ref s3.heap.objs.size)) (EP X pins σ Q) X.xe { s3 with heap:=s3.heap.push { cls:=.type "slice",data:=.fields #[vl,vu,.none] } };exact tail_any (ops:=[.ref s3.heap.objs.size,v]) ht hT hg (by with_unfolding_all rfl)
noncomputable def lq(xs:List V)(lo hi:Option Int):List V:=(xs.drop (HT.bj xs.length 0 lo)).take (HT.bj xs.length xs.length hi-HT.bj xs.length 0 lo)
theorem C8(xs:List V)(lo hi:Option Int):(lq xs lo hi).length<=xs.length:=by
 unfold lq;rw[afI,aio];omega
noncomputable def adl(K:acs):V->Option Int->Option Int->Hp->VK->Prop:=fun x lo hi H Q=>∃a xs,x=.ref a/\bJ K H a xs /\
 ¬(HT.bj xs.length 0 lo=0/\HT.bj xs.length xs.length hi=xs.length)/\∀p,H p=none->Q (.ref p) (upd H p (.tup (lq xs lo hi)))
theorem vH:lH X (adl X.K):=by
 intro pins s σ H x v vl vu lo hi sl Q I rx hs pl pu h;obtain⟨a,xs,rfl,hx,hw,q⟩:=h;cases rx;obtain⟨its,r,ht,hz⟩:=I.tuple hx;have b6:its.toArray.size=xs.length:=by rw[aew];exact r.length.symm
 refine⟨"tuple",_,agu.lookup,ht.typeIs,?_⟩;refine HT.Mu ht hs pl pu (by rw[b6];exact hw) ?_ (by rw[b6];exact hz);rw[b6];refine⟨.ref s.heap.objs.size,_,I.laid (t':=s.toks) (o:=.tup (lq xs lo hi)) (fun b ob q=>aek _ q) (aeq _) ?_,rfl,q _ (I.aI.fresh (aeq _))⟩;exact⟨aeW (C8 xs lo hi) hz,_,(r.drop (HT.bj xs.length 0 lo)).take (HT.bj xs.length xs.length hi-HT.bj xs.length 0 lo),IsTup.new _ _⟩
noncomputable def GQ(K:acs):R2:=fun x y H Q=>∃a b xs ys,x=.ref a/\y=.ref b/\bJ K H a xs/\bJ K H b ys/\xs≠[]/\xs.length+ys.length<=aeD /\
 (ys=[]->Q (.ref a) H)/\(ys≠[]->∀p,H p=none->Q (.ref p) (upd H p (.tup (xs++ys))))
theorem Vals.zA{xs:List V}{us:List Value}(r:Vals xs us):us=[]↔xs=[]:=by
 cases r with
 | nil=>simp
 | cons _ _=>simp
theorem Xp:bx X (ahe .Add) (GQ X.K):=by
 intro pins s σ H x y v u Q I rx ry h;obtain⟨a,b,xs,ys,rfl,rfl,ha,hb,hx,hz,q1,q2⟩:=h;cases rx;cases ry;obtain⟨its,r1,p1,_⟩:=I.tuple ha;obtain⟨lr,r2,p2,_⟩:=I.tuple hb;refine HT.Xl p1 p2 (fun z=>hx (r1.zA.mp z)) (fun z=>⟨.ref a,H,I,rfl,q1 (r2.zA.mp z)⟩) (fun z=>?_) (by rw[<- r1.length,<- r2.length];exact hz);refine⟨.ref s.heap.objs.size,_,I.laid (t':=s.toks) (o:=.tup (xs++ys)) (fun b ob q=>aek _ q) (aeq _) ?_,rfl,q2 (fun w=>z (r2.zA.mpr w)) _ (I.aI.fresh (aeq _))⟩;exact⟨by rw[aeI];exact hz,_,r1.append r2,IsTup.new _ _⟩
end
noncomputable def fY(n:Nat)(i:Int):Option Nat:=if 0<=i then(if i<n then some i.toNat else none) else if -(n:Int)<=i then some (i+n).toNat else none
noncomputable def cy{α:Type}(xs:List α)(i:Int):Option α:=(fY xs.length i).bind fun j=>xs[j]?
theorem EX{n:Nat}{i:Int}{j:Nat}(h:fY n i=some j):seqIndex? i n=some j/\j<n/\ -(n:Int)<=i/\i<n:=by
 unfold fY at h;by_cases h0:0<=i
 ·rw[if_pos h0] at h;by_cases h1:i<n
  ·rw[if_pos h1] at h;have e:i.toNat=j:=afn h;exact⟨by rw[seqIndex_of h0 h1,e],by omega,by omega,h1⟩
  ·rw[if_neg h1] at h;cases h
 ·rw[if_neg h0] at h;by_cases h1: -(n:Int)<=i
  ·rw[if_pos h1] at h;have e:(i+n).toNat=j:=afn h;exact⟨by rw[seqIndex_neg (by omega) h1,e],by omega,h1,by omega⟩
  ·rw[if_neg h1] at h;cases h
theorem zB{α:Type}{xs:List α}{i:Int}{v:α}(h:cy xs i=some v):∃j,seqIndex? i xs.length=some j/\xs[j]? =some v/\j<xs.length/\ -(xs.length:Int)<=i/\i<xs.length:=by
 unfold cy at h;cases e:fY xs.length i with
 | none=>rw[e] at h;cases h
 | some j=>
  rw[e] at h;obtain⟨h1,h2,h3,h4⟩:=EX e;exact⟨j,h1,h,h2,h3,h4⟩
noncomputable def vg(b:Expr):Prop:=∀o i,ajd b false o i=operate [o,i] (ajc o i)
noncomputable def i6(X:Cx)(r:R2):Prop:=
 ∀(value slice:Expr) (pins:List (Addr×Obj)) (s:aem) (σ:St) (H:Hp) (x y:V) (v u:Value) (Q:VK),Inv X pins σ H s->RelV x v->RelV y u->r x y H Q →
  ajd slice false v u=operate [v,u] (ajc v u)->wpAny (model X.prog X.w) X.A (aih value slice v u) (EP X pins σ Q) X.xe s
noncomputable def nJ(X:Cx)(id:String)(r:V->List V->Hp->VK->Prop):Prop:=
 ∀(pins:List (Addr×Obj)) (s:aem) (σ:St) (H:Hp) (x:V) (xs:List V) (v:Value) (us:List Value) (Q:VK),Inv X pins σ H s->RelV x v->Vals xs us->r x xs H Q →
  wpAny (model X.prog X.w) X.A (call (.builtin id) (v::us)) (EP X pins σ Q) X.xe s
section
variable{X:Cx}{a b:Expr}{ta tb:TE}{pos:Pos}
theorem i6.or{r r':R2}(h:i6 X r)(h':i6 X r'):i6 X (fun x y H Q=>r x y H Q\/r' x y H Q):=by
 intro value slice pins s σ H x y v u Q I rx ry q hs
 rcases q with q | q
 ·exact h value slice pins s σ H x y v u Q I rx ry q hs
 ·exact h' value slice pins s σ H x y v u Q I rx ry q hs
theorem ab3{r:R2}(hr:i6 X r)(ha:PE X a ta)(hb:PE X b tb)(hs:vg b):PE X (.Subscript a b pos) (nH r ta tb):=by
 intro pins s σ H Q I h;exact Subscript_ (wM ha hb I h fun v u s2 x y H2 I2 rx ry q=>hr a b pins s2 σ H2 x y v u Q I2 rx ry q (hs _ _))
noncomputable def HA(K:acs):R2:=fun x y H Q=>∃p xs i v,x=.ref p/\y=.int i/\bC K H p xs/\cy xs i=some v/\Q v H
noncomputable def HB(K:acs):R2:=fun x y H Q=>∃p xs i v,x=.ref p/\y=.int i/\bJ K H p xs/\cy xs i=some v/\Q v H
noncomputable def HC:R2:=fun x y H Q=>∃z i c,x=.str z/\y=.int i/\z.length<=aeD/\cy z.cps.toList i=some c/\Q (.str ⟨#[c]⟩) H
theorem Xq:i6 X (HA X.K):=by
 intro value slice pins s σ H x y v u Q I rx ry h hs;obtain⟨p,xs,i,z,rfl,rfl,hq,he,q⟩:=h;cases rx;obtain⟨t,rfl⟩:=ry;obtain⟨its,r,pl,hz⟩:=I.list hq;obtain⟨j,h1,h2,h3,h4,h5⟩:=zB he;obtain⟨w,ew,fZ⟩:=r.get h2;have hl:=r.length;have hn:=mM;have fin:EP X pins σ Q w s:=⟨z,H,I,fZ,q⟩
 by_cases h0:0<=i
 ·have hj:i.toNat=j:=by
   rw[seqIndex_of h0 h5] at h1;exact afn h1
  exact item_listR pl.isList h0 (by omega) (by rw[hj];simpa using ew) fin hs
 ·have hj:(i+(its.toArray.size:Int)).toNat=j:=by
   rw[seqIndex_neg (by omega) h4] at h1;rw[aew,<- hl];exact afn h1
  exact subscriptTail_builtinR (x:=w) pl.isList.typeIs slot_list_getitem.lookup
   (wpAny_getItem_list_neg (Q:=fun r s'=>r=w/\EP X pins σ Q r s') pl.isList (by omega) (by rw[aew] <;> omega) (by omega) (by rw[hj];simpa using ew) ⟨rfl,fin⟩) hs
theorem ZC:i6 X (HB X.K):=by
 intro value slice pins s σ H x y v u Q I rx ry h hs;obtain⟨p,xs,i,z,rfl,rfl,hq,he,q⟩:=h;cases rx;obtain⟨t,rfl⟩:=ry;obtain⟨its,r,pl,hz⟩:=I.tuple hq;obtain⟨j,h1,h2,h3,h4,h5⟩:=zB he;obtain⟨w,ew,fZ⟩:=r.get h2;have hl:=r.length;have hn:=mM;have fin:EP X pins σ Q w s:=⟨z,H,I,fZ,q⟩
 exact subscriptTail_builtinR (x:=w) pl.typeIs slot_tuple_getitem.lookup
  (getItem_tuple (j:=j) (Q:=fun r s'=>r=w/\EP X pins σ Q r s') pl (by omega) (by omega) (by rw[aew,<- hl];exact h1) (by simpa using ew) ⟨rfl,fin⟩) hs
theorem ZD:i6 X HC:=by
 intro value slice pins s σ H x y v u Q I rx ry h hs;obtain⟨z,i,c,rfl,rfl,hz,he,q⟩:=h;obtain⟨t,rfl⟩:=rx;obtain⟨t',rfl⟩:=ry;obtain⟨j,h1,h2,h3,h4,h5⟩:=zB he;have hl:z.cps.toList.length=z.length:=by simp[Str.length]
 rw[hl] at h1 h4 h5;have hn:=mM;exact tail_any (typeIs_str s z t) slot_str_getitem.lookup (getItem_str (c:=c) (by
  have e1:decide (i< -(2 ^ 63:Int))=false:=decide_eq_false (by omega);have e2:decide (i >= 2 ^ 63)=false:=decide_eq_false (by omega);rw[e1,e2,ajo]) (by rw[h1];simpa using h2) ⟨.str ⟨#[c]⟩,H,I.tok _,⟨_,rfl⟩,q⟩) hs
noncomputable def Bf(K:acs):R2:=fun x y H Q=>HA K x y H Q\/HB K x y H Q\/HC x y H Q
theorem ZE:i6 X (Bf X.K):=Xq.or (ZC.or ZD)
theorem S4(its:List Value)(n j:Nat)(u:Value):aiN (·.setIfInBounds j u) { cls:=.type "list",data:=.seq its.toArray n }={ cls:=.type "list",data:=.seq (its.set j u).toArray n }:=by
 simp[aiN]
variable{σ:St}{H:Hp}
theorem Inv.lst{pins:List (Addr×Obj)}{s:aem}{p:Addr}{xs:List V}(I:Inv X pins σ H s)(h:H p=some (.lst xs)) :
  ∃(its:List Value) (n:Nat),Vals xs its/\s.heap.get? p=some { cls:=.type "list",data:=.seq its.toArray n }/\xs.length<=sizeLine:=by
 obtain⟨z,its,n,r,e⟩:=I.aI p _ h;exact⟨its,n,r,e,z⟩
theorem Inv.ZF{pins:List (Addr×Obj)}{s:aem}{p:Addr}{xs ys:List V}{its its':List Value}{n n':Nat}{f:Obj->Obj}(I:Inv X pins σ H s)(h:H p=some (.lst xs))
  (ho:s.heap.get? p=some { cls:=.type "list",data:=.seq its.toArray n }) (hf:f { cls:=.type "list",data:=.seq its.toArray n }={ cls:=.type "list",data:=.seq its'.toArray n' }) (r:Vals ys its') (hz:ys.length<=aeD) (t:Nat) :
  Inv X pins σ (upd H p (.lst ys)) { s with heap:=s.heap.update p f,toks:=t }:=by
 have e:(s.heap.update p f).get? p=some { cls:=.type "list",data:=.seq its'.toArray n' }:=by
  rw[aiG f ho (by rw[hf] <;> rfl),hf]
 refine I.write (x:=p) (e:=p) (by rw[h];trivial) (.inl rfl) (fun b u hb q=>(aiv _ _ (ahH hb)).trans q) ⟨_,e⟩ ?_;exact⟨hz,its',n',r,e⟩
noncomputable def ab4:V->V->V->Hp->(Hp->Prop)->Prop:=fun o i v H Q=>∃p xs k j,o=.ref p/\i=.int k/\H p=some (.lst xs)/\fY xs.length k=some j/\Q (upd H p (.lst (xs.set j v)))
theorem set_list:lp X ab4:=by
 intro pins s σ H o i v ov iv u Q I ro ri rv h;obtain⟨p,xs,k,j,rfl,rfl,hp,hj,q⟩:=h;cases ro;obtain⟨t,rfl⟩:=ri;obtain⟨its,n,r,ho,hz⟩:=I.lst hp;obtain⟨h1,h2,h3,h4⟩:=EX hj;have hl:=r.length;have hn:=mM;have I':Inv X pins σ (upd H p (.lst (xs.set j v))) { s with heap:=s.heap.update p (aiN (·.setIfInBounds j u)) }:=
  I.ZF hp ho (S4 its n j u) (r.set rv j) (by rw[afO];exact hz) s.toks
 by_cases h0:0<=k
 ·have hk:k.toNat=j:=by
   rw[seqIndex_of h0 h4] at h1;exact afn h1
  exact PySem.W.ki_setAt ho h0 (by omega) (by rw[aew,<- hl];exact h4) (by rw[hk];exact⟨_,I',q⟩)
 ·have hk:(k+(its.toArray.size:Int)).toNat=j:=by
   rw[seqIndex_neg (by omega) h3] at h1;rw[aew,<- hl];exact afn h1
  exact PySem.W.ki_setBack ho (by omega) (by rw[aew,<- hl];exact h3) (by omega) (by rw[hk];exact⟨_,I',q⟩)
theorem QD(lo hi:Option Int)(n:Nat):(ahr lo hi none n).1=((HT.bj n 0 lo:Nat):Int)/\(ahr lo hi none n).2.1=((HT.bj n n hi:Nat):Int)/\(ahr lo hi none n).2.2=1:=by
 refine⟨?_,?_,rfl⟩
 ·cases lo with
  | none=>simp[ahr,HT.bj]
  | some i=>
   simp only[ahr,HT.bj,Option.getD_none,show(1:Int)>0 by decide,if_true];by_cases h:i<0
   ·simp only[h,if_true] <;> omega
   ·simp only[h,if_false] <;> omega
 ·cases hi with
  | none=>simp[ahr,HT.bj]
  | some i=>
   simp only[ahr,HT.bj,Option.getD_none,show(1:Int)>0 by decide,if_true];by_cases h:i<0
   ·simp only[h,if_true] <;> omega
   ·simp only[h,if_false] <;> omega
theorem P7(its:List Value)(lo hi:Option Int):slicePick its.toArray lo hi none=((its.drop (HT.bj its.length 0 lo)).take (HT.bj its.length its.length hi-HT.bj its.length 0 lo)).toArray:=by
 obtain⟨h1,h2,h3⟩:=QD lo hi its.toArray.size;unfold slicePick;rw[h1,h2,h3];simp only[sliceRange_one,pick_run,aew] <;> rfl
noncomputable def adm(K:acs):V->Option Int->Option Int->Hp->VK->Prop:=fun x lo hi H Q=>∃a xs,x=.ref a/\bC K H a xs/\∀p,H p=none->Q (.ref p) (upd H p (.lst (lq xs lo hi)))
theorem Xr:lH X (adm X.K):=by
 intro pins s σ H x v vl vu lo hi sl Q I rx hs pl pu h;obtain⟨a,xs,rfl,hx,q⟩:=h;cases rx;obtain⟨its,r,ht,hz⟩:=I.list hx;have b6:=r.length;refine⟨"list",_,slot_list_getitem.lookup,ht.isList.typeIs,?_⟩;refine wpAny_getItem_list_slice ht.isList hs pl pu .none (by simp) ?_ (by rw[aew] <;> omega);rw[P7,<- b6];refine⟨.ref s.heap.objs.size,_,I.laid (t':=s.toks) (o:=.lst (lq xs lo hi)) (fun b ob q=>aek _ q) (aeq _) ?_,rfl,q _ (I.aI.fresh (aeq _))⟩;exact⟨aeW (C8 xs lo hi) hz,_,0,(r.drop (HT.bj xs.length 0 lo)).take (HT.bj xs.length xs.length hi-HT.bj xs.length 0 lo),aeN _ rfl⟩
noncomputable def jU:V->Bool
 | .aE=>true
 | .bl _=>true
 | .int _=>true
 | .str _=>true
 | _=>false
noncomputable def lI:V->V->Bool
 | .aE,.aE=>true
 | .bl a,.bl b=>a==b
 | .bl a,.int b=>(if a then 1 else 0)==b
 | .int a,.bl b=>a==(if b then 1 else 0)
 | .int a,.int b=>a==b
 | .str a,.str b=>a==b
 | _,_=>false
theorem ZG{A:afU}{s:aem}{y x:V}{u v:Value}(ry:RelV y u)(rx:RelV x v)(fy:jU y=true)(fx:jU x=true):ajx A s u v (lI y x):=by
 cases y with
 | aE=>
  cases ry;cases x with
  | aE=>cases rx;exact SeqAt.EqAt.same _
  | bl b=>cases rx;exact SeqAt.EqAt.none_bool b
  | int b=>obtain⟨t,rfl⟩:=rx;exact SeqAt.EqAt.none_int b t
  | str b=>obtain⟨t,rfl⟩:=rx;exact SeqAt.EqAt.none_str b t
  | _=>exact absurd (show false=true from fx) aeK
 | bl a=>
  cases ry;cases x with
  | aE=>cases rx;exact SeqAt.EqAt.bool_none a
  | bl b=>cases rx;exact SeqAt.EqAt.bool_bool a b
  | int b=>obtain⟨t,rfl⟩:=rx;exact SeqAt.EqAt.bool_int a b t
  | str b=>obtain⟨t,rfl⟩:=rx;exact SeqAt.EqAt.bool_str a b t
  | _=>exact absurd (show false=true from fx) aeK
 | int a=>
  obtain⟨t',rfl⟩:=ry;cases x with
  | aE=>cases rx;exact SeqAt.EqAt.int_none a t'
  | bl b=>cases rx;exact SeqAt.EqAt.int_bool a t' b
  | int b=>obtain⟨t,rfl⟩:=rx;exact SeqAt.EqAt.int_int a t' b t
  | str b=>obtain⟨t,rfl⟩:=rx;exact ajj a t' b t
  | _=>exact absurd (show false=true from fx) aeK
 | str a=>
  obtain⟨t',rfl⟩:=ry;cases x with
  | aE=>cases rx;exact SeqAt.EqAt.str_none a t'
  | bl b=>cases rx;exact SeqAt.EqAt.str_bool a t' b
  | int b=>obtain⟨t,rfl⟩:=rx;exact ajk a t' b t
  | str b=>obtain⟨t,rfl⟩:=rx;exact SeqAt.EqAt.str_str a t' b t
  | _=>exact absurd (show false=true from fx) aeK
 | _=>exact absurd (show false=true from fy) aeK
noncomputable def kj(x:V)(u:Value):Bool:=match u with
 | .none=>lI .aE x
 | .bool b=>lI (.bl b) x
 | .int i _=>lI (.int i) x
 | .str z _=>lI (.str z) x
 | _=>false
theorem FQ{x y:V}{u:Value}(r:RelV y u)(f:jU y=true):kj x u=lI y x:=by
 cases y with
 | aE=>cases r;rfl
 | bl b=>cases r;rfl
 | int i=>obtain⟨t,rfl⟩:=r;rfl
 | str z=>obtain⟨t,rfl⟩:=r;rfl
 | _=>exact absurd (show false=true from f) aeK
theorem zC{x:V}:∀{xs:List V} {us:List Value},Vals xs us->xs.all jU=true->us.any (kj x)=xs.any fun y=>lI y x
 | _,_,.nil,_=>rfl
 | y::xs,u::us,.cons r t,f=>by
  rw[afG,aev] at f;rw[aft,aft,FQ r f.1,zC t f.2]
theorem zc{A:afU}{s:aem}{x:V}{v:Value}(rx:RelV x v)(fx:jU x=true):∀{xs:List V} {us:List Value},Vals xs us->xs.all jU=true->∀u∈us,ajx A s u v (kj x u)
 | _,_,.nil,_=>fun u hu=>by cases hu
 | y::xs,u::us,.cons r t,f=>fun u' hu=>by
  rw[afG,aev] at f
  rcases aeG.mp hu with rfl | hu
  ·rw[FQ r f.1];exact ZG r rx f.1 fx
  ·exact zc rx fx t f.2 u' hu
noncomputable def eL(x:V)(xs:List V):Bool:=xs.any fun y=>lI y x
noncomputable def IK(K:acs)(neg:Bool):R2:=fun x y H Q=>∃p xs,y=.ref p/\(bC K H p xs\/bJ K H p xs)/\jU x=true/\xs.all jU=true/\Q (.bl (if neg then !eL x xs else eL x xs)) H
theorem UG:bx X (afh .In) (IK X.K false):=by
 intro pins s σ H x y v u Q I rx ry h;obtain⟨p,xs,rfl,hq,fx,fs,q⟩:=h;cases ry
 rcases hq with hq | hq
 ·obtain⟨its,r,pl,hz⟩:=I.list hq;refine SeqAt.in_listAt (kj x) pl.isList (fun w hw=>zc rx fx r fs w (by simpa using hw)) ⟨.bl _,H,I,rfl,?_⟩;rw[show its.toArray.any (kj x)=its.any (kj x) by simp,zC r fs];exact q
 ·obtain⟨its,r,pl,hz⟩:=I.tuple hq;refine SeqAt.in_tupleAt (kj x) pl (fun w hw=>zc rx fx r fs w (by simpa using hw)) ⟨.bl _,H,I,rfl,?_⟩;rw[show its.toArray.any (kj x)=its.any (kj x) by simp,zC r fs];exact q
theorem QE:cR X (.builtin "len") (fun xs H Q=>∃p ys,xs=[.ref p]/\(bC X.K H p ys\/bJ X.K H p ys)/\Q (.int ys.length) H):=by
 intro pins s σ H xs us Q I r h;obtain⟨p,ys,rfl,hq,q⟩:=h;obtain⟨u,rfl,rx⟩:=vals1 r;cases rx;have hn:=mM
 rcases hq with hq | hq
 ·obtain⟨its,r',pl,hz⟩:=I.list hq;have b6:=r'.length;exact Calls.call_len_list pl.isList (by simp only[aew] <;> omega) ⟨.int ys.length,H,I.tok _,⟨s.toks+1,by rw[aew,b6]⟩,q⟩
 ·obtain⟨its,r',pl,hz⟩:=I.tuple hq;have b6:=r'.length;exact len_tuple pl (by simp only[aew] <;> omega) ⟨.int ys.length,H,I.tok _,⟨s.toks+1,by rw[aew,b6]⟩,q⟩
theorem QF:cR X (.builtin "len") (fun xs H Q=>∃z,xs=[.str z]/\z.length<=aeD/\Q (.int z.length) H):=by
 intro pins s σ H xs us Q I r h;obtain⟨z,rfl,hz,q⟩:=h;obtain⟨u,rfl,t,rfl⟩:=vals1 r;have hn:=mM;exact len_str (by omega) ⟨.int z.length,H,I.tok _,⟨_,rfl⟩,q⟩
theorem cR.or{f:Value}{r r':List V->Hp->VK->Prop}(h:cR X f r)(h':cR X f r'):cR X f (fun xs H Q=>r xs H Q\/r' xs H Q):=by
 intro pins s σ H xs us Q I rs q
 rcases q with q | q
 ·exact h pins s σ H xs us Q I rs q
 ·exact h' pins s σ H xs us Q I rs q
theorem QG:cR X (.type "list") (fun xs H Q=>∃p ys,xs=[.ref p]/\(bC X.K H p ys\/bJ X.K H p ys)/\∀l,H l=none->Q (.ref l) (upd H l (.lst ys))):=by
 intro pins s σ H xs us Q I r h;obtain⟨p,ys,rfl,hq,q⟩:=h;obtain⟨u,rfl,rx⟩:=vals1 r;cases rx;have fin:∀(its:List Value),Vals ys its->ys.length<=aeD->∀(h':Heap) (c':Nat),(∀b o',s.heap.get? b=some o'->h'.get? b=some o') →
   h'.get? s.heap.objs.size=some { cls:=.type "list",dict:=none,data:=.seq its.toArray c',slots:= #[] }->EP X pins σ Q (.ref s.heap.objs.size) { s with heap:=h' }:=fun its r' hz h' c' kp e=>
  ⟨.ref s.heap.objs.size,_,I.laid (t':=s.toks) kp (aeq _) (show cX X.prog X.w _ h' _ (.lst ys) from⟨hz,its,c',r',e⟩),rfl,q _ (I.aI.fresh (aeq _))⟩
 rcases hq with hq | hq
 ·obtain⟨its,r',pl,hz⟩:=I.list hq;have b6:=r'.length;obtain⟨o,ho,hc,n,hd⟩:=pl.isList;exact call_list_seq p (.inl rfl) ho hc hd (fun h' c' kp e=>fin its r' hz h' c' kp e) (by simp only[aew] <;> omega)
 ·obtain⟨its,r',pl,hz⟩:=I.tuple hq;have b6:=r'.length;obtain⟨o,ho,hc,n,hd⟩:=pl;exact call_list_seq p (.inr rfl) ho hc hd (fun h' c' kp e=>fin its r' hz h' c' kp e) (by simp only[aew] <;> omega)
noncomputable def Bg(K:acs)(T:String)(x:V)(H:Hp):Prop:=match x with
 | .str _=>T="str"
 | .int _=>T="int"
 | .ref p=>(T="list"/\∃xs,bC K H p xs)\/(T="tuple"/\∃o,K.lookup p=some o/\o.cls=.type "tuple"/\o.dict=none) \/
   (T="dict"/\((∃kvs,H p=some (.dK kvs))\/∃kvs,H p=some (.dT kvs)))\/(T="set"/\∃S n,H p=some (.set S n))\/(T="dict"/\∃kvs,H p=some (.dU kvs))
 | _=>False
theorem ZH{pins:List (Addr×Obj)}{s:aem}{T:String}{x:V}{v:Value}(I:Inv X pins σ H s)(r:RelV x v)(ty:Bg X.K T x H) :
  s.TypeIs v T/\∀a,v=.ref a->∃ob,s.heap.get? a=some ob/\ob.dict=none:=by
 cases x with
 | str z=>
  obtain⟨t,rfl⟩:=r;cases(show T="str" from ty);exact⟨typeIs_str s z t,fun _ e=>nomatch e⟩
 | int i=>
  obtain⟨t,rfl⟩:=r;cases(show T="int" from ty);exact⟨typeIs_int s i t,fun _ e=>nomatch e⟩
 | ref p=>
  cases r
  rcases ty with⟨rfl,xs,hq⟩ | ⟨rfl,o,hk,hc,hd⟩ | ⟨rfl,hk⟩ | ⟨rfl,S,n,hk⟩ | ⟨rfl,kvs,hk⟩
  ·obtain⟨its,_,pl,_⟩:=I.list hq;refine⟨pl.isList.typeIs,fun a e=>?_⟩;cases e;obtain⟨o,n,e,c,hd,_⟩:=pl;exact⟨o,e,hd⟩
  ·refine⟨⟨o,I.dC p o hk,hc⟩,fun a e=>?_⟩;cases e;exact⟨o,I.dC _ o hk,hd⟩
  ·have z:∃o,s.heap.get? p=some o/\o.ExactDict:=by
    rcases hk with⟨kvs,hk⟩ | ⟨kvs,hk⟩
    ·obtain⟨_,_,_,_,o,_,_,e,ex,_⟩:=I.aI p _ hk;exact⟨o,e,ex⟩
    ·obtain⟨_,_,_,_,o,_,_,e,ex,_⟩:=I.aI p _ hk;exact⟨o,e,ex⟩
   obtain⟨o,e,ex⟩:=z;refine⟨⟨o,e,ex.1⟩,fun a e2=>?_⟩;cases e2;exact⟨o,e,ex.2.1⟩
  ·obtain⟨o,_,_,_,e,ex,_⟩:=I.aI p _ hk;refine⟨⟨o,e,ex.1⟩,fun a e2=>?_⟩;cases e2;exact⟨o,e,ex.2.1⟩
  ·obtain⟨_,_,o,_,_,e,ex,_⟩:=I.aI p _ hk;refine⟨⟨o,e,ex.1⟩,fun a e2=>?_⟩;cases e2;exact⟨o,e,ex.2.1⟩
 | _=>exact agE ty
noncomputable def IP(K:acs)(T:String)(r:V->List V->Hp->VK->Prop)(to:TE)(t:TA):TE:=fun σ H Q=>to σ H fun x H1=>Bg K T x H1/\t σ H1 fun xs H2=>r x xs H2 Q
variable{o e:Expr}{es:List Expr}{to:TE}{t:TA}{name:Str}{apos dA:Pos}{T id:String}{r:V->List V->Hp->VK->Prop}
theorem ab5(pa:ajy T)(slot:Slot T name id)(kl:typeOf (.builtin id)=pure (.type "method_descriptor"))(hm:nJ X id r)(ho:PE X o to)(ha:PA X (e::es) t)
  (mW:agA o name X.env (eval o X.env)=eval o X.env:=by rfl)
  (AL:((ahx dA (aeS (e::es) X.env)).all (fun x=> !x.1)&&(backToKw dA (ajb [] X.env)).all (fun x=>x.1.isSome)
   && decide ((e::es).length+([]:List Keyword).length+(if([]:List Keyword).isEmpty then 0 else 1)<30))=true:=by rfl)
  (mX:(apos.endLine==dA.line)=true:=by rfl) (hs:aeS (e::es) X.env=(false,eval e X.env)::aeS es X.env:=by rfl) (zT:(ahx dA (aeS es X.env)).any (·.1)=false:=by rfl) :
  PE X (.Call (.Attribute o name apos) (e::es) [] dA) (IP X.K T r to t):=by
 intro pins s σ H Q I h;refine wpAny_Call_method_late mW AL mX rfl (aV (ho pins s σ H _ I h) fun v s1 ⟨x,H1,I1,r1,ty,q1⟩=>?_);obtain⟨h1,h2⟩:=ZH I1 r1 ty;refine⟨T,id,pa,slot,kl,h1,h2,?_⟩;have hA:=ha dA pins s1 σ H1 _ I1 q1;rw[hs] at hA ⊢;refine Calls.callWith_builtin (by show(false||(ahx dA (aeS es X.env)).any (·.1))=false;rw[zT] <;> rfl) (aiR ?_);exact aV hA fun us s2 ⟨vs,H2,I2,r2,q2⟩=>hm pins s2 σ H2 x vs v us Q I2 r1 r2 q2
end
noncomputable def IQ(X:Cx)(id:String)(r:V->List V->Hp->VK->Prop):Prop:=
 ∀(pins:List (Addr×Obj)) (s:aem) (σ:St) (H:Hp) (x:V) (xs:List V) (v:Value) (us:List Value) (Q:VK),Inv X pins σ H s->RelV x v->Vals xs us->r x xs H Q →
  wpAny (model X.prog X.w) X.A (call (.builtin id) (v::us)) (EP X pins σ Q) X.xe s
theorem Vals.one{x:V}{us:List Value}(h:Vals [x] us):∃u,us=[u]/\RelV x u:=by
 cases h with
 | cons r t=>cases t;exact⟨_,rfl,r⟩
theorem Vals.two{x y:V}{us:List Value}(h:Vals [x,y] us):∃u v,us=[u,v]/\RelV x u/\RelV y v:=by
 cases h with
 | cons r t=>
  obtain⟨v,e,q⟩:=Vals.one t;subst e;exact⟨_,_,rfl,r,q⟩
theorem Vals.rep{xs:List V}{us:List Value}(h:Vals xs us):∀k:Nat,Vals (aeF k xs).flatten (aeF k us).flatten
 | 0=>.nil
 | k+1=>by
  rw[afN,afN,agw,agw];exact Vals.append h (Vals.rep h k)
theorem foldl_rep(its:List Value):∀(k:Nat) (acc:List Value),
  List.foldl (fun x1 x2=>x1++x2) acc.toArray (aeF k its.toArray)=(acc++(aeF k its).flatten).toArray
 | 0,acc=>by simp
 | k+1,acc=>by
  have e:acc.toArray++its.toArray=(acc++its).toArray:=by simp
  have e2:(acc++its)++(aeF k its).flatten=acc++(aeF (k+1) its).flatten:=by
   rw[afN,agw,agX]
  rw[<- e2,<- foldl_rep its k (acc++its),<- e,afN,List.foldl_cons]
section
variable{X:Cx}{pins:List (Addr×Obj)}{σ:St}{H:Hp}{s:aem}{l b:Addr}{xs ys zs:List V}
theorem Inv.HD{its its':List Value}{n:Nat}{f:Array Value->Array Value}{t':Nat}(I:Inv X pins σ H s)(hH:H l=some (.lst xs))
  (e:s.heap.get? l=some { cls:=.type "list",data:=.seq its.toArray n }) (hf:f its.toArray=its'.toArray) (hv:Vals ys its') (hz:ys.length<=aeD) :
  Inv X pins σ (upd H l (.lst ys)) { s with heap:=s.heap.update l (aiN f),toks:=t' }:=by
 have q:=PySem.IsL.update e f;rw[hf] at q;refine I.write (x:=l) (e:=l) (by rw[hH];exact trivial) (.inl rfl) (fun b' u hb hu=>(aiv s.heap (aiN f) (ahH hb)).trans hu) ⟨_,q⟩ ?_;exact⟨hz,its',_,hv,q⟩
theorem Inv.AN{its:List Value}{t':Nat}(I:Inv X pins σ H s)(hv:Vals ys its)(hz:ys.length<=aeD) :
  Inv X pins σ (upd H s.heap.objs.size (.lst ys)) { s with heap:=s.heap.push { cls:=.type "list",data:=.seq its.toArray },toks:=t' }:=
 I.laid (fun _ _ q=>aek _ q) (aeq _) ⟨hz,its,0,hv,aeN _ rfl⟩
theorem Inv.fresh(I:Inv X pins σ H s):H s.heap.objs.size=none:=I.aI.fresh (aeq _)
theorem Inv.pD(I:Inv X pins σ H s)(hH:H l=some (.lst xs)):xs.length<=aeD/\∃(its:List Value) (n:Nat),Vals xs its/\xs.length=its.length/\s.heap.get? l=some { cls:=.type "list",data:=.seq its.toArray n }:=by
 obtain⟨z,its,n,r,e⟩:=I.aI l _ hH;exact⟨z,its,n,r,r.length,e⟩
theorem Eh{n:Nat}(h:n<=aeD):agx n=false:=by
 unfold agx;exact decide_eq_false (by omega)
end
section
variable{X:Cx}
noncomputable def EY:V->List V->Hp->VK->Prop:=fun x vs H Q=>∃l xs y,x=.ref l/\vs=[y]/\H l=some (.lst xs)/\xs.length<aeD/\Q .aE (upd H l (.lst (xs++[y])))
theorem ji:IQ X "list.append" EY:=by
 intro pins s σ H x vs v us Q I rx rv h;obtain⟨l,xs,y,rfl,rfl,hH,hz,q⟩:=h;cases rx;obtain⟨u,rfl,ru⟩:=rv.one;obtain⟨z,its,n,r,hl,e⟩:=I.pD hH;refine aiO F.slot_list_append ⟨_,e,rfl⟩ F.entry_list_append (F.args_list_append_2 _ _) (PySem.list_append l its.toArray n u (by rw[aew];omega)) ⟨e,?_⟩;refine⟨.aE,_,I.HD (its':=its++[u]) hH e (by simp) (r.append (.cons ru .nil)) ?_,rfl,q⟩;rw[aeI,List.length_singleton];omega
noncomputable def Xs:V->List V->Hp->VK->Prop:=fun x vs H Q=>∃l b xs zs,x=.ref l/\vs=[.ref b]/\H l=some (.lst xs)/\H b=some (.lst zs)/\xs.length+zs.length<=aeD/\Q .aE (upd H l (.lst (xs++zs)))
theorem ad0:IQ X "list.extend" Xs:=by
 intro pins s σ H x vs v us Q I rx rv h;obtain⟨l,b,xs,zs,rfl,rfl,hH,hB,hz,q⟩:=h;cases rx;obtain⟨u,rfl,ru⟩:=rv.one;cases ru;obtain⟨z,its,n,r,hl,e⟩:=I.pD hH;obtain⟨z2,lr,n2,r2,eM,e2⟩:=I.pD hB;have hsz:its.toArray.size+lr.toArray.size<=sizeLine:=by rw[aew,aew];omega
 have Ah:¬(!its.toArray.isEmpty&&agx (its.toArray.size+lr.toArray.size))=true:=by
  rw[Eh hsz,Bool.and_false];exact aeK
 refine aiO F.slot_list_extend ⟨_,e,rfl⟩ F.entry_list_extend (F.args_list_extend_2 _ _)
  (AutoSeq1.list_extend_list_list_0 l its.toArray n b lr.toArray n2 Ah (by rw[aew];omega) (by omega)) ⟨e,e2,?_⟩
 refine⟨.aE,_,I.HD (its':=its++lr) hH e (by simp) (r.append r2) ?_,rfl,q⟩;rw[aeI];omega
noncomputable def HE:R2:=fun x y H Q=>∃l b xs zs,x=.ref l/\y=.ref b/\H l=some (.lst xs)/\H b=some (.lst zs)/\xs.length+zs.length<=aeD/\∀p,H p=none->Q (.ref p) (upd H p (.lst (xs++zs)))
theorem ZI:bx X (ahe .Add) HE:=by
 intro pins s σ H x y v u Q I rx ry h;obtain⟨l,b,xs,zs,rfl,rfl,hH,hB,hz,q⟩:=h;cases rx;cases ry;obtain⟨z,its,n,r,hl,e⟩:=I.pD hH;obtain⟨z2,lr,n2,r2,eM,e2⟩:=I.pD hB;refine PySem.P.add_list e e2 ?_ (by rw[aew,aew];omega);have ea:its.toArray++lr.toArray=(its++lr).toArray:=by simp
 rw[ea];exact⟨.ref _,_,I.AN (t':=s.toks) (r.append r2) (by rw[aeI];omega),rfl,q _ I.fresh⟩
noncomputable def HF:R2:=fun x y H Q=>∃l k xs,x=.ref l/\y=.int k/\H l=some (.lst xs)/\ -(2 ^ 63)<=k/\k<2 ^ 63/\xs.length*k.toNat<=aeD /\
 ∀p,H p=none->Q (.ref p) (upd H p (.lst (aeF k.toNat xs).flatten))
theorem len_rep{α:Type}(xs:List α)(k:Nat):(aeF k xs).flatten.length=k*xs.length:=by
 induction k with
 | zero=>simp
 | succ k ih=>rw[afN,agw,aeI,ih,Nat.succ_mul,ajI]
theorem ZJ:bx X (ahe .Mult) HF:=by
 intro pins s σ H x y v u Q I rx ry h;obtain⟨l,k,xs,rfl,rfl,hH,h1,h2,hz,q⟩:=h;cases rx;obtain⟨t,rfl⟩:=ry;obtain⟨z,its,n,r,hl,e⟩:=I.pD hH;have b6:its.toArray.size*k.toNat<=sizeLine:=by rw[aew,<- hl];exact hz
 have adn:¬its.toArray.size*k.toNat>(2 ^ 63-1) / 8:=by
  have:(aeD:Nat)<=(2 ^ 63-1) / 8:=by decide
  omega
 have ado:¬(!Builtin.List.listFitsIndex k)=true:=by
  rw[fitsIndex_both h1 h2];exact aeK
 have Ah:¬agx (its.toArray.size*k.toNat)=true:=by
  rw[Eh b6];exact aeK
 have adp:List.foldl (fun x1 x2=>x1++x2) #[] (aeF (if its.toArray.isEmpty=true then 0 else k.toNat) its.toArray)=(aeF k.toNat its).flatten.toArray:=by
  have f0:∀m:Nat,List.foldl (fun x1 x2=>x1++x2) #[] (aeF m its.toArray)=(aeF m its).flatten.toArray:=fun m=>by
   have:=foldl_rep its m [];rw[List.nil_append] at this;exact this
  rw[f0];cases its with
  | nil=>simp
  | cons a r'=>rw[if_neg (by simp)]
 refine wpAny_binaryOp_repeat_ref (T:="list") (U:="int") (by decide) ⟨_,e,rfl⟩ (fun s'=>typeIs_int s' k t) noFill_list_mul F.fills_int_mul F.slot_int_rmul repeat_list F.slot_int_index.lookup
  (aiO F.slot_int_rmul (typeIs_int s k t) F.entry_int_rmul (F.args_int_rmul_2 _ _) (int___rmul___int_list k t l its.toArray n)
   ⟨e,rfl,⟨_,e,rfl⟩,aiO F.slot_list_mul ⟨_,e,rfl⟩ F.entry_list_mul (F.args_list_mul_2 _ _) (AutoListH.list___mul___list_int_3 l its.toArray n k t ado adn Ah) ⟨e,?_⟩⟩)
 rw[adp];exact⟨.ref _,_,I.AN (t':=s.toks) (r.rep k.toNat) (by rw[len_rep,Nat.mul_comm];exact hz),rfl,q _ I.fresh⟩
end
end L2
namespace IR
open PySem PySem.W PySem.Calls PyProof.Rows
theorem N7{P:Params}{h:Heap}:∀(ns:List Int) (vs:List Value),WellAll P h vs (ns.map WData.int)->IntsAre vs ns:=by
 intro ns
 induction ns with
 | nil=>
  intro vs w;rw[aiH] at w;cases w;exact .nil
 | cons n ns ih=>
  intro vs w;rw[aeP] at w;cases w with
  | cons a b=>
   cases a;exact .cons _ _ (ih _ b)
theorem UH{l:OpenLaw}{n:Nat}(hn:l.most=some n){P:Params}{h:Heap}{args:List WData}{vals:List Value}
  (wO:l.row.toRowW.claim.pre args=true) (Bh:WellAll P h vals args) :
  ∃a vs ns,vals=[afl a]/\args=[WData.list (ns.map WData.int)]/\h.get? a=some { cls:=.type "list",data:=.seq vs.toArray }/\IntsAre vs ns/\ns.length<=n:=by
 have hsh:WShape.hasAll [] args [.list .int]=true:=(pre_splitW wO).1;have hc:l.pre.holds [] { args:=args }=true:=(pre_splitW wO).2;obtain⟨d,r,rfl,h1,h2⟩:=hasAllW_cons hsh;obtain rfl:=hasAllW_nil h2;obtain⟨xs,rfl,h3⟩:=hasW_list h1;obtain⟨ns,rfl⟩:=items_int h3;have b6:ns.length<=n:=by
  unfold OpenLaw.pre at hc;have h4:(WTm.not (.lt (.lit (.int n)) (.len (.arg 0)))).holds [] { args:=[.list (ns.map .int)] }=true:=by
   have h4:=(holds_andW hc).1;rw[hn] at h4;exact h4
  have h5:=condW_of h4 (w_not (w_lt w_lit (w_len_list (w_arg rfl))));rw[aep] at h5;refine Nat.le_of_not_lt fun q=>?_
  have q':(n:Int)<((ns.length:Nat):Int):=by omega
  first
   | (rw[decide_eq_true q'] at h5;exact absurd h5 (by decide))
   | (simp at h5;omega)
 cases Bh with
 | cons w1 w2=>
  cases w2;cases w1 with
  | list ho AO=>exact⟨_,_,ns,rfl,rfl,ho,N7 ns _ AO,b6⟩
theorem UI(l:OpenLaw)(args:List WData):l.row.toRowW.claim.post args (.bool true) args=true:=
 postW_of (r:=l.row.toRowW) (X:=(true==true))
  (show WShape.has [] (.bool true) .bool=true by first | rfl | decide | simp[WShape.has,WShape.arms,WShape.armsAll])
  (show(WTm.eq .res (.lit (.bool true))).value [] { args:=args,res:=some (.bool true),after:=args }=some (.bool (true==true)) from w_eq_bool (w_res rfl) w_lit) rfl
theorem RH{l:OpenLaw}{n:Nat}{q:afm}{loose:List Str}{XP:(Str->Option Value)->Heap->Prop}{YP:World->Heap->Prop}{d:DefRec}
  (hn:l.most=some n) (sG:d.params.defaults=[])
  (call:∀(w:World) (aN bL:aem) (mg mb:Str->Option Value) (fa:Addr) (o:Obj) (pm cd doc:Value) (a:Addr) (vs:List Value) (ns:List Int),
   Ground q loose [] XP w aN mg mb bL.heap->YP w bL.heap →
   bL.heap.get? fa=some o->o.data=.func (docDef d.name d.params d.body d.scope pm cd doc)->bL.heap.CodeRec cd d.name->mg d.name=some (.ref fa) →
   bL.heap.get? a=some { cls:=.type "list",data:=.seq vs.toArray }->IntsAre vs ns->ns.length<=n->bL.gens= #[] →
   ajw (model l.prog w) callerA (.call (.ref fa) ⟨[.ref a],[]⟩) (fun r s'=>r=.ok (.ret (.bool true))/\OldK bL.heap s'.heap/\s'.os=bL.os/\aie s'.gens) bL) :
  WalkO q loose XP YP l.row.toRowW d [] (fun f vs=>PySem.call f vs):=by
 intro w aN bL mg mb G Y fa o pm cd doc dV kV ho hd hcd hD hmg hg args vals as wO aea IU Bh hlo;obtain rfl:dV=.none:=Dflts.none hD sG;obtain rfl:kV=.none:=Dflts.noKw hD;obtain⟨a,vs,ns,rfl,rfl,ng,Ai,b6⟩:=UH hn wO Bh;refine enter_call (aiE (call w aN bL mg mb fa o pm cd doc a vs ns G Y ho (fd_plain hd) hcd hmg ng Ai b6 hg) fun r s' hq=>?_);obtain⟨rfl,h2,h3,h4⟩:=hq;exact⟨.inl ⟨.bool true,.bool true,[],rfl,fun _=>rfl,.bool true,UI l _,fun _=>⟨List.Pairwise.nil,fun _ hm=>(nomatch hm)⟩⟩,h2,h3,h4⟩
end IR
namespace L2
open PySem PySem.Spec PyProof.Rows
theorem DQ:∀{vs:List Value} {ns:List Int},IntsAre vs ns->Vals (ns.map V.int) vs
 | _,_,.nil=>.nil
 | _,_,.cons n t h=>.cons ⟨t,rfl⟩ (DQ h)
noncomputable def inClass(s:Stmt)(j:Nat):Stmt:=match s with
 | .ClassDef _ _ _ body _ _ _ _ _ _ _=>body.getD j (.Pass ⟨0,0,0,0⟩)
 | _=>.Pass ⟨0,0,0,0⟩
noncomputable def b0(s:Stmt):Arguments:=match s with
 | .FunctionDef _ a _ _ _ _ _ _ _ _=>a
 | _=>{ posonlyargs:=[],args:=[],vararg:=none,kwonlyargs:=[],kw_defaults:=[],kwarg:=none,defaults:=[] }
noncomputable def aZ(s:Stmt):List Stmt:=match s with
 | .FunctionDef _ _ b _ _ _ _ _ _ _=>b
 | _=>[]
noncomputable def ah(s:Stmt):Scope:=match s with
 | .FunctionDef _ _ _ _ _ _ sc _ _ _=>sc
 | _=>{ kind:=.function,names:=[],isGenerator:=false,isCoroutine:=false }
abbrev E0:XK:=fun _ _ _=>False
structure b7(K:acs)(x qual:Str)(st:Stmt)(f:Addr)(fd:aeT):Prop where
 ex:∃(oc:Value) (od:Option Addr) (kV doc pm:Value) (an:Option Addr) (cF ct:Value) (jE:Array (Option Value)),
  fd=aeE x qual (b0 st) (aZ st) (ah st) .none kV doc pm an cF ct/\K.lookup f=some ⟨oc,od,.func fd,jE⟩/\aez K cF qual=true
 kp:aeu K (.ref f)=true
section
variable{P:afm}{w:World}{K:acs}{mg:Str->Option Value}{base:Heap}
theorem b7.binds{x qual:Str}{st:Stmt}{f:Addr}{fd:aeT}{ps:List Str}(F:b7 K x qual st f fd)
  (h:∀(kV doc pm:Value) (an:Option Addr) (cF ct:Value) (us:List Value),us.length=ps.length->bindArgs (aeE x qual (b0 st) (aZ st) (ah st) .none kV doc pm an cF ct) ⟨us,[]⟩=pure (ps.zip us)):Binds K fd ps []:=by
 obtain⟨oc,od,kV,doc,pm,an,cF,ct,jE,rfl,lk,hcd⟩:=F.ex;exact .all (h kV doc pm an cF ct)
theorem cw{x qual:Str}{st:Stmt}{f:Addr}{oc:Value}{od an:Option Addr}{jE:Array (Option Value)}{kV doc pm cF ct:Value}(l:K.lookup f=some ⟨oc,od,.func (aeE x qual (b0 st) (aZ st) (ah st) .none kV doc pm an cF ct),jE⟩)
  (c:aez K cF qual=true) (k:aeu K (.ref f)=true):b7 K x qual st f (aeE x qual (b0 st) (aZ st) (ah st) .none kV doc pm an cF ct):=⟨⟨oc,od,kV,doc,pm,an,cF,ct,jE,rfl,l,c⟩,k⟩
end
theorem iR{A:afU}{k:Nat}(hr:cO k A):A.units+1<cLine:=Nat.lt_of_le_of_lt (Nat.add_le_add_left (by decide:1<=64) _) hr.units
theorem j4{A B:Prop}(h:B):if false=true then A else B:=by
 rw[if_neg aeK];exact h
theorem j5{A B:Prop}(h:A):if true=true then A else B:=by
 rw[if_pos rfl];exact h
section
variable{κ:Type}[DecidableEq κ]
noncomputable def ir(kvs:List (κ×V))(k:κ):Option V:=(kvs.find? fun kv=>decide (kv.1=k)).map (·.2)
noncomputable def putK(kvs:List (κ×V))(k:κ)(v:V):List (κ×V):=
 if(kvs.any fun kv=>decide (kv.1=k))=true then kvs.map (fun kv=>if kv.1=k then(kv.1,v) else kv) else kvs++[(k,v)]
theorem qI{p:κ×V}{r:List (κ×V)}{k:κ}(e:p.1=k):ir (p::r) k=some p.2:=by simp[ir,agb,e]
theorem qJ{p:κ×V}{r:List (κ×V)}{k:κ}(e:¬p.1=k):ir (p::r) k=ir r k:=by simp[ir,agb,e]
theorem Ei(k:κ):∀kvs:List (κ×V),(kvs.any fun kv=>decide (kv.1=k))=(ir kvs k).isSome
 | []=>rfl
 | p::r=>by
  rw[aft];by_cases e:p.1=k
  ·simp only[qI e,decide_eq_true e,Bool.true_or,Option.isSome_some]
  ·rw[qJ e,decide_eq_false e,Bool.false_or];exact Ei k r
theorem C9(kvs:List (κ×V))(k:κ)(v:V):(putK kvs k v).length<=kvs.length+1:=by
 unfold putK;split
 ·rw[aep];omega
 ·rw[aeI,aeO,List.length_nil];omega
theorem fS.qE{o:Option V}{u:Option Value}(r:fS o u):o.isSome=u.isSome:=by
 cases o with
 | none=>cases u with
  | none=>rfl
  | some _=>exact(show False from r).elim
 | some _=>cases u with
  | none=>exact(show False from r).elim
  | some _=>rfl
theorem fS.getD{o:Option V}{u:Option Value}{d:V}{d':Value}(r:fS o u)(rd:RelV d d'):RelV (o.getD d) (u.getD d'):=by
 cases o with
 | none=>cases u with
  | none=>exact rd
  | some _=>exact(show False from r).elim
 | some _=>cases u with
  | none=>exact(show False from r).elim
  | some _=>exact r
theorem KV.val{kvs:List (κ×V)}{vs:List (κ×Value)}(r:KV kvs vs)(k:κ):fS (ir kvs k) (ajz vs k):=by
 unfold KV at r
 induction r with
 | nil=>exact agD
 | @cons p q ps qs h t ih=>
  obtain⟨h1,h2⟩:=h;by_cases e:p.1=k
  ·have e':q.1=k:=h1.symm.trans e;have b:ajz (q::qs) k=some q.2:=by simp[ajz,agb,e']
   rw[qI e,b];exact h2
  ·have e':¬q.1=k:=fun z=>e (h1.trans z)
   have b:ajz (q::qs) k=ajz qs k:=by simp[ajz,agb,e']
   rw[qJ e,b];exact ih
theorem KV.any{kvs:List (κ×V)}{vs:List (κ×Value)}(r:KV kvs vs)(k:κ):(kvs.any fun kv=>decide (kv.1=k))=vs.any fun kv=>decide (kv.1=k):=by
 unfold KV at r
 induction r with
 | nil=>rfl
 | cons h t ih=>rw[aft,aft,ih,h.1]
theorem KV.iV{kvs:List (κ×V)}{vs:List (κ×Value)}(r:KV kvs vs)(k:κ){y:V}{u:Value}(ry:RelV y u) :
  KV (kvs.map fun kv=>if kv.1=k then(kv.1,y) else kv) (vs.map fun kv=>if kv.1=k then(kv.1,u) else kv):=by
 unfold KV at r ⊢
 induction r with
 | nil=>exact .nil
 | @cons p q ps qs h t ih=>
  rw[aeP,aeP];refine .cons ?_ ih;obtain⟨h1,h2⟩:=h;by_cases e:p.1=k
  ·rw[if_pos e,if_pos (h1.symm.trans e)];exact⟨h1,ry⟩
  ·rw[if_neg e,if_neg (fun z=>e (h1.trans z))];exact⟨h1,h2⟩
theorem KV.put{kvs:List (κ×V)}{vs:List (κ×Value)}(r:KV kvs vs)(k:κ){y:V}{u:Value}(ry:RelV y u):KV (putK kvs k y) (stored vs k u):=by
 unfold putK stored;rw[r.any k];by_cases e:(vs.any fun kv=>decide (kv.1=k))=true
 ·rw[if_pos e,if_pos e];exact r.iV k ry
 ·rw[if_neg e,if_neg e];exact Paired.snoc r ⟨rfl,ry⟩
theorem KV.keys{kvs:List (κ×V)}{vs:List (κ×Value)}(r:KV kvs vs):kvs.map (·.1)=vs.map (·.1):=by
 unfold KV at r
 induction r with
 | nil=>rfl
 | cons h t ih=>rw[aeP,aeP,ih,h.1]
theorem KV.length{kvs:List (κ×V)}{vs:List (κ×Value)}(r:KV kvs vs):kvs.length=vs.length:=aid r
end
variable{u:Value}
theorem mY{P:afm}{w:World}{k:Key}(r:RelV (kV k) u):(c7 P w).is k u=true:=by
 cases k with
 | inl i=>obtain⟨t,e⟩:=(show ∃t,u=ahv i t from r);subst e;exact RF P w i t
 | inr x=>obtain⟨t,e⟩:=(show ∃t,u=aji x t from r);subst e;exact RG P w x t
theorem DR{P:afm}{w:World}:∀{ks:List Key} {us:List Value},Vals (ks.map kV) us->ItemsAre (c7 P w) ks us
 | [],_,r=>by rw[aiH] at r;cases r;exact .nil
 | k::ks,_,r=>by
  rw[aeP] at r;cases r with
  | cons h t=>exact .cons (mY h) (DR t)
abbrev KT(H:Hp):List (List Key×V)->List (List Key×Addr×Value)->Prop:=aiy fun p q=>p.1=q.1/\H q.2.1=some (.tup (p.1.map kV))/\RelV p.2 q.2.2
variable{H:Hp}{kvs:List (List Key×V)}{xs:List (List Key×Addr×Value)}
theorem KT.val(r:KT H kvs xs)(k:List Key):fS (ir kvs k) ((atKey xs k).map (·.2)):=by
 induction r with
 | nil=>exact agD
 | @cons p q ps qs h t ih=>
  obtain⟨h1,_,h2⟩:=h;by_cases e:p.1=k
  ·have e':q.1=k:=h1.symm.trans e;have b:atKey (q::qs) k=some q.2:=by simp[atKey,agb,e']
   rw[qI e,b];exact h2
  ·have e':¬q.1=k:=fun z=>e (h1.trans z)
   have b:atKey (q::qs) k=atKey qs k:=by simp[atKey,agb,e']
   rw[qJ e,b];exact ih
variable{y:V}
theorem KT.iV(r:KT H kvs xs)(k:List Key)(ry:RelV y u) :
  KT H (kvs.map fun kv=>if kv.1=k then(kv.1,y) else kv) (xs.map (putAt k u)):=by
 induction r with
 | nil=>exact .nil
 | @cons p q ps qs h t ih=>
  rw[aeP,aeP];refine .cons ?_ ih;obtain⟨h1,h2,h3⟩:=h;unfold putAt;by_cases e:p.1=k
  ·rw[if_pos e,if_pos (h1.symm.trans e)];exact⟨h1,h2,ry⟩
  ·rw[if_neg e,if_neg (fun z=>e (h1.trans z))];exact⟨h1,h2,h3⟩
theorem KT.put(r:KT H kvs xs)(k:List Key){b:Addr}(hb:H b=some (.tup (k.map kV)))(ry:RelV y u) :
  KT H (putK kvs k y) (storedH xs k b u):=by
 have e:(kvs.any fun kv=>decide (kv.1=k))=(atKey xs k).isSome:=by
  rw[Ei,(r.val k).qE,aib]
 unfold putK storedH;rw[e];by_cases q:(atKey xs k).isSome=true
 ·rw[if_pos q,if_pos q];exact r.iV k ry
 ·rw[if_neg q,if_neg q];exact Paired.snoc r ⟨rfl,hb,ry⟩
theorem KT.keeps{H':Hp}(r:KT H kvs xs)(ht:∀b ys,H b=some (.tup ys)->H' b=some (.tup ys)):KT H' kvs xs:=
 aiy.wJ r fun _ _ z=>⟨z.1,ht _ _ z.2.1,z.2.2⟩
section
variable{P:afm}{w:World}{H:Hp}{h:Heap}{a:Addr}
theorem GR{u:HO}(ok:cu P w H h)(e:Rd H a u):cX P w H h a u:=e.ok ok
theorem mZ{kvs:List (Key×V)}(ok:cu P w H h)(e:Rd H a (.dK kvs)):kvs.length<=aeD/\(a==ags)=false/\∃vs,KV kvs vs/\h.DictOf (c7 P w) a vs:=
 show cX P w H h a (.dK kvs) from GR ok e
theorem rj{kvs:List (Key×V)}(ok:cu P w H h)(e:H a=some (.dK kvs)):kvs.length<=aeD/\(a==ags)=false/\∃vs,KV kvs vs/\h.DictOf (c7 P w) a vs:=mZ ok (.inl e)
theorem mO{ks:List Key}(ok:cu P w H h)(e:H a=some (.tup (ks.map kV))):(ahX (c7 P w)).is h ks a:=by
 obtain⟨_,its,r,o,h1,h2,n,h3⟩:=(show cX P w H h a (.tup (ks.map kV)) from ok a _ e)
 exact⟨o,its.toArray,n,h1,h2,h3,by simpa using DR r⟩
theorem m5{kvs:List (List Key×V)}(ok:cu P w H h)(e:Rd H a (.dT kvs)):kvs.length<=aeD/\(a==ags)=false /\
  ∃xs,KT H kvs xs/\h.DictOfH (ahX (c7 P w)) a xs:=by
 obtain⟨z,y,xs,r,o,es,ep,h1,h2,h3,h4,h5⟩:=(show cX P w H h a (.dT kvs) from GR ok e)
 refine⟨z,y,xs,r,o,es,ep,h1,h2,h3,h4,fun x hx=>?_,h5⟩;have all:∀{l:List (List Key×V)} {m:List (List Key×Addr×Value)},KT H l m->∀x∈m,(ahX (c7 P w)).is h x.1 x.2.1:=by
  intro l m q
  induction q with
  | nil=>intro x hx;exact nomatch hx
  | @cons p q ps qs hq t ih=>
   intro x hx
   rcases aeG.mp hx with e | hx
   ·subst e;exact mO ok (by rw[<- hq.1];exact hq.2.1)
   ·exact ih x hx
 exact all r x hx
theorem Aj{kvs:List (List Key×V)}(ok:cu P w H h)(e:H a=some (.dT kvs)):kvs.length<=aeD/\(a==ags)=false /\
  ∃xs,KT H kvs xs/\h.DictOfH (ahX (c7 P w)) a xs:=m5 ok (.inl e)
end
noncomputable def eY(H:Hp)(a:Addr)(y:V)(r:Option V):Prop:=
 (∃kvs k,Rd H a (.dK kvs)/\y=kV k/\r=ir kvs k)\/∃kvs k b,Rd H a (.dT kvs)/\y=.ref b/\H b=some (.tup (k.map kV))/\r=ir kvs k
noncomputable def wQ(H:Hp)(a:Addr)(y v:V)(H':Hp):Prop:=
 (∃kvs k,H a=some (.dK kvs)/\y=kV k/\kvs.length<aeD/\H'=upd H a (.dK (putK kvs k v))) \/
 ∃kvs k b,H a=some (.dT kvs)/\y=.ref b/\H b=some (.tup (k.map kV))/\kvs.length<aeD/\H'=upd H a (.dT (putK kvs k v))
section
variable{X:Cx}{pins:List (Addr×Obj)}{σ:St}{H:Hp}{s:aem}{a:Addr}{y v:V}{u r:Value}{o:Option V}{A:afU}{E:Value->aem->Prop}
theorem Inv.big(I:Inv X pins σ H s):ags<s.heap.objs.size:=by
 have h:ael<s.heap.objs.size:=(I.mod.glob.keeps I.bk).lt;exact Nat.lt_trans (by decide) h
variable{Q:Value->aem->Prop}
theorem UJ(hu:A.units+1<cLine)(I:Inv X pins σ H s)(g:eY H a y (some v))(ry:RelV y u)(h:∀w' s',Inv X pins σ H s'->RelV v w'->Q w' s') :
  wpAny (model X.prog X.w) A (ajc (.ref a) u) Q E s:=by
 rcases g with⟨kvs,k,e,ey,l⟩ | ⟨kvs,k,b,e,ey,eb,l⟩
 ·subst ey;obtain⟨z,hd,vs,rel,dd⟩:=mZ I.aI e;obtain⟨w',hw,fZ⟩:=fS.some_of (v:=v) (o:=ajz vs k) (by rw[l];exact rel.val k);exact wpAny_getItem_of (mY ry) dd.mapOf hw (h w' _ (I.tok _) fZ)
 ·subst ey;cases(show u=afl b from ry);obtain⟨z,hd,xs,rel,dd⟩:=m5 I.aI e;obtain⟨w',hw,fZ⟩:=fS.some_of (v:=v) (o:=(atKey xs k).map (·.2)) (by rw[l];exact rel.val k);obtain⟨p,hp,hp2⟩:=aeC.mp hw;refine wpAny_getItem_heap (agk hu) (mO I.aI eb) dd hp ?_;rw[hp2];exact h w' _ (I.tok _) fZ
theorem AQ(hu:A.units+1<cLine)(I:Inv X pins σ H s)(g:eY H a y o)(ry:RelV y u)(h:∀s',Inv X pins σ H s'->Q (.bool o.isSome) s') :
  wpAny (model X.prog X.w) A (afh .In u (.ref a)) Q E s:=by
 rcases g with⟨kvs,k,e,ey,l⟩ | ⟨kvs,k,b,e,ey,eb,l⟩
 ·subst ey;obtain⟨z,hd,vs,rel,dd⟩:=mZ I.aI e;refine wpAny_in_of (mY ry) hd dd.mapOf ?_;rw[<- (rel.val k).qE,<- l];exact h _ (I.tok _)
 ·subst ey;cases(show u=afl b from ry);obtain⟨z,hd,xs,rel,dd⟩:=m5 I.aI e;refine wpAny_in_heap (agk hu) (mO I.aI eb) hd dd ?_;have q:=(rel.val k).qE;rw[aib] at q;rw[<- q,<- l];exact h _ (I.tok _)
theorem zD(hu:A.units+1<cLine)(I:Inv X pins σ H s)(g:eY H a y o)(ry:RelV y u)(h:∀s',Inv X pins σ H s'->Q (.bool (!o.isSome)) s') :
  wpAny (model X.prog X.w) A (afh .NotIn u (.ref a)) Q E s:=by
 rcases g with⟨kvs,k,e,ey,l⟩ | ⟨kvs,k,b,e,ey,eb,l⟩
 ·subst ey;obtain⟨z,hd,vs,rel,dd⟩:=mZ I.aI e;refine wpAny_notIn_of (mY ry) hd dd.mapOf ?_;rw[<- (rel.val k).qE,<- l];exact h _ (I.tok _)
 ·subst ey;cases(show u=afl b from ry);obtain⟨z,hd,xs,rel,dd⟩:=m5 I.aI e;refine wpAny_notIn_heap (agk hu) (mO I.aI eb) hd dd ?_;have q:=(rel.val k).qE;rw[aib] at q;rw[<- q,<- l];exact h _ (I.tok _)
theorem EZ{h':Heap}{t':Nat}{ob:HO}(I:Inv X pins σ H s)(mu:kg (H a))(hs:ahw a s.heap h')(he:∃q,h'.get? a=some q)(new:cX X.prog X.w (upd H a ob) h' a ob) :
  Inv X pins σ (upd H a ob) { s with heap:=h',toks:=t' }:=
 I.write (x:=a) (e:=a) mu (.inl rfl) (fun b q hb z=>(hs.2 b hb).trans z) he new
theorem ZK{P:afm}{w:World}{H':Hp}{h':Heap}{kvs:List (Key×V)}{vs:List (Key×Value)}(z:kvs.length<=aeD)(hd:(a==ags)=false)(rel:KV kvs vs)(dd:h'.DictOf (c7 P w) a vs) :
  cX P w H' h' a (.dK kvs):=⟨z,hd,vs,rel,dd⟩
theorem yT{H':Hp}{Q:Unit->aem->Prop}(hu:A.units+1<cLine)(I:Inv X pins σ H s)(g:wQ H a y v H')(ry:RelV y u)(rv:RelV v r)(h:∀s',Inv X pins σ H' s'->Q () s') :
  wpAny (model X.prog X.w) A (setItem (.ref a) u r) Q E s:=by
 rcases g with⟨kvs,k,e,ey,l,eH⟩ | ⟨kvs,k,b,e,ey,eb,l,eH⟩
 ·subst ey eH;obtain⟨z,hd,vs,rel,dd⟩:=rj I.aI e;have hz:vs.length<=sizeLine:=by rw[<- rel.length];exact z
  have hl:(putK kvs k v).length<=sizeLine:=by have:=C9 kvs k v;omega
  refine wpAny_setItem_pairs (hsz:=hz) (mY ry) dd fun h' xy hs=>h _ ?_
  have he:∃q,h'.get? a=some q:=let ⟨q,_,_,hq,_⟩:=xy;⟨q,hq⟩
  exact EZ I (by rw[e];exact agD) hs he (ZK hl hd (rel.put k rv) xy)
 ·subst ey eH;cases(show u=afl b from ry);obtain⟨z,hd,xs,rel,dd⟩:=Aj I.aI e;have hz:xs.length<=sizeLine:=by rw[<- aid rel];exact z
  have hl:(putK kvs k v).length<=sizeLine:=by have:=C9 kvs k v;omega
  refine wpAny_setItem_heap (hsz:=hz) (agk hu) (mO I.aI eb) dd fun h' xy hs=>h _ ?_
  obtain⟨q,es,ep,hq,h2,h3,h4,_,h5⟩:=xy;refine EZ I (by rw[e];exact agD) hs ⟨q,hq⟩ ⟨hl,hd,_,(rel.put k eb rv).keeps fun c ys ec=>?_,q,es,ep,hq,h2,h3,h4,h5⟩;rw[bz (lg ec e (fun z=>nomatch z))];exact ec
end
theorem RI{X:Cx}{pins:List (Addr×Obj)}{σ:St}{s:aem}{a:Addr}{o:Option V}(I:Inv X pins σ H s)(g:eY H a y o):s.TypeIs (.ref a) "dict":=by
 rcases g with⟨kvs,k,e,_,_⟩ | ⟨kvs,k,b,e,_,_,_⟩
 ·obtain⟨_,_,vs,_,dd⟩:=mZ I.aI e;exact dd.typeIs
 ·obtain⟨_,_,xs,_,dd⟩:=m5 I.aI e;exact dd.typeIs
theorem We{P:afm}{w:World}(h:Heap)(hb:ags<h.objs.size):cX P w H (h.push { cls:=.type "dict",data:=.dict #[] }) h.objs.size (.dK []):=
 ⟨afR _,beq_eq_false_iff_ne.mpr (ahH (afi hb)),[],.nil,Heap.DictOf.new h⟩
noncomputable def ZM:TE:=fun _ H Q=>∀p,H p=none->Q (.ref p) (upd H p (.dK []))
section
variable{X:Cx}{pos:Pos}
theorem Wf:PE X (.Dict [] [] pos) ZM:=fun pins s σ H Q I h=>
 wpAny_Dict_empty ⟨.ref s.heap.objs.size,_,I.laid (a:=s.heap.objs.size) (o:=.dK []) (t':=s.toks) (fun _ _ q=>aek _ q) (aeq _) (We s.heap I.big),rfl,h _ (I.aI.fresh (aeq _))⟩
end
section
variable{X:Cx}{pins:List (Addr×Obj)}{σ:St}{H:Hp}{s:aem}{a:Addr}{y d:V}{u r:Value}{o:Option V}{A:afU}{E:Value->aem->Prop}
theorem zU{Q:Value->aem->Prop}(hu:A.units+1<cLine)(I:Inv X pins σ H s)(g:eY H a y o)(ry:RelV y u)(h:∀w' s',Inv X pins σ H s'->RelV (o.getD .aE) w'->Q w' s') :
  wpAny (model X.prog X.w) A (call (.builtin "dict.get") [.ref a,u]) Q E s:=by
 rcases g with⟨kvs,k,e,ey,l⟩ | ⟨kvs,k,b,e,ey,eb,l⟩
 ·subst ey;obtain⟨z,hd,vs,rel,dd⟩:=mZ I.aI e;refine aiI aeY dd.typeIs agH (aii _ _) (meets_dict_get (c7 X.prog X.w) a (mY ry) hd) ⟨_,dd.mapOf,h _ _ (I.tok _) ?_⟩;rw[l];exact(rel.val k).getD rfl
 ·subst ey;cases(show u=afl b from ry);obtain⟨z,hd,xs,rel,dd⟩:=m5 I.aI e;refine aiI aeY dd.typeIs agH (aii _ _) (meetsH_dict_get (ahX (c7 X.prog X.w)) a b hd) ⟨agk hu,k,xs,mO I.aI eb,dd,h _ _ (I.tok _) ?_⟩;rw[l];exact(rel.val k).getD rfl
theorem zV{Q:Value->aem->Prop}(hu:A.units+1<cLine)(I:Inv X pins σ H s)(g:eY H a y o)(ry:RelV y u)(rd:RelV d r)(h:∀w' s',Inv X pins σ H s'->RelV (o.getD d) w'->Q w' s') :
  wpAny (model X.prog X.w) A (call (.builtin "dict.get") [.ref a,u,r]) Q E s:=by
 rcases g with⟨kvs,k,e,ey,l⟩ | ⟨kvs,k,b,e,ey,eb,l⟩
 ·subst ey;obtain⟨z,hd,vs,rel,dd⟩:=mZ I.aI e;refine aiI aeY dd.typeIs agH (aij _ _ _) (meets_dict_get_default (c7 X.prog X.w) a (mY ry) hd r) ⟨_,dd.mapOf,h _ _ (I.tok _) ?_⟩;rw[l];exact(rel.val k).getD rd
 ·subst ey;cases(show u=afl b from ry);obtain⟨z,hd,xs,rel,dd⟩:=m5 I.aI e;refine aiI aeY dd.typeIs agH (aij _ _ _) (meetsH_dict_get_default (ahX (c7 X.prog X.w)) a b hd r) ⟨agk hu,k,xs,mO I.aI eb,dd,h _ _ (I.tok _) ?_⟩;rw[l];exact(rel.val k).getD rd
end
end L2
namespace IL
open PySem PySem.Spec PyProof.Rows L2
inductive W where
 | aE | bl (b:Bool) | int (i:Int) | str (x:Str) | tup (ws:List W) | fl (ws:List W) | ref (i:Nat) | exc (c:Str) (ns:List Str) (ws:List W) | fn (x:Str) (ws:List W) | kt (ws:List W)
mutual
noncomputable def W.dec:(a b:W)->Decidable (a=b)
 | .aE,.aE=>aeU rfl
 | .bl a,.bl b=>if h:a=b then aeU (by rw[h]) else aer (fun e=>h (W.bl.inj e))
 | .int a,.int b=>if h:a=b then aeU (by rw[h]) else aer (fun e=>h (W.int.inj e))
 | .str a,.str b=>if h:a=b then aeU (by rw[h]) else aer (fun e=>h (W.str.inj e))
 | .tup a,.tup b=>match W.pE a b with
  | aeU h=>aeU (by rw[h])
  | aer h=>aer (fun e=>h (W.tup.inj e))
 | .fl a,.fl b=>match W.pE a b with
  | aeU h=>aeU (by rw[h])
  | aer h=>aer (fun e=>h (W.fl.inj e))
 | .ref a,.ref b=>if h:a=b then aeU (by rw[h]) else aer (fun e=>h (W.ref.inj e))
 | .exc c ns a,.exc c' ns' b=>match W.pE a b with
  | aeU h=>if h1:c=c' then if h2:ns=ns' then aeU (by rw[h,h1,h2]) else aer (fun e=>h2 (W.exc.inj e).2.1) else aer (fun e=>h1 (W.exc.inj e).1)
  | aer h=>aer (fun e=>h (W.exc.inj e).2.2)
 | .fn c a,.fn c' b=>match W.pE a b with
  | aeU h=>if h1:c=c' then aeU (by rw[h,h1]) else aer (fun e=>h1 (W.fn.inj e).1)
  | aer h=>aer (fun e=>h (W.fn.inj e).2)
 | .kt a,.kt b=>match W.pE a b with
  | aeU h=>aeU (by rw[h])
  | aer h=>aer (fun e=>h (W.kt.inj e))
 | .aE,.bl _ | .aE,.int _ | .aE,.str _ | .aE,.tup _ | .aE,.fl _ | .aE,.ref _ | .aE,.exc _ _ _=>aer (fun e=>nomatch e)
 | .bl _,.aE | .bl _,.int _ | .bl _,.str _ | .bl _,.tup _ | .bl _,.fl _ | .bl _,.ref _ | .bl _,.exc _ _ _=>aer (fun e=>nomatch e)
 | .int _,.aE | .int _,.bl _ | .int _,.str _ | .int _,.tup _ | .int _,.fl _ | .int _,.ref _ | .int _,.exc _ _ _=>aer (fun e=>nomatch e)
 | .str _,.aE | .str _,.bl _ | .str _,.int _ | .str _,.tup _ | .str _,.fl _ | .str _,.ref _ | .str _,.exc _ _ _=>aer (fun e=>nomatch e)
 | .tup _,.aE | .tup _,.bl _ | .tup _,.int _ | .tup _,.str _ | .tup _,.fl _ | .tup _,.ref _ | .tup _,.exc _ _ _=>aer (fun e=>nomatch e)
 | .fl _,.aE | .fl _,.bl _ | .fl _,.int _ | .fl _,.str _ | .fl _,.tup _ | .fl _,.ref _ | .fl _,.exc _ _ _=>aer (fun e=>nomatch e)
 | .ref _,.aE | .ref _,.bl _ | .ref _,.int _ | .ref _,.str _ | .ref _,.tup _ | .ref _,.fl _ | .ref _,.exc _ _ _=>aer (fun e=>nomatch e)
 | .exc _ _ _,.aE | .exc _ _ _,.bl _ | .exc _ _ _,.int _ | .exc _ _ _,.str _ | .exc _ _ _,.tup _ | .exc _ _ _,.fl _ | .exc _ _ _,.ref _=>aer (fun e=>nomatch e)
 | .aE,.fn _ _ | .bl _,.fn _ _ | .int _,.fn _ _ | .str _,.fn _ _ | .tup _,.fn _ _ | .fl _,.fn _ _ | .ref _,.fn _ _ | .exc _ _ _,.fn _ _=>aer (fun e=>nomatch e)
 | .fn _ _,.aE | .fn _ _,.bl _ | .fn _ _,.int _ | .fn _ _,.str _ | .fn _ _,.tup _ | .fn _ _,.fl _ | .fn _ _,.ref _ | .fn _ _,.exc _ _ _=>aer (fun e=>nomatch e)
 | .aE,.kt _ | .bl _,.kt _ | .int _,.kt _ | .str _,.kt _ | .tup _,.kt _ | .fl _,.kt _ | .ref _,.kt _ | .exc _ _ _,.kt _ | .fn _ _,.kt _=>aer (fun e=>nomatch e)
 | .kt _,.aE | .kt _,.bl _ | .kt _,.int _ | .kt _,.str _ | .kt _,.tup _ | .kt _,.fl _ | .kt _,.ref _ | .kt _,.exc _ _ _ | .kt _,.fn _ _=>aer (fun e=>nomatch e)
noncomputable def W.pE:(a b:List W)->Decidable (a=b)
 | [],[]=>aeU rfl
 | a::as,b::bs=>match W.dec a b,W.pE as bs with
  | aeU h,aeU h'=>aeU (by rw[h,h'])
  | aer h,_=>aer (fun e=>h (ajp e).1)
  | _,aer h=>aer (fun e=>h (ajp e).2)
 | [],_::_ | _::_,[]=>aer (fun e=>nomatch e)
end
instance:DecidableEq W:=W.dec
inductive PO where
 | lst (ws:List W)
 | bO (kvs:List (W×W))
 | obj (c:Str) (fs:List (Str×W))
 | nK (kvs:List (W×W))
 | xA (kvs:List (W×W))
 deriving DecidableEq
noncomputable def PO.fz:PO->Bool
 | .nK _=>true
 | _=>false
abbrev PH:=List PO
abbrev Po(α:Type):=PH->Option (α×PH)
variable{α:Type}
noncomputable def ret(a:α):Po α:=fun ph=>some (a,ph)
noncomputable def eZ:Po α:=fun _=>none
structure XC where
 cls:Str
 fs:List (Str×W)
inductive Out(α:Type) where
 | ok (a:α) (ph:PH)
 | ex (x:XC) (ph:PH)
 | no
noncomputable def Out.Run(r:Out α)(N:α->PH->Prop)(E:XC->PH->Prop):Prop:=match r with
 | .ok a ph=>N a ph
 | .ex x ph=>E x ph
 | .no=>False
variable{E:XC->PH->Prop}
theorem Out.Run.mono{r:Out α}{N N':α->PH->Prop}{E':XC->PH->Prop}(h:r.Run N E)(hn:∀a ph,N a ph->N' a ph)(he:∀x ph,E x ph->E' x ph):r.Run N' E':=by
 cases r with
 | ok a ph=>exact hn a ph h
 | ex x ph=>exact he x ph h
 | no=>exact h
abbrev Mo(α:Type):=PH->Out α
noncomputable def aB(a:α):Mo α:=fun ph=>.ok a ph
noncomputable def dO:Mo α:=fun _=>.no
noncomputable def lift(o:Po α):Mo α:=fun ph=>match o ph with
 | some p=>.ok p.1 p.2
 | none=>.no
noncomputable def aw{β:Type}(m:Mo α)(f:α->Mo β):Mo β:=fun ph=>match m ph with
 | .ok a ph'=>f a ph'
 | .ex x ph'=>.ex x ph'
 | .no=>.no
variable{ph:PH}
theorem cI{β:Type}{m:Mo α}{f:α->Mo β}{N:β->PH->Prop}:(aw m f ph).Run N E=(m ph).Run (fun a ph1=>(f a ph1).Run N E) E:=by
 unfold aw;cases m ph <;> rfl
theorem run_lift{o:Po α}{N:α->PH->Prop}(h:(lift o ph).Run N E):∃a ph',o ph=some (a,ph')/\N a ph':=by
 unfold lift at h;cases e:o ph with
 | none=>rw[e] at h;exact h.elim
 | some p=>rw[e] at h;exact⟨p.1,p.2,rfl,h⟩
abbrev aP:=List (Option W)
abbrev EM:=aP->Mo W
abbrev TM:=aP->Mo Bool
abbrev AM:=aP->Mo (List W)
inductive Fl where
 | nx (σ:aP) | rt (w:W) | bk (σ:aP) | ct (σ:aP)
abbrev SM:=aP->Mo Fl
noncomputable def KL(K:acs)(a:Addr)(xs:List V):Prop:=
 ∃(o:Obj) (its:Array Value) (n:Nat),K.lookup a=some o/\o.cls=.type "list"/\o.dict=none/\o.data=.seq its n/\its.size<=aeD/\Vals xs its.toList
noncomputable def wR(K:acs)(H:Hp)(a:Addr)(xs:List V):Prop:=(∃o,H a=some (.bN o (.lst xs)))\/KL K a xs
variable{K:acs}{H:Hp}{a:Addr}
theorem wR.sq{xs:List V}(h:wR K H a xs):bC K H a xs:=by
 rcases h with⟨o,h⟩ | h
 ·exact .inl (.inr ⟨o,h⟩)
 ·exact .inr h
noncomputable def wU(H:Hp)(o:Obj)(ns:List Str)(vs:List V):Prop:=(ns=[]/\vs=[])\/∃d od,o.dict=some d/\ns.length=vs.length/\H d=some (.bN od (.xd (ns.zip vs)))
abbrev js:HO:=.ext fun _=>True
structure Bi where
 ar:Arguments
 bd:Expr
 sc:Scope
 pos:Pos
noncomputable def adq:Stmt->Option Bi
 | .Return (some (.Call _ [_,.Lambda a b s p] _ _)) _=>some ⟨a,b,s,p⟩
 | .Assign _ (.Call _ [.Call _ [_,.Lambda a b s p] _ _] _ _) _=>some ⟨a,b,s,p⟩
 | _=>none
noncomputable def ads(l:List Stmt):Option Bi:=l.findSome? adq
noncomputable def GS(K:acs)(x:Str):Option Bi:=match aeo K ael x with
 | some (some (.ref f))=>(match K.lookup f with
  | some ⟨_,_,.func fd,_⟩=>(match fd.body with
   | .stmts b=>ads b
   | _=>none)
  | _=>none)
 | _=>none
noncomputable def jl(K:acs):List (Str×Addr×Addr):=match K.lookup ael with
 | some ⟨_,_,.dict es _,_⟩=>es.toList.filterMap fun e=>match e.key with
  | .str x _=>if(GS K x).isSome then(PySem.W.tabIn K x).map (x,·) else none
  | _=>none
 | _=>[]
noncomputable def HG(x:Str):Str:=(x++".<locals>.")++"<lambda>"
noncomputable def rk(H:Hp)(v:Value)(x:Str):Prop:=∃c oc vs t,v=.ref c/\H c=some (.bN oc js)/\oc.data=.fields vs/\vs[1]? =some (.str (HG x) t)
noncomputable def ls(H:Hp)(x:Str)(P:Addr):Prop:=∃ps,H P=some (.gG ps)/\PySem.TriplesOk ps.toList/\∀pos v,codeAmong pos ps.toList=some v->rk H v x
noncomputable def wV(K:acs)(H:Hp)(x:Str)(o:Obj)(cl:List (Str×Addr)):Prop:=∃L pm v Bj,GS K x=some L/\o={ cls:=.type "function",data:=.func (PySem.W.kla_fn "<lambda>" (HG x) L.ar L.bd L.sc cl pm v Bj) }/\rk H v x /\
 ∀y,L.sc.names.lookup y=some .free->∃c,cl.lookup y=some c
noncomputable def oP(H:Hp):List (Str×Addr)->List V->Prop
 | [],[]=>True
 | p::cl,v::vs=>(∃oc u,H p.2=some (.bN oc js)/\oc.data=.cell (some u)/\RelV v u)/\oP H cl vs
 | _,_=>False
noncomputable def nh(K:acs)(a:Addr)(vs:List V):Prop:=∃(o:Obj) (its:Array Value) (n:Nat),K.lookup a=some o/\o.cls=.type "tuple"/\o.data=.seq its n/\its.size<=aeD/\Vals vs its.toList
mutual
inductive aQ(K:acs)(φ:Nat->Addr)(n:Nat)(H:Hp):W->V->Prop where
 | aE:aQ K φ n H .aE .aE
 | bl (b:Bool):aQ K φ n H (.bl b) (.bl b)
 | int (i:Int):aQ K φ n H (.int i) (.int i)
 | str (x:Str):aQ K φ n H (.str x) (.str x)
 | tup {ws:List W} {a:Addr} {vs:List V} (h:H a=some (.tup vs)) (r:ba K φ n H ws vs):aQ K φ n H (.tup ws) (.ref a)
 | fl {ws:List W} {a:Addr} {vs:List V} (h:wR K H a vs) (r:ba K φ n H ws vs):aQ K φ n H (.fl ws) (.ref a)
 | ref {i:Nat} (h:i<n):aQ K φ n H (.ref i) (.ref (φ i))
 | exc {c:Str} {ns:List Str} {ws:List W} {a C:Addr} {vs:List V} {o:Obj} {u:HO} (h:H a=some (.bN o u)) (hc:o.cls=.ref C) (hn:aeo K ael c=some (some (.ref C))) (hk:aiY o=true) (hf:wU H o ns vs) (r:ba K φ n H ws vs):aQ K φ n H (.exc c ns ws) (.ref a)
 | fn {x:Str} {ws:List W} {a:Addr} {vs:List V} {o:Obj} {cl:List (Str×Addr)} (h:H a=some (.bN o js)) (hl:wV K H x o cl) (hc:oP H cl vs) (r:ba K φ n H ws vs):aQ K φ n H (.fn x ws) (.ref a)
 | kt {ws:List W} {a:Addr} {vs:List V} (h:nh K a vs) (r:ba K φ n H ws vs):aQ K φ n H (.kt ws) (.ref a)
inductive ba(K:acs)(φ:Nat->Addr)(n:Nat)(H:Hp):List W->List V->Prop where
 | nil:ba K φ n H [] []
 | cons {w:W} {v:V} {ws:List W} {vs:List V} (h:aQ K φ n H w v) (r:ba K φ n H ws vs):ba K φ n H (w::ws) (v::vs)
end
structure Step(K:acs)(φ:Nat->Addr)(n:Nat)(H:Hp)(au:Nat->Addr)(n':Nat)(H':Hp):Prop where
 le:n<=n'
 eq:∀i,i<n->au i=φ i
 tup:∀a xs,H a=some (.tup xs)->H' a=some (.tup xs)
 bN:∀a o u,H a=some (.bN o u)->H' a=some (.bN o u)
section
variable{K:acs}{φ au Bk:Nat->Addr}{n n' Bl:Nat}{H H' fD:Hp}
theorem Step.refl:Step K φ n H φ n H:=⟨aeq _,fun _ _=>rfl,fun _ _ h=>h,fun _ _ _ h=>h⟩
theorem Step.trans(a:Step K φ n H au n' H')(b:Step K au n' H' Bk Bl fD):Step K φ n H Bk Bl fD:=
 ⟨aeW a.le b.le,fun i h=>(b.eq i (aeB h a.le)).trans (a.eq i h),fun c xs h=>b.tup c xs (a.tup c xs h),fun c o u h=>b.bN c o u (a.bN c o u h)⟩
theorem wU.mono(s:Step K φ n H au n' H'){o:Obj}{ns:List Str}{vs:List V}(h:wU H o ns vs):wU H' o ns vs:=
 h.imp_right fun⟨d,od,e1,e2,e3⟩=>⟨d,od,e1,e2,s.bN _ _ _ e3⟩
theorem rk.mono{v:Value}{x:Str}(h:rk H v x)(s:∀a o,H a=some (.bN o js)->H' a=some (.bN o js)):rk H' v x:=
 let ⟨c,oc,vs,t,e1,e2,e3⟩:=h;⟨c,oc,vs,t,e1,s _ _ e2,e3⟩
theorem wV.mono{x:Str}{o:Obj}{cl:List (Str×Addr)}(h:wV K H x o cl)(s:∀a o,H a=some (.bN o js)->H' a=some (.bN o js)):wV K H' x o cl:=
 let ⟨L,pm,v,Bj,e1,e2,e3,e4⟩:=h;⟨L,pm,v,Bj,e1,e2,e3.mono s,e4⟩
theorem oP.mono(s:∀a o,H a=some (.bN o js)->H' a=some (.bN o js)):∀{cl:List (Str×Addr)} {vs:List V},oP H cl vs->oP H' cl vs
 | [],[],_=>trivial
 | _::_,_::_,⟨⟨oc,u,e1,e2⟩,r⟩=>⟨⟨oc,u,s _ _ e1,e2⟩,oP.mono s r⟩
 | [],_::_,h=>h.elim
 | _::_,[],h=>h.elim
mutual
theorem aQ.mono(s:Step K φ n H au n' H'):∀{w:W} {v:V},aQ K φ n H w v->aQ K au n' H' w v
 | _,_,.aE=>.aE
 | _,_,.bl b=>.bl b
 | _,_,.int i=>.int i
 | _,_,.str x=>.str x
 | _,_,.tup h r=>.tup (s.tup _ _ h) (ba.mono s r)
 | _,_,.fl h r=>.fl (h.elim (fun⟨o,e⟩=>.inl ⟨o,s.bN _ _ _ e⟩) .inr) (ba.mono s r)
 | _,_,.ref (i:=i) h=>(s.eq i h)▸.ref (aeB h s.le)
 | _,_,.exc h hc hn hk hf r=>.exc (s.bN _ _ _ h) hc hn hk (hf.mono s) (ba.mono s r)
 | _,_,.fn h hl hc r=>.fn (s.bN _ _ _ h) (hl.mono fun a o z=>s.bN a o _ z) (hc.mono fun a o z=>s.bN a o _ z) (ba.mono s r)
 | _,_,.kt h r=>.kt h (ba.mono s r)
theorem ba.mono(s:Step K φ n H au n' H'):∀{ws:List W} {vs:List V},ba K φ n H ws vs->ba K au n' H' ws vs
 | _,_,.nil=>.nil
 | _,_,.cons h r=>.cons (aQ.mono s h) (ba.mono s r)
end
theorem ba.length:∀{ws:List W} {vs:List V},ba K φ n H ws vs->ws.length=vs.length
 | _,_,.nil=>rfl
 | _,_,.cons _ r=>by simp[ba.length r]
theorem ba.get:∀{ws:List W} {vs:List V} {i:Nat} {w:W},ba K φ n H ws vs->ws[i]? =some w->∃v,vs[i]? =some v/\aQ K φ n H w v
 | _,_,_,_,.nil,e=>by simp at e
 | _,_,0,_,.cons h _,e=>by simp at e;subst e;exact⟨_,rfl,h⟩
 | _,_,i+1,w,.cons _ r,e=>by
  obtain⟨u,h1,h2⟩:=ba.get (i:=i) (w:=w) r (by simpa using e);exact⟨u,by simpa using h1,h2⟩
theorem ba.append:∀{ws xs:List W} {vs us:List V},ba K φ n H ws vs->ba K φ n H xs us->ba K φ n H (ws++xs) (vs++us)
 | _,_,_,_,.nil,s=>s
 | _,_,_,_,.cons h r,s=>.cons h (ba.append r s)
theorem ba.take:∀{ws:List W} {vs:List V} (k:Nat),ba K φ n H ws vs->ba K φ n H (ws.take k) (vs.take k)
 | _,_,0,_=>.nil
 | _,_,_+1,.nil=>.nil
 | _,_,k+1,.cons h r=>.cons h (ba.take k r)
theorem ba.drop:∀{ws:List W} {vs:List V} (k:Nat),ba K φ n H ws vs->ba K φ n H (ws.drop k) (vs.drop k)
 | _,_,0,r=>r
 | _,_,_+1,.nil=>.nil
 | _,_,k+1,.cons h r=>ba.drop k r
theorem ba.set{w:W}{v:V}(q:aQ K φ n H w v):∀{ws:List W} {vs:List V} (i:Nat),ba K φ n H ws vs->ba K φ n H (ws.set i w) (vs.set i v)
 | _,_,_,.nil=>.nil
 | _,_,0,.cons _ r=>.cons q r
 | _,_,i+1,.cons h r=>.cons h (ba.set q i r)
end
noncomputable def bX:Key->W
 | .inl i=>.int i
 | .inr x=>.str x
inductive cq(K:acs)(φ:Nat->Addr)(n:Nat)(H:Hp):List (W×W)->List (Key×V)->Prop where
 | nil:cq K φ n H [] []
 | cons {k:Key} {w:W} {v:V} {kws:List (W×W)} {kvs:List (Key×V)} (h:aQ K φ n H w v) (r:cq K φ n H kws kvs):cq K φ n H ((bX k,w)::kws) ((k,v)::kvs)
inductive cx(K:acs)(φ:Nat->Addr)(n:Nat)(H:Hp):List (W×W)->List (List Key×V)->Prop where
 | nil:cx K φ n H [] []
 | cons {k:List Key} {w:W} {v:V} {kws:List (W×W)} {kvs:List (List Key×V)} (h:aQ K φ n H w v) (r:cx K φ n H kws kvs):cx K φ n H ((.tup (k.map bX),w)::kws) ((k,v)::kvs)
theorem cq.mono{K:acs}{φ au:Nat->Addr}{n n':Nat}{H H':Hp}(s:Step K φ n H au n' H'):∀{ws:List (W×W)} {vs:List (Key×V)},cq K φ n H ws vs->cq K au n' H' ws vs
 | _,_,.nil=>.nil
 | _,_,.cons h r=>.cons (h.mono s) (cq.mono s r)
theorem cx.mono{K:acs}{φ au:Nat->Addr}{n n':Nat}{H H':Hp}(s:Step K φ n H au n' H'):∀{ws:List (W×W)} {vs:List (List Key×V)},cx K φ n H ws vs->cx K au n' H' ws vs
 | _,_,.nil=>.nil
 | _,_,.cons h r=>.cons (h.mono s) (cx.mono s r)
inductive lu(K:acs)(φ:Nat->Addr)(n:Nat)(H:Hp):List (W×W)->List (V×V)->Prop where
 | nil:lu K φ n H [] []
 | cons {k w:W} {u v:V} {kws:List (W×W)} {kvs:List (V×V)} (hk:aQ K φ n H k u) (h:aQ K φ n H w v) (r:lu K φ n H kws kvs):lu K φ n H ((k,w)::kws) ((u,v)::kvs)
theorem lu.mono{K:acs}{φ au:Nat->Addr}{n n':Nat}{H H':Hp}(s:Step K φ n H au n' H'):∀{ws:List (W×W)} {vs:List (V×V)},lu K φ n H ws vs->lu K au n' H' ws vs
 | _,_,.nil=>.nil
 | _,_,.cons hk h r=>.cons (hk.mono s) (h.mono s) (lu.mono s r)
inductive eJ(K:acs)(φ:Nat->Addr)(n:Nat)(H:Hp):List (Str×W)->List (Str×V)->Prop where
 | nil:eJ K φ n H [] []
 | cons {f:Str} {w:W} {v:V} {fs:List (Str×W)} {vs:List (Str×V)} (h:aQ K φ n H w v) (r:eJ K φ n H fs vs):eJ K φ n H ((f,w)::fs) ((f,v)::vs)
theorem eJ.mono{K:acs}{φ au:Nat->Addr}{n n':Nat}{H H':Hp}(s:Step K φ n H au n' H'):∀{ws:List (Str×W)} {vs:List (Str×V)},eJ K φ n H ws vs->eJ K au n' H' ws vs
 | _,_,.nil=>.nil
 | _,_,.cons h r=>.cons (h.mono s) (eJ.mono s r)
noncomputable def lh(K:acs)(φ:Nat->Addr)(n:Nat)(H:Hp)(o:PO)(a:Addr):Prop:=match o with
 | .lst ws=>∃vs,H a=some (.lst vs)/\ba K φ n H ws vs
 | .bO kws=>(∃kvs,H a=some (.dK kvs)/\cq K φ n H kws kvs)\/∃kvs,H a=some (.dT kvs)/\cx K φ n H kws kvs
 | .obj c fs=>∃C dx vs,aeo K ael c=some (some (.ref C))/\H a=some (.ins C dx vs)/\eJ K φ n H fs vs
 | .xA kws=>∃kvs,H a=some (.dU kvs)/\lu K φ n H kws kvs/\(kws.map (·.1)).Nodup
 | .nK kws=>∃o,o.cls=.type "dict"/\((∃kvs,H a=some (.bN o (.dK kvs))/\cq K φ n H kws kvs)\/∃kvs,H a=some (.bN o (.dT kvs))/\cx K φ n H kws kvs)
structure aL(K:acs)(φ:Nat->Addr)(ph:PH)(H:Hp):Prop where
 hp:∀i o,ph[i]? =some o->lh K φ ph.length H o (φ i)
 inj:∀i j,i<ph.length->j<ph.length->φ i=φ j->i=j
 tb:∀p∈jl K,ls H p.1 p.2.2
theorem ls.upd{H:Hp}{x:Str}{P a:Addr}{o:HO}(h:ls H x P)(n1:∀ps,H a≠some (.gG ps))(n2:∀oc,H a≠some (.bN oc js)):ls (upd H a o) x P:=by
 obtain⟨ps,e1,e2,e3⟩:=h;refine⟨ps,?_,e2,fun pos v e=>?_⟩
 ·rw[bz (fun z=>n1 ps (by rw[<- z];exact e1))];exact e1
 ·obtain⟨c,oc,vs,t,f1,f2,f3⟩:=e3 pos v e;refine⟨c,oc,vs,t,f1,?_,f3⟩;rw[bz (fun z=>n2 oc (by rw[<- z];exact f2))];exact f2
variable{o:HO}
theorem ls.new{x:Str}{P:Addr}(h:ls H x P)(hn:H a=none):ls (L2.upd H a o) x P:=h.upd (fun _ z=>by rw[hn] at z;cases z) fun _ z=>by rw[hn] at z;cases z
inductive bh(K:acs)(φ:Nat->Addr)(n:Nat)(H:Hp):aP->L2.St->Prop where
 | nil:bh K φ n H [] []
 | sm {w:W} {v:V} {ws:aP} {vs:L2.St} (h:aQ K φ n H w v) (r:bh K φ n H ws vs):bh K φ n H (some w::ws) (some v::vs)
 | nn {v:Option V} {ws:aP} {vs:L2.St} (r:bh K φ n H ws vs):bh K φ n H (none::ws) (v::vs)
section
variable{K:acs}{φ au Bk:Nat->Addr}{n n' Bl:Nat}{H H' fD:Hp}{ph:PH}
theorem bh.mono(s:Step K φ n H au n' H'):∀{ws:aP} {vs:L2.St},bh K φ n H ws vs->bh K au n' H' ws vs
 | _,_,.nil=>.nil
 | _,_,.sm h r=>.sm (h.mono s) (bh.mono s r)
 | _,_,.nn r=>.nn (bh.mono s r)
theorem bh.get:∀{ws:aP} {vs:L2.St} {i:Nat} {w:W},bh K φ n H ws vs->ws[i]? =some (some w)->∃v,vs[i]? =some (some v)/\aQ K φ n H w v
 | _,_,_,_,.nil,e=>by simp at e
 | _,_,0,_,.sm h _,e=>by simp at e;subst e;exact⟨_,rfl,h⟩
 | _,_,0,_,.nn _,e=>by simp at e
 | _,_,i+1,w,.sm _ r,e=>by
  obtain⟨u,h1,h2⟩:=bh.get (i:=i) (w:=w) r (by simpa using e);exact⟨u,by simpa using h1,h2⟩
 | _,_,i+1,w,.nn r,e=>by
  obtain⟨u,h1,h2⟩:=bh.get (i:=i) (w:=w) r (by simpa using e);exact⟨u,by simpa using h1,h2⟩
theorem bh.set{w:W}{v:V}(q:aQ K φ n H w v):∀{ws:aP} {vs:L2.St} (i:Nat),bh K φ n H ws vs->bh K φ n H (ws.set i (ago w)) (vs.set i (ago v))
 | _,_,_,.nil=>.nil
 | _,_,0,.sm _ r=>.sm q r
 | _,_,0,.nn r=>.sm q r
 | _,_,i+1,.sm h r=>.sm h (bh.set q i r)
 | _,_,i+1,.nn r=>.nn (bh.set q i r)
theorem bh.start:∀{ws:List W} {vs:List V} (k:Nat),ba K φ n H ws vs->bh K φ n H (ws.map ago++aeF k ajO) (vs.map ago++aeF k ajO)
 | _,_,0,.nil=>.nil
 | _,_,k+1,.nil=>.nn (bh.start k .nil)
 | _,_,k,.cons h r=>.sm h (bh.start k r)
theorem lh.some{o:PO}{a:Addr}(h:lh K φ n H o a):∃x,H a=ago x/\(o.fz=false->kg (ago x)):=by
 cases o with
 | lst ws=>obtain⟨vs,e,_⟩:=h;exact⟨_,e,fun _=>trivial⟩
 | bO kws=>
  rcases h with⟨vs,e,_⟩ | ⟨vs,e,_⟩
  ·exact⟨_,e,fun _=>trivial⟩
  ·exact⟨_,e,fun _=>trivial⟩
 | obj c fs=>obtain⟨C,dx,vs,_,e,_⟩:=h;exact⟨_,e,fun _=>trivial⟩
 | xA kws=>obtain⟨kvs,e,_⟩:=h;exact⟨_,e,fun _=>trivial⟩
 | nK kws=>
  obtain⟨o,_,⟨vs,e,_⟩ | ⟨vs,e,_⟩⟩:=h
  ·exact⟨_,e,fun z=>nomatch z⟩
  ·exact⟨_,e,fun z=>nomatch z⟩
theorem lh.mono{o:PO}{a:Addr}(s:Step K φ n H au n' H')(e:H' a=H a)(h:lh K φ n H o a):lh K au n' H' o a:=by
 cases o with
 | lst ws=>obtain⟨vs,q,r⟩:=h;exact⟨vs,e.trans q,r.mono s⟩
 | bO kws=>
  rcases h with⟨vs,q,r⟩ | ⟨vs,q,r⟩
  ·exact .inl ⟨vs,e.trans q,r.mono s⟩
  ·exact .inr ⟨vs,e.trans q,r.mono s⟩
 | obj c fs=>obtain⟨C,dx,vs,q1,q2,r⟩:=h;exact⟨C,dx,vs,q1,e.trans q2,r.mono s⟩
 | xA kws=>obtain⟨kvs,q,r,nd⟩:=h;exact⟨kvs,e.trans q,r.mono s,nd⟩
 | nK kws=>
  obtain⟨o,hc,⟨vs,q,r⟩ | ⟨vs,q,r⟩⟩:=h
  ·exact⟨o,hc,.inl ⟨vs,e.trans q,r.mono s⟩⟩
  ·exact⟨o,hc,.inr ⟨vs,e.trans q,r.mono s⟩⟩
variable{i:Nat}
theorem aL.at(h:aL K φ ph H)(hi:i<ph.length):∃x,H (φ i)=ago x/\(ph[i].fz=false->kg (ago x)):=(h.hp i ph[i] (by simp[hi])).some
theorem aL.mu(h:aL K φ ph H){o:PO}(hw:ph[i]? =ago o)(hz:o.fz=false):∃x,H (φ i)=ago x/\kg (ago x):=let ⟨x,e,k⟩:=(h.hp i o hw).some;⟨x,e,k hz⟩
variable{p:Addr}
theorem gv{xs:List V}(hp:H p=none):Step K φ n H φ n (upd H p (.tup xs)):=by
 refine⟨aeq _,fun _ _=>rfl,fun a ys h=>?_,fun a o u h=>?_⟩
 ·rw[bz (fo h hp)];exact h
 ·rw[bz (fo h hp)];exact h
theorem aL.tup{p:Addr}{xs:List V}(h:aL K φ ph H)(hp:H p=none):aL K φ ph (upd H p (.tup xs)):=by
 refine⟨fun i o e=>?_,h.inj,fun p hm=>(h.tb p hm).new hp⟩;have hi:i<ph.length:=(aen.mp e).1;obtain⟨x,ex,_⟩:=h.at hi;exact(h.hp i o e).mono (gv hp) (bz (fo ex hp))
noncomputable def ext(φ:Nat->Addr)(n:Nat)(p:Addr):Nat->Addr:=fun i=>if i=n then p else φ i
theorem oQ(h:i<n):ext φ n p i=φ i:=by unfold ext;rw[if_neg (by omega)]
theorem k6:ext φ n p n=p:=by unfold ext;rw[if_pos rfl]
theorem uZ{o:HO}(hp:H p=none):Step K φ n H (ext φ n p) (n+1) (upd H p o):=by
 refine⟨afM _,fun i h=>oQ h,fun a ys h=>?_,fun a o u h=>?_⟩
 ·rw[bz (fo h hp)];exact h
 ·rw[bz (fo h hp)];exact h
theorem aL.new{p:Addr}{x:HO}{o:PO}(h:aL K φ ph H)(hp:H p=none)(r:lh K (ext φ ph.length p) (ph.length+1) (upd H p x) o p) :
  aL K (ext φ ph.length p) (ph++[o]) (upd H p x):=by
 refine⟨fun i o' e=>?_,fun i j hi hj e=>?_,fun p hm=>(h.tb p hm).new hp⟩
 ·rw[aeI];by_cases hi:i<ph.length
  ·rw[afq hi] at e;obtain⟨y,ey,_⟩:=h.at hi;rw[oQ hi];exact(h.hp i o' e).mono (uZ hp) (bz (fo ey hp))
  ·have hl:=(aen.mp e).1;simp at hl;have:i=ph.length:=by omega
   subst this;simp at e;subst e;rw[k6];exact r
 ·simp at hi hj
  have key:∀k,k<ph.length->φ k≠p:=fun k hk z=>by
   obtain⟨y,ey,_⟩:=h.at hk;rw[z,hp] at ey;cases ey
  by_cases h1:i<ph.length <;> by_cases h2:j<ph.length
  ·rw[oQ h1,oQ h2] at e;exact h.inj i j h1 h2 e
  ·have:j=ph.length:=by omega
   subst this;rw[oQ h1,k6] at e;exact(key i h1 e).elim
  ·have:i=ph.length:=by omega
   subst this;rw[oQ h2,k6] at e;exact(key j h2 e.symm).elim
  ·omega
theorem kO{a:Addr}{x y:HO}(ha:H a=some x)(mx:kg (some x)):Step K φ n H φ n (upd H a y):=by
 refine⟨aeq _,fun _ _=>rfl,fun c ys h=>?_,fun c o u h=>?_⟩
 ·rw[bz (lg h ha (by rintro rfl;exact mx))];exact h
 ·rw[bz (lg h ha (by rintro rfl;exact mx))];exact h
theorem aL.put{x:HO}{o o0:PO}(h:aL K φ ph H)(hw:ph[i]? =some o0)(hz:o0.fz=false)(r:lh K φ ph.length (upd H (φ i) x) o (φ i)):aL K φ (ph.set i o) (upd H (φ i) x):=by
 have hi:i<ph.length:=(aen.mp hw).1;obtain⟨y,ey,my⟩:=h.mu hw hz;refine⟨fun j o' e=>?_,fun j k hj hk e=>?_,fun p hm=>(h.tb p hm).upd (fun ps z=>?_) fun oc z=>?_⟩
 ·rw[afO];by_cases hj:j=i
  ·subst hj;rw[agG hi] at e;cases e;exact r
  ·rw[agq (ahH hj)] at e;have IV:=(aen.mp e).1;exact(h.hp j o' e).mono (kO ey my) (bz fun z=>hj (h.inj j i IV hi z))
 ·rw[afO] at hj hk;exact h.inj j k hj hk e
 ·rw[ey] at z;cases z;exact my
 ·rw[ey] at z;cases z;exact my
end
noncomputable def Made(X:Cx)(C:Addr)(H':Hp)(e:Value)(s':aem):Prop:=
 ∃pins σ s vs h' a,e=.ref a/\s'={ s with heap:=h' }/\Inv X pins σ H' s/\Heap.MadeExcOf s.heap h' a (.ref C) vs
structure IW(fs:List Addr)(H H':Hp)(h B h':Heap):Prop where
 keep:∀b o,h.get? b=some o->H b=none->b∉fs->B.get? b=some o
 slot:∀b o,h.get? b=some o->H b=none->b∈fs->∃sl,h'.get? b=some { o with slots:=sl }
 free:∀b o,h.get? b=some o->H b=none->H' b=none
 there:∀b o,h.get? b=some o->b∉fs->∃o',B.get? b=some o'
 gB:∀b xs,H b=some (.tup xs)->H' b=some (.tup xs)
 eW:∀b o u,H b=some (.bN o u)->H' b=some (.bN o u)
 fT:∀b ps,H b=some (.gG ps)->∃more,H' b=some (.gG (ps++more))
noncomputable def Flew(P:afm)(w:World)(l:List Env)(H:Hp)(s:aem)(C:Addr)(H':Hp)(e:Value)(s':aem):Prop:=
 ∃a a0 B,e=.ref a/\s'.os=s.os/\aie s'.gens/\Heap.FlyingW B l a (.ref C) a0 s'.heap/\cu P w H' B/\IW (cS l) H H' s.heap B s'.heap
noncomputable def pY(X:Cx)(x:XC)(H':Hp)(e:Value)(s':aem):Prop:=∃C,X.mg x.cls=some (.ref C)/\x.fs=[]/\(Made X C H' e s'\/∃pins σ H s,Inv X pins σ H s/\Flew X.prog X.w X.stack H s C H' e s')
noncomputable def XE(X:Cx)(φ:Nat->Addr)(n:Nat)(H:Hp):XC->PH->Prop:=fun x ph'=>∀au H' e s',aL X.K au ph' H'->Step X.K φ n H au ph'.length H'->pY X x H' e s'->X.xe e s'
variable{X:Cx}{φ:Nat->Addr}{n:Nat}{ph':PH}
theorem XE.step{aA:Nat->Addr}{n1:Nat}{H1:Hp}{x:XC}(h:XE X φ n H x ph')(s:Step X.K φ n H aA n1 H1):XE X aA n1 H1 x ph':=fun au H' e s' r t q=>h au H' e s' r (s.trans t) q
noncomputable def tM(X:Cx)(m:EM):TE:=fun σ H Q=>∃φ ph ws,aL X.K φ ph H/\bh X.K φ ph.length H ws σ/\(m ws ph).Run (fun w ph'=>
 ∀au H' v,aL X.K au ph' H'->Step X.K φ ph.length H au ph'.length H'->aQ X.K au ph'.length H' w v->Q v H') (XE X φ ph.length H)
noncomputable def tT(X:Cx)(m:TM):TT:=fun σ H Q=>∃φ ph ws,aL X.K φ ph H/\bh X.K φ ph.length H ws σ/\(m ws ph).Run (fun b ph'=>
 ∀au H',aL X.K au ph' H'->Step X.K φ ph.length H au ph'.length H'->Q b H') (XE X φ ph.length H)
noncomputable def tA(X:Cx)(m:AM):TA:=fun σ H Q=>∃φ ph ws,aL X.K φ ph H/\bh X.K φ ph.length H ws σ/\(m ws ph).Run (fun xs ph'=>
 ∀au H' vs,aL X.K au ph' H'->Step X.K φ ph.length H au ph'.length H'->ba X.K au ph'.length H' xs vs->Q vs H') (XE X φ ph.length H)
noncomputable def nj(X:Cx)(D:Ends)(au:Nat->Addr)(ph':PH)(H':Hp)(f:Fl):Prop:=match f with
 | .nx cP=>∀ay,bh X.K au ph'.length H' cP ay->D.nx ay H'
 | .bk cP=>∀ay,bh X.K au ph'.length H' cP ay->D.bk ay H'
 | .ct cP=>∀ay,bh X.K au ph'.length H' cP ay->D.ct ay H'
 | .rt w=>∀v,aQ X.K au ph'.length H' w v->D.rt v H'
noncomputable def tS(X:Cx)(m:SM):TS:=fun D σ H=>∃φ ph ws,aL X.K φ ph H/\bh X.K φ ph.length H ws σ/\(m ws ph).Run (fun f ph'=>
 ∀au H',aL X.K au ph' H'->Step X.K φ ph.length H au ph'.length H'->nj X D au ph' H' f) (XE X φ ph.length H)
section
variable{X:Cx}{e:Expr}
theorem PE.imp{t t':TE}(h:PE X e t)(k:∀σ H Q,t' σ H Q->t σ H Q):PE X e t':=fun pins s σ H Q I q=>h pins s σ H Q I (k σ H Q q)
theorem PT.imp{t t':TT}(h:PT X e t)(k:∀σ H Q,t' σ H Q->t σ H Q):PT X e t':=fun pins s σ H Q I q=>h pins s σ H Q I (k σ H Q q)
theorem PA.imp{es:List Expr}{t t':TA}(h:PA X es t)(k:∀σ H Q,t' σ H Q->t σ H Q):PA X es t':=fun pos pins s σ H Q I q=>h pos pins s σ H Q I (k σ H Q q)
theorem PS.imp{st:Stmt}{t t':TS}(h:PS X st t)(k:∀D σ H,t' D σ H->t D σ H):PS X st t':=fun pins s σ H D I q=>h pins s σ H D I (k D σ H q)
theorem fX.imp{st:List Stmt}{t t':TS}(h:fX X st t)(k:∀D σ H,t' D σ H->t D σ H):fX X st t':=fun pins s σ H D I q=>h pins s σ H D I (k D σ H q)
abbrev IE(X:Cx)(e:Expr)(m:EM):Prop:=PE X e (tM X m)
abbrev IT(X:Cx)(e:Expr)(m:TM):Prop:=PT X e (tT X m)
abbrev IA(X:Cx)(es:List Expr)(m:AM):Prop:=PA X es (tA X m)
abbrev IS(X:Cx)(st:Stmt)(m:SM):Prop:=PS X st (tS X m)
abbrev gL(X:Cx)(st:List Stmt)(m:SM):Prop:=fX X st (tS X m)
end
noncomputable def ae(i:Nat):EM:=fun σ=>lift fun ph=>match σ[i]? with
 | some (some w)=>some (w,ph)
 | _=>none
noncomputable def eC(w:W):EM:=fun _=>aB w
noncomputable def af(f:W->W->Po W)(a b:EM):EM:=fun σ=>aw (a σ) fun x=>aw (b σ) fun y=>lift (f x y)
noncomputable def da(f:W->Po W)(a:EM):EM:=fun σ=>aw (a σ) fun x=>lift (f x)
noncomputable def cD(K:acs)(r:R2)(f:W->W->Po W):Prop:=∀{φ:Nat->Addr} {ph:PH} {H:Hp} {x y:W} {vx vy:V} {w:W} {ph':PH} {Q:VK},aL K φ ph H->aQ K φ ph.length H x vx->aQ K φ ph.length H y vy->f x y ph=some (w,ph') →
 (∀au H' v,aL K au ph' H'->Step K φ ph.length H au ph'.length H'->aQ K au ph'.length H' w v->Q v H')->r vx vy H Q
noncomputable def IX(K:acs)(r:V->Hp->VK->Prop)(f:W->Po W):Prop:=∀{φ:Nat->Addr} {ph:PH} {H:Hp} {x:W} {vx:V} {w:W} {ph':PH} {Q:VK},aL K φ ph H->aQ K φ ph.length H x vx->f x ph=some (w,ph') →
 (∀au H' v,aL K au ph' H'->Step K φ ph.length H au ph'.length H'->aQ K au ph'.length H' w v->Q v H')->r vx H Q
section
variable{X:Cx}{a b c:Expr}{ma mb mc:EM}{pos:Pos}
theorem ZN(i:Nat){x:Str}(hN:X.N[i]? =some x:=by rfl)(hv:aH X.env.scope x:=by first | exact Or.inl rfl | exact Or.inr (Or.inl rfl) | exact Or.inr (Or.inr rfl))(hd:(x==("__debug__":Str))=false:=by decide)
  (hcd:(x==("__classdict__":Str))=false:=by decide):IE X (.Name x pos) (ae i):=by
 refine PE.imp (Y6 hN hv hd hcd) fun σ H Q h=>?_
 obtain⟨φ,ph,ws,hH,hS,h⟩:=h;obtain⟨w,ph',e,k⟩:=run_lift h;split at e
 ·rename_i w' ew;cases e;obtain⟨v,ev,rv⟩:=hS.get ew;exact⟨v,ev,k φ H v hH Step.refl rv⟩
 ·cases e
theorem nq{t:V}{w:W}(h:PE X a (tC t))(r:∀φ n H,aQ X.K φ n H w t):IE X a (eC w):=by
 refine PE.imp h fun σ H Q h=>?_
 obtain⟨φ,ph,ws,hH,hS,h⟩:=h;exact h φ H _ hH Step.refl (r _ _ _)
variable{j:Nat}
theorem ZO{i:Int}:IE X (.Constant (.int i) j pos) (eC (.int i)):=nq Y7 fun _ _ _=>.int i
theorem ZP{x:Str}:IE X (.Constant (.str x) j pos) (eC (.str x)):=nq Y9 fun _ _ _=>.str x
theorem ab6{x:Bool}:IE X (.Constant (.bool x) j pos) (eC (.bl x)):=nq abH fun _ _ _=>.bl x
theorem ZQ:IE X (.Constant .none j pos) (eC .aE):=nq Y8 fun _ _ _=>.aE
variable{β:Type}{σ:L2.St}{H:Hp}{φ:Nat->Addr}{ph:PH}{ws:aP}
theorem tM.bind{m:EM}{Q:VK}{f:W->Mo β}{N:β->PH->Prop}(hH:aL X.K φ ph H)(hS:bh X.K φ ph.length H ws σ)(h:(aw (m ws) f ph).Run N (XE X φ ph.length H))
  (k:∀w ph1 aA H1 v,aL X.K aA ph1 H1->Step X.K φ ph.length H aA ph1.length H1->aQ X.K aA ph1.length H1 w v->(f w ph1).Run N (XE X aA ph1.length H1)->Q v H1):tM X m σ H Q:=by
 rw[cI] at h;exact⟨φ,ph,ws,hH,hS,h.mono (fun w ph1 h1 aA H1 v aC s1 r1=>k w ph1 aA H1 v aC s1 r1 (h1.mono (fun _ _ z=>z) fun _ _ z=>z.step s1)) fun _ _ z=>z⟩
theorem tT.bind{m:TM}{Q:Bool->Hp->Prop}{f:Bool->Mo β}{N:β->PH->Prop}(hH:aL X.K φ ph H)(hS:bh X.K φ ph.length H ws σ)(h:(aw (m ws) f ph).Run N (XE X φ ph.length H))
  (k:∀b ph1 aA H1,aL X.K aA ph1 H1->Step X.K φ ph.length H aA ph1.length H1->(f b ph1).Run N (XE X aA ph1.length H1)->Q b H1):tT X m σ H Q:=by
 rw[cI] at h;exact⟨φ,ph,ws,hH,hS,h.mono (fun b ph1 h1 aA H1 aC s1=>k b ph1 aA H1 aC s1 (h1.mono (fun _ _ z=>z) fun _ _ z=>z.step s1)) fun _ _ z=>z⟩
theorem tA.bind{m:AM}{Q:List V->Hp->Prop}{f:List W->Mo β}{N:β->PH->Prop}(hH:aL X.K φ ph H)(hS:bh X.K φ ph.length H ws σ)(h:(aw (m ws) f ph).Run N (XE X φ ph.length H))
  (k:∀xs ph1 aA H1 vs,aL X.K aA ph1 H1->Step X.K φ ph.length H aA ph1.length H1->ba X.K aA ph1.length H1 xs vs->(f xs ph1).Run N (XE X aA ph1.length H1)->Q vs H1):tA X m σ H Q:=by
 rw[cI] at h;exact⟨φ,ph,ws,hH,hS,h.mono (fun w ph1 h1 aA H1 v aC s1 r1=>k w ph1 aA H1 v aC s1 r1 (h1.mono (fun _ _ z=>z) fun _ _ z=>z.step s1)) fun _ _ z=>z⟩
variable{r:R2}{f:W->W->Po W}
theorem vh(hi:cD X.K r f){Q:VK}(h:tM X (af f ma mb) σ H Q):nH r (tM X ma) (tM X mb) σ H Q:=by
 obtain⟨φ,ph,ws,hH,hS,h⟩:=h;refine tM.bind hH hS h fun x ph1 aA H1 vx aC s1 rx h=>tM.bind aC (hS.mono s1) h fun y ph2 aY H2 vy bf s2 ry h=>?_
 obtain⟨w,ph',e,k⟩:=run_lift h;exact hi bf (rx.mono s2) ry e fun fj H3 v dc s3 r3=>k fj H3 v dc ((s1.trans s2).trans s3) r3
theorem rl{op:ajm}(ho:bx X (ahe op) r)(hi:cD X.K r f)(ha:IE X a ma)(hb:IE X b mb):IE X (.BinOp a op b pos) (af f ma mb):=
 PE.imp (abS ho ha hb) fun _ _ _ h=>vh hi h
theorem ab7{op:UnaryOp}{r:V->Hp->VK->Prop}{f:W->Po W}(ho:xu X (unaryOp op) r)(hi:IX X.K r f)(ha:IE X a ma):IE X (.UnaryOp op a pos) (da f ma):=by
 refine PE.imp (abT ho ha) fun σ H Q h=>?_
 obtain⟨φ,ph,ws,hH,hS,h⟩:=h;refine tM.bind hH hS h fun x ph1 aA H1 vx aC s1 rx h=>?_
 obtain⟨w,ph',e,k⟩:=run_lift h;exact hi aC rx e fun fj H3 v dc s3 r3=>k fj H3 v dc (s1.trans s3) r3
theorem ZR{op:CmpOp}(ho:bx X (afh op) r)(hi:cD X.K r f)(ha:IE X a ma)(hb:IE X b mb)(hm:afE op b=false):IE X (.Compare a [op] [b] pos) (af f ma mb):=
 PE.imp (Xg ho ha hb hm) fun _ _ _ h=>vh hi h
noncomputable def eT(m:EM):TM:=fun σ=>aw (m σ) fun w=>lift (match w with
 | .bl b=>ret b
 | _=>eZ)
theorem ZS{op:CmpOp}(ho:bx X (afh op) r)(hi:cD X.K r f)(ha:IE X a ma)(hb:IE X b mb)(hm:afE op b=false):IT X (.Compare a [op] [b] pos) (eT (af f ma mb)):=by
 refine PT.imp (EU ho ha hb hm) fun σ H Q h=>?_
 obtain⟨φ,ph,ws,hH,hS,h⟩:=h;refine vh hi (tM.bind hH hS h fun x ph1 aA H1 vx aC s1 rx h=>?_);obtain⟨w,ph',e,k⟩:=run_lift h;split at e
 ·cases e;cases rx;exact⟨_,rfl,k aA H1 aC s1⟩
 ·cases e
end
noncomputable def nL(g:Int->Int->Int):W->W->Po W:=fun x y=>match x,y with
 | .int i,.int j=>ret (.int (g i j))
 | _,_=>eZ
noncomputable def pF(c:Int->Int->Bool)(g:Int->Int->Int):W->W->Po W:=fun x y=>match x,y with
 | .int i,.int j=>if c i j=true then ret (.int (g i j)) else eZ
 | _,_=>eZ
noncomputable def pG(g:Int->Int->Bool):W->W->Po W:=fun x y=>match x,y with
 | .int i,.int j=>ret (.bl (g i j))
 | _,_=>eZ
theorem ab8{g:Int->Int->Int}:cD K (i5 fun i j=>.int (g i j)) (nL g):=by
 intro φ ph H x y vx vy w ph' Q hH rx ry e k;unfold nL at e;split at e
 ·cases e;cases rx;cases ry;exact⟨_,_,rfl,rfl,k φ H _ hH Step.refl (.int _)⟩
 ·cases e
theorem FR{C:Int->Int->Prop}{c:Int->Int->Bool}{g:Int->Int->Int}(hc:∀i j,c i j=true->C i j):cD K (rI C fun i j=>.int (g i j)) (pF c g):=by
 intro φ ph H x y vx vy w ph' Q hH rx ry e k;unfold pF at e;split at e
 ·split at e
  ·cases e;cases rx;cases ry;exact⟨_,_,rfl,rfl,hc _ _ (by assumption),k φ H _ hH Step.refl (.int _)⟩
  ·cases e
 ·cases e
theorem zW{g:Int->Int->Bool}:cD K (i5 fun i j=>.bl (g i j)) (pG g):=by
 intro φ ph H x y vx vy w ph' Q hH rx ry e k;unfold pG at e;split at e
 ·cases e;cases rx;cases ry;exact⟨_,_,rfl,rfl,k φ H _ hH Step.refl (.bl _)⟩
 ·cases e
noncomputable def c8(a b:TM):TM:=fun σ=>aw (a σ) fun c=>if c=true then b σ else aB false
noncomputable def cU(a b:TM):TM:=fun σ=>aw (a σ) fun c=>if c=true then aB true else b σ
noncomputable def dj(a:TM):TM:=fun σ=>aw (a σ) fun c=>aB (!c)
noncomputable def j6(a b:EM):EM:=fun σ=>aw (a σ) fun w=>match w with
 | .bl c=>if c=true then b σ else aB (.bl false)
 | _=>dO
noncomputable def xB(a b:EM):EM:=fun σ=>aw (a σ) fun w=>match w with
 | .bl c=>if c=true then aB (.bl true) else b σ
 | _=>dO
noncomputable def wW(a:EM):EM:=fun σ=>aw (a σ) fun w=>match w with
 | .bl c=>aB (.bl (!c))
 | _=>dO
noncomputable def jF(t:TM)(a b:EM):EM:=fun σ=>aw (t σ) fun c=>if c=true then a σ else b σ
section
variable{X:Cx}{a b c:Expr}{rest:List Expr}{ma mb mc:EM}{ta tb:TM}{pos:Pos}
theorem ZU(ha:IT X a ta):IT X (.UnaryOp .Not a pos) (dj ta):=by
 refine PT.imp (Zc ha) fun σ H Q h=>?_
 obtain⟨φ,ph,ws,hH,hS,h⟩:=h;exact tT.bind hH hS h fun x ph1 aA H1 aC s1 h=>h aA H1 aC s1
variable{H:Hp}
theorem and_imp{σ:L2.St}{Q:Bool->Hp->Prop}(h:tT X (c8 ta tb) σ H Q):rN (tT X ta) (tT X tb) σ H Q:=by
 obtain⟨φ,ph,ws,hH,hS,h⟩:=h;refine tT.bind hH hS h fun x ph1 aA H1 aC s1 h=>?_
 cases x with
 | true=>exact j5 ⟨aA,ph1,ws,aC,hS.mono s1,h.mono (fun _ _ k aY H2 bf s2=>k aY H2 bf (s1.trans s2)) fun _ _ z=>z⟩
 | false=>exact j4 (h aA H1 aC s1)
theorem or_imp{σ:L2.St}{Q:Bool->Hp->Prop}(h:tT X (cU ta tb) σ H Q):Iu (tT X ta) (tT X tb) σ H Q:=by
 obtain⟨φ,ph,ws,hH,hS,h⟩:=h;refine tT.bind hH hS h fun x ph1 aA H1 aC s1 h=>?_
 cases x with
 | false=>exact j4 ⟨aA,ph1,ws,aC,hS.mono s1,h.mono (fun _ _ k aY H2 bf s2=>k aY H2 bf (s1.trans s2)) fun _ _ z=>z⟩
 | true=>exact j5 (h aA H1 aC s1)
theorem ZV{op:BoolOp}(ha:IT X a ta):PW X (.BoolOp op [a] pos) (tT X ta):=by
 cases op with
 | And=>exact W8 ha
 | Or=>exact Za ha
theorem ZW(ha:IT X a ta)(hb:PW X (.BoolOp .And (b::rest) pos) (tT X tb)):PW X (.BoolOp .And (a::b::rest) pos) (tT X (c8 ta tb)):=
 fun wh pins s σ H Q I h=>Zb ha hb wh pins s σ H Q I (and_imp h)
theorem ab9(ha:IT X a ta)(hb:PW X (.BoolOp .Or (b::rest) pos) (tT X tb)):PW X (.BoolOp .Or (a::b::rest) pos) (tT X (cU ta tb)):=
 fun wh pins s σ H Q I h=>abI ha hb wh pins s σ H Q I (or_imp h)
theorem ZX(ha:IE X a ma)(hb:IE X (.BoolOp .And (b::rest) pos) mb):IE X (.BoolOp .And (a::b::rest) pos) (j6 ma mb):=by
 refine PE.imp (Ze ha hb) fun σ H Q h=>?_
 obtain⟨φ,ph,ws,hH,hS,h⟩:=h;refine tM.bind hH hS h fun x ph1 aA H1 vx aC s1 rx h=>?_
 cases rx with
 | bl c=>
  refine⟨c,rfl,?_⟩;cases c with
  | true=>exact j5 ⟨aA,ph1,ws,aC,hS.mono s1,h.mono (fun _ _ k aY H2 v bf s2 r2=>k aY H2 v bf (s1.trans s2) r2) fun _ _ z=>z⟩
  | false=>exact j4 (h aA H1 _ aC s1 (.bl false))
 | _=>exact h.elim
theorem aca(ha:IE X a ma)(hb:IE X (.BoolOp .Or (b::rest) pos) mb):IE X (.BoolOp .Or (a::b::rest) pos) (xB ma mb):=by
 refine PE.imp (abL ha hb) fun σ H Q h=>?_
 obtain⟨φ,ph,ws,hH,hS,h⟩:=h;refine tM.bind hH hS h fun x ph1 aA H1 vx aC s1 rx h=>?_
 cases rx with
 | bl c=>
  refine⟨c,rfl,?_⟩;cases c with
  | false=>exact j4 ⟨aA,ph1,ws,aC,hS.mono s1,h.mono (fun _ _ k aY H2 v bf s2 r2=>k aY H2 v bf (s1.trans s2) r2) fun _ _ z=>z⟩
  | true=>exact j5 (h aA H1 _ aC s1 (.bl true))
 | _=>exact h.elim
theorem ZY{op:BoolOp}(ha:IE X a ma):IE X (.BoolOp op [a] pos) ma:=Zd ha
theorem ZZ(ha:IE X a ma):IE X (.UnaryOp .Not a pos) (wW ma):=by
 refine PE.imp (Zf ha) fun σ H Q h=>?_
 obtain⟨φ,ph,ws,hH,hS,h⟩:=h;refine tM.bind hH hS h fun x ph1 aA H1 vx aC s1 rx h=>?_
 cases rx with
 | bl c=>exact⟨_,rfl,h aA H1 _ aC s1 (.bl _)⟩
 | _=>exact h.elim
theorem acb(hc:IT X c ta)(ha:IE X a ma)(hb:IE X b mb):IE X (.IfExp c a b pos) (jF ta ma mb):=by
 refine PE.imp (V0 hc ha hb) fun σ H Q h=>?_
 obtain⟨φ,ph,ws,hH,hS,h⟩:=h;refine tT.bind hH hS h fun x ph1 aA H1 aC s1 h=>?_
 cases x with
 | true=>exact j5 ⟨aA,ph1,ws,aC,hS.mono s1,h.mono (fun _ _ k aY H2 v bf s2 r2=>k aY H2 v bf (s1.trans s2) r2) fun _ _ z=>z⟩
 | false=>exact j4 ⟨aA,ph1,ws,aC,hS.mono s1,h.mono (fun _ _ k aY H2 v bf s2 r2=>k aY H2 v bf (s1.trans s2) r2) fun _ _ z=>z⟩
noncomputable def pH(w:W):Po Bool:=fun ph=>match w with
 | .aE=>some (false,ph)
 | .bl b=>some (b,ph)
 | .int i=>some (i != 0,ph)
 | .str y=>if y.length<=aeD then some ((y.length:Int) != 0,ph) else none
 | .tup ws=>some (!ws.isEmpty,ph)
 | .fl ws=>some (!ws.isEmpty,ph)
 | .ref i=>match ph[i]? with
  | some (.lst ws)=>some (!ws.isEmpty,ph)
  | _=>none
 | .exc .. =>none
 | .fn .. =>none
 | .kt .. =>none
noncomputable def dq(m:EM):TM:=fun σ=>aw (m σ) fun w=>lift (pH w)
theorem zX{K:acs}{φ:Nat->Addr}{n:Nat}{ws:List W}{vs:List V}(r:ba K φ n H ws vs):(!vs.isEmpty)= !ws.isEmpty:=by cases r <;> rfl
theorem Z0(ha:IE X a ma)(he:∀whole,isTrue a X.env whole=(do let v <- whole;standAt a.pos;aja [v] (truthy v)):=by intro _;rfl):IT X a (dq ma):=by
 refine PT.imp (V8 ha he) fun σ H Q h=>?_
 obtain⟨φ,ph,ws,hH,hS,h⟩:=h;refine tM.bind hH hS h fun x ph1 aA H1 vx aC s1 rx h=>?_
 obtain⟨b,ph2,e,k⟩:=run_lift h;unfold pH at e;cases rx with
 | aE=>cases e;exact⟨_,rfl,k aA H1 aC s1⟩
 | bl b=>cases e;exact⟨_,rfl,k aA H1 aC s1⟩
 | int i=>cases e;exact⟨_,rfl,k aA H1 aC s1⟩
 | str y=>
  simp only at e;split at e
  ·rename_i hy;cases e;exact⟨_,⟨hy,rfl⟩,k aA H1 aC s1⟩
  ·cases e
 | tup hq r=>cases e;exact⟨_,.inr (.inl ⟨_,bJ.of hq,rfl⟩),by rw[zX r];exact k aA H1 aC s1⟩
 | fl hq r=>cases e;exact⟨_,.inl ⟨_,hq.sq,rfl⟩,by rw[zX r];exact k aA H1 aC s1⟩
 | ref hi=>
  simp only at e;split at e
  ·rename_i cP hw;cases e;obtain⟨vs,hv,r⟩:=aC.hp _ _ hw;exact⟨_,.inl ⟨vs,bC.of hv,rfl⟩,by rw[zX r];exact k aA H1 aC s1⟩
  ·cases e
 | exc=>cases e
 | fn=>cases e
 | kt _ _=>cases e
end
noncomputable def bu:SM:=fun σ=>aB (.nx σ)
noncomputable def aD(a b:SM):SM:=fun σ=>aw (a σ) fun f=>match f with
 | .nx ay=>b ay
 | f=>aB f
noncomputable def dm(e:EM):SM:=fun σ=>aw (e σ) fun _=>aB (.nx σ)
noncomputable def bc(e:EM):SM:=fun σ=>aw (e σ) fun w=>aB (.rt w)
noncomputable def aX(t:TM)(a b:SM):SM:=fun σ=>aw (t σ) fun c=>if c=true then a σ else b σ
noncomputable def qW:SM:=fun _=>dO
abbrev GM:=W->aP->Mo aP
noncomputable def gN(i:Nat):GM:=fun w σ=>aB (σ.set i (some w))
noncomputable def aO(e:EM)(g:GM):SM:=fun σ=>aw (e σ) fun w=>aw (g w σ) fun ay=>aB (.nx ay)
noncomputable def tG(X:Cx)(g:GM):TG:=fun v σ H Q=>∃φ ph ws w,aL X.K φ ph H/\bh X.K φ ph.length H ws σ/\aQ X.K φ ph.length H w v/\(g w ws ph).Run (fun cP ph'=>
 ∀au H' ay,aL X.K au ph' H'->Step X.K φ ph.length H au ph'.length H'->bh X.K au ph'.length H' cP ay->Q ay H') (XE X φ ph.length H)
abbrev IG(X:Cx)(tg:Expr)(g:GM):Prop:=PG X tg (tG X g)
section
variable{X:Cx}{e c:Expr}{m:EM}{t:TM}{a b:SM}{st:Stmt}{as bs rest:List Stmt}{pos:Pos}{tg:Expr}{g:GM}
theorem PG.imp{t t':TG}(h:PG X tg t)(k:∀v σ H Q,t' v σ H Q->t v σ H Q):PG X tg t':=fun pins s σ H v u Q I r q=>h pins s σ H v u Q I r (k v σ H Q q)
theorem Xt:gL X [] bu:=fX.imp W9 fun D σ H h=>by
 obtain⟨φ,ph,ws,hH,hS,h⟩:=h;exact h φ H hH Step.refl σ hS
variable{σ:L2.St}{H:Hp}
theorem Xu{D:Ends}(h:tS X (aD a b) D σ H):Ht (tS X a) (tS X b) D σ H:=by
 obtain⟨φ,ph,ws,hH,hS,h⟩:=h;unfold aD at h;rw[cI] at h;refine⟨φ,ph,ws,hH,hS,h.mono (fun f ph1 h aA H1 aC s1=>?_) fun _ _ z=>z⟩;cases f with
 | nx jG=>exact fun σ1 km=>⟨aA,ph1,jG,aC,km,h.mono (fun f ph2 k aY H2 bf s2=>k aY H2 bf (s1.trans s2)) fun _ _ z=>z.step s1⟩
 | bk jG=>exact h aA H1 aC s1
 | ct jG=>exact h aA H1 aC s1
 | rt w=>exact h aA H1 aC s1
theorem Wg(h1:IS X st a)(h2:gL X rest b):gL X (st::rest) (aD a b):=fX.imp (V1 h1 h2) fun _ _ _ h=>Xu h
theorem Xv(h1:IS X st a):gL X [st] a:=Xa h1
theorem Wh:IS X st qW:=PS.imp V2 fun D σ H h=>by
 obtain⟨φ,ph,ws,hH,hS,h⟩:=h;exact h
theorem Xw(he:IE X e m)(hs:agL e none pos.line X.env=pure false:=by rfl):IS X (.Expr e pos) (dm m):=PS.imp (Xb he hs) fun D σ H h=>by
 obtain⟨φ,ph,ws,hH,hS,h⟩:=h;exact tM.bind hH hS h fun w ph1 aA H1 v aC s1 r1 h=>h aA H1 aC s1 σ (hS.mono s1)
theorem Z1(he:IE X e m):IS X (.Return (some e) pos) (bc m):=PS.imp (Zg he) fun D σ H h=>by
 obtain⟨φ,ph,ws,hH,hS,h⟩:=h;exact tM.bind hH hS h fun w ph1 aA H1 v aC s1 r1 h=>h aA H1 aC s1 v r1
theorem acd(hc:IT X c t)(ha:gL X as a)(hb:gL X bs b):IS X (.If c as bs pos) (aX t a b):=PS.imp (abO hc ha hb) fun D σ H h=>by
 obtain⟨φ,ph,ws,hH,hS,h⟩:=h;refine tT.bind hH hS h fun x ph1 aA H1 aC s1 h=>?_
 cases x with
 | true=>exact j5 ⟨aA,ph1,ws,aC,hS.mono s1,h.mono (fun _ _ k aY H2 bf s2=>k aY H2 bf (s1.trans s2)) fun _ _ z=>z⟩
 | false=>exact j4 ⟨aA,ph1,ws,aC,hS.mono s1,h.mono (fun _ _ k aY H2 bf s2=>k aY H2 bf (s1.trans s2)) fun _ _ z=>z⟩
theorem Xx{i:Nat}{x:Str}(hN:X.N.Nodup)(hi:X.N[i]? =some x)(hx:Loc X.env.scope x)(hf:(X.fn x=true\/X.env.scope.names.lookup x=some .local)/\jz X x):IG X (.Name x pos) (gN i):=
 PG.imp (Xc hN hi hx hf) fun v σ H Q h=>by
  obtain⟨φ,ph,ws,w,hH,hS,fZ,h⟩:=h;exact h φ H _ hH Step.refl (hS.set fZ i)
theorem tG.bind{β:Type}{g:GM}{Q:L2.St->Hp->Prop}{φ:Nat->Addr}{ph:PH}{ws:aP}{w:W}{v:V}{f:aP->Mo β}{N:β->PH->Prop}(hH:aL X.K φ ph H)(hS:bh X.K φ ph.length H ws σ)(fZ:aQ X.K φ ph.length H w v)(h:(aw (g w ws) f ph).Run N (XE X φ ph.length H))
  (k:∀jG ph1 aA H1 σ1,aL X.K aA ph1 H1->Step X.K φ ph.length H aA ph1.length H1->bh X.K aA ph1.length H1 jG σ1->(f jG ph1).Run N (XE X aA ph1.length H1)->Q σ1 H1):tG X g v σ H Q:=by
 rw[cI] at h;exact⟨φ,ph,ws,w,hH,hS,fZ,h.mono (fun jG ph1 h1 aA H1 σ1 aC s1 r1=>k jG ph1 aA H1 σ1 aC s1 r1 (h1.mono (fun _ _ z=>z) fun _ _ z=>z.step s1)) fun _ _ z=>z⟩
theorem Xy{D:Ends}(h:tS X (aO m g) D σ H):wL (tM X m) (tG X g) D σ H:=by
 obtain⟨φ,ph,ws,hH,hS,h⟩:=h;refine tM.bind hH hS h fun w ph1 aA H1 v aC s1 r1 h=>?_
 exact tG.bind aC (hS.mono s1) r1 h fun fE ph2 aY H2 bM bf s2 jH h=>h aY H2 bf (s1.trans s2) bM jH
theorem Z2{i:Nat}{x:Str}{pos':Pos}(hN:X.N.Nodup)(hi:X.N[i]? =some x)(hx:Loc X.env.scope x)(he:IE X e m)(hs:agL e (some (.Name x pos')) pos.line X.env=pure false:=by rfl)
  (hf:(X.fn x=true\/X.env.scope.names.lookup x=some .local)/\jz X x):IS X (.Assign [.Name x pos'] e pos) (aO m (gN i)):=
 PS.imp (Zl hN hi hx he hs hf) fun D σ H h=>by
  obtain⟨φ,ph,ws,hH,hS,h⟩:=h;exact tM.bind hH hS h fun w ph1 aA H1 v aC s1 r1 h=>h aA H1 aC s1 _ ((hS.mono s1).set r1 i)
theorem Z3(he:IE X e m)(hg:IG X tg g)(hs:swapsWithSole [tg] e pos.line X.env=pure false:=by rfl)(hw:swappedStores [tg] e X.env=pure none:=by rfl)
  (h1:(afK [tg] X.env).map (·.2)=[aiU tg X.env]:=by rfl):IS X (.Assign [tg] e pos) (aO m g):=PS.imp (Zk he hg hs hw h1) fun _ _ _ h=>Xy h
end
abbrev IM:=aP->Mo (List W×(PH->Bool))
noncomputable def dS(chk:PH->Bool)(g:GM)(b:SM):List W->SM
 | [],σ=>fun ph=>if chk ph=true then .ok (.nx σ) ph else .no
 | x::xs,σ=>fun ph=>if chk ph=true then aw (g x σ) (fun σ1=>aw (b σ1) fun f=>match f with
   | .nx ay=>dS chk g b xs ay
   | .ct ay=>dS chk g b xs ay
   | .bk ay=>aB (.nx ay)
   | .rt w=>aB (.rt w)) ph else .no
noncomputable def iu(im:IM)(g:GM)(b:SM):SM:=fun σ=>aw (im σ) fun r=>dS r.2 g b r.1 σ
noncomputable def Bm(K:acs)(J:It)(items:List W)(chk:PH->Bool)(φ:Nat->Addr)(n:Nat)(H:Hp):Prop:=
 ∀au ph' H',aL K au ph' H'->Step K φ n H au ph'.length H'->chk ph'=true->∀i:Nat,
  (∀w,items[i]? =some w->J.go i H'/\∀x fD,J.sy i H' x fD->aL K au ph' fD/\Step K au ph'.length H' au ph'.length fD/\aQ K au ph'.length fD w x)/\(items[i]? =none->J.stop i H')
noncomputable def tI(X:Cx)(im:IM):TI:=fun σ H R=>∃φ ph ws,aL X.K φ ph H/\bh X.K φ ph.length H ws σ/\(im ws ph).Run (fun r ph'=>
 ∀au H' J,aL X.K au ph' H'->Step X.K φ ph.length H au ph'.length H'->Bm X.K J r.1 r.2 au ph'.length H'->R J H') (XE X φ ph.length H)
abbrev II(X:Cx)(tg iter:Expr)(im:IM):Prop:=PI X tg iter (tI X im)
section
variable{X:Cx}{iter tg c:Expr}{im:IM}{g:GM}{b:SM}{t:TM}{body:List Stmt}{pos:Pos}
variable{H:Hp}
theorem Xz{D:Ends}{σ:L2.St}(h:tS X (iu im g b) D σ H):Hu (tI X im) (tG X g) (tS X b) D σ H:=by
 obtain⟨φ,ph,ws,hH,hS,h⟩:=h;unfold iu at h;rw[cI] at h;refine⟨φ,ph,ws,hH,hS,h.mono (fun r ph1 h aA H1 J aC s1 hJ=>?_) fun _ _ z=>z⟩;obtain⟨items,chk⟩:=r;refine⟨fun i m bM H2=>∃aY ph2 fE,m=(items.drop i).length/\aL X.K aY ph2 H2/\bh X.K aY ph2.length H2 fE bM/\Step X.K aA ph1.length H1 aY ph2.length H2 /\
   (dS chk g b (items.drop i) fE ph2).Run (fun f ph'=>∀au H',aL X.K au ph' H'->Step X.K aY ph2.length H2 au ph'.length H'->nj X D au ph' H' f) (XE X aY ph2.length H2),
  ⟨_,aA,ph1,ws,rfl,aC,hS.mono s1,Step.refl,h.mono (fun f ph' k au H' r' s'=>k au H' r' (s1.trans s')) fun _ _ z=>z.step s1⟩,?_⟩
 rintro i m bM H2 ⟨aY,ph2,fE,rfl,bf,jH,s2,h2⟩;cases hd:items.drop i with
 | nil=>
  rw[hd] at h2;unfold dS at h2;split at h2
  ·rename_i hc;have hn:items[i]? =none:=by
    have:items.length<=i:=by simpa using hd
    simpa using this
   exact .inl ⟨(hJ aY _ H2 bf s2 hc i).2 hn,h2 aY H2 bf Step.refl bM jH⟩
  ·exact h2.elim
 | cons x xs=>
  rw[hd] at h2;unfold dS at h2;split at h2
  ·rename_i hc;have hx:items[i]? =some x:=by
    have:=congrArg (fun l=>l[0]?) hd
    simpa using this
   have nM:items.drop (i+1)=xs:=by
    have:=congrArg (fun l=>l.drop 1) hd
    simpa[List.drop_drop,ajI] using this
   obtain⟨Bn,hy⟩:=(hJ aY _ H2 bf s2 hc i).1 x hx;refine .inr ⟨Bn,fun ay H'=>∃au gC cP,aL X.K au gC H'/\bh X.K au gC.length H' cP ay/\Step X.K aA ph1.length H1 au gC.length H' /\
     (dS chk g b xs cP gC).Run (fun f p'=>∀fj H3,aL X.K fj p' H3->Step X.K au gC.length H' fj p'.length H3->nj X D fj p' H3 f) (XE X au gC.length H'),
    fun ay H' ⟨au,gC,cP,q1,q2,q3,q4⟩=>⟨xs.length,by simp,au,gC,cP,by rw[nM],q1,q2,q3,by rw[nM];exact q4⟩,fun v H3 y=>?_⟩
   obtain⟨dc,s3,rv⟩:=hy v H3 y;have h2':(aw (g x fE) (fun σ1=>aw (b σ1) fun f=>match f with
    | .nx ay=>dS chk g b xs ay
    | .ct ay=>dS chk g b xs ay
    | .bk ay=>aB (.nx ay)
    | .rt w=>aB (.rt w)) ph2).Run (fun f ph'=>∀au H',aL X.K au ph' H'->Step X.K aY ph2.length H2 au ph'.length H'->nj X D au ph' H' f) (XE X aY ph2.length H3):=Out.Run.mono h2 (fun _ _ z=>z) fun _ _ z=>z.step s3
   refine tG.bind dc (jH.mono s3) rv h2' fun ws4 lJ qh H4 gO Bo s4 hS4 h4=>?_
   rw[cI] at h4;refine⟨qh,lJ,ws4,Bo,hS4,h4.mono (fun f nN h5 hU H5 g9 s5=>?_) fun _ _ z=>z⟩;have rQ:=((s2.trans s3).trans s4).trans s5;have kn:=(s3.trans s4).trans s5;cases f with
   | nx fF=>exact fun gf fG=>⟨hU,nN,fF,g9,fG,rQ,h5.mono (fun f p' k au H' r' s'=>k au H' r' (kn.trans s')) fun _ _ z=>z.step s5⟩
   | ct fF=>exact fun gf fG=>⟨hU,nN,fF,g9,fG,rQ,h5.mono (fun f p' k au H' r' s'=>k au H' r' (kn.trans s')) fun _ _ z=>z.step s5⟩
   | bk fF=>exact fun gf fG=>h5 hU H5 g9 kn gf fG
   | rt w=>exact fun v hv=>h5 hU H5 g9 kn v hv
  ·exact h2.elim
theorem PI.imp{t t':TI}(h:PI X tg iter t)(k:∀σ H R,t' σ H R->t σ H R):PI X tg iter t':=fun pins s σ H R I q=>h pins s σ H R I (k σ H R q)
theorem Z4(hp:aiA (model X.prog X.w) X.A X.env X.xe)(hc:X.calm=true)(hi:II X tg iter im)(hg:IG X tg g)(hb:gL X body b)(hs:∀x,afp iter X.env x=pure x:=by intro _;rfl) :
  IS X (.For tg iter body [] pos) (iu im g b):=PS.imp (Zn hp hc hi hg hb hs) fun _ _ _ h=>Xz h
noncomputable def lw(w:W):Po (List W×(PH->Bool)):=fun ph=>match w with
 | .ref i=>match ph[i]? with
  | some (.lst ws)=>some ((ws,fun ph'=>decide (ph'[i]? =some (.lst ws))),ph)
  | _=>none
 | .fl ws=>some ((ws,fun _=>true),ph)
 | _=>none
noncomputable def tupI(w:W):Po (List W×(PH->Bool)):=fun ph=>match w with
 | .tup ws=>some ((ws,fun _=>true),ph)
 | _=>none
noncomputable def wX(m:EM):IM:=fun σ=>aw (m σ) fun w=>lift (lw w)
noncomputable def Ak(m:EM):IM:=fun σ=>aw (m σ) fun w=>lift (tupI w)
theorem XA{l:Expr}{m:EM}(hl:IE X l m):II X tg l (wX m):=by
 refine PI.imp (Xe hl) fun σ H R h=>?_
 obtain⟨φ,ph,ws,hH,hS,h⟩:=h;refine tM.bind hH hS h fun w ph1 aA H1 v aC s1 r1 h=>?_
 obtain⟨r,ph',e,k⟩:=run_lift h;unfold lw at e;cases r1 with
 | ref hi=>
  rename_i i;simp only at e;split at e
  ·rename_i items hw;cases e;obtain⟨vs,hv,r⟩:=aC.hp _ _ hw;refine⟨_,rfl,⟨vs,bC.of hv⟩,k aA H1 _ aC s1 ?_⟩;intro aY ph2 H2 bf s2 hc j;have lE:ph2[i]? =some (.lst items):=of_decide_eq_true hc;obtain⟨us,hu,ru⟩:=bf.hp _ _ lE;rw[s2.eq i hi] at hu;refine⟨fun w de=>?_,fun hn=>?_⟩
   ·obtain⟨u,eu,ko⟩:=ru.get de;refine⟨⟨us,u,bC.of hu,eu⟩,fun x fD hy=>?_⟩;obtain⟨rfl,hy⟩:=hy;have:=hy us (bC.of hu);rw[eu] at this;cases this;exact⟨bf,Step.refl,ko⟩
   ·refine⟨us,bC.of hu,?_⟩;rw[<- ru.length]
    simpa using hn
  ·cases e
 | fl hq r=>
  cases e;refine⟨_,rfl,⟨_,hq.sq⟩,k aA H1 _ aC s1 ?_⟩;intro aY ph2 H2 bf s2 hc j;have h2:=aQ.mono s2 (.fl hq r);cases h2 with
  | fl h2 r2=>
   refine⟨fun w de=>?_,fun hn=>?_⟩
   ·obtain⟨u,eu,ko⟩:=r2.get de;refine⟨⟨_,u,h2.sq,eu⟩,fun x fD hy=>?_⟩;obtain⟨rfl,hy⟩:=hy;have:=hy _ h2.sq;rw[eu] at this;cases this;exact⟨bf,Step.refl,ko⟩
   ·refine⟨_,h2.sq,?_⟩;rw[<- r2.length]
    simpa using hn
 | _=>cases e
theorem Z5{l:Expr}{m:EM}(hl:IE X l m):II X tg l (Ak m):=by
 refine PI.imp (Zm hl) fun σ H R h=>?_
 obtain⟨φ,ph,ws,hH,hS,h⟩:=h;refine tM.bind hH hS h fun w ph1 aA H1 v aC s1 r1 h=>?_
 obtain⟨r,ph',e,k⟩:=run_lift h;unfold tupI at e;cases r1 with
 | tup hq r=>
  cases e;refine⟨_,rfl,⟨_,bJ.of hq⟩,k aA H1 _ aC s1 ?_⟩;intro aY ph2 H2 bf s2 hc j;have h2:=bJ.of (K:=X.K) (s2.tup _ _ hq);have r2:=r.mono s2;refine⟨fun w de=>?_,fun hn=>?_⟩
  ·obtain⟨u,eu,ko⟩:=r2.get de;refine⟨⟨_,u,h2,eu⟩,fun x fD hy=>?_⟩;obtain⟨rfl,hy⟩:=hy;have:=hy _ h2;rw[eu] at this;cases this;exact⟨bf,Step.refl,ko⟩
  ·refine⟨_,h2,?_⟩;rw[<- r2.length]
   simpa using hn
 | _=>cases e
noncomputable def gZ(lo:Int)(n:Nat):List W:=(afr n).map fun i:Nat=>.int (lo+((i:Nat):Int))
noncomputable def AR(xs:List W):Po (List W×(PH->Bool)):=fun ph=>match xs with
 | [.int j]=>if -(2 ^ 62)<=j/\j<2 ^ 62 then some ((gZ 0 j.toNat,fun _=>true),ph) else none
 | _=>none
noncomputable def dG(m:AM):IM:=fun σ=>aw (m σ) fun xs=>lift (AR xs)
theorem Z6{K:acs}{lo:Int}{n:Nat}{chk:PH->Bool}{φ:Nat->Addr}{k:Nat}:Bm K (xr lo n) (gZ lo n) chk φ k H:=by
 intro aY ph2 H2 bf s2 hc j;unfold gZ;refine⟨fun w de=>?_,fun hn=>?_⟩
 ·rw[aeA] at de;have hj:j<n:=by
   by_cases hj:j<n
   ·exact hj
   ·rw[afP (by simpa using hj)] at de;cases de
  rw[aje hj] at de;cases de;refine⟨hj,fun x fD hy=>?_⟩;obtain⟨rfl,rfl⟩:=hy;exact⟨bf,Step.refl,.int _⟩
 ·have:n<=j:=by simpa using hn
  exact this
theorem UK{a:Expr}{m:AM}{p:Pos}(hg:Gl X "range")(hm:X.mg "range"=none)(ha:IA X [a] m)(hs:aeS [a] X.env=[(false,eval a X.env)]:=by rfl):II X tg (.Call (.Name "range" p) [a] [] pos) (dG m):=by
 refine PI.imp (Uw hg hm ha hs) fun σ H R h=>?_
 obtain⟨φ,ph,ws,hH,hS,h⟩:=h;refine tA.bind hH hS h fun xs ph1 aA H1 vs aC s1 r1 h=>?_
 obtain⟨r,ph',e,k⟩:=run_lift h;unfold AR at e;split at e
 ·split at e
  ·rename_i hc;cases e;cases r1 with
   | cons r r'=>cases r;cases r';exact⟨_,rfl,hc.1,hc.2,k aA H1 _ aC s1 Z6⟩
  ·cases e
 ·cases e
noncomputable def cG(t:TM)(b:SM):Nat->SM
 | 0=>fun _=>dO
 | n+1=>fun σ=>aw (t σ) fun c=>if c=true then aw (b σ) fun f=>match f with
   | .nx ay=>cG t b n ay
   | .ct ay=>cG t b n ay
   | .bk ay=>aB (.nx ay)
   | .rt w=>aB (.rt w)
  else aB (.nx σ)
noncomputable def Out.pI{α:Type}:Out α->Bool
 | .no=>true
 | _=>false
open Classical in
noncomputable def eD(t:TM)(b:SM):SM:=fun σ ph=>if h:∃n,(cG t b n σ ph).pI=false then cG t b h.choose σ ph else .no
theorem UL{D:Ends}{σ:L2.St}(h:tS X (eD t b) D σ H):FK (tT X t) (tS X b) D σ H:=by
 obtain⟨φ,ph,ws,hH,hS,h⟩:=h;have⟨n,h⟩:∃n,(cG t b n ws ph).Run (fun f ph'=>∀au H',aL X.K au ph' H'->Step X.K φ ph.length H au ph'.length H'->nj X D au ph' H' f) (XE X φ ph.length H):=by
  unfold eD at h;split at h
  ·exact⟨_,h⟩
  ·exact h.elim
 refine⟨fun m bM H2=>∃aY ph2 fE,aL X.K aY ph2 H2/\bh X.K aY ph2.length H2 fE bM /\
  (cG t b m fE ph2).Run (fun f ph'=>∀au H',aL X.K au ph' H'->Step X.K aY ph2.length H2 au ph'.length H'->nj X D au ph' H' f) (XE X aY ph2.length H2),⟨n,φ,ph,ws,hH,hS,h⟩,?_⟩
 rintro m bM H2 ⟨aY,ph2,fE,bf,jH,h2⟩;cases m with
 | zero=>exact h2.elim
 | succ m=>
  refine tT.bind bf jH h2 fun c fc fj H3 dc s3 h3=>?_
  cases c with
  | false=>exact j4 (h3 fj H3 dc s3 bM (jH.mono s3))
  | true=>
   have IY:(aw (b fE) (fun f=>match f with
    | .nx ay=>cG t b m ay
    | .ct ay=>cG t b m ay
    | .bk ay=>aB (.nx ay)
    | .rt w=>aB (.rt w)) fc).Run _ _:=h3
   rw[cI] at IY;refine j5 ⟨fun ay H'=>∃au gC cP,aL X.K au gC H'/\bh X.K au gC.length H' cP ay /\
    (cG t b m cP gC).Run (fun f p'=>∀qh H4,aL X.K qh p' H4->Step X.K au gC.length H' qh p'.length H4->nj X D qh p' H4 f) (XE X au gC.length H'),fun ay H' q=>⟨m,afH _,q⟩,?_⟩
   refine⟨fj,fc,fE,dc,jH.mono s3,IY.mono (fun f nN h5 hU H5 g9 s5=>?_) fun _ _ z=>z⟩;have kn:=s3.trans s5;cases f with
   | nx fF=>exact fun gf fG=>⟨hU,nN,fF,g9,fG,h5.mono (fun f p' k au H' r' s'=>k au H' r' (kn.trans s')) fun _ _ z=>z.step s5⟩
   | ct fF=>exact fun gf fG=>⟨hU,nN,fF,g9,fG,h5.mono (fun f p' k au H' r' s'=>k au H' r' (kn.trans s')) fun _ _ z=>z.step s5⟩
   | bk fF=>exact fun gf fG=>h5 hU H5 g9 kn gf fG
   | rt w=>exact fun v hv=>h5 hU H5 g9 kn v hv
theorem Wi(hp:aiA (model X.prog X.w) X.A X.env X.xe)(hc:IT X c t)(hb:gL X body b):IS X (.While c body [] pos) (eD t b):=
 PS.imp (V4 hp hc hb) fun _ _ _ h=>UL h
end
noncomputable def ai:AM:=fun _=>aB []
noncomputable def ag(e:EM)(r:AM):AM:=fun σ=>aw (e σ) fun w=>aw (r σ) fun ws=>aB (w::ws)
noncomputable def jA(ws:List W):Po W:=fun ph=>if ws.length<=aeD then some (.tup ws,ph) else none
noncomputable def rR(ws:List W):Po W:=fun ph=>if ws.length<=aeD then some (.ref ph.length,ph++[.lst ws]) else none
noncomputable def bH(a:AM):EM:=fun σ=>aw (a σ) fun ws=>lift (jA ws)
noncomputable def bT(a:AM):EM:=fun σ=>aw (a σ) fun ws=>lift (rR ws)
section
variable{X:Cx}{e:Expr}{es:List Expr}{m:EM}{a:AM}{pos:Pos}
theorem Z7:IA X [] ai:=PA.imp FO fun σ H Q h=>by
 obtain⟨φ,ph,ws,hH,hS,h⟩:=h;exact h φ H [] hH Step.refl .nil
theorem XB(he:IE X e m)(hr:IA X es a)(hs:aeS (e::es) X.env=(false,eval e X.env)::aeS es X.env:=by rfl):IA X (e::es) (ag m a):=PA.imp (zz he hr hs) fun σ H Q h=>by
 obtain⟨φ,ph,ws,hH,hS,h⟩:=h;refine tM.bind hH hS h fun w ph1 aA H1 v aC s1 r1 h=>tA.bind aC (hS.mono s1) h fun ys ph2 aY H2 vs bf s2 r2 h=>?_
 exact h aY H2 _ bf (s1.trans s2) (.cons (r1.mono s2) r2)
theorem Z8{x1:Nat}(h:IA X es a):IE X (.Tuple es x1 pos) (bH a):=PE.imp (Zx h) fun σ H Q h=>by
 obtain⟨φ,ph,ws,hH,hS,h⟩:=h;refine tA.bind hH hS h fun xs ph1 aA H1 vs aC s1 r1 h=>?_
 obtain⟨w,ph',e,k⟩:=run_lift h;unfold jA at e;split at e
 ·rename_i hz;cases e;refine⟨by rw[<- r1.length];exact hz,fun p hp=>?_⟩;exact k aA _ _ (aC.tup hp) (s1.trans (gv hp)) (.tup bZ (r1.mono (gv hp)))
 ·cases e
theorem kP{K:acs}{φ:Nat->Addr}{ph:PH}{H:Hp}{p:Addr}{ws:List W}{vs:List V}(hH:aL K φ ph H)(r:ba K φ ph.length H ws vs)(hp:H p=none) :
  aL K (ext φ ph.length p) (ph++[.lst ws]) (upd H p (.lst vs))/\Step K φ ph.length H (ext φ ph.length p) (ph++[PO.lst ws]).length (upd H p (.lst vs))/\aQ K (ext φ ph.length p) (ph++[PO.lst ws]).length (upd H p (.lst vs)) (.ref ph.length) (.ref p):=by
 have hl:(ph++[PO.lst ws]).length=ph.length+1:=by simp
 rw[hl];have s:=uZ (K:=K) (φ:=φ) (n:=ph.length) (o:=HO.lst vs) hp;refine⟨hH.new hp ⟨vs,bZ,r.mono s⟩,s,?_⟩;have q:aQ K (ext φ ph.length p) (ph.length+1) (upd H p (.lst vs)) (.ref ph.length) (.ref (ext φ ph.length p ph.length)):=.ref (afH _);rw[k6] at q;exact q
theorem Z9(h:IA X es a):IE X (.List es pos) (bT a):=PE.imp (Zy h) fun σ H Q h=>by
 obtain⟨φ,ph,ws,hH,hS,h⟩:=h;refine tA.bind hH hS h fun xs ph1 aA H1 vs aC s1 r1 h=>?_
 obtain⟨w,ph',e,k⟩:=run_lift h;unfold rR at e;split at e
 ·rename_i hz;cases e;refine⟨by rw[<- r1.length];exact hz,fun p hp=>?_⟩;obtain⟨q1,q2,q3⟩:=kP aC r1 hp;exact k _ _ _ q1 (s1.trans q2) q3
 ·cases e
end
noncomputable def aJ(f:List W->Mo W)(a:AM):EM:=fun σ=>aw (a σ) f
noncomputable def ei:Fl->Mo W
 | .rt w=>aB w
 | .nx _=>aB .aE
 | _=>dO
noncomputable def fM(body:SM)(n np:Nat)(args:List W):Mo W:=if args.length=np then aw (body (args.map some++aeF (n-args.length) none)) ei else dO
theorem bp{body:SM}{np:Nat}{xs:List W}(h:xs.length≠np):fM body n np xs ph=.no:=by
 unfold fM;rw[if_neg h];rfl
noncomputable def bE(P:afm)(w:World):ki:=fun l H s E e s'=>∃C H',Flew P w l H s C H' e s'/\E (.ref C) none H'
noncomputable def bP(K:acs)(mg:Str->Option Value)(np:Nat)(f:List W->Mo W):Sp:=fun vs H Q E=>vs.length=np/\∃φ ph args,aL K φ ph H/\ba K φ ph.length H args vs/\(f args ph).Run (fun w ph'=>
 ∀au H' v,aL K au ph' H'->Step K φ ph.length H au ph'.length H'->aQ K au ph'.length H' w v->Q v H') (fun x ph'=>
 ∀au H' C,aL K au ph' H'->Step K φ ph.length H au ph'.length H'->mg x.cls=some (.ref C)->x.fs=[]->E (.ref C) none H')
section
variable{X:Cx}{k:Nat}{f:Addr}{fd:aeT}{ps:List Str}{fm:List W->Mo W}{x:Str}{p pos:Pos}{e:Expr}{es:List Expr}{a:AM}
theorem XD{CX:ki}{sp:Sp}{E:XK}{pins:List (Addr×Obj)}{σ:L2.St}{H:Hp}{s:aem}{Q:VK}{us:List Value}{vs:List V}(F:bF X.prog X.w X.K X.mg X.base CX k f fd ps sp)(hr:cO k X.A)(hb:Binds X.K fd ps [])
  (I:Inv X pins σ H s) (r:Vals vs us) (h:sp vs H Q E) (hx:∀e s',CX X.stack H s E e s'->X.xe e s'):wpAny (model X.prog X.w) X.A (call (.ref f) us) (EP X pins σ Q) X.xe s:=by
 have hl:(us++[]).length=ps.length:=by rw[ahl,<- r.length];exact F.len _ _ _ _ h
 have xC:=hb s us I.dC hl;rw[ahl] at xC;refine wpAny_call (aiE (F.run X.A X.stack s H ⟨us,[]⟩ us vs Q E hr I.Hz xC r h) fun r s' hq=>?_);cases r with
 | error e=>exact hx e s' hq
 | ok fl=>
  cases fl with
  | ret u=>exact I.after hq
  | _=>exact agE hq
theorem XF(F:bF X.prog X.w X.K X.mg X.base (bE X.prog X.w) k f fd ps (bP X.K X.mg ps.length fm))(hl:∀{xs:List W} {ph:PH},xs.length≠ps.length->fm xs ph=.no)(hr:cO k X.A)(hg:Gl X x)(hm:X.mg x=some (.ref f))
  (hk:aeu X.K (.ref f)=true) (hb:Binds X.K fd ps []) (ha:IA X (e::es) a) (cf:(x==("__debug__":Str))=false:=by decide) (he:aeS (e::es) X.env=(false,eval e X.env)::aeS es X.env:=by rfl) (hpl:(ahx pos (aeS es X.env)).any (·.1)=false:=by rfl) :
  IE X (.Call (.Name x p) (e::es) [] pos) (aJ fm a):=by
 intro pins s σ H Q I h;obtain⟨φ,ph,ws,hH,hS,h⟩:=h;have hA:tA X a σ H (fun vs H1=>∃aA ph1 xs,aL X.K aA ph1 H1/\ba X.K aA ph1.length H1 xs vs/\(fm xs ph1).Run (fun w ph'=>∀au H' v,aL X.K au ph' H'->Step X.K aA ph1.length H1 au ph'.length H'->aQ X.K au ph'.length H' w v->Q v H') (XE X aA ph1.length H1)):=
  tA.bind hH hS h fun xs ph1 aA H1 vs aC s1 r1 h=>⟨aA,ph1,xs,aC,r1,h.mono (fun w ph' k au H' v r' s' q=>k au H' v r' (s1.trans s') q) fun _ _ z=>z⟩
 refine ahm (qP I hg hm (ajn (h₀:=X.base) I.ok.mod.fB hk (aV (ha pos pins s σ H _ I hA) fun us s1 ⟨vs,H1,I1,r,q⟩=>⟨I1.dC,?_⟩) he hpl) cf);obtain⟨aA,ph1,xs,aC,r1,h1⟩:=q;have b6:vs.length=ps.length:=by
  rw[<- r1.length];by_cases z:xs.length=ps.length
  ·exact z
  ·rw[hl z] at h1;exact h1.elim
 refine XD (E:=fun c _ H'=>∃x ph' au,fm xs ph1=.ex x ph'/\aL X.K au ph' H'/\Step X.K aA ph1.length H1 au ph'.length H'/\∃C,c=.ref C/\X.mg x.cls=some (.ref C)/\x.fs=[]) F hr hb I1 r ⟨b6,aA,ph1,xs,aC,r1,?_⟩ fun e s' hx=>?_
 ·cases q:fm xs ph1 with
  | ok w ph'=>rw[q] at h1;exact h1
  | ex x ph'=>exact fun au H' C hr hs hm hf=>⟨x,ph',au,rfl,hr,hs,C,rfl,hm,hf⟩
  | no=>rw[q] at h1;exact h1
 ·obtain⟨C,H',f6,x,ph',au,ef,hr',hs',C',ec,Bp,hf'⟩:=hx;cases ec;rw[ef] at h1;exact h1 au H' e s' hr' hs' ⟨C,Bp,hf',.inr ⟨pins,σ,H1,s1,I1,f6⟩⟩
end
section
variable{P:afm}{w:World}{K:acs}{mg:Str->Option Value}{base:Heap}
variable{H':Hp}
theorem E2{h:Heap}{fr:List Addr}(aI:cu P w H' h)(hf:∀b∈fr,H' b=none):cu P w H' (agK h fr):=fun a o e=>by
 refine(aI a o e).jy (fun b u hb q=>afY _ q fun hm=>?_) (fun _ q=>q) fun _ _ q=>q
 have:=hf b hm
 rcases hb with z | z
 ·rw[z,e] at this;cases this
 ·rw[z] at this;cases this
theorem zd{env:Env}{l:List Env}(hf:env.frame=some env.locals):cS (env::l)=env.locals::cS l:=by
 unfold cS;rw[afZ,hf]
theorem S5{X:Cx}{C:Addr}{e:Value}{s':aem}{E:Value->aem->Prop}(g8:X.stack=X.env::X.outer)(hf:X.env.frame=some X.env.locals)(hex:X.ex=[])(hm:Made X C H' e s') :
  wpAny (model X.prog X.w) X.A (leaving X.env e) (fun _ fC=>Flew X.prog X.w X.outer X.aU X.aN C H' e fC) E s':=by
 obtain⟨pins,σ,s,vs,h',a,rfl,rfl,I,hx⟩:=hm;have sf:=I.qO;have hl:=I.stack;rw[g8] at sf hl;have Bq:∀env∈X.env::X.outer,∀b,env.frame=some b->b∈cS (X.env::X.outer):=fun env he b hb=>ahk.mpr ⟨env,he,hb⟩
 have iC:∀b:Addr,b∉X.ex:=fun b z=>by rw[hex] at z;exact nomatch z
 have out:∀b o,X.aN.heap.get? b=some o->b∉X.fs->b∉cS (X.env::X.outer):=fun b o e hb hm=>by
  rw[zd hf] at hm
  rcases aeG.mp hm with z | z
  ·exact absurd (aeB (aex e) I.ok.above) (by rw[z];exact agj _)
  ·exact hb z
 refine wpAny_leaves_madeW (base:=agK s.heap (cS (X.env::X.outer))) (h:=s.heap) (by rw[I.ok.frames,g8]) hf (fun b o q=>ahO _ q) (aiw hl Bq) hx fun Br t f1 f2 f3 f4=>?_
 refine⟨a,.ref t,_,rfl,I.os,I.bare,f1,E2 I.aI sf,⟨fun b o e n hb=>afY _ (I.base.keep b o e n hb (iC b)) (out b o e hb),fun b o e n hb=>?_,fun b o e n=>I.base.free b o e n (iC b),fun b o e hb=>?_,I.base.gB,I.base.eW,I.base.fT⟩⟩
 ·obtain⟨sl,e1⟩:=I.base.slot b o e n hb (iC b);obtain⟨_,o',ho,hd⟩:=I.ok.eX.mem hb;rw[e] at ho;cases ho;obtain⟨nI,e2⟩:=f4 b _ (hx.keeps b _ e1) hd;exact⟨nI,e2⟩
 ·obtain⟨o',e1⟩:=I.base.there b o e (iC b);exact⟨o',afY _ e1 (out b o e hb)⟩
theorem S6{X:Cx}{C:Addr}{H0:Hp}{e:Value}{s s':aem}{pins:List (Addr×Obj)}{σ:L2.St}{E:Value->aem->Prop}(g8:X.stack=X.env::X.outer)(hf:X.env.frame=some X.env.locals)(hex:X.ex=[])(I:Inv X pins σ H0 s)
  (hm:Flew X.prog X.w X.stack H0 s C H' e s'):wpAny (model X.prog X.w) X.A (leaving X.env e) (fun _ fC=>Flew X.prog X.w X.outer X.aU X.aN C H' e fC) E s':=by
 obtain⟨a,a0,B,rfl,ho,rm,f6,aI,u⟩:=hm;rw[g8] at f6 u;have iC:∀b:Addr,b∉X.ex:=fun b z=>by rw[hex] at z;exact nomatch z
 have out:∀b o,X.aN.heap.get? b=some o->b∉X.fs->b∉cS (X.env::X.outer):=fun b o e hb hm=>by
  rw[zd hf] at hm
  rcases aeG.mp hm with z | z
  ·exact absurd (aeB (aex e) I.ok.above) (by rw[z];exact agj _)
  ·exact hb z
 refine wpAny_leaves_onW (by rw[I.ok.frames,g8]) hf f6 fun Br f1 f4=>?_
 refine⟨a,a0,B,rfl,ho.trans I.os,rm,f1,aI,⟨fun b o e n hb=>u.keep b o (I.base.keep b o e n hb (iC b)) (I.base.free b o e n (iC b)) (out b o e hb),fun b o e n hb=>?_,fun b o e n=>?_,fun b o e hb=>?_,
  fun b xs e=>u.gB b xs (I.base.gB b xs e),fun b ob xs e=>u.eW b ob xs (I.base.eW b ob xs e),fun b ps e=>?_⟩⟩
 ·obtain⟨sl,e1⟩:=I.base.slot b o e n hb (iC b);obtain⟨_,o',dM,hd⟩:=I.ok.eX.mem hb;rw[e] at dM;cases dM;obtain⟨nI,e2⟩:=u.slot b _ e1 (I.base.free b o e n (iC b)) (by rw[zd hf];exact aeR _ hb);obtain⟨sl3,e3⟩:=f4 b _ e2 hd;exact⟨sl3,e3⟩
 ·obtain⟨o',e1⟩:=I.base.there b o e (iC b);exact u.free b o' e1 (I.base.free b o e n (iC b))
 ·obtain⟨o',e1⟩:=I.base.there b o e (iC b);exact u.there b o' e1 (out b o e hb)
 ·obtain⟨m1,e1⟩:=I.base.fT b ps e;obtain⟨m2,e2⟩:=u.fT b _ e1;exact⟨m1++m2,by rw[e2,ajl]⟩
theorem aaa{x qual:Str}{st:Stmt}{f:Addr}{fd:aeT}{N ps:List Str}{k:Nat}{body:SM}(F:b7 K x qual st f fd)(S:b8 N ps (ah st))
  (rh:∀(cF:Value) (A:afU) (outer:List Env) (s:aem) (H:Hp) (E:XK),cO k (A.deeper (aiX qual (ah st) s.heap.objs.size f cF)) →
   gL (j3 (bE P w) P w K mg base N qual (ah st) f cF A outer s H E) (aZ st) body):bF P w K mg base (bE P w) (k+1) f fd ps (bP K mg ps.length (fM body N.length ps.length)):=by
 obtain⟨oc,od,kV,doc,pm,an,cF,ct,jE,rfl,lk,hcd⟩:=F.ex;refine ab0 lk hcd S (fun vs H Q E h=>h.1) fun A outer s H vs Q E hr h=>?_
 obtain⟨hl,φ,ph,args,hH,ra,h⟩:=h;refine⟨_,rh cF A outer s H E hr,?_⟩;have IZ:args.length=vs.length:=ra.length;unfold fM at h;rw[if_pos (IZ.trans hl),cI,IZ] at h;refine⟨φ,ph,_,hH,bh.start (N.length-vs.length) ra,h.mono (fun fl ph' h aA H1 aC s1=>?_) fun x ph' h au H' e s' r' dD th=>?_⟩
 ·cases fl with
  | rt w=>exact fun v rv=>h aA H1 v aC s1 rv
  | nx ay=>exact fun σ1 km=>h aA H1 .aE aC s1 .aE
  | bk ay=>exact h.elim
  | ct ay=>exact h.elim
 ·obtain⟨C,hm,Ja,th⟩:=th;have hE:=h au H' C r' dD hm Ja;have key:wpAny (model P w) (A.deeper (aiX qual (ah st) s.heap.objs.size f cF)) (leaving (aiX qual (ah st) s.heap.objs.size f cF) e) (fun _ fC=>Flew P w outer H s C H' e fC) (fun e' fC=>bE P w outer H s E e' fC) s':=by
   rcases th with th | ⟨pins,σ,H0,s0,I0,th⟩
   ·exact S5 (X:=j3 (bE P w) P w K mg base N qual (ah st) f cF A outer s H E) rfl rfl rfl th
   ·exact S6 (X:=j3 (bE P w) P w K mg base N qual (ah st) f cF A outer s H E) rfl rfl rfl I0 th
  exact afJ key (fun _ fC q=>⟨C,H',q,hE⟩) fun _ _ q=>q
end
theorem E3{K:acs}{φ:Nat->Addr}{n:Nat}{H:Hp}:∀(ns:List Int),ba K φ n H (ns.map W.int) (ns.map V.int)
 | []=>.nil
 | n::ns=>.cons (.int n) (E3 ns)
theorem bx.or{f:Value->Value->Sem Value}{r r':R2}(h:bx X f r)(h':bx X f r'):bx X f (fun x y H Q=>r x y H Q\/r' x y H Q):=by
 intro pins s σ H x y v u Q I rx ry q
 rcases q with q | q
 ·exact h pins s σ H x y v u Q I rx ry q
 ·exact h' pins s σ H x y v u Q I rx ry q
noncomputable def cL(w:W)(ph:PH):Option (List W):=match w with
 | .tup ws=>some ws
 | .fl ws=>some ws
 | .ref i=>match ph[i]? with
  | some (.lst ws)=>some ws
  | _=>none
 | _=>none
variable{v:V}{ws:List W}
theorem ze{w:W}(hH:aL K φ ph H)(r:aQ K φ ph.length H w v)(e:cL w ph=some ws) :
  ∃a vs,v=.ref a/\(bC K H a vs\/bJ K H a vs)/\ba K φ ph.length H ws vs:=by
 unfold cL at e;cases r with
 | tup h r=>cases e;exact⟨_,_,rfl,.inr (bJ.of h),r⟩
 | fl h r=>cases e;exact⟨_,_,rfl,.inl h.sq,r⟩
 | ref hi=>
  simp only at e;split at e
  ·rename_i cP hw;cases e;obtain⟨vs,hv,r⟩:=hH.hp _ _ hw;exact⟨_,vs,rfl,.inl (bC.of hv),r⟩
  ·cases e
 | _=>cases e
variable{vs:List V}
theorem E4{i:Int}{w:W}(r:ba K φ n H ws vs)(e:cy ws i=some w):∃v,cy vs i=some v/\aQ K φ n H w v:=by
 unfold cy at e ⊢;rw[r.length] at e;cases q:fY vs.length i with
 | none=>rw[q] at e;cases e
 | some j=>
  rw[q] at e;exact r.get e
noncomputable def dH:W->W->Po W:=fun x y ph=>match y with
 | .int i=>match x with
  | .str z=>if z.length<=aeD then(cy z.cps.toList i).map fun c=>(.str ⟨#[c]⟩,ph) else none
  | x=>(cL x ph).bind fun ws=>(cy ws i).map fun w=>(w,ph)
 | _=>none
theorem ace : cD K (Bf K) dH := by
  intro φ ph H x y vx vy w ph' Q hH rx ry e k;unfold dH at e;cases ry with
  | int i =>
    cases rx with
    | str z =>
      simp only at e;split at e
      · rename_i hz
        cases q : cy z.cps.toList i with
        | none => rw [q] at e; cases e
        | some c =>
          rw [q] at e;cases e;exact .inr (.inr ⟨z, i, c, rfl, rfl, hz, q, k φ H _ hH Step.refl (.str _)⟩)
      · cases e
    | _ =>
      all_goals
        first
          | (cases e; done)
          | (rename_i h r
             simp only [cL, Option.bind] at e;cases q : cy _ i with
             | none => rw [q] at e; cases e
             | some c =>
               rw [q] at e;cases e;obtain ⟨v, ev, rv⟩ := E4 r q
               first
                 | exact .inr (.inl ⟨_, _, i, v, rfl, rfl, bJ.of h, ev, k φ H _ hH Step.refl rv⟩)
                 | exact .inl ⟨_, _, i, v, rfl, rfl, h.sq, ev, k φ H _ hH Step.refl rv⟩)
          | (rename_i hi
             simp only [cL] at e;split at e
             · rename_i cP hw
               simp only [Option.bind] at e;cases q : cy cP i with
               | none => rw [q] at e; cases e
               | some c =>
                 rw [q] at e;cases e;obtain ⟨vs, hv, r⟩ := hH.hp _ _ hw;obtain ⟨v, ev, rv⟩ := E4 r q;exact .inl ⟨_, _, i, v, rfl, rfl, bC.of hv, ev, k φ H _ hH Step.refl rv⟩
             · cases e)
  | _ => cases e
noncomputable def ig(K:acs)(r:List V->Hp->VK->Prop)(f:List W->Po W):Prop:=∀{φ:Nat->Addr} {ph:PH} {H:Hp} {xs:List W} {vs:List V} {w:W} {ph':PH} {Q:VK},aL K φ ph H->ba K φ ph.length H xs vs->f xs ph=some (w,ph') →
 (∀au H' v,aL K au ph' H'->Step K φ ph.length H au ph'.length H'->aQ K au ph'.length H' w v->Q v H')->r vs H Q
noncomputable def bv(f:List W->Po W)(a:AM):EM:=fun σ=>aw (a σ) fun xs=>lift (f xs)
section
variable{X:Cx}{x:Str}{p pos:Pos}{e:Expr}{es:List Expr}{t:AM}{id T:String}{r:List V->Hp->VK->Prop}{f:List W->Po W}
theorem Ej(hi:ig X.K r f){σ:L2.St}{H:Hp}{Q:VK}(h:tM X (bv f t) σ H Q):Be r (tA X t) σ H Q:=by
 obtain⟨φ,ph,ws,hH,hS,h⟩:=h;refine tA.bind hH hS h fun xs ph1 aA H1 vs aC s1 r1 h=>?_
 obtain⟨w,ph',e,k⟩:=run_lift h;exact hi aC r1 e fun aY H2 v bf s2 r2=>k aY H2 v bf (s1.trans s2) r2
theorem Wj(hc:cR X (.builtin id) r)(hi:ig X.K r f)(hg:Gl X x)(hm:X.mg x=none)(hv:afv x=some (.builtin id))(ha:IA X (e::es) t)(hn:x≠"__name__":=by decide)(cf:(x==("__debug__":Str))=false:=by decide)
  (he:aeS (e::es) X.env=(false,eval e X.env)::aeS es X.env:=by rfl) (hpl:(ahx pos (aeS es X.env)).any (·.1)=false:=by rfl):IE X (.Call (.Name x p) (e::es) [] pos) (bv f t):=
 PE.imp (Eg hc hg hm hv ha hn cf he hpl) fun _ _ _ h=>Ej hi h
theorem UM(hc:cR X (.type T) r)(hi:ig X.K r f)(hg:Gl X x)(hm:X.mg x=none)(hv:afv x=some (.type T))(ha:IA X (e::es) t)(hn:x≠"__name__":=by decide)(cf:(x==("__debug__":Str))=false:=by decide)
  (he:aeS (e::es) X.env=(false,eval e X.env)::aeS es X.env:=by rfl) (hpl:(ahx pos (aeS es X.env)).any (·.1)=false:=by rfl):IE X (.Call (.Name x p) (e::es) [] pos) (bv f t):=
 PE.imp (UE hc hg hm hv ha hn cf he hpl) fun _ _ _ h=>Ej hi h
end
theorem cR.or{f:Value}{r r':List V->Hp->VK->Prop}(h:cR X f r)(h':cR X f r'):cR X f (fun xs H Q=>r xs H Q\/r' xs H Q):=by
 intro pins s σ H xs us Q I rx q
 rcases q with q | q
 ·exact h pins s σ H xs us Q I rx q
 ·exact h' pins s σ H xs us Q I rx q
noncomputable def bU:List W->Po W:=fun xs ph=>match xs with
 | [.str z]=>if z.length<=aeD then some (.int z.length,ph) else none
 | [.kt ws]=>some (.int ws.length,ph)
 | [w]=>(cL w ph).map fun ws=>(.int ws.length,ph)
 | _=>none
abbrev HH(K:acs):List V->Hp->VK->Prop:=fun xs H Q=>(∃p ys,xs=[.ref p]/\(bC K H p ys\/bJ K H p ys)/\Q (.int ys.length) H)\/(∃z,xs=[.str z]/\z.length<=aeD/\Q (.int z.length) H)
theorem eE:ig K (HH K) bU:=by
 intro φ ph H xs vs w ph' Q hH r e k;unfold bU at e;split at e
 ·split at e
  ·rename_i hz;cases e;cases r with
   | cons r r'=>cases r;cases r';exact .inr ⟨_,rfl,hz,k φ H _ hH Step.refl (.int _)⟩
  ·cases e
 ·cases e;cases r with
  | cons r r'=>
   cases r';cases r with
   | kt h rs=>exact .inl ⟨_,_,rfl,.inr (.inr h),by rw[<- rs.length];exact k φ H _ hH Step.refl (.int _)⟩
 ·rename_i w0 Jb aeb;cases r with
  | cons r r'=>
   cases r';cases q:cL w0 ph with
   | none=>rw[q] at e;cases e
   | some ws=>
    rw[q] at e;cases e;obtain⟨a,ys,rfl,hs,rs⟩:=ze hH r q;exact .inl ⟨a,ys,rfl,hs,by rw[<- rs.length];exact k φ H _ hH Step.refl (.int _)⟩
 ·cases e
theorem eA:cR X (.builtin "len") (HH X.K):=cR.or QE QF
noncomputable def lK(K:acs)(T:String)(r:V->List V->Hp->VK->Prop)(f:W->List W->Po W):Prop:=∀{φ:Nat->Addr} {ph:PH} {H:Hp} {x:W} {xs:List W} {vx:V} {vs:List V} {w:W} {ph':PH} {Q:VK},
 aL K φ ph H->aQ K φ ph.length H x vx->ba K φ ph.length H xs vs->f x xs ph=some (w,ph') →
 (∀au H' v,aL K au ph' H'->Step K φ ph.length H au ph'.length H'->aQ K au ph'.length H' w v->Q v H')->r vx vs H Q
noncomputable def nO(K:acs)(T:String)(ty:W->PH->Bool):Prop:=∀{φ:Nat->Addr} {ph:PH} {H:Hp} {x:W} {vx:V},aL K φ ph H->aQ K φ ph.length H x vx->ty x ph=true->Bg K T vx H
noncomputable def nu(b:PH->Bool):Po Unit:=fun ph=>if b ph=true then some ((),ph) else none
noncomputable def bS(ty:W->PH->Bool)(f:W->List W->Po W)(o:EM)(a:AM):EM:=fun σ=>aw (o σ) fun x=>aw (lift (nu (ty x))) fun _=>aw (a σ) fun xs=>lift (f x xs)
noncomputable def cM(w:W)(ph:PH):Bool:=match w with
 | .ref i=>match ph[i]? with
  | some (.lst _)=>true
  | _=>false
 | .fl _=>true
 | _=>false
theorem jt:nO K "list" cM:=by
 intro φ ph H x vx hH rx e;unfold cM at e;cases rx with
 | ref hi=>
  simp only at e;split at e
  ·rename_i cP hw;obtain⟨vs,hv,r⟩:=hH.hp _ _ hw;exact .inl ⟨rfl,vs,bC.of hv⟩
  ·cases e
 | fl h r=>exact .inl ⟨rfl,_,h.sq⟩
 | _=>cases e
section
variable{X:Cx}{o e:Expr}{es:List Expr}{mo:EM}{t:AM}{name:Str}{apos dA:Pos}{T id:String}{r:V->List V->Hp->VK->Prop}{ty:W->PH->Bool}{f:W->List W->Po W}
theorem Wk(ht:nO X.K T ty)(hi:lK X.K T r f){σ:L2.St}{H:Hp}{Q:VK}(h:tM X (bS ty f mo t) σ H Q):IP X.K T r (tM X mo) (tA X t) σ H Q:=by
 obtain⟨φ,ph,ws,hH,hS,h⟩:=h;refine tM.bind hH hS h fun x ph1 aA H1 v aC s1 r1 h=>?_
 rw[cI] at h;obtain⟨_,ph2,e2,h⟩:=run_lift h;unfold nu at e2;split at e2
 ·rename_i hy;cases e2;refine⟨ht aC r1 hy,tA.bind aC (hS.mono s1) h fun xs ph2 aY H2 vs bf s2 r2 h=>?_⟩;obtain⟨w,ph',e,k⟩:=run_lift h;exact hi bf (r1.mono s2) r2 e fun fj H3 v dc s3 r3=>k fj H3 v dc ((s1.trans s2).trans s3) r3
 ·cases e2
theorem acf(pa:ajy T)(slot:Slot T name id)(kl:typeOf (.builtin id)=pure (.type "method_descriptor"))(hm:nJ X id r)(ht:nO X.K T ty)(hi:lK X.K T r f)(ho:IE X o mo)(ha:IA X (e::es) t)
  (mW:agA o name X.env (eval o X.env)=eval o X.env:=by rfl)
  (AL:((ahx dA (aeS (e::es) X.env)).all (fun x=> !x.1)&&(backToKw dA (ajb [] X.env)).all (fun x=>x.1.isSome)
   && decide ((e::es).length+([]:List Keyword).length+(if([]:List Keyword).isEmpty then 0 else 1)<30))=true:=by rfl)
  (mX:(apos.endLine==dA.line)=true:=by rfl) (hs:aeS (e::es) X.env=(false,eval e X.env)::aeS es X.env:=by rfl) (zT:(ahx dA (aeS es X.env)).any (·.1)=false:=by rfl) :
  IE X (.Call (.Attribute o name apos) (e::es) [] dA) (bS ty f mo t):=
 PE.imp (ab5 pa slot kl hm ho ha mW AL mX hs zT) fun _ _ _ h=>Wk ht hi h
end
variable{i:Nat}
theorem zf{xD:List W}(hH:aL K φ ph H)(hi:ph[i]? =some (.lst xD))(r:ba K φ ph.length H ws vs) :
  aL K φ (ph.set i (.lst ws)) (upd H (φ i) (.lst vs))/\Step K φ ph.length H φ (ph.set i (.lst ws)).length (upd H (φ i) (.lst vs)):=by
 obtain⟨y,ey,my⟩:=hH.mu hi rfl;have s:=kO (K:=K) (φ:=φ) (n:=ph.length) (y:=HO.lst vs) ey my;rw[afO];exact⟨hH.put hi rfl ⟨vs,bZ,r.mono s⟩,s⟩
noncomputable def dg:W->List W->Po W:=fun x xs ph=>match x,xs with
 | .ref i,[y]=>match ph[i]? with
  | some (.lst ws)=>if ws.length<aeD then some (.aE,ph.set i (.lst (ws++[y]))) else none
  | _=>none
 | _,_=>none
theorem jN:lK K "list" EY dg:=by
 intro φ ph H x xs vx vs w ph' Q hH rx rs e k;unfold dg at e;split at e
 ·rename_i i y;split at e
  ·rename_i ws hw;split at e
   ·rename_i hz;cases e;cases rx with
    | ref hi=>
     cases rs with
     | cons ry rr=>
      cases rr;obtain⟨us,hv,r⟩:=hH.hp _ _ hw;obtain⟨q1,q2⟩:=zf hH hw (r.append (.cons ry .nil));exact⟨_,us,_,rfl,rfl,hv,by rw[<- r.length];exact hz,k φ _ _ q1 q2 .aE⟩
   ·cases e
  ·cases e
 ·cases e
noncomputable def cZ:W->Po W:=fun x=>match x with
 | .int i=>ret (.int (-i))
 | _=>eZ
theorem aab:IX K (rU fun i=>.int (-i)) cZ:=by
 intro φ ph H x vx w ph' Q hH rx e k;unfold cZ at e;split at e
 ·cases e;cases rx;exact⟨_,rfl,k φ H _ hH Step.refl (.int _)⟩
 ·cases e
noncomputable def fv:W->W->Po W:=nL fun i j=>i-j
theorem aac:cD K (i5 fun i j=>.int (i-j)) fv:=ab8
noncomputable def aR:W->W->Po W:=pF (fun _ j=>decide (j≠0)) fun i j=>i.fmod j
theorem aad:cD K (rI (fun _ j=>j≠0) fun i j=>.int (i.fmod j)) aR:=FR fun i j h=>by simpa using h
noncomputable def GU(i j:Int):Prop:=j≠0/\j.natAbs<2 ^ 64
theorem Wl:bx X (ahe .FloorDiv) (rI GU fun i j=>.int (i.fdiv j)):=Ba fun i j _ _ _ _ _ hc q=>floordiv_int hc.1 q (.inl (PyProof.noPylong_of_log2 (by
 have h0:j.natAbs≠0:=by have:=hc.1;omega
 have:=(Nat.log2_lt h0).mpr hc.2;omega)))
noncomputable def bg:W->W->Po W:=pF (fun _ j=>decide (j≠0)&&decide (j.natAbs<2 ^ 64)) fun i j=>i.fdiv j
theorem aae:cD K (rI GU fun i j=>.int (i.fdiv j)) bg:=FR fun i j h=>by
 rw[aev] at h;exact⟨of_decide_eq_true h.1,of_decide_eq_true h.2⟩
noncomputable def eN:W->W->Po W:=pG fun i j=>decide (i<j)
noncomputable def fe:W->W->Po W:=pG fun i j=>decide (i<=j)
noncomputable def pZ:W->W->Po W:=pG fun i j=>decide (j<i)
noncomputable def geW:W->W->Po W:=pG fun i j=>decide (j<=i)
noncomputable def mulC(i j:Int):Bool:=(decide (-(2 ^ 64)<i)&&decide (i<2 ^ 64))||(decide (-(2 ^ 64)<j)&&decide (j<2 ^ 64))
noncomputable def pJ:W->W->Po W:=fun x y=>match x,y with
 | .int i,.int j=>if mulC i j=true then ret (.int (i*j)) else eZ
 | _,_=>eZ
theorem aaf:cD K (rI rO fun i j=>.int (i*j)) pJ:=by
 intro φ ph H x y vx vy w ph' Q hH rx ry e k;unfold pJ at e;split at e
 ·split at e
  ·rename_i hc;cases e;cases rx;cases ry;refine⟨_,_,rfl,rfl,?_,k φ H _ hH Step.refl (.int _)⟩;unfold mulC at hc;simp only[ahn,aev,decide_eq_true_eq] at hc;exact hc
  ·cases e
 ·cases e
noncomputable def addW:W->W->Po W:=fun x y ph=>match x,y with
 | .int i,.int j=>some (.int (i+j),ph)
 | .str i,.str j=>if i.length+j.length<=aeD then some (.str (i++j),ph) else none
 | .ref a,.ref b=>match ph[a]?,ph[b]? with
  | some (.lst xs),some (.lst ys)=>if xs.length+ys.length<=aeD then some (.ref ph.length,ph++[.lst (xs++ys)]) else none
  | _,_=>none
 | .tup xs,.tup ys=>if xs≠[]/\xs.length+ys.length<=aeD then some (.tup (xs++ys),ph) else none
 | _,_=>none
abbrev GV(K:acs):R2:=fun x y H Q=>((i5 fun i j=>.int (i+j)) x y H Q\/∃i j,x=.str i/\y=.str j/\i.length+j.length<=aeD/\Q (.str (i++j)) H)\/(HE x y H Q\/GQ K x y H Q)
theorem XG:bx X (ahe .Add) (GV X.K):=bx.or (bx.or Zo SY) (bx.or ZI Xp)
theorem aag:cD K (GV K) addW:=by
 intro φ ph H x y vx vy w ph' Q hH rx ry e k;unfold addW at e;split at e
 ·cases e;cases rx;cases ry;exact .inl (.inl ⟨_,_,rfl,rfl,k φ H _ hH Step.refl (.int _)⟩)
 ·split at e
  ·rename_i hz;cases e;cases rx;cases ry;exact .inl (.inr ⟨_,_,rfl,rfl,hz,k φ H _ hH Step.refl (.str _)⟩)
  ·cases e
 ·split at e
  ·rename_i xs ys hx hy;split at e
   ·rename_i hz;cases e;cases rx;cases ry;obtain⟨us,hu,ru⟩:=hH.hp _ _ hx;obtain⟨vs,hv,rv⟩:=hH.hp _ _ hy;refine .inr (.inl ⟨_,_,us,vs,rfl,rfl,hu,hv,by rw[<- ru.length,<- rv.length];exact hz,fun p hp=>?_⟩);obtain⟨q1,q2,q3⟩:=kP hH (ru.append rv) hp;exact k _ _ _ q1 q2 q3
   ·cases e
  ·cases e
 ·split at e
  ·rename_i xs ys hz;cases e;cases rx with
   | tup hx rx=>
    cases ry with
    | tup hy ry=>
     rename_i a us b vs;refine .inr (.inr ⟨a,b,us,vs,rfl,rfl,bJ.of hx,bJ.of hy,?_,by rw[<- rx.length,<- ry.length];exact hz.2,fun he=>?_,fun hn p hp=>?_⟩)
     ·rintro rfl;cases rx;exact hz.1 rfl
     ·subst he;cases ry;refine k φ H _ hH Step.refl ?_;rw[ahl];exact .tup hx rx
     ·exact k φ _ _ (hH.tup hp) (gv hp) (.tup bZ ((rx.append ry).mono (gv hp)))
  ·cases e
 ·cases e
noncomputable def nv:W->W->Po W:=fun x y=>match y with
 | .aE=>ret (.bl (decide (x=.aE)))
 | _=>eZ
noncomputable def GW:W->W->Po W:=fun x y=>match y with
 | .aE=>ret (.bl (!decide (x=.aE)))
 | _=>eZ
theorem XH{x:W}(r:aQ K φ n H x v):decide (x=.aE)=decide (v=.aE):=by
 cases r <;> simp
theorem aah:cD K (fun x y H Q=>y=.aE/\Q (.bl (decide (x=.aE))) H) nv:=by
 intro φ ph H x y vx vy w ph' Q hH rx ry e k;unfold nv at e;split at e
 ·cases e;cases ry;exact⟨rfl,by rw[<- XH rx];exact k φ H _ hH Step.refl (.bl _)⟩
 ·cases e
noncomputable def rS:List W->Po W:=fun xs=>match xs with
 | [.int i]=>ret (.int i)
 | [.bl b]=>ret (.int (if b then 1 else 0))
 | _=>eZ
theorem aai:ig K (fun xs H Q=>(∃i,xs=[.int i]/\Q (.int i) H)\/∃k,xs=[.bl k]/\Q (.int (if k then 1 else 0)) H) rS:=by
 intro φ ph H xs vs w ph' Q hH r e k;unfold rS at e;split at e
 ·cases e;cases r with
  | cons r r'=>cases r;cases r';exact .inl ⟨_,rfl,k φ H _ hH Step.refl (.int _)⟩
 ·cases e;cases r with
  | cons r r'=>cases r;cases r';exact .inr ⟨_,rfl,k φ H _ hH Step.refl (.int _)⟩
 ·cases e
noncomputable def adt:List W->Po W:=fun xs=>match xs with
 | [.int i]=>ret (.int (if i<0 then -i else i))
 | _=>eZ
noncomputable def rp(w:W)(ph:PH):Option String:=match w with
 | .aE=>some "NoneType"
 | .bl _=>some "bool"
 | .int _=>some "int"
 | .str _=>some "str"
 | .tup _=>some "tuple"
 | .fl _=>some "list"
 | .ref i=>match ph[i]? with
  | some (.lst _)=>some "list"
  | some (.bO _)=>some "dict"
  | _=>none
 | .exc .. =>none
 | .fn .. =>none
 | .kt .. =>none
noncomputable def dW(t c:String):Bool:=t==c||(t=="bool"&&c=="int")
noncomputable def dI(c:String)(w:W):Po W:=fun ph=>match rp w ph with
 | some t=>some (.bl (dW t c),ph)
 | none=>none
noncomputable def el(c:String)(m:EM):EM:=fun σ=>aw (m σ) fun w=>lift (dI c w)
inductive ju(K:acs)(H:Hp):V->String->Prop where
 | aE:ju K H .aE "NoneType"
 | bl (x:Bool):ju K H (.bl x) "bool"
 | int (i:Int):ju K H (.int i) "int"
 | str (x:Str):ju K H (.str x) "str"
 | lst {a:Addr} {xs:List V} (e:bC K H a xs):ju K H (.ref a) "list"
 | tup {a:Addr} {xs:List V} (e:bJ K H a xs):ju K H (.ref a) "tuple"
 | dk {a:Addr} {kvs:List (Key×V)} (e:H a=some (.dK kvs)):ju K H (.ref a) "dict"
 | dt {a:Addr} {kvs:List (List Key×V)} (e:H a=some (.dT kvs)):ju K H (.ref a) "dict"
theorem XI{w:W}{t:String}(hH:aL K φ ph H)(r:aQ K φ ph.length H w v)(e:rp w ph=some t):ju K H v t:=by
 unfold rp at e;cases r with
 | aE=>cases e;exact .aE
 | bl b=>cases e;exact .bl b
 | int b=>cases e;exact .int b
 | str b=>cases e;exact .str b
 | tup h r=>cases e;exact .tup (bJ.of h)
 | fl h r=>cases e;exact .lst h.sq
 | ref hi=>
  simp only at e;split at e
  ·rename_i ws hw;cases e;obtain⟨vs,hv,_⟩:=hH.hp _ _ hw;exact .lst (bC.of hv)
  ·rename_i ws hw;cases e
   rcases hH.hp _ _ hw with⟨kvs,q,_⟩ | ⟨kvs,q,_⟩
   ·exact .dk q
   ·exact .dt q
  ·cases e
 | exc=>cases e
 | fn=>cases e
 | kt=>cases e
noncomputable def lx(K:acs)(c:String):Prop:=∀t∈["NoneType","bool","int","str","list","tuple","dict"],PySem.W.kitOne K (.type t) (.type c)=some (dW t c)
noncomputable def rIs(K:acs)(c:String):List V->Hp->VK->Prop:=fun xs H Q=>∃x t,xs=[x,.ty c]/\ju K H x t/\Q (.bl (dW t c)) H
theorem XJ{c:String}(hk:lx X.K c):cR X (.builtin "isinstance") (rIs X.K c):=by
 intro pins s σ H xs us Q I r h;obtain⟨x,t,rfl,kv,q⟩:=h;obtain⟨u,u2,rfl,rx,rc⟩:=Vals.two r;obtain rfl:u2=Value.type c:=rc;have fin:∀tk,EP X pins σ Q (.bool (dW t c)) { s with toks:=tk }:=fun tk=>⟨.bl _,H,I.tok tk,rfl,q⟩
 cases kv with
 | aE=>cases(show u=agr from rx);exact agc PySem.W.kitx_none I.dC agD (hk _ (by decide)) (fun z=>nomatch z) fin
 | bl y=>cases(show u=ajv y from rx);exact agc PySem.W.kitx_bool I.dC agD (hk _ (by decide)) (fun z=>nomatch z) fin
 | int i=>obtain⟨t,rfl⟩:=(show ∃t,u=ahv i t from rx);exact agc PySem.W.kitx_int I.dC agD (hk _ (by decide)) (fun z=>nomatch z) fin
 | str y=>obtain⟨t,rfl⟩:=(show ∃t,u=aji y t from rx);exact agc PySem.W.kitx_str I.dC agD (hk _ (by decide)) (fun z=>nomatch z) fin
 | @lst a ys e=>
  cases(show u=afl a from rx);obtain⟨its,_,⟨o,n,h1,h2,_⟩,_⟩:=I.list e;exact agc PySem.W.kitx_list I.dC ⟨_,h1,h2⟩ (hk _ (by decide)) (fun z=>nomatch z) fin
 | @tup a ys e=>
  cases(show u=afl a from rx);obtain⟨its,_,⟨o,h1,h2,_⟩,_⟩:=I.tuple e;exact agc PySem.W.kitx_tuple I.dC ⟨_,h1,h2⟩ (hk _ (by decide)) (fun z=>nomatch z) fin
 | @dk a kvs e=>
  cases(show u=afl a from rx);obtain⟨_,_,vs,_,ob,_,_,h1,h2,_⟩:=rj I.aI e;exact agc ajA I.dC ⟨_,h1,h2.1⟩ (hk _ (by decide)) (fun z=>nomatch z) fin
 | @dt a kvs e=>
  cases(show u=afl a from rx);obtain⟨_,_,xs,_,ob,_,_,h1,h2,_⟩:=Aj I.aI e;exact agc ajA I.dC ⟨_,h1,h2.1⟩ (hk _ (by decide)) (fun z=>nomatch z) fin
section
variable{X:Cx}{e:Expr}{m:EM}{p p2 pos:Pos}
theorem acg{c:Str}{cn:String}(hk:lx X.K cn)(hv:afv c=some (.type cn))(hg:Gl X "isinstance")(hm:X.mg "isinstance"=none)(nP:Gl X c)(nQ:X.mg c=none)(he:IE X e m)
  (hn:c≠"__name__":=by decide) (hd:(c==("__debug__":Str))=false:=by decide)
  (hs:aeS [e,.Name c p2] X.env=[(false,eval e X.env),(false,eval (.Name c p2) X.env)]:=by rfl) (dF:aeS [.Name c p2] X.env=[(false,eval (.Name c p2) X.env)]:=by rfl)
  (hpl:(ahx pos (aeS [.Name c p2] X.env)).any (·.1)=false:=by rfl) :
  IE X (.Call (.Name "isinstance" p) [e,.Name c p2] [] pos) (el cn m):=by
 refine PE.imp (Eg (XJ hk) hg hm PyProof.Rows.boot_isinstance (zz he (zz (W7 (v:=.ty cn) nP nQ hv rfl hn hd) FO (by rw[dF];rfl)) (by rw[hs,dF])) (he:=by rw[hs,dF]) (hpl:=hpl)) fun σ H Q h=>?_
 obtain⟨φ,ph,ws,hH,hS,h⟩:=h;refine tM.bind hH hS h fun x ph1 aA H1 vx aC s1 rx h=>?_
 obtain⟨w,ph',e,k⟩:=run_lift h;unfold dI at e;split at e
 ·rename_i t ht;cases e;exact⟨vx,t,rfl,XI aC rx ht,k aA H1 _ aC s1 (.bl _)⟩
 ·cases e
end
theorem Ek:lx K "int":=by
 intro t ht;simp only[aeG,ahf,or_false] at ht
 rcases ht with rfl | rfl | rfl | rfl | rfl | rfl | rfl <;> rfl
theorem DS:lx K "bool":=by
 intro t ht;simp only[aeG,ahf,or_false] at ht
 rcases ht with rfl | rfl | rfl | rfl | rfl | rfl | rfl <;> rfl
theorem u0:lx K "str":=by
 intro t ht;simp only[aeG,ahf,or_false] at ht
 rcases ht with rfl | rfl | rfl | rfl | rfl | rfl | rfl <;> rfl
theorem yU:lx K "list":=by
 intro t ht;simp only[aeG,ahf,or_false] at ht
 rcases ht with rfl | rfl | rfl | rfl | rfl | rfl | rfl <;> rfl
theorem Dw:lx K "tuple":=by
 intro t ht;simp only[aeG,ahf,or_false] at ht
 rcases ht with rfl | rfl | rfl | rfl | rfl | rfl | rfl <;> rfl
noncomputable def bB{α β:Type}(f:α->Option β):List α->Option (List β)
 | []=>some []
 | a::as=>match f a,bB f as with
  | some b,some bs=>some (b::bs)
  | _,_=>none
noncomputable def dat(ph:PH):Nat->W->Option agJ
 | _,.aE=>some .none
 | _,.bl b=>some (.bool b)
 | _,.int i=>some (.int i)
 | _,.str x=>if agl x=true then some (.str x) else none
 | n+1,.tup ws=>(bB (dat ph n) ws).map .tuple
 | n+1,.fl ws=>(bB (dat ph n) ws).map .list
 | n+1,.ref i=>match ph[i]? with
  | some (.lst ws)=>(bB (dat ph n) ws).map .list
  | _=>none
 | _,_=>none
section
variable{X:Cx}{pins:List (Addr×Obj)}{σ:L2.St}{H:Hp}{s:aem}{φ:Nat->Addr}{ph:PH}
noncomputable def lL(s:aem)(n:Nat)(u:Value)(d:agJ):Prop:=(∃as,Reads s.heap u d as)/\d.canLay0=true/\d.depth<=n
theorem yK{n:Nat}(ih:∀{w:W} {v:V} {u:Value} {d:agJ},aQ X.K φ ph.length H w v->RelV v u->dat ph n w=some d->lL s n u d) :
  ∀{ws:List W} {vs:List V} {us:List Value} {ds:List agJ},ba X.K φ ph.length H ws vs->Vals vs us->bB (dat ph n) ws=some ds →
   (∃as,ReadsAll s.heap us ds as)/\ajB ds=true/\PyData.depthAll ds<=n
 | _,_,_,_,.nil,.nil,e=>by cases e;exact⟨⟨_,.nil⟩,rfl,afR _⟩
 | w::ws,_,_,ds,.cons h r,.cons hv rv,e=>by
  unfold bB at e;split at e
  ·rename_i b bs e1 e2;cases e;obtain⟨⟨as,r1⟩,c1,d1⟩:=ih h hv e1;obtain⟨⟨bs',r2⟩,c2,d2⟩:=yK ih r rv e2;refine⟨⟨_,.cons r1 r2⟩,?_,?_⟩
   ·simp only[ajB,c1,c2,ajq]
   ·simp only[PyData.depthAll];omega
  ·cases e
theorem kL(I:Inv X pins σ H s)(hH:aL X.K φ ph H):∀(n:Nat) {w:W} {v:V} {u:Value} {d:agJ},aQ X.K φ ph.length H w v->RelV v u->dat ph n w=some d->lL s n u d:=by
 have AS:∀(n:Nat) (ih:∀{w:W} {v:V} {u:Value} {d:agJ},aQ X.K φ ph.length H w v->RelV v u->dat ph n w=some d->lL s n u d) {ws:List W} {vs:List V} {d:agJ} {a:Addr},
   ba X.K φ ph.length H ws vs->((bC X.K H a vs/\(bB (dat ph n) ws).map PyData.list=some d)\/(bJ X.K H a vs/\(bB (dat ph n) ws).map PyData.tuple=some d))->lL s (n+1) (.ref a) d:=by
  intro n ih ws vs d a r h
  rcases h with⟨hq,e⟩ | ⟨hq,e⟩
  ·obtain⟨its,rv,⟨o,k,h1,h2,h3,h4⟩,_⟩:=I.list hq;obtain⟨ds,e1,e2⟩:=aeC.mp e;subst e2;obtain⟨⟨as,r1⟩,c1,d1⟩:=yK ih r rv e1;refine⟨⟨_,.list h1 h2 h4 (by simpa using r1)⟩,by simpa only[ahT] using c1,?_⟩;simp only[PyData.depth];omega
  ·obtain⟨its,rv,⟨o,h1,h2,k,h4⟩,_⟩:=I.tuple hq;obtain⟨ds,e1,e2⟩:=aeC.mp e;subst e2;obtain⟨⟨as,r1⟩,c1,d1⟩:=yK ih r rv e1;refine⟨⟨_,.tuple h1 h2 h4 (by simpa using r1)⟩,by simpa only[ahT] using c1,?_⟩;simp only[PyData.depth];omega
 intro n
 induction n with
 | zero=>
  intro w v u d r rv e;cases r with
  | aE=>cases rv;cases e;exact⟨⟨_,.none⟩,rfl,aeq _⟩
  | bl b=>cases rv;cases e;exact⟨⟨_,.bool b⟩,rfl,aeq _⟩
  | int i=>obtain⟨t,rfl⟩:=rv;cases e;exact⟨⟨_,.int i t⟩,rfl,aeq _⟩
  | str x=>
   obtain⟨t,rfl⟩:=rv;unfold dat at e;split at e
   ·rename_i hx;cases e;exact⟨⟨_,.str x t⟩,by simpa only[ahT] using hx,aeq _⟩
   ·cases e
  | _=>cases e
 | succ n ih=>
  intro w v u d r rv e;cases r with
  | aE=>cases rv;cases e;exact⟨⟨_,.none⟩,rfl,afR _⟩
  | bl b=>cases rv;cases e;exact⟨⟨_,.bool b⟩,rfl,afR _⟩
  | int i=>obtain⟨t,rfl⟩:=rv;cases e;exact⟨⟨_,.int i t⟩,rfl,afR _⟩
  | str x=>
   obtain⟨t,rfl⟩:=rv;unfold dat at e;split at e
   ·rename_i hx;cases e;exact⟨⟨_,.str x t⟩,by simpa only[ahT] using hx,afR _⟩
   ·cases e
  | tup h r=>cases rv;exact AS n ih r (.inr ⟨bJ.of h,e⟩)
  | exc=>unfold dat at e;cases e
  | fn=>unfold dat at e;cases e
  | kt=>unfold dat at e;cases e
  | fl h r=>cases rv;exact AS n ih r (.inl ⟨h.sq,e⟩)
  | ref hi=>
   cases rv;unfold dat at e;split at e
   ·rename_i ws hw;obtain⟨vs,hv,r⟩:=hH.hp _ _ hw;exact AS n ih r (.inl ⟨bC.of hv,e⟩)
   ·cases e
end
noncomputable def ff(ph:PH)(x y:W):Option Bool:=match dat ph 40 x,dat ph 40 y with
 | some a,some b=>some (afb a b)
 | _,_=>none
noncomputable def aS:W->W->Po W:=fun x y ph=>(ff ph x y).map fun b=>(.bl b,ph)
noncomputable def cz:W->W->Po W:=fun x y ph=>(ff ph x y).map fun b=>(.bl (!b),ph)
noncomputable def rD(K:acs)(f:Bool->Bool):R2:=fun x y H Q=>∃φ ph wx wy b,aL K φ ph H/\aQ K φ ph.length H wx x/\aQ K φ ph.length H wy y/\ff ph wx wy=some b/\Q (.bl (f b)) H
variable{y:W}{b:Bool}
theorem El{x:W}(h:ff ph x y=some b):∃dx dy,dat ph 40 x=some dx/\dat ph 40 y=some dy/\b=afb dx dy:=by
 unfold ff at h;split at h
 ·rename_i dx dy h1 h2;cases h;exact⟨dx,dy,h1,h2,rfl⟩
 ·cases h
theorem aaj(hu:X.A.units+64<cLine):bx X (afh .Eq) (rD X.K fun b=>b):=by
 intro pins s σ H x y v u Q I rx ry h;obtain⟨φ,ph,wx,wy,b,hH,r1,r2,e,q⟩:=h;obtain⟨dx,dy,e1,e2,rfl⟩:=El e;obtain⟨⟨as,k1⟩,c1,l1⟩:=kL I hH 40 r1 rx e1;obtain⟨⟨bs,k2⟩,c2,l2⟩:=kL I hH 40 r2 ry e2;exact SeqAt.compareEq_reads k1 k2 c1 c2 (by omega) ⟨.bl _,H,I,rfl,q⟩
theorem aak(hu:X.A.units+64<cLine):bx X (afh .NotEq) (rD X.K fun b=> !b):=by
 intro pins s σ H x y v u Q I rx ry h;obtain⟨φ,ph,wx,wy,b,hH,r1,r2,e,q⟩:=h;obtain⟨dx,dy,e1,e2,rfl⟩:=El e;obtain⟨⟨as,k1⟩,c1,l1⟩:=kL I hH 40 r1 rx e1;obtain⟨⟨bs,k2⟩,c2,l2⟩:=kL I hH 40 r2 ry e2;exact SeqAt.compareNe_reads k1 k2 c1 c2 (by omega) ⟨.bl _,H,I,rfl,q⟩
theorem ach:cD K (rD K fun b=>b) aS:=by
 intro φ ph H x y vx vy w ph' Q hH rx ry e k;obtain⟨b,e1,e2⟩:=aeC.mp e;cases e2;exact⟨φ,ph,x,y,b,hH,rx,ry,e1,k φ H _ hH Step.refl (.bl _)⟩
theorem aci:cD K (rD K fun b=> !b) cz:=by
 intro φ ph H x y vx vy w ph' Q hH rx ry e k;obtain⟨b,e1,e2⟩:=aeC.mp e;cases e2;exact⟨φ,ph,x,y,b,hH,rx,ry,e1,k φ H _ hH Step.refl (.bl _)⟩
noncomputable def inD(ph:PH)(x y:W):Option Bool:=match cL y ph,dat ph 40 x with
 | some ws,some dx=>(bB (dat ph 40) ws).map fun ds=>ds.any fun d=>afb d dx
 | _,_=>none
noncomputable def kq:W->W->Po W:=fun x y ph=>(inD ph x y).map fun b=>(.bl b,ph)
noncomputable def wY:W->W->Po W:=fun x y ph=>(inD ph x y).map fun b=>(.bl (!b),ph)
noncomputable def pK(K:acs)(f:Bool->Bool):R2:=fun x y H Q=>∃φ ph wx wy b,aL K φ ph H/\aQ K φ ph.length H wx x/\aQ K φ ph.length H wy y/\inD ph wx wy=some b/\Q (.bl (f b)) H
open Classical in
noncomputable def jV(s:aem)(dx:agJ)(u:Value):Bool:=if h:∃d,lL s 40 u d then afb h.choose dx else false
theorem u3{s:aem}{dx d:agJ}{u:Value}(h:lL s 40 u d):jV s dx u=afb d dx:=by
 unfold jV;have hx:∃d,lL s 40 u d:=⟨d,h⟩
 rw[dif_pos hx];obtain⟨⟨as,r⟩,c,_⟩:=h;obtain⟨⟨as',r'⟩,c',_⟩:=hx.choose_spec;rw[SeqAt.Reads.unique _ _ _ _ _ c' r' r]
section
variable{X:Cx}{pins:List (Addr×Obj)}{σ:L2.St}{H:Hp}{s:aem}{φ:Nat->Addr}{ph:PH}
theorem zE(I:Inv X pins σ H s)(hH:aL X.K φ ph H){dx:agJ}:∀{ws:List W} {vs:List V} {us:List Value} {ds:List agJ},ba X.K φ ph.length H ws vs->Vals vs us->bB (dat ph 40) ws=some ds →
  (us.any (jV s dx)=ds.any fun d=>afb d dx)/\∀u∈us,∃d,lL s 40 u d
 | _,_,_,_,.nil,.nil,e=>by cases e;exact⟨rfl,fun _ h=>nomatch h⟩
 | w::ws,_,_,ds,.cons h r,.cons hv rv,e=>by
  unfold bB at e;split at e
  ·rename_i b bs e1 e2;cases e;have q:=kL I hH 40 h hv e1;obtain⟨r1,r2⟩:=zE I hH (dx:=dx) r rv e2;refine⟨by rw[aft,aft,r1,u3 q],fun u hu=>?_⟩
   rcases aeG.mp hu with rfl | hu
   ·exact⟨_,q⟩
   ·exact r2 u hu
  ·cases e
theorem E5(I:Inv X pins σ H s)(hH:aL X.K φ ph H){wx wy:W}{x y:V}{v u:Value}{b:Bool}(hu:X.A.units+64<cLine)(r1:aQ X.K φ ph.length H wx x)(r2:aQ X.K φ ph.length H wy y)(rx:RelV x v)(ry:RelV y u)(e:inD ph wx wy=some b) :
  ∃(a:Addr) (its:List Value) (f:Value->Bool),u=.ref a/\(s.heap.IsList a its.toArray\/s.heap.IsTuple a its.toArray)/\(∀z,z∈its.toArray->ajx X.A.in1 s z v (f z))/\its.toArray.any f=b:=by
 unfold inD at e;split at e
 ·rename_i ws dx hs hd;obtain⟨ds,e1,e2⟩:=aeC.mp e;obtain⟨a,vs,rfl,hq,rs⟩:=ze hH r2 hs;cases ry;obtain⟨⟨as,k1⟩,c1,l1⟩:=kL I hH 40 r1 rx hd;have fin:∀{its:List Value},Vals vs its->(∀z,z∈its.toArray->ajx X.A.in1 s z v (jV s dx z))/\its.toArray.any (jV s dx)=b:=fun{its} rv=>by
   obtain⟨q1,q2⟩:=zE I hH (dx:=dx) rs rv e1;refine⟨fun z hz=>?_,by rw[show its.toArray.any (jV s dx)=its.any (jV s dx) by simp,q1,e2]⟩;obtain⟨d,hd⟩:=q2 z (by simpa using hz);rw[u3 hd];obtain⟨⟨bs,k2⟩,c2,l2⟩:=hd;intro prog w E Q hQ;exact aiS prog w _ E s z v d dx bs as Q k2 k1 c2 c1 (by show X.A.units+1+_<_;omega) hQ
  rcases hq with hq | hq
  ·obtain⟨its,rv,pl,_⟩:=I.list hq;obtain⟨f1,f2⟩:=fin rv;exact⟨a,its,_,rfl,.inl pl.isList,f1,f2⟩
  ·obtain⟨its,rv,pl,_⟩:=I.tuple hq;obtain⟨f1,f2⟩:=fin rv;exact⟨a,its,_,rfl,.inr pl,f1,f2⟩
 ·cases e
end
theorem aal(hu:X.A.units+64<cLine):bx X (afh .In) (pK X.K fun b=>b):=by
 intro pins s σ H x y v u Q I rx ry h;obtain⟨φ,ph,wx,wy,b,hH,r1,r2,e,q⟩:=h;obtain⟨a,its,f,rfl,hq,hf,hb⟩:=E5 I hH hu r1 r2 rx ry e;subst hb
 rcases hq with hq | hq
 ·exact SeqAt.in_listAt f hq hf ⟨.bl _,H,I,rfl,q⟩
 ·exact SeqAt.in_tupleAt f hq hf ⟨.bl _,H,I,rfl,q⟩
theorem XM(hu:X.A.units+64<cLine):bx X (afh .NotIn) (pK X.K fun b=> !b):=by
 intro pins s σ H x y v u Q I rx ry h;obtain⟨φ,ph,wx,wy,b,hH,r1,r2,e,q⟩:=h;obtain⟨a,its,f,rfl,hq,hf,hb⟩:=E5 I hH hu r1 r2 rx ry e;subst hb
 rcases hq with hq | hq
 ·exact SeqAt.notIn_listAt f hq hf ⟨.bl _,H,I,rfl,q⟩
 ·exact SeqAt.notIn_tupleAt f hq hf ⟨.bl _,H,I,rfl,q⟩
theorem acj:cD K (pK K fun b=>b) kq:=by
 intro φ ph H x y vx vy w ph' Q hH rx ry e k;obtain⟨b,e1,e2⟩:=aeC.mp e;cases e2;exact⟨φ,ph,x,y,b,hH,rx,ry,e1,k φ H _ hH Step.refl (.bl _)⟩
theorem aam:cD K (pK K fun b=> !b) wY:=by
 intro φ ph H x y vx vy w ph' Q hH rx ry e k;obtain⟨b,e1,e2⟩:=aeC.mp e;cases e2;exact⟨φ,ph,x,y,b,hH,rx,ry,e1,k φ H _ hH Step.refl (.bl _)⟩
noncomputable def oB(env:Env)(x:Str×agW)(s:List (Str×Addr)):Sem (ForInStep (List (Str×Addr))):=
 if(x.2==aeM)=true then do
  let a <- cellOf env x.1
  pure (agd ((x.1,a)::s))
 else pure (agd s)
theorem zg(env:Env):∀(names:List (Str×agW)) (acc:List (Str×Addr)),(∀y∈names,y.2=.free->∃c,env.cells.lookup y.1=some c) →
  ∃cl,(forIn names acc (oB env):Sem (List (Str×Addr)))=pure cl/\(∀x c,cl.lookup x=some c->acc.lookup x=some c\/(env.cells.lookup x=some c/\(x,aeM)∈names)) /\
   (∀x,((∃c,acc.lookup x=some c)\/(x,aeM)∈names)->∃c,cl.lookup x=some c)
 | [],acc,_=>⟨acc,rfl,fun x c h=>.inl h,fun x h=>h.elim id fun z=>nomatch z⟩
 | (n,k)::r,acc,h=>by
  by_cases hk:k=.free
  ·subst hk;obtain⟨c,hc⟩:=h (n,.free) afw rfl;obtain⟨cl,e,h1,h2⟩:=zg env r ((n,c)::acc) fun y hy=>h y (aeR _ hy)
   refine⟨cl,?_,fun x c' hx=>?_,fun x hx=>h2 x ?_⟩
   ·rw[agN];have eb:oB env (n,.free) acc=pure (agd ((n,c)::acc)):=by
     unfold oB;rw[if_pos (by rfl)];unfold cellOf;rw[hc];rfl
    rw[eb];exact e
   ·rcases h1 x c' hx with z | z
    ·rw[aeH] at z;cases q:x==n with
     | true=>
      rw[q] at z;cases z;have:x=n:=eq_of_beq q;subst this;exact .inr ⟨hc,afw⟩
     | false=>rw[q] at z;exact .inl z
    ·exact .inr ⟨z.1,aeR _ z.2⟩
   ·rcases hx with⟨c',hx⟩ | hx
    ·rw[aeH];cases q:x==n with
     | true=>exact .inl ⟨c,rfl⟩
     | false=>exact .inl ⟨c',hx⟩
    ·rcases aeG.mp hx with z | z
     ·cases z;exact .inl ⟨c,by rw[aeH];simp⟩
     ·exact .inr z
  ·obtain⟨cl,e,h1,h2⟩:=zg env r acc fun y hy=>h y (aeR _ hy)
   refine⟨cl,?_,fun x c' hx=>?_,fun x hx=>h2 x ?_⟩
   ·rw[agN];have eb:oB env (n,k) acc=pure (agd acc):=by
     unfold oB;rw[if_neg (by simpa using hk)]
    rw[eb];exact e
   ·rcases h1 x c' hx with z | z
    ·exact .inl z
    ·exact .inr ⟨z.1,aeR _ z.2⟩
   ·rcases hx with hx | hx
    ·exact .inl hx
    ·rcases aeG.mp hx with z | z
     ·cases z;exact absurd rfl hk
     ·exact .inr z
variable{env:Env}
theorem XN{scope:Scope}(h:∀y∈scope.names,y.2=.free->∃c,env.cells.lookup y.1=some c) :
  ∃cl,closureFor scope env=pure cl/\(∀x c,cl.lookup x=some c->env.cells.lookup x=some c/\(x,aeM)∈scope.names)/\(∀x,(x,aeM)∈scope.names->∃c,cl.lookup x=some c):=by
 obtain⟨cl,e,h1,h2⟩:=zg env scope.names [] h;refine⟨cl,?_,fun x c hx=>?_,fun x hx=>h2 x (.inr hx)⟩
 ·unfold closureFor;show(forIn scope.names [] (oB env) >>= fun s=>pure s)=pure cl;rw[e];rfl
 ·rcases h1 x c hx with z | z
  ·cases z
  ·exact z
noncomputable def bR(X:Cx)(N:List Str)(scope:Scope)(cl:List (Str×Addr))(C:Addr)(aN:aem)(aU:Hp)(ex:List Addr):Cx:=
 { X with N:=N,aN:=aN,aU:=aU,env:=compEnvC scope cl C X.env,outer:=X.stack,stack:=X.stack,ex:=ex,fn:=fun _=>false,pn:=[],xe:=fun _ _=>False,kp:=fun _=>True }
noncomputable def j7(cap:List (Option Nat))(σ:L2.St):L2.St:=cap.map fun o=>o.bind fun i=>(σ[i]?).join
noncomputable def wc(wi:TI)(cap:List (Option Nat))(g:TG)(tc:TT)(te:TE):TE:=fun σ H Q=>wi σ H fun J H1=>∀D,H1 D=none->∃W:Nat->Nat->L2.St->Hp->Prop,(∃m,W 0 m (j7 cap σ) (upd H1 D (.lst []))) /\
 ∀i m bM H2,W i m bM H2->(J.stop i H2/\Q (.ref D) H2)\/(J.go i H2/\∀x H3,J.sy i H2 x H3->g x bM H3 fun gO H4=>tc gO H4 fun b H5=>
  if b=true then te gO H5 fun v H6=>∃xs,H6 D=some (.lst xs)/\xs.length<aeD/\∃m',m'<m/\W (i+1) m' gO (upd H6 D (.lst (xs++[v]))) else ∃m',m'<m/\W (i+1) m' gO H5)
noncomputable def PF(X:Cx)(ifs:List Expr)(t:TT):Prop:=
 ∀(pins:List (Addr×Obj)) (s:aem) (σ:L2.St) (H:Hp) (Q:Bool->Hp->Prop),Inv X pins σ H s->t σ H Q →
  wpAny (model X.prog X.w) X.A (forIn ifs true fun c r=>if r=true then do let ok <- isTrue c X.env (eval c X.env);pure (agd ok) else pure (agd r)) (TP X pins σ Q) X.xe s
theorem aan:PF X [] (fun _ H Q=>Q true H):=fun pins s σ H Q I h=>wpAny_tests_nil ⟨H,I,h⟩
theorem aao{c:Expr}{t:TT}(h:PT X c t):PF X [c] t:=fun pins s σ H Q I q=>wpAny_tests_one (h pins s σ H Q I q)
theorem yg{env:Env}{x:Str}:∀{names:List (Str×agW)},names.lookup x=some .free →
  (names.map fun(n,k)=>if(k==aeM&&env.scope.kind==.function&&env.kindOf n==some .cell) then(n,afT) else(n,k)).lookup x=some .cell \/
  (names.map fun(n,k)=>if(k==aeM&&env.scope.kind==.function&&env.kindOf n==some .cell) then(n,afT) else(n,k)).lookup x=some .free
 | [],h=>by cases h
 | (n,k)::r,h=>by
  rw[aeP];cases q:x==n with
  | true=>
   rw[aeH,q] at h;cases h;by_cases hc:(aeM==aeM&&env.scope.kind==.function&&env.kindOf n==some .cell)=true
   ·left
    show afQ x ((if(aeM==aeM&&env.scope.kind==.function&&env.kindOf n==some .cell)=true then(n,afT) else(n,aeM))::_)=_;rw[if_pos hc,aeH,q]
   ·right
    show afQ x ((if(aeM==aeM&&env.scope.kind==.function&&env.kindOf n==some .cell)=true then(n,afT) else(n,aeM))::_)=_;rw[if_neg hc,aeH,q]
  | false=>
   rw[aeH,q] at h;have ih:=yg (env:=env) h;show afQ x ((if(k==aeM&&env.scope.kind==.function&&env.kindOf n==some .cell)=true then(n,afT) else(n,k))::_)=_\/afQ x ((if(k==aeM&&env.scope.kind==.function&&env.kindOf n==some .cell)=true then(n,afT) else(n,k))::_)=_;by_cases hc:(k==aeM&&env.scope.kind==.function&&env.kindOf n==some .cell)=true
   ·rw[if_pos hc,aeH,q];exact ih
   ·rw[if_neg hc,aeH,q];exact ih
theorem yA{env:Env}{x:Str}{k':agW}(Jc:k'=.cell\/k'=.free):∀{names:List (Str×agW)},(∀y∈names,y.2≠.cell) →
  (names.map fun(n,k)=>if(k==aeM&&env.scope.kind==.function&&env.kindOf n==some .cell) then(n,afT) else(n,k)).lookup x=some k'->names.lookup x=some .free
 | [],_,h=>by cases h
 | (n,k)::r,hc,h=>by
  have h':afQ x ((if(k==aeM&&env.scope.kind==.function&&env.kindOf n==some .cell)=true then(n,afT) else(n,k))::r.map _)=some k':=h;rw[aeH];cases q:x==n with
  | true=>
   by_cases hb:(k==aeM&&env.scope.kind==.function&&env.kindOf n==some .cell)=true
   ·simp only[aev] at hb;have:k=.free:=by simpa using hb.1.1
    rw[this]
   ·rw[if_neg hb,aeH,q] at h';cases h'
    rcases Jc with z | z
    ·exact absurd z (hc (n,k') afw)
    ·rw[z]
  | false=>
   refine yA (env:=env) Jc (names:=r) (fun y hy=>hc y (aeR _ hy)) ?_;by_cases hb:(k==aeM&&env.scope.kind==.function&&env.kindOf n==some .cell)=true
   ·rw[if_pos hb,aeH,q] at h';exact h'
   ·rw[if_neg hb,aeH,q] at h';exact h'
theorem mem_lookup{x:Str}{k:agW}:∀{names:List (Str×agW)},names.lookup x=some k->(x,k)∈names
 | [],h=>by cases h
 | (n,j)::r,h=>by
  rw[aeH] at h;cases q:x==n with
  | true=>rw[q] at h;cases h;rw[eq_of_beq q];exact afw
  | false=>rw[q] at h;exact aeR _ (mem_lookup h)
structure kr(X:Cx)(N:List Str)(cap:List (Option Nat))(scope:Scope):Prop where
 len:cap.length=N.length
 at_:∀(i j:Nat) (x:Str),N[i]? =some x->cap[i]? =some (some j)->X.N[j]? =some x/\scope.names.lookup x=some .free/\(X.env.kindOf x=some .cell\/X.env.kindOf x=some .free)
 free:∀y∈scope.names,y.2=.free->X.env.kindOf y.1=some .cell\/X.env.kindOf y.1=some .free
 cell:∀y∈scope.names,y.2≠.cell
 kind:scope.kind=.function
 loc:∀y∈scope.names,y.2=.local->scope.names.lookup y.1=some .local
section
variable{X:Cx}{pins:List (Addr×Obj)}{σ:L2.St}{H:Hp}{s:aem}{N:List Str}{cap:List (Option Nat)}{scope:Scope}{cl:List (Str×Addr)}{fp:List Addr}
theorem XO (I : Inv X pins σ H s) (c : kr X N cap scope) (ku : ∀ x c, cl.lookup x = some c -> X.env.cells.lookup x = some c /\ (x, aeM) ∈ scope.names) (wZ : ∀ x, (x, aeM) ∈ scope.names -> ∃ c, cl.lookup x = some c)
    (hf : ∀ b ∈ fp, b < s.heap.objs.size /\ b ≠ X.env.locals /\ b ∉ X.fs /\ (b ∈ X.ex \/ X.aN.heap.objs.size <= b) /\ (∀ x c, X.env.cells.lookup x = some c -> c ≠ b)) {jc : Heap} {m : Str -> Option Value} {tk : Nat}
    (bD : jc.Ns s.heap.objs.size m) (hk : ∀ b o, s.heap.get? b = some o -> jc.get? b = some o) : Inv (bR X N scope cl s.heap.objs.size s H fp) [] (j7 cap σ) H { s with heap := jc, toks := tk } := by
  have adu : ∀ {x : Str}, ((bR X N scope cl s.heap.objs.size s H fp).env.kindOf x = some .cell \/ (bR X N scope cl s.heap.objs.size s H fp).env.kindOf x = some .free) -> scope.names.lookup x = some .free := fun {x} hx => by
    rcases hx with hx | hx
    · exact yA (env := X.env) (.inl rfl) c.cell hx
    · exact yA (env := X.env) (.inr rfl) c.cell hx
  have ok : (bR X N scope cl s.heap.objs.size s H fp).Ok :=
    { mod := I.ok.mod
      kind := c.kind
      glob := I.ok.glob
      blt := I.ok.blt
      above := aeq _
      inj := fun x y d h1 h2 => I.ok.inj x y d (ku x d h1).1 (ku y d h2).1
      has := fun x hx => wZ x (mem_lookup (adu hx))
      lB := fun x d hz => nomatch hz
      hd := I.ok.hd
      frames := I.ok.frames
      nE := .inl rfl
      sk := fun b hb => ⟨afi (hf b hb).1, fun x d hd => (hf b hb).2.2.2.2 x d (ku x d hd).1⟩
      bs := I.bs
      i4 := aeW I.ok.i4 I.sz
      ll := fun b o e hb => by
        rcases (hf b hb).2.2.2.1 with z | z
        · exact I.ok.ll b o e z
        · exact absurd (aeB (aex (I.ok.bs b o e).1) z) (agj _)
      lm := fun b hb hz => by
        rcases aeG.mp (I.zR b hz) with e | e
        · exact (hf b hb).2.1 e
        · exact (hf b hb).2.2.1 e
      eX := I.stack
      jC := I.qO }
  refine ⟨ok, rfl, I.bare, Un.kept hk, ⟨m, bD, fun i x v e1 e2 _ => ?_⟩, fun x d e => ?_, I.aI.fresh (aeq _), fun x d e => ⟨(fun z => nomatch z), (I.ie x d (ku x d e).1).2⟩, (fun p hp => nomatch hp), I.aI.kept hk, ⟨?_, trivial⟩⟩
  · unfold j7 at e2
    rw [aeA] at e2;cases q : cap[i]? with
    | none => rw [q] at e2; cases e2
    | some o =>
      rw [q] at e2;cases o with
      | none => cases e2
      | some j =>
        have e3 : (σ[j]?).join = some v := afn e2;have e4 : σ[j]? = some (some v) := by
          cases z : σ[j]? with
          | none => rw [z] at e3; cases e3
          | some w => rw [z] at e3; exact congrArg some e3
        obtain ⟨h1, h2, h3⟩ := c.at_ i j x e1 q;obtain ⟨m0, _, hl⟩ := I.loc;obtain ⟨u, ru, lk⟩ := hl j x v h1 e4 (.inr h3);refine ⟨u, ru, ?_⟩
        rcases lk with ⟨z, _⟩ | ⟨_, d, hd, vX⟩
        · rcases h3 with z' | z' <;> (rw [z] at z'; cases z')
        · obtain ⟨d', iB⟩ := wZ x (mem_lookup h2)
          have e5 := (ku x d' iB).1;rw [hd] at e5;cases e5;obtain ⟨ob, ho, AU⟩ := vX;exact .inr ⟨yg (env := X.env) h2, d, iB, ob, hk _ _ ho, AU⟩
  · obtain ⟨v, ob, ho, AU⟩ := I.cell x d (ku x d e).1
    exact ⟨v, ob, hk _ _ ho, AU⟩
  · show (j7 cap σ).length = N.length
    unfold j7;rw [aep];exact c.len
theorem Un.but{fs ex:List Addr}{H H':Hp}{h h1 h2:Heap}{C:Addr}(u:Un fs ex H H' h h1)(sb:∀b,b≠C->h2.get? b=h1.get? b)(hC:h.get? C=none):Un fs ex H H' h h2:=by
 have ne:∀b o,h.get? b=some o->b≠C:=fun b o e z=>by rw[z,hC] at e;cases e
 exact⟨fun b o e n h1 h2=>(sb b (ne b o e)).trans (u.keep b o e n h1 h2),fun b o e n h1 h2=>by
  obtain⟨sl,q⟩:=u.slot b o e n h1 h2;exact⟨sl,(sb b (ne b o e)).trans q⟩,u.free,fun b o e h1=>by
  obtain⟨o',q⟩:=u.there b o e h1;exact⟨o',(sb b (ne b o e)).trans q⟩,u.gB,u.eW,u.fT⟩
theorem E6{ay:L2.St}{H':Hp}{s':aem}{h':Heap}(I:Inv X pins σ H s)(J:Inv (bR X N scope cl s.heap.objs.size s H fp) [] ay H' s')(sb:ahw s.heap.objs.size s'.heap h')
  (hf:∀b∈fp,iq X pins H b):Inv X pins σ H' { s' with heap:=h' }:=by
 have hC:H' s.heap.objs.size=none:=J.free;refine I.GP (ch:=fp) J.os (Un.but J.base sb.2 (aiQ (aeq _))) (fun a o e=>?_) J.bare fun b hb=>⟨(hf b hb).2.2.2.1,(hf b hb).2.1,(hf b hb).2.2.2.2.1,(hf b hb).2.2.2.2.2⟩
 refine(J.aI a o e).jy (fun b u hb q=>(sb.2 b ?_).trans q) (fun _ q=>q) fun _ _ q=>q
 rintro rfl
 rcases hb with z | z
 ·rw[<- z,hC] at e;cases e
 ·rw[hC] at z;cases z
end
section
variable{prog:afm}{w:World}{A:afU}{R:Result->aem->Prop}{s:aem}
theorem UN{elt target iter:Expr}{ifs:List Expr}{scope:Scope}{pos:Pos}{it acc:Value}{env:Env}(J:Nat->aem->Prop)
  (turn:∀k s,J k s->wpAny (model prog w) A (pyNext it) (fun r s1=>match r with
   | none=>R (.ok .next) s1
   | some v=>wpAny (model prog w) A (ahI target it v) (fun _ s2=>wpAny (model prog w) A (aiU target env v) (fun _ s3=>
     wpAny (model prog w) A (forIn ifs true fun c r=>if r=true then do let ok <- isTrue c env (eval c env);pure (agd ok) else pure (agd r)) (fun ok s4=>
      if ok=true then wpAny (model prog w) A (eval elt env) (fun x s5=>wpAny (model prog w) A (call (.builtin "list.append") [acc,x]) (fun _ s6=>∃j,j<k/\J j s6) (fun _ _=>False) s5) (fun _ _=>False) s4
      else ∃j,j<k/\J j s4) (fun _ _=>False) s3) (fun _ _=>False) s2) (fun _ _=>False) s1) (fun _ _=>False) s)
  (k:Nat) (h:J k s):ajw (model prog w) A (.compLoop (.ListComp elt [⟨target,iter,ifs,0⟩] scope pos) 0 it acc env) R s:=by
 have no:∀{E:Value->aem->Prop} (e:Value) (s:aem),False->E e s:=fun _ _ z=>z.elim
 refine codeAny_loop (c:=.compLoop (.ListComp elt [⟨target,iter,ifs,0⟩] scope pos) 0 it acc env) rfl J (fun k s hJ=>?_) k h;show wpAny (model prog w) A ((compTurn (.ListComp elt [⟨target,iter,ifs,0⟩] scope pos) 0 it acc env).onRaise fun x=>do aiJ x env;theTreesLotGoes x) _ _ s;refine wpAny_noted ?_;rw[compTurn_list];refine aeh (wpAny_standAt (aeh (afJ (turn k s hJ) (fun r s1 h1=>?_) no)));cases r with
 | none=>exact aes h1
 | some v=>
  refine aeh (afJ h1 (fun _ s2 h2=>aeh (afJ h2 (fun _ s3 h3=>aeh (afJ h3 (fun ok s4 h4=>?_) no)) no)) no);cases ok with
  | false=>exact aes ⟨rfl,h4⟩
  | true=>exact aeh (aeh (afJ h4 (fun x s5 h5=>aeh (afJ h5 (fun _ s6 h6=>aes (aes ⟨rfl,h6⟩)) no)) no))
end
section
variable{X:Cx}{tg iter elt:Expr}{ifs:List Expr}{scope:Scope}{pos:Pos}{N:List Str}{cap:List (Option Nat)}{wi:TI}{g:TG}{tc:TT}{te:TE}
theorem DT{use:Option (Value->Sem Unit)}{Q':Value->aem->Prop}{pins:List (Addr×Obj)}{s:aem}{σ:L2.St}{H:Hp}{Q:VK}{p0:Pos}(hc:X.calm=true)(c:kr X N cap scope)(hi:PI X tg iter wi)(hg:∀cl C aN aU ex,PG (bR X N scope cl C aN aU ex) tg g)(ht:∀cl C aN aU ex,PF (bR X N scope cl C aN aU ex) ifs tc)
  (he:∀cl C aN aU ex,PE (bR X N scope cl C aN aU ex) elt te) (hs:∀x,afp iter X.env x=pure x) (I:Inv X pins σ H s) (h:wc wi cap g tc te σ H Q)
  (fin:∀(s3 s6:aem) (H3 H6:Hp) (fp:List Addr) (ja:L2.St) (cl:List (Str×Addr)) (D:Addr),Inv X pins σ H3 s3->(∀b∈fp,iq X pins H3 b)->Inv (bR X N scope cl s3.heap.objs.size s3 H3 fp) [] ja H6 s6->Q (.ref D) H6 →
   compPost (model X.prog X.w) X.A X.xe use Q' (.ref D) s3.heap.objs.size (.ok .next) s6) :
  wpAny (model X.prog X.w) X.A (comprehension (.ListComp elt [⟨tg,iter,ifs,0⟩] scope pos) scope X.env p0 (newList []) false (eval iter X.env) use) Q' X.xe s:=by
 obtain⟨cl,ack,ku,wZ⟩:=XN (scope:=scope) (env:=X.env) fun y hy hf=>I.ok.has y.1 (c.free y hy hf)
 refine wpAny_comprehension_free (use:=use) rfl hs ack c.kind c.loc (afJ (hi pins s σ H _ I h) (fun v s1 h1=>afJ h1 (fun A9 s2 h2=>?_) fun _ _ z=>z) fun _ _ z=>z);obtain⟨it,fp,tn,J,H2,rfl,I2,T,gJ,f2,h2⟩:=h2;refine afW (wpAny_newFunctionEnv c.cell (by intro y hy;simp at hy) (fun jc bD Bs=>?_) c.kind);have hD:H2 s2.heap.objs.size=none:=I2.fresh;obtain⟨W,⟨m0,w0⟩,turn⟩:=h2 s2.heap.objs.size hD;have I3:=I2.AN (its:=[]) (ys:=[]) (t':=s2.toks) .nil (afR _);have i7:∀b∈fp,iq X pins (upd H2 s2.heap.objs.size (.lst [])) b:=fun b hb=>by
  obtain⟨a1,a2⟩:=f2 b hb;refine⟨?_,a2⟩;obtain⟨o,ho,_⟩:=T.obj 0 _ gJ b hb;rw[bz (afi (aex ho))];exact a1
 have Jd:∀b∈fp,b<s2.heap.objs.size:=fun b hb=>by
  obtain⟨o,ho,_⟩:=T.obj 0 _ gJ b hb;exact aex ho
 revert bD Bs
 generalize hs3:({ s2 with heap:=s2.heap.push { cls:=.type "list",data:=.seq ([]:List Value).toArray },toks:=s2.toks }:aem)=s3 at I3;intro bD Bs;have Je:s3.heap=s2.heap.push { cls:=.type "list",data:=.seq ([]:List Value).toArray }:=by rw[<- hs3]
 have e3:s3.heap.objs.size=s2.heap.objs.size+1:=by rw[Je,afV]
 have Jf:∀b o,s2.heap.get? b=some o->s3.heap.get? b=some o:=fun b o e=>by rw[Je];exact aek _ e
 have Bt:∀b o,s3.heap.get? b=some o->jc.get? b=some o:=fun b o e=>Bs.extBut b o (afi (aex e)) (aek _ e)
 have adv:jc.Ns s3.heap.objs.size (fun x=>([]:List (Str×Value)).reverse.lookup x):=bD;have I4:=XO (fp:=fp) (tk:=s3.toks+([]:List (Str×Value)).length) I3 c ku wZ (fun b hb=>⟨by rw[e3];exact Nat.lt_succ_of_lt (Jd b hb),(i7 b hb).2.1,(i7 b hb).2.2.1,(i7 b hb).2.2.2.1,(i7 b hb).2.2.2.2.1⟩) adv Bt;have loop:∀s4:aem,s4={ s3 with heap:=jc,toks:=s3.toks+([]:List (Str×Value)).length } →
   ajw (model X.prog X.w) X.A (.compLoop (.ListComp elt [⟨tg,iter,ifs,0⟩] scope pos) 0 (.ref it) (.ref s2.heap.objs.size) (compEnvC scope cl s3.heap.objs.size X.env))
    (compPost (model X.prog X.w) X.A X.xe use Q' (.ref s2.heap.objs.size) s3.heap.objs.size) s4:=by
  rintro s4 rfl;refine UN (fun m s=>∃i bM Bu,Inv (bR X N scope cl s3.heap.objs.size s3 (upd H2 s2.heap.objs.size (.lst [])) fp) [] bM Bu s/\tn i s.heap/\(∀b∈fp,Bu b=none)/\W i m bM Bu) ?_ m0
   ⟨0,j7 cap σ,_,I4,T.keep _ _ _ gJ fun b hb o e=>Bt b o (Jf b o e),fun b hb=>(i7 b hb).1,w0⟩
  rintro k s5 ⟨i,gf,H5,I5,pX,xt,w5⟩;have Bv:∀{H':Hp} {ps:List (Addr×Obj)},(∀b∈fp,H' b=none)->(∀p∈ps,∀b∈fp,p.1≠b)->∀b∈fp,iq (bR X N scope cl s3.heap.objs.size s3 (upd H2 s2.heap.objs.size (.lst [])) fp) ps H' b:=fun{H' ps} hn hp b hb=>
   ⟨hn b hb,(fun z=>by have q:=Jd b hb;have z':b=s3.heap.objs.size:=z;rw[z',e3] at q;exact absurd q (Nat.not_lt.mpr (afM _))),I5.ok.lm b hb,.inl hb,fun x d hd=>(i7 b hb).2.2.2.2.1 x d (ku x d hd).1,fun p xE=>hp p (by simpa[bR] using xE) b hb⟩
  rcases turn i k gf H5 w5 with⟨stop,qn⟩ | ⟨go,step⟩
  ·refine afJ (T.done (bR X N scope cl s3.heap.objs.size s3 (upd H2 s2.heap.objs.size (.lst [])) fp) rfl rfl rfl hc i [] s5 gf H5 _ I5 (Bv xt (fun _ z=>nomatch z)) pX stop) (fun r s6 hr=>?_) fun _ _ z=>z
   obtain⟨rfl,I6⟩:=hr;exact fin s3 s6 _ H5 fp gf cl _ I3 i7 I6 qn
  ·refine afJ (T.item (bR X N scope cl s3.heap.objs.size s3 (upd H2 s2.heap.objs.size (.lst [])) fp) rfl rfl rfl hc i [] s5 gf H5 _ I5 (Bv xt (fun _ z=>nomatch z)) pX go) (fun r s6 hr=>?_) fun _ _ z=>z
   obtain⟨u,rfl,h6⟩:=hr;refine afJ h6 (fun _ s7 ⟨x,H7,I7,rx,y7,Bw,fr7⟩=>?_) fun _ _ z=>z
   have I7':=I7.pinned (Bv fr7 (fun _ z=>nomatch z)) (T.obj _ _ Bw);have back:∀{jJ:L2.St} {H8:Hp} {s8:aem},Inv (bR X N scope cl s3.heap.objs.size s3 (upd H2 s2.heap.objs.size (.lst [])) fp) ([]++qV fp s7.heap) jJ H8 s8 →
     Inv (bR X N scope cl s3.heap.objs.size s3 (upd H2 s2.heap.objs.size (.lst [])) fp) [] jJ H8 s8/\tn (i+1) s8.heap/\∀b∈fp,H8 b=none:=fun{jJ H8 s8} I8=>by
    refine⟨I8.uY,T.keep _ _ _ Bw fun b hb o e=>(I8.pin (b,o) (afe _ (afe _ (ux hb e)))).1,fun b hb=>?_⟩;obtain⟨o,e,d⟩:=T.obj _ _ Bw b hb;exact(I8.pin (b,o) (afe _ (afe _ (ux hb e)))).2.1
   refine aV (hg cl _ _ _ fp _ s7 gf H7 x u _ I7' rx (step x H7 y7)) fun _ s8 ⟨jJ,H8,I8,q8⟩=>?_
   refine aV (ht cl _ _ _ fp _ s8 jJ H8 _ I8 q8) fun ok s9 ⟨H9,I9,q9⟩=>?_
   cases ok with
   | false=>
    obtain⟨m',hm,w9⟩:=q9;obtain⟨a1,a2,a3⟩:=back I9;exact⟨m',hm,i+1,jJ,H9,a1,a2,a3,w9⟩
   | true=>
    refine aV (he cl _ _ _ fp _ s9 jJ H9 _ I9 q9) fun y s10 ⟨sH,H10,I10,r10,xs,hx,hz,m',hm,w10⟩=>?_
    refine aV (ji (X:=bR X N scope cl s3.heap.objs.size s3 (upd H2 s2.heap.objs.size (.lst [])) fp) _ s10 jJ H10 (.ref s2.heap.objs.size) [sH] (.ref s2.heap.objs.size) [y] (fun _ H'=>W (i+1) m' jJ H') I10 rfl (.cons r10 .nil) ⟨_,xs,_,rfl,rfl,hx,hz,w10⟩) fun _ s11 ⟨_,H11,I11,_,w11⟩=>?_
    obtain⟨a1,a2,a3⟩:=back I11;exact⟨m',hm,i+1,jJ,H11,a1,a2,a3,w11⟩
 exact codeAny_compStart_list (loop _ rfl) (T.self _ 0 _ _ _ (T.keep _ _ _ gJ fun b hb o e=>Bt b o (Jf b o e)) (loop _ rfl))
theorem XQ(hc:X.calm=true)(c:kr X N cap scope)(hi:PI X tg iter wi)(hg:∀cl C aN aU ex,PG (bR X N scope cl C aN aU ex) tg g)(ht:∀cl C aN aU ex,PF (bR X N scope cl C aN aU ex) ifs tc)
  (he:∀cl C aN aU ex,PE (bR X N scope cl C aN aU ex) elt te) (hs:∀x,afp iter X.env x=pure x:=by intro _;rfl):PE X (.ListComp elt [⟨tg,iter,ifs,0⟩] scope pos) (wc wi cap g tc te):=by
 intro pins s σ H Q I h;rw[eval_ListComp];refine DT hc c hi hg ht he hs I h fun s3 s6 H3 H6 fp ja cl D I3 i7 I6 q=>?_
 obtain⟨m6,Bx,_⟩:=I6.loc;exact⟨m6,Bx,fun h' sb=>⟨.ref D,H6,E6 I3 I6 sb i7,rfl,q⟩⟩
theorem XR{i:Nat}{x:Str}{pos' pL:Pos}(hN:X.N.Nodup)(iD:X.N[i]? =some x)(nR:jz X x)(hx:X.env.scope.names.lookup x=some .local)(sI:agL (.ListComp elt [⟨tg,iter,ifs,0⟩] scope pos) (some (.Name x pos')) pL.line X.env=pure true)
  (hc:X.calm=true) (c:kr X N cap scope) (hi:PI X tg iter wi) (hg:∀cl C aN aU ex,PG (bR X N scope cl C aN aU ex) tg g) (ht:∀cl C aN aU ex,PF (bR X N scope cl C aN aU ex) ifs tc)
  (he:∀cl C aN aU ex,PE (bR X N scope cl C aN aU ex) elt te) (hs:∀x,afp iter X.env x=pure x:=by intro _;rfl) :
  PS X (.Assign [.Name x pos'] (.ListComp elt [⟨tg,iter,ifs,0⟩] scope pos) pL) (wL (wc wi cap g tc te) (Af i)):=by
 intro pins s σ H D I h;rw[exec_Assign_Name_used x pos' _ pL sI];refine aeh (wpAny_standAt (aeh ?_));show wpAny (model X.prog X.w) X.A (comprehension (.ListComp elt [⟨tg,iter,ifs,0⟩] scope pos) scope X.env _ (newList []) false (eval iter X.env) (some (aiU (.Name x pos') X.env)) >>= fun _=>pure ()) _ _ s;refine aeh (DT hc c hi hg ht he hs I h fun s3 s6 H3 H6 fp ja cl Dl I3 i7 I6 q=>?_);obtain⟨m6,Bx,_⟩:=I6.loc;have adw:s6.heap.Ns s3.heap.objs.size m6:=Bx;have I7:Inv X pins σ H6 s6:=E6 (h':=s6.heap) I3 I6 ⟨rfl,fun _ _=>rfl⟩ i7;refine wpAny_assign_Name (DL I7 hN iD (.inl hx) (v:=.ref Dl) rfl (fun s8 I8 h8=>?_) ⟨.inr hx,nR⟩);obtain⟨a,sb8,ha⟩:=h8;have fresh:H6 s3.heap.objs.size=none:=I6.free;have su:s3.heap.objs.size≠X.env.locals:=ahh I3.lt;have nG:∀y d,X.env.cells.lookup y=some d->d≠s3.heap.objs.size:=fun y d e=>by
  obtain⟨v,o,ho,_⟩:=I3.cell y d e;exact afi (aex ho)
 have neP:∀p∈X.pn++pins,p.1≠s3.heap.objs.size:=fun p hp=>afi (aex (I3.pin p hp).1)
 have neA:s3.heap.objs.size≠a:=by
  rcases ha with z | z
  ·rw[z];exact su
  ·exact ahH (nG x a z)
 refine⟨m6,adw.sameBut sb8 neA,fun h' sb=>aes (aes ⟨_,H6,?_,q⟩)⟩;exact I8.turned (t':=s8.toks) (fun b o hb e=>(sb.2 b hb).trans e) fresh su (.inr I3.sz) nG neP
end
noncomputable def gD(cap:List (Option Nat))(σ:aP):aP:=cap.map fun o=>o.bind fun i=>(σ[i]?).join
noncomputable def fA(m:Mo α):Mo α:=fun ph=>match m ph with
 | .ok a ph'=>.ok a ph'
 | _=>.no
theorem qK{m:Mo α}{N:α->PH->Prop}{E':XC->PH->Prop}(h:(fA m ph).Run N E):(m ph).Run N E':=by
 unfold fA at h;cases e:m ph with
 | ok a ph'=>rw[e] at h;exact h
 | ex x ph'=>rw[e] at h;exact h.elim
 | no=>rw[e] at h;exact h
noncomputable def dQ(chk:PH->Bool)(g:GM)(c:TM)(e:EM)(L:Nat):List W->aP->Mo Unit
 | [],_=>fun ph=>if chk ph=true then .ok () ph else .no
 | x::xs,σ=>fun ph=>if chk ph=true then aw (fA (g x σ)) (fun σ1=>aw (fA (c σ1)) fun t=>if t=true then aw (fA (e σ1)) fun w=>aw (lift (dg (.ref L) [w])) fun _=>dQ chk g c e L xs σ1 else dQ chk g c e L xs σ1) ph else .no
noncomputable def cJ(im:IM)(cap:List (Option Nat))(g:GM)(c:TM)(e:EM):EM:=fun σ=>aw (im σ) fun r ph=>aw (dQ r.2 g c e ph.length r.1 (gD cap σ)) (fun _=>aB (.ref ph.length)) (ph++[.lst []])
section
variable{K:acs}{φ:Nat->Addr}{n:Nat}{H:Hp}
theorem bh.cap{ws:aP}{σ:L2.St}(h:bh K φ n H ws σ):∀(cap:List (Option Nat)),bh K φ n H (gD cap ws) (j7 cap σ)
 | []=>.nil
 | o::r=>by
  have ih:=bh.cap h r;unfold gD j7 at ih ⊢;rw[aeP,aeP];cases o with
  | none=>exact .nn ih
  | some i=>
   cases q:ws[i]? with
   | none=>simp only[afy,q,Option.join_none];exact .nn ih
   | some o=>
    cases o with
    | none=>simp only[afy,q,Option.join_some];exact .nn ih
    | some w=>
     obtain⟨v,ev,rv⟩:=h.get q;simp only[afy,q,ev,Option.join_some];exact .sm rv ih
theorem RJ{L:Nat}{w u:W}{ph ph':PH}(h:dg (.ref L) [w] ph=some (u,ph')):∃ws,ph[L]? =some (.lst ws)/\ws.length<aeD/\ph'=ph.set L (.lst (ws++[w])):=by
 unfold dg at h;simp only at h;split at h
 ·rename_i ws hw;split at h
  ·rename_i hz;cases h;exact⟨ws,hw,hz,rfl⟩
  ·cases h
 ·cases h
end
noncomputable def By(K:acs)(m:EM):TE:=fun σ H Q=>∃φ ph ws,aL K φ ph H/\bh K φ ph.length H ws σ/\(m ws ph).Run (fun w ph'=>
 ∀au H' v,aL K au ph' H'->Step K φ ph.length H au ph'.length H'->aQ K au ph'.length H' w v->Q v H') (fun _ _=>False)
noncomputable def lM(K:acs)(m:TM):TT:=fun σ H Q=>∃φ ph ws,aL K φ ph H/\bh K φ ph.length H ws σ/\(m ws ph).Run (fun b ph'=>
 ∀au H',aL K au ph' H'->Step K φ ph.length H au ph'.length H'->Q b H') (fun _ _=>False)
noncomputable def Bz(K:acs)(g:GM):TG:=fun v σ H Q=>∃φ ph ws w,aL K φ ph H/\bh K φ ph.length H ws σ/\aQ K φ ph.length H w v/\(g w ws ph).Run (fun cP ph'=>
 ∀au H' ay,aL K au ph' H'->Step K φ ph.length H au ph'.length H'->bh K au ph'.length H' cP ay->Q ay H') (fun _ _=>False)
section
variable{X:Cx}{e:Expr}
theorem e0{m:EM}(h:IE X e m):PE X e (By X.K m):=PE.imp h fun _ _ _ ⟨φ,ph,ws,a,b,c⟩=>⟨φ,ph,ws,a,b,c.mono (fun _ _ z=>z) fun _ _ z=>z.elim⟩
theorem t0{m:TM}(h:IT X e m):PT X e (lM X.K m):=PT.imp h fun _ _ _ ⟨φ,ph,ws,a,b,c⟩=>⟨φ,ph,ws,a,b,c.mono (fun _ _ z=>z) fun _ _ z=>z.elim⟩
theorem g0{g:GM}(h:IG X e g):PG X e (Bz X.K g):=PG.imp h fun _ _ _ _ ⟨φ,ph,ws,w,a,b,r,c⟩=>⟨φ,ph,ws,w,a,b,r,c.mono (fun _ _ z=>z) fun _ _ z=>z.elim⟩
end
section
variable{X:Cx}{tg iter elt:Expr}{ifs:List Expr}{scope:Scope}{pos:Pos}{N:List Str}{cap:List (Option Nat)}{im:IM}{g:GM}{c:TM}{e:EM}
theorem UO{σ:L2.St}{Q:VK}{aA:Nat->Addr}{ph1:PH}{H1:Hp}{ws:aP}{J:It}{items:List W}{chk:PH->Bool}{D:Addr}(aC:aL X.K aA ph1 H1)(hS:bh X.K aA ph1.length H1 ws σ)(hJ:Bm X.K J items chk aA ph1.length H1)(hD:H1 D=none)
  (h:(dQ chk g c e ph1.length items (gD cap ws) (ph1++[.lst []])).Run (fun _ ph'=>∀au H' v,aL X.K au ph' H'->Step X.K aA ph1.length H1 au ph'.length H'->aQ X.K au ph'.length H' (.ref ph1.length) v->Q v H') (fun _ _=>True)) :
  ∃W:Nat->Nat->L2.St->Hp->Prop,(∃m,W 0 m (j7 cap σ) (upd H1 D (.lst []))) /\
   ∀i m bM H2,W i m bM H2->(J.stop i H2/\Q (.ref D) H2)\/(J.go i H2/\∀x H3,J.sy i H2 x H3->Bz X.K g x bM H3 fun gO H4=>lM X.K c gO H4 fun b H5=>
    if b=true then By X.K e gO H5 fun v H6=>∃xs,H6 D=some (.lst xs)/\xs.length<aeD/\∃m',m'<m/\W (i+1) m' gO (upd H6 D (.lst (xs++[v]))) else ∃m',m'<m/\W (i+1) m' gO H5):=by
 have nl:=kP (ws:=[]) (vs:=[]) aC .nil hD;have hl:(ph1++[PO.lst []]).length=ph1.length+1:=by simp
 rw[hl] at nl;obtain⟨bf,s2,_⟩:=nl;refine⟨fun i m bM H2=>∃aY ph2 fE,m=(items.drop i).length/\aL X.K aY ph2 H2/\bh X.K aY ph2.length H2 fE bM/\Step X.K (ext aA ph1.length D) (ph1.length+1) (upd H1 D (.lst [])) aY ph2.length H2 /\
   (dQ chk g c e ph1.length (items.drop i) fE ph2).Run (fun _ ph'=>∀au H' v,aL X.K au ph' H'->Step X.K aY ph2.length H2 au ph'.length H'->aQ X.K au ph'.length H' (.ref ph1.length) v->Q v H') (fun _ _=>True),
  ⟨_,ext aA ph1.length D,ph1++[PO.lst []],gD cap ws,rfl,bf,?_,by rw[hl];exact Step.refl,?_⟩,?_⟩
 ·rw[hl];exact(bh.cap (hS.mono s2) cap)
 ·exact Out.Run.mono h (fun _ ph' k au H' v r' dD rv=>k au H' v r' (s2.trans (by rw[hl] at dD;exact dD)) rv) fun _ _ _=>trivial
 rintro i m bM H2 ⟨aY,ph2,fE,rfl,BA,jH,gJ,h4⟩;have adx:aY ph1.length=D:=by rw[gJ.eq _ (afH _),k6]
 cases hd:items.drop i with
 | nil=>
  rw[hd] at h4;unfold dQ at h4;split at h4
  ·rename_i hc;have hn:items[i]? =none:=by
    have:items.length<=i:=by simpa using hd
    simpa using this
   refine .inl ⟨(hJ aY _ H2 BA (s2.trans gJ) hc i).2 hn,h4 aY H2 _ BA Step.refl ?_⟩;rw[<- adx];exact .ref (aeB (afH _) gJ.le)
  ·exact h4.elim
 | cons x xs=>
  rw[hd] at h4;unfold dQ at h4;split at h4
  ·rename_i hc;have hx:items[i]? =some x:=by
    have:=congrArg (fun l=>l[0]?) hd
    simpa using this
   have nM:items.drop (i+1)=xs:=by
    have:=congrArg (fun l=>l.drop 1) hd
    simpa[List.drop_drop,ajI] using this
   obtain⟨Bn,hy⟩:=(hJ aY _ H2 BA (s2.trans gJ) hc i).1 x hx;refine .inr ⟨Bn,fun v H3 y=>?_⟩;obtain⟨dc,s3,rv⟩:=hy v H3 y;rw[cI] at h4;refine⟨aY,ph2,fE,x,dc,jH.mono s3,rv,(qK h4).mono (fun fF nN h5 hU H5 gf g9 s5 fG=>?_) fun _ _ z=>z⟩;rw[cI] at h5;refine⟨hU,nN,fF,g9,fG,(qK h5).mono (fun t BB h6 Km H6 Jg s6=>?_) fun _ _ z=>z⟩;have BC:=(s3.trans s5).trans s6;have rQ:=gJ.trans BC;cases t with
   | false=>
    refine j4 ⟨xs.length,by simp,Km,BB,fF,by rw[nM],Jg,fG.mono s6,rQ,?_⟩;rw[nM];exact Out.Run.mono h6 (fun _ ph' k au H' v r' dD q=>k au H' v r' (BC.trans dD) q) fun _ _ z=>z
   | true=>
    have Jh:(aw (fA (e fF)) (fun w=>aw (lift (dg (.ref ph1.length) [w])) fun _=>dQ chk g c e ph1.length xs fF) BB).Run _ _:=h6;rw[cI] at Jh;refine j5 ⟨Km,BB,fF,Jg,fG.mono s6,(qK Jh).mono (fun w7 ph7 h7 Kn H7 v7 Ji s7 r7=>?_) fun _ _ z=>z⟩;rw[cI] at h7;obtain⟨u8,ph8,e8,h8⟩:=run_lift h7;obtain⟨wsL,hL,hz,rfl⟩:=RJ e8;have s27:=BC.trans s7;have GX:=rQ.trans s7;have acl:Kn ph1.length=D:=by rw[GX.eq _ (afH _),k6]
    obtain⟨vs,hv,p3⟩:=Ji.hp _ _ hL;have BD:ph1.length<ph7.length:=(aen.mp hL).1;obtain⟨q1,q2⟩:=zf Ji hL (p3.append (.cons r7 .nil));rw[acl] at hv q1 q2;refine⟨vs,hv,by rw[<- p3.length];exact hz,xs.length,by simp,Kn,_,fF,by rw[nM],q1,((fG.mono s6).mono s7).mono q2,GX.trans q2,?_⟩;rw[nM];exact Out.Run.mono h8 (fun _ ph' k au H' v r' dD q=>k au H' v r' ((s27.trans q2).trans dD) q) fun _ _ z=>z
  ·exact h4.elim
theorem Em{σ:L2.St}{H:Hp}{Q:VK}(h:tM X (cJ im cap g c e) σ H Q):wc (tI X im) cap (Bz X.K g) (lM X.K c) (By X.K e) σ H Q:=by
 obtain⟨φ,ph,ws,hH,hS,h⟩:=h;unfold cJ at h;rw[cI] at h;refine⟨φ,ph,ws,hH,hS,h.mono (fun r ph1 h aA H1 J aC s1 hJ D hD=>?_) fun _ _ z=>z⟩;rw[cI] at h;exact UO aC (hS.mono s1) hJ hD (Out.Run.mono h (fun _ ph' k au H' v r' dD rv=>k au H' v r' (s1.trans dD) rv) fun _ _ _=>trivial)
theorem PF.imp{t t':TT}(h:PF X ifs t)(k:∀σ H Q,t' σ H Q->t σ H Q):PF X ifs t':=fun pins s σ H Q I q=>h pins s σ H Q I (k σ H Q q)
noncomputable def cY:TM:=fun _=>aB true
theorem aap:PF X [] (lM X.K cY):=PF.imp aan fun σ H Q h=>by
 obtain⟨φ,ph,ws,hH,hS,h⟩:=h;exact h φ H hH Step.refl
theorem aaq{cd:Expr}(h:IT X cd c):PF X [cd] (lM X.K c):=aao (t0 h)
theorem XS(hc:X.calm=true)(cp:kr X N cap scope)(hi:II X tg iter im)(hg:∀cl C aN aU ex,IG (bR X N scope cl C aN aU ex) tg g)(ht:∀cl C aN aU ex,PF (bR X N scope cl C aN aU ex) ifs (lM X.K c))
  (he:∀cl C aN aU ex,IE (bR X N scope cl C aN aU ex) elt e) (hs:∀x,afp iter X.env x=pure x:=by intro _;rfl):IE X (.ListComp elt [⟨tg,iter,ifs,0⟩] scope pos) (cJ im cap g c e):=
 PE.imp (XQ hc cp hi (fun cl C aN aU ex=>g0 (hg cl C aN aU ex)) ht (fun cl C aN aU ex=>e0 (he cl C aN aU ex)) hs) fun _ _ _ h=>Em h
theorem XT{i:Nat}{x:Str}{pos' pL:Pos}(hN:X.N.Nodup)(iD:X.N[i]? =some x)(nR:jz X x)(hx:X.env.scope.names.lookup x=some .local)
  (hc:X.calm=true) (cp:kr X N cap scope) (hi:II X tg iter im) (hg:∀cl C aN aU ex,IG (bR X N scope cl C aN aU ex) tg g) (ht:∀cl C aN aU ex,PF (bR X N scope cl C aN aU ex) ifs (lM X.K c))
  (he:∀cl C aN aU ex,IE (bR X N scope cl C aN aU ex) elt e) (sI:agL (.ListComp elt [⟨tg,iter,ifs,0⟩] scope pos) (some (.Name x pos')) pL.line X.env=pure true:=by rfl) (hs:∀x,afp iter X.env x=pure x:=by intro _;rfl) :
  IS X (.Assign [.Name x pos'] (.ListComp elt [⟨tg,iter,ifs,0⟩] scope pos) pL) (aO (cJ im cap g c e) (gN i)):=
 PS.imp (XR hN iD nR hx sI hc cp hi (fun cl C aN aU ex=>g0 (hg cl C aN aU ex)) ht (fun cl C aN aU ex=>e0 (he cl C aN aU ex)) hs) fun D σ H h=>by
  obtain⟨φ,ph,ws,hH,hS,h⟩:=h;unfold aO at h;rw[cI] at h;exact Em ⟨φ,ph,ws,hH,hS,h.mono (fun w ph1 h aA H1 v aC s1 r1=>h aA H1 aC s1 _ ((hS.mono s1).set r1 i)) fun _ _ z=>z⟩
end
noncomputable def w6:List GM->List W->aP->Mo aP
 | [],[],σ=>aB σ
 | g::gs,w::ws,σ=>aw (g w σ) fun ay=>w6 gs ws ay
 | _,_,_=>dO
noncomputable def gT(gs:List GM):GM:=fun w σ=>match w with
 | .tup ws=>w6 gs ws σ
 | _=>dO
noncomputable def sJ(X:Cx)(gs:List GM):kh:=fun vs σ H Q=>∃φ ph ws xs,aL X.K φ ph H/\bh X.K φ ph.length H ws σ/\ba X.K φ ph.length H xs vs/\(w6 gs xs ws ph).Run (fun cP ph'=>
 ∀au H' ay,aL X.K au ph' H'->Step X.K φ ph.length H au ph'.length H'->bh X.K au ph'.length H' cP ay->Q ay H') (XE X φ ph.length H)
noncomputable def j8(n:Nat)(gs:List GM):GM:=fun w σ=>match w with
 | .tup ws=>if ws.length=n then w6 gs ws σ else dO
 | _=>dO
section
variable{X:Cx}{tg:Expr}{es:List Expr}{g:GM}{gs:List GM}{pos:Pos}
theorem gH.imp{t t':kh}(h:gH X es t)(k:∀v σ H Q,t' v σ H Q->t v σ H Q):gH X es t':=fun pins s σ H v u Q I r q=>h pins s σ H v u Q I r (k v σ H Q q)
theorem XU:gH X [] (sJ X []):=gH.imp Xd fun vs σ H Q h=>by
 obtain⟨φ,ph,ws,xs,hH,hS,r,h⟩:=h;cases r with
 | nil=>exact⟨rfl,h φ H σ hH Step.refl hS⟩
 | cons _ _=>exact h.elim
theorem Wm{e:Expr}(h1:IG X e g)(h2:gH X es (sJ X gs))(hs:(afK (e::es) X.env).map (·.2)=aiU e X.env::(afK es X.env).map (·.2):=by rfl):gH X (e::es) (sJ X (g::gs)):=
 gH.imp (V3 h1 h2 hs) fun vs σ H Q h=>by
  obtain⟨φ,ph,ws,xs,hH,hS,r,h⟩:=h;cases r with
  | nil=>exact h.elim
  | cons fZ rr=>
   refine⟨_,_,rfl,tG.bind hH hS fZ h fun jG ph1 aA H1 σ1 aC s1 km h1=>?_⟩;exact⟨aA,ph1,jG,_,aC,km,rr.mono s1,h1.mono (fun cP ph' k au H' ay r' s' q=>k au H' ay r' (s1.trans s') q) fun _ _ z=>z⟩
theorem aar{k n:Nat}(hc:X.calm=true)(h:gH X es (sJ X gs))(hn:(afK es X.env).length=n:=by rfl)(g8:(afK es X.env).findIdx? (·.1)=none:=by rfl):IG X (.Tuple es k pos) (j8 n gs):=
 PG.imp (Zi hc h hn g8) fun v σ H Q h=>by
  obtain⟨φ,ph,ws,w,hH,hS,r,h⟩:=h;unfold j8 at h;cases r with
  | tup hq r=>
   simp only at h;split at h
   ·rename_i hl;exact⟨_,_,rfl,bJ.of hq,by rw[<- r.length];exact hl,φ,ph,ws,_,hH,hS,r,h⟩
   ·exact h.elim
  | _=>exact h.elim
noncomputable def HI(o i v:W):Po Unit:=fun ph=>match o,i with
 | .ref r,.int k=>match ph[r]? with
  | some (.lst ws)=>match fY ws.length k with
   | some j=>some ((),ph.set r (.lst (ws.set j v)))
   | none=>none
  | _=>none
 | _,_=>none
end
noncomputable def fU(ws:List W)(lo hi:Option Int):List W:=(ws.drop (HT.bj ws.length 0 lo)).take (HT.bj ws.length ws.length hi-HT.bj ws.length 0 lo)
theorem zF(r:ba K φ n H ws vs)(lo hi:Option Int):ba K φ n H (fU ws lo hi) (lq vs lo hi):=by
 unfold fU lq;rw[r.length];exact(r.drop _).take _
noncomputable def hG(w:W)(lo hi:Option Int):Po W:=fun ph=>match w with
 | .tup ws=>if HT.bj ws.length 0 lo=0/\HT.bj ws.length ws.length hi=ws.length then none else some (.tup (fU ws lo hi),ph)
 | .fl ws=>some (.ref ph.length,ph++[.lst (fU ws lo hi)])
 | .ref i=>match ph[i]? with
  | some (.lst ws)=>some (.ref ph.length,ph++[.lst (fU ws lo hi)])
  | _=>none
 | _=>none
abbrev OM:=aP->Mo (Option Int)
noncomputable def d8:OM:=fun _=>aB none
noncomputable def cK(m:EM):OM:=fun σ=>aw (m σ) fun w=>lift (match w with
 | .int i=>ret (some i)
 | _=>eZ)
noncomputable def c5(m:EM)(lo hi:OM):EM:=fun σ=>aw (m σ) fun w=>aw (lo σ) fun l=>aw (hi σ) fun h=>lift (hG w l h)
noncomputable def tO(X:Cx)(m:OM):TO:=fun σ H Q=>∃φ ph ws,aL X.K φ ph H/\bh X.K φ ph.length H ws σ/\(m ws ph).Run (fun o ph'=>
 ∀au H',aL X.K au ph' H'->Step X.K φ ph.length H au ph'.length H'->Q o H') (XE X φ ph.length H)
abbrev sL(X:Cx)(e:Option Expr)(m:OM):Prop:=L2.PO X e (tO X m)
section
variable{X:Cx}{e:Expr}{lo hi:Option Expr}{m:EM}{ml mh:OM}{pos p2:Pos}
theorem XW:sL X none d8:=fun pins s σ H Q I ⟨φ,ph,ws,hH,hS,h⟩=>Xn pins s σ H Q I (h φ H hH Step.refl)
theorem XX(he:IE X e m):sL X (some e) (cK m):=fun pins s σ H Q I ⟨φ,ph,ws,hH,hS,h⟩=>Xo he pins s σ H Q I (tM.bind hH hS h fun w ph1 aA H1 v aC s1 r1 h=>by
 obtain⟨o,ph',e,k⟩:=run_lift h;split at e
 ·cases e;cases r1;exact⟨_,rfl,k aA H1 aC s1⟩
 ·cases e)
theorem tO.bind{β:Type}{m:OM}{σ:L2.St}{H:Hp}{Q:Option Int->Hp->Prop}{φ:Nat->Addr}{ph:PH}{ws:aP}{f:Option Int->Mo β}{N:β->PH->Prop}(hH:aL X.K φ ph H)(hS:bh X.K φ ph.length H ws σ)(h:(aw (m ws) f ph).Run N (XE X φ ph.length H))
  (k:∀b ph1 aA H1,aL X.K aA ph1 H1->Step X.K φ ph.length H aA ph1.length H1->(f b ph1).Run N (XE X aA ph1.length H1)->Q b H1):tO X m σ H Q:=by
 rw[cI] at h;exact⟨φ,ph,ws,hH,hS,h.mono (fun b ph1 h1 aA H1 aC s1=>k b ph1 aA H1 aC s1 (h1.mono (fun _ _ z=>z) fun _ _ z=>z.step s1)) fun _ _ z=>z⟩
theorem acm(he:IE X e m)(hl:sL X lo ml)(hh:sL X hi mh):IE X (.Subscript e (.Slice lo hi none p2) pos) (c5 m ml mh):=
 PE.imp (Wc (lH.or vH Xr) he hl hh) fun σ H Q h=>by
  obtain⟨φ,ph,ws,hH,hS,h⟩:=h;refine tM.bind hH hS h fun w ph1 aA H1 v aC s1 r1 h=>tO.bind aC (hS.mono s1) h fun l ph2 aY H2 bf s2 h=>tO.bind bf ((hS.mono s1).mono s2) h fun u fc fj H3 dc s3 h=>?_
  obtain⟨w',ph',e,k⟩:=run_lift h;have r3:=(r1.mono s2).mono s3;have BE:=(s1.trans s2).trans s3;unfold hG at e;cases r3 with
  | tup hq r=>
   simp only at e;split at e
   ·cases e
   ·rename_i hw;cases e;refine .inl ⟨_,_,rfl,bJ.of hq,by rw[<- r.length];exact hw,fun p hp=>?_⟩;exact k fj _ _ (dc.tup hp) (BE.trans (gv hp)) (.tup bZ ((zF r l u).mono (gv hp)))
  | fl hq r=>
   cases e;refine .inr ⟨_,_,rfl,hq.sq,fun p hp=>?_⟩;obtain⟨q1,q2,q3⟩:=kP dc (zF r l u) hp;exact k _ _ _ q1 (BE.trans q2) q3
  | ref iD=>
   simp only at e;split at e
   ·rename_i cP hw;cases e;obtain⟨vs,hv,r⟩:=dc.hp _ _ hw;refine .inr ⟨_,_,rfl,bC.of hv,fun p hp=>?_⟩;obtain⟨q1,q2,q3⟩:=kP dc (zF r l u) hp;exact k _ _ _ q1 (BE.trans q2) q3
   ·cases e
  | _=>cases e
end
noncomputable def pb:List W->Po W:=fun xs ph=>match xs with
 | [w]=>match cL w ph with
  | some ws=>some (.ref ph.length,ph++[.lst ws])
  | none=>none
 | _=>none
theorem XY:ig K (fun xs H Q=>∃p ys,xs=[.ref p]/\(bC K H p ys\/bJ K H p ys)/\∀l,H l=none->Q (.ref l) (upd H l (.lst ys))) pb:=by
 intro φ ph H xs vs w ph' Q hH r e k;unfold pb at e;split at e
 ·split at e
  ·rename_i w0 ws hw;cases e;cases r with
   | cons r r'=>
    cases r';obtain⟨a,ys,rfl,hs,rs⟩:=ze hH r hw;refine⟨a,ys,rfl,hs,fun l hl=>?_⟩;obtain⟨q1,q2,q3⟩:=kP hH rs hl;exact k _ _ _ q1 q2 q3
  ·cases e
 ·cases e
noncomputable def acn:List W->Po W:=fun xs=>match xs with
 | [.int i,.int j]=>ret (.int (if j>i then j else i))
 | _=>eZ
noncomputable def aco:List W->Po W:=fun xs=>match xs with
 | [.int i,.int j]=>ret (.int (if j<i then j else i))
 | _=>eZ
noncomputable def iM(f f':W->W->Po W)(a b c:EM):EM:=fun σ=>aw (a σ) fun x=>aw (b σ) fun y=>aw (lift (f x y)) fun z=>match z with
 | .bl k=>if k=true then aw (c σ) fun u=>lift (f' y u) else aB (.bl false)
 | _=>dO
section
variable{X:Cx}{a b c:Expr}{ma mb mc:EM}{pos:Pos}{op dE:CmpOp}{r r':R2}{f f':W->W->Po W}
theorem DU(hi:cD X.K r f)(iD:cD X.K r' f'){σ:L2.St}{H:Hp}{Q:VK}(h:tM X (iM f f' ma mb mc) σ H Q):zS r r' (tM X ma) (tM X mb) (tM X mc) σ H Q:=by
 obtain⟨φ,ph,ws,hH,hS,h⟩:=h;refine tM.bind hH hS h fun x ph1 aA H1 vx aC s1 rx h=>tM.bind aC (hS.mono s1) h fun y ph2 aY H2 vy bf s2 ry h=>?_
 rw[cI] at h;obtain⟨z,fc,e,h⟩:=run_lift h;refine hi bf (rx.mono s2) ry e fun fj H3 vz dc s3 rz=>?_
 have hS3:=((hS.mono s1).mono s2).mono s3;cases rz with
 | bl k=>
  refine⟨k,rfl,?_⟩;cases k with
  | false=>exact j4 (h fj H3 _ dc ((s1.trans s2).trans s3) (.bl false))
  | true=>
   have h':(aw (mc ws) (fun u=>lift (f' y u)) fc).Run (fun w ph'=>∀au H' v,aL X.K au ph' H'->Step X.K φ ph.length H au ph'.length H'->aQ X.K au ph'.length H' w v->Q v H') (XE X fj fc.length H3):=Out.Run.mono h (fun _ _ z=>z) fun _ _ z=>z.step s3
   refine j5 (tM.bind dc hS3 h' fun u lJ qh H4 vu Bo s4 ru h=>?_);obtain⟨w,ph',e',k'⟩:=run_lift h;exact iD Bo ((ry.mono s3).mono s4) ru e' fun hU H5 v g9 s5 r5=>k' hU H5 v g9 ((((s1.trans s2).trans s3).trans s4).trans s5) r5
 | _=>exact h.elim
theorem Wn(ho:bx X (afh op) r)(hi:cD X.K r f)(dM:bx X (afh dE) r')(iD:cD X.K r' f')(ha:IE X a ma)(hb:IE X b mb)(hc:IE X c mc)(hm:aiB [op,dE] [b,c]=false:=by with_unfolding_all rfl) :
  IE X (.Compare a [op,dE] [b,c] pos) (iM f f' ma mb mc):=PE.imp (V6 ho dM ha hb hc hm) fun _ _ _ h=>DU hi iD h
theorem Wo(ho:bx X (afh op) r)(hi:cD X.K r f)(dM:bx X (afh dE) r')(iD:cD X.K r' f')(ha:IE X a ma)(hb:IE X b mb)(hc:IE X c mc)(hm:aiB [op,dE] [b,c]=false:=by with_unfolding_all rfl) :
  IT X (.Compare a [op,dE] [b,c] pos) (eT (iM f f' ma mb mc)):=PT.imp (V7 ho dM ha hb hc hm) fun σ H Q h=>by
 obtain⟨φ,ph,ws,hH,hS,h⟩:=h;refine DU hi iD (tM.bind hH hS h fun x ph1 aA H1 vx aC s1 rx h=>?_);obtain⟨w,ph',e,k⟩:=run_lift h;split at e
 ·cases e;cases rx;exact⟨_,rfl,k aA H1 aC s1⟩
 ·cases e
end
structure fH(X:Cx)(N:List Str)(sc:Scope):Prop where
 hN:X.N=N
 nS:∀x,aH sc x->aH X.env.scope x
 loc:∀x,Loc sc x->Loc X.env.scope x
 gl:∀x,sc.names.lookup x=some .globalImplicit->Gl X x
 fn:∀x,Loc sc x->(X.fn x=true\/X.env.scope.names.lookup x=some .local)/\jz X x
 nd:N.Nodup
structure f7(X:Cx)(N:List Str)(sc:Scope)(k:Nat):Prop extends fH X N sc where
 calm:X.calm=true
 room:cO k X.A
structure Bd(X:Cx)(N:List Str)(sc:Scope)(k:Nat):Prop extends f7 X N sc k where
 AV:aiA (model X.prog X.w) X.A X.env X.xe
section
variable{X:Cx}{N:List Str}{sc:Scope}{k:Nat}{pos:Pos}
theorem fH.var(B:fH X N sc)(i:Nat){x:Str}(hN:N[i]? =some x)(hv:aH sc x)(hd:(x==("__debug__":Str))=false)(hcd:(x==("__classdict__":Str))=false):IE X (.Name x pos) (ae i):=
 ZN i (hN:=by rw[B.hN];exact hN) (hv:=B.nS x hv) (hd:=hd) (hcd:=hcd)
theorem fH.name(B:fH X N sc)(i:Nat){x:Str}(hN:N[i]? =some x)(hl:Loc sc x):IG X (.Name x pos) (gN i):=
 Xx (by rw[B.hN];exact B.nd) (by rw[B.hN];exact hN) (B.loc x hl) (B.fn x hl)
theorem fH.set(B:fH X N sc)(i:Nat){x:Str}{e:Expr}{m:EM}{pos':Pos}(hN:N[i]? =some x)(hl:Loc sc x)(he:IE X e m)(hs:agL e (some (.Name x pos')) pos.line X.env=pure false:=by rfl):IS X (.Assign [.Name x pos'] e pos) (aO m (gN i)):=
 Z2 (by rw[B.hN];exact B.nd) (by rw[B.hN];exact hN) (B.loc x hl) he hs (B.fn x hl)
theorem Bd.ady(B:Bd X N sc k){iter tg:Expr}{im:IM}{g:GM}{b:SM}{body:List Stmt}(hi:II X tg iter im)(hg:IG X tg g)(hb:gL X body b)(hs:∀x,afp iter X.env x=pure x:=by intro _;rfl):IS X (.For tg iter body [] pos) (iu im g b):=
 Z4 B.AV B.calm hi hg hb hs
theorem Bd.aas(B:Bd X N sc k){c:Expr}{t:TM}{b:SM}{body:List Stmt}(hc:IT X c t)(hb:gL X body b):IS X (.While c body [] pos) (eD t b):=Wi B.AV hc hb
theorem Ce{env:Env}{x:Str}:∀{names:List (Str×agW)},names.lookup x=some .globalImplicit →
  (names.map fun(n,k)=>if(k==aeM&&env.scope.kind==.function&&env.kindOf n==some .cell) then(n,afT) else(n,k)).lookup x=some .globalImplicit
 | [],h=>by cases h
 | (n,k)::r,h=>by
  show afQ x ((if(k==aeM&&env.scope.kind==.function&&env.kindOf n==some .cell)=true then(n,afT) else(n,k))::_)=_;rw[aeH] at h;cases q:x==n with
  | true=>
   rw[q] at h;cases h;have sF:¬((aik==aeM&&env.scope.kind==.function&&env.kindOf n==some .cell)=true):=by
    rw[show(aik==aeM)=false from rfl,aiV,aiV];exact aeK
   rw[if_neg sF,aeH,q]
  | false=>
   rw[q] at h;have ih:=Ce (env:=env) h;split
   ·rw[aeH,q];exact ih
   ·rw[aeH,q];exact ih
theorem Bd.bR(B:Bd X N sc k){N':List Str}{scope:Scope}{cl:List (Str×Addr)}{C:Addr}{aN:aem}{aU:Hp}{ex:List Addr}(hc:∀y∈scope.names,y.2≠.cell)(nd:N'.Nodup):Bd (bR X N' scope cl C aN aU ex) N' scope k where
 hN:=rfl
 nS:=fun x h=>by
  rcases h with h | h | h
  ·exact .inl (ahC (env:=X.env) h)
  ·exact absurd rfl (hc _ (mem_lookup h))
  ·exact .inr (yg (env:=X.env) h)
 loc:=fun x h=>by
  rcases h with h | h
  ·exact .inl (ahC (env:=X.env) h)
  ·exact absurd rfl (hc _ (mem_lookup h))
 gl:=fun x h=>Ce (env:=X.env) h
 calm:=B.calm
 room:=B.room
 fn:=fun x h=>by
  rcases h with h | h
  ·exact⟨.inr (ahC (env:=X.env) h),fun _ _ _ _ _=>trivial⟩
  ·exact absurd rfl (hc _ (mem_lookup h))
 AV:=PassesOwn.never
 nd:=nd
noncomputable def GY(sc scope:Scope)(N N':List Str)(cap:List (Option Nat)):Bool:=
 cap.length==N'.length&&(afr N'.length).all (fun i=>match cap[i]? with
  | some (some j)=>(match N'[i]? with
   | some x=>N[j]? ==some x&&scope.names.lookup x==some .free&&(sc.names.lookup x==some .cell||sc.names.lookup x==some .free)
   | none=>false)
  | _=>true)&&scope.names.all (fun y=>y.2 != .cell&&(y.2 != .free||sc.names.lookup y.1==some .cell||sc.names.lookup y.1==some .free)&&(y.2 != .local||scope.names.lookup y.1==some .local))&&scope.kind==.function
theorem Bd.cap(hN:X.N=N)(aF:X.env.scope=sc){N':List Str}{scope:Scope}{cap:List (Option Nat)}(h:GY sc scope N N' cap=true):kr X N' cap scope:=by
 unfold GY at h;simp only[aev,afz,beq_iff_eq,bne_iff_ne,ahn,ne_eq] at h;obtain⟨⟨⟨h1,h2⟩,h3⟩,h4⟩:=h;have hk:∀x,X.env.kindOf x=sc.names.lookup x:=fun x=>by unfold Env.kindOf;rw[aF]
 refine⟨h1,fun i j x e1 e2=>?_,fun y hy hf=>?_,fun y hy=>(h3 y hy).1.1,h4,fun y hy hl=>?_⟩
 ·have hi:i<N'.length:=(aen.mp e1).1;have:=h2 i (aha.mpr hi);rw[e2,e1] at this;simp only[aev,beq_iff_eq,ahn] at this;obtain⟨⟨a1,a2⟩,a3⟩:=this;rw[hN,hk];exact⟨a1,a2,a3⟩
 ·rw[hk]
  rcases(h3 y hy).1.2 with(z | z) | z
  ·exact absurd hf z
  ·exact .inl z
  ·exact .inr z
 ·rcases(h3 y hy).2 with z | z
  ·exact absurd hl z
  ·exact z
end
noncomputable def isStar:Expr->Bool
 | .Starred .. =>true
 | _=>false
theorem eU{e:Expr}{es:List Expr}(h:isStar e=false):aeS (e::es) env=(false,eval e env)::aeS es env:=by
 cases e <;> first | rfl | cases h
noncomputable def dh(es:List Expr):Bool:=es.all fun e=> !isStar e
theorem any_none{env:Env}{pos:Pos}:∀{es:List Expr},dh es=true->(ahx pos (aeS es env)).any (·.1)=false
 | [],_=>rfl
 | e::es,h=>by
  unfold dh at h;rw[afG,aev] at h;have h1:isStar e=false:=by simpa using h.1
  rw[eU h1];show(false||(ahx pos (aeS es env)).any (·.1))=false;rw[any_none (es:=es) h.2];rfl
theorem all_none{env:Env}{pos:Pos}:∀{es:List Expr},dh es=true->(ahx pos (aeS es env)).all (fun x=> !x.1)=true
 | [],_=>rfl
 | e::es,h=>by
  unfold dh at h;rw[afG,aev] at h;have h1:isStar e=false:=by simpa using h.1
  rw[eU h1];show(!false&&(ahx pos (aeS es env)).all (fun x=> !x.1))=true;rw[all_none (es:=es) h.2];rfl
section
variable{X:Cx}{e:Expr}{es:List Expr}{m:EM}{a:AM}{pos:Pos}
theorem adz(h:isStar e=false)(he:IE X e m)(hr:IA X es a):IA X (e::es) (ag m a):=XB he hr (eU h)
end
section
variable{X:Cx}{k:Nat}{f:Addr}{fd:aeT}{ps:List Str}{fm:List W->Mo W}{x:Str}{p pos:Pos}{e:Expr}{es:List Expr}{a:AM}
theorem aat(hn:dh (e::es)=true)(cf:(x==("__debug__":Str))=false)(F:bF X.prog X.w X.K X.mg X.base (bE X.prog X.w) k f fd ps (bP X.K X.mg ps.length fm))(hl:∀{xs:List W} {ph:PH},xs.length≠ps.length->fm xs ph=.no)(hr:cO k X.A)(hg:Gl X x)(hm:X.mg x=some (.ref f))
  (hk:aeu X.K (.ref f)=true) (hb:Binds X.K fd ps []) (ha:IA X (e::es) a):IE X (.Call (.Name x p) (e::es) [] pos) (aJ fm a):=by
 unfold dh at hn;rw[afG,aev] at hn;exact XF F hl hr hg hm hk hb ha cf (eU (by simpa using hn.1)) (any_none hn.2)
variable{t:AM}{id T:String}{r:List V->Hp->VK->Prop}{fp:List W->Po W}
theorem aau(bD:dh (e::es)=true)(hn:x≠"__name__")(cf:(x==("__debug__":Str))=false)(hc:cR X (.builtin id) r)(hi:ig X.K r fp)(hg:Gl X x)(hm:X.mg x=none)(hv:afv x=some (.builtin id))(ha:IA X (e::es) t):IE X (.Call (.Name x p) (e::es) [] pos) (bv fp t):=by
 unfold dh at bD;rw[afG,aev] at bD;exact Wj hc hi hg hm hv ha hn cf (eU (by simpa using bD.1)) (any_none bD.2)
theorem aav(bD:dh (e::es)=true)(hn:x≠"__name__")(cf:(x==("__debug__":Str))=false)(hc:cR X (.type T) r)(hi:ig X.K r fp)(hg:Gl X x)(hm:X.mg x=none)(hv:afv x=some (.type T))(ha:IA X (e::es) t):IE X (.Call (.Name x p) (e::es) [] pos) (bv fp t):=by
 unfold dh at bD;rw[afG,aev] at bD;exact UM hc hi hg hm hv ha hn cf (eU (by simpa using bD.1)) (any_none bD.2)
end
section
variable{X:Cx}{o e:Expr}{es:List Expr}{mo:EM}{t:AM}{name:Str}{apos dA:Pos}{T id:String}{r:V->List V->Hp->VK->Prop}{ty:W->PH->Bool}{f:W->List W->Po W}
theorem aaw(bD:dh (e::es)=true)(b6:decide ((e::es).length<30)=true)(pa:ajy T)(slot:Slot T name id)(kl:typeOf (.builtin id)=pure (.type "method_descriptor"))(hm:nJ X id r)(ht:nO X.K T ty)(hi:lK X.K T r f)(ho:IE X o mo)(ha:IA X (e::es) t)
  (mW:agA o name X.env (eval o X.env)=eval o X.env:=by rfl) (mX:(apos.endLine==dA.line)=true:=by rfl):IE X (.Call (.Attribute o name apos) (e::es) [] dA) (bS ty f mo t):=by
 have AO:=all_none (env:=X.env) (pos:=dA) bD;unfold dh at bD;rw[afG,aev] at bD;refine acf pa slot kl hm ht hi ho ha mW ?_ mX (eU (by simpa using bD.1)) (any_none bD.2);rw[AO,show(backToKw dA (ajb [] X.env)).all (fun x=>x.1.isSome)=true from rfl]
 simpa using b6
end
structure JE(X:Cx)(e:Expr)(m:EM):Prop where
 h:IE X e m
structure JT(X:Cx)(e:Expr)(m:TM):Prop where
 h:IT X e m
structure JW(X:Cx)(e:Expr)(m:TM):Prop where
 h:PW X e (tT X m)
structure JA(X:Cx)(es:List Expr)(m:AM):Prop where
 h:IA X es m
structure JS(X:Cx)(st:Stmt)(m:SM):Prop where
 h:IS X st m
structure JB(X:Cx)(st:List Stmt)(m:SM):Prop where
 h:gL X st m
structure JG(X:Cx)(e:Expr)(g:GM):Prop where
 h:IG X e g
structure xF(X:Cx)(es:List Expr)(gs:List GM):Prop where
 h:gH X es (sJ X gs)
structure JI(X:Cx)(tg iter:Expr)(im:IM):Prop where
 h:II X tg iter im
structure JO(X:Cx)(e:Option Expr)(m:OM):Prop where
 h:sL X e m
structure JF(X:Cx)(ifs:List Expr)(c:TM):Prop where
 h:PF X ifs (lM X.K c)
section
variable{X:Cx}{N:List Str}{sc:Scope}{k:Nat}{a b c e o:Expr}{es rest:List Expr}{ma mb mc m mo:EM}{ta tb t:TM}{am:AM}{sa sb:SM}{st:Stmt}{as bs body:List Stmt}{p p2 pos pos':Pos}{g:GM}{gs:List GM}{im:IM}{tg iter:Expr}
theorem fH.adA(B:fH X N sc)(i:Nat){x:Str}(hN:N[i]? =some x)(hv:aH sc x)(hd:(x==("__debug__":Str))=false)(hcd:(x==("__classdict__":Str))=false):JE X (.Name x pos) (ae i):=⟨B.var i hN hv hd hcd⟩
variable{j:Nat}
theorem ao{i:Int}:JE X (.Constant (.int i) j pos) (eC (.int i)):=⟨ZO⟩
theorem aT{x:Str}:JE X (.Constant (.str x) j pos) (eC (.str x)):=⟨ZP⟩
theorem jW{x:Bool}:JE X (.Constant (.bool x) j pos) (eC (.bl x)):=⟨ab6⟩
theorem FT:JE X (.Constant .none j pos) (eC .aE):=⟨ZQ⟩
theorem jQ{x:Str}{i:Int}{tk:Tok}(hg:Gl X x)(hm:X.mg x=some (.int i tk))(hd:(x==("__debug__":Str))=false):JE X (.Name x pos) (eC (.int i)):=⟨nq (qQ (v:=.int i) hg hm ⟨_,rfl⟩ hd) fun _ _ _=>.int i⟩
theorem XZ{x y:Str}{tk:Tok}(hg:Gl X x)(hm:X.mg x=some (.str y tk))(hd:(x==("__debug__":Str))=false):JE X (.Name x pos) (eC (.str y)):=⟨nq (qQ (v:=.str y) hg hm ⟨_,rfl⟩ hd) fun _ _ _=>.str y⟩
theorem jo(ha:JE X a ma):JE X (.UnaryOp .USub a pos) (da cZ ma):=⟨ab7 Zr aab ha.h⟩
theorem aax(ha:JE X a ma):JE X (.UnaryOp .Not a pos) (wW ma):=⟨ZZ ha.h⟩
theorem cb(ha:JE X a ma)(hb:JE X b mb):JE X (.BinOp a .Add b pos) (af addW ma mb):=⟨rl XG aag ha.h hb.h⟩
theorem iN(ha:JE X a ma)(hb:JE X b mb):JE X (.BinOp a .Sub b pos) (af fv ma mb):=⟨rl Zp aac ha.h hb.h⟩
theorem bQ(ha:JE X a ma)(hb:JE X b mb):JE X (.BinOp a .Mod b pos) (af aR ma mb):=⟨rl Xf aad ha.h hb.h⟩
theorem cj(ha:JE X a ma)(hb:JE X b mb):JE X (.BinOp a .FloorDiv b pos) (af bg ma mb):=⟨rl Wl aae ha.h hb.h⟩
structure Cp(X:Cx)(op:CmpOp)(b:Expr)(f:W->W->Po W):Prop where
 ex:∃r,bx X (afh op) r/\cD X.K r f
 bm:afE op b=false
theorem iS:Cp X .Lt b eN:=⟨⟨_,abU,zW⟩,oO _⟩
theorem jX:Cp X .LtE b fe:=⟨⟨_,abV,zW⟩,oO _⟩
theorem Al:Cp X .Gt b pZ:=⟨⟨_,abW,zW⟩,oO _⟩
theorem f7.eq(B:f7 X N sc k):Cp X .Eq b aS:=⟨⟨_,aaj B.room.units,ach⟩,oO _⟩
theorem f7.ne(B:f7 X N sc k):Cp X .NotEq b cz:=⟨⟨_,aak B.room.units,aci⟩,oO _⟩
theorem acp:Cp X .Is b nv:=⟨⟨_,Zs,aah⟩,oO _⟩
variable{f:W->W->Po W}
theorem oS{op:CmpOp}(hc:Cp X op b f)(ha:JE X a ma)(hb:JE X b mb):JE X (.Compare a [op] [b] pos) (af f ma mb):=let ⟨_,h1,h2⟩:=hc.ex;⟨ZR h1 h2 ha.h hb.h hc.bm⟩
theorem aW{op:CmpOp}(hc:Cp X op b f)(ha:JE X a ma)(hb:JE X b mb):JT X (.Compare a [op] [b] pos) (eT (af f ma mb)):=let ⟨_,h1,h2⟩:=hc.ex;⟨ZS h1 h2 ha.h hb.h hc.bm⟩
theorem En{op dE:CmpOp}{f':W->W->Po W}(h1:Cp X op b f)(h2:Cp X dE c f')(hm:aiB [op,dE] [b,c]=false)(ha:JE X a ma)(hb:JE X b mb)(hc:JE X c mc):JE X (.Compare a [op,dE] [b,c] pos) (iM f f' ma mb mc):=
 let ⟨_,q1,q2⟩:=h1.ex;let ⟨_,q3,q4⟩:=h2.ex;⟨Wn q1 q2 q3 q4 ha.h hb.h hc.h hm⟩
theorem Eo{op dE:CmpOp}{f':W->W->Po W}(h1:Cp X op b f)(h2:Cp X dE c f')(hm:aiB [op,dE] [b,c]=false)(ha:JE X a ma)(hb:JE X b mb)(hc:JE X c mc):JT X (.Compare a [op,dE] [b,c] pos) (eT (iM f f' ma mb mc)):=
 let ⟨_,q1,q2⟩:=h1.ex;let ⟨_,q3,q4⟩:=h2.ex;⟨Wo q1 q2 q3 q4 ha.h hb.h hc.h hm⟩
theorem oT{op:BoolOp}(ha:JE X a ma):JE X (.BoolOp op [a] pos) ma:=⟨ZY ha.h⟩
theorem qX(ha:JE X a ma)(hb:JE X (.BoolOp .And (b::rest) pos) mb):JE X (.BoolOp .And (a::b::rest) pos) (j6 ma mb):=⟨ZX ha.h hb.h⟩
theorem acq(ha:JE X a ma)(hb:JE X (.BoolOp .Or (b::rest) pos) mb):JE X (.BoolOp .Or (a::b::rest) pos) (xB ma mb):=⟨aca ha.h hb.h⟩
theorem d7{op:BoolOp}(ha:JT X a ta):JW X (.BoolOp op [a] pos) ta:=⟨ZV ha.h⟩
theorem k7(ha:JT X a ta)(hb:JW X (.BoolOp .And (b::rest) pos) tb):JW X (.BoolOp .And (a::b::rest) pos) (c8 ta tb):=⟨ZW ha.h hb.h⟩
theorem fQ(ha:JT X a ta)(hb:JW X (.BoolOp .Or (b::rest) pos) tb):JW X (.BoolOp .Or (a::b::rest) pos) (cU ta tb):=⟨ab9 ha.h hb.h⟩
theorem ej(h:JW X a ta):JT X a ta:=⟨h.h.pt⟩
theorem fN(ha:JT X a ta):JT X (.UnaryOp .Not a pos) (dj ta):=⟨ZU ha.h⟩
noncomputable def plainT:Expr->Bool
 | .Name .. =>true | .Call .. =>true | .Subscript .. =>true | .Constant .. =>true | .BinOp .. =>true
 | _=>false
theorem fO(hp:plainT a=true)(ha:JE X a ma):JT X a (dq ma):=⟨by
 cases a <;> first | cases hp;done | exact Z0 ha.h⟩
theorem we(hc:JT X c ta)(ha:JE X a ma)(hb:JE X b mb):JE X (.IfExp c a b pos) (jF ta ma mb):=⟨acb hc.h ha.h hb.h⟩
theorem az:JA X [] ai:=⟨Z7⟩
theorem aj(h:isStar e=false)(he:JE X e m)(hr:JA X es am):JA X (e::es) (ag m am):=⟨adz h he.h hr.h⟩
theorem cT{x1:Nat}(h:JA X es am):JE X (.Tuple es x1 pos) (bH am):=⟨Z8 h.h⟩
theorem du(h:JA X es am):JE X (.List es pos) (bT am):=⟨Z9 h.h⟩
theorem mK:JO X none d8:=⟨XW⟩
theorem iI(he:JE X e m):JO X (some e) (cK m):=⟨XX he.h⟩
theorem jY{lo hi:Option Expr}{ml mh:OM}(he:JE X e m)(hl:JO X lo ml)(hh:JO X hi mh):JE X (.Subscript e (.Slice lo hi none p2) pos) (c5 m ml mh):=⟨acm he.h hl.h hh.h⟩
theorem bG:JB X [] bu:=⟨Xt⟩
theorem aK{rs:List Stmt}(h1:JS X st sa)(h2:JB X rs sb):JB X (st::rs) (aD sa sb):=⟨Wg h1.h h2.h⟩
theorem aG(h1:JS X st sa):JB X [st] sa:=⟨Xv h1.h⟩
theorem zh:JS X st qW:=⟨Wh⟩
theorem bo(he:JE X e m):JS X (.Return (some e) pos) (bc m):=⟨Z1 he.h⟩
noncomputable def vI:Expr->Bool
 | .ListComp .. =>false | .SetComp .. =>false | .DictComp .. =>false
 | _=>true
theorem zi{x:Option Expr}{n:Nat}{env:Env}(h:vI e=true):agL e x n env=pure false:=by
 cases e <;> first | rfl | cases h
theorem gV(hn:vI e=true)(he:JE X e m):JS X (.Expr e pos) (dm m):=⟨Xw he.h (zi hn)⟩
theorem bi(hc:JT X c t)(ha:JB X as sa)(hb:JB X bs sb):JS X (.If c as bs pos) (aX t sa sb):=⟨acd hc.h ha.h hb.h⟩
theorem fH.bI(B:fH X N sc)(i:Nat){x:Str}(hN:N[i]? =some x)(hl:Loc sc x)(hn:vI e=true)(he:JE X e m):JS X (.Assign [.Name x pos'] e pos) (aO m (gN i)):=⟨B.set i hN hl he.h (zi hn)⟩
theorem k8(he:JE X e m)(hg:JG X tg g)(hs:swapsWithSole [tg] e pos.line X.env=pure false:=by rfl)(hw:swappedStores [tg] e X.env=pure none:=by rfl)
  (h1:(afK [tg] X.env).map (·.2)=[aiU tg X.env]:=by rfl):JS X (.Assign [tg] e pos) (aO m g):=⟨Z3 he.h hg.h hs hw h1⟩
theorem fH.d9(B:fH X N sc)(i:Nat){x:Str}(hN:N[i]? =some x)(hl:Loc sc x):JG X (.Name x pos) (gN i):=⟨B.name i hN hl⟩
theorem zG:xF X [] []:=⟨XU⟩
theorem oC(h1:JG X e g)(h2:xF X es gs)(hs:(afK (e::es) X.env).map (·.2)=aiU e X.env::(afK es X.env).map (·.2):=by rfl):xF X (e::es) (g::gs):=⟨Wm h1.h h2.h hs⟩
theorem zY{n:Nat}(hc:X.calm=true)(h:xF X es gs)(hn:(afK es X.env).length=n:=by rfl)(g8:(afK es X.env).findIdx? (·.1)=none:=by rfl):JG X (.Tuple es j pos) (j8 n gs):=⟨aar hc h.h hn g8⟩
theorem Bd.rT(B:Bd X N sc k)(hi:JI X tg iter im)(hg:JG X tg g)(hb:JB X body sb)(hs:∀x,afp iter X.env x=pure x:=by intro _;rfl):JS X (.For tg iter body [] pos) (iu im g sb):=⟨B.ady hi.h hg.h hb.h hs⟩
theorem Bd.FU(B:Bd X N sc k)(hc:JT X c t)(hb:JB X body sb):JS X (.While c body [] pos) (eD t sb):=⟨B.aas hc.h hb.h⟩
theorem ms(hg:Gl X "range")(hm:X.mg "range"=none)(hn:isStar a=false)(ha:JA X [a] am):JI X tg (.Call (.Name "range" p) [a] [] pos) (dG am):=⟨UK hg hm ha.h (eU hn)⟩
theorem bt{k:Nat}{f:Addr}{fd:aeT}{ps:List Str}{fm:List W->Mo W}{x:Str}(hn:dh (e::es)=true)(cf:(x==("__debug__":Str))=false)(F:bF X.prog X.w X.K X.mg X.base (bE X.prog X.w) k f fd ps (bP X.K X.mg ps.length fm))(hl:∀{xs:List W} {ph:PH},xs.length≠ps.length->fm xs ph=.no)(hr:cO k X.A)(hg:Gl X x)(hm:X.mg x=some (.ref f))
  (hk:aeu X.K (.ref f)=true) (hb:Binds X.K fd ps []) (ha:JA X (e::es) am):JE X (.Call (.Name x p) (e::es) [] pos) (aJ fm am):=⟨aat hn cf F hl hr hg hm hk hb ha.h⟩
theorem dw{x:Str}{id:String}{r:List V->Hp->VK->Prop}{fp:List W->Po W}(bD:dh (e::es)=true)(hn:x≠"__name__")(cf:(x==("__debug__":Str))=false)(hc:cR X (.builtin id) r)(hi:ig X.K r fp)(hg:Gl X x)(hm:X.mg x=none)(hv:afv x=some (.builtin id))(ha:JA X (e::es) am):JE X (.Call (.Name x p) (e::es) [] pos) (bv fp am):=⟨aau bD hn cf hc hi hg hm hv ha.h⟩
theorem qY{x:Str}{T:String}{r:List V->Hp->VK->Prop}{fp:List W->Po W}(bD:dh (e::es)=true)(hn:x≠"__name__")(cf:(x==("__debug__":Str))=false)(hc:cR X (.type T) r)(hi:ig X.K r fp)(hg:Gl X x)(hm:X.mg x=none)(hv:afv x=some (.type T))(ha:JA X (e::es) am):JE X (.Call (.Name x p) (e::es) [] pos) (bv fp am):=⟨aav bD hn cf hc hi hg hm hv ha.h⟩
theorem dJ{name:Str}{T id:String}{r:V->List V->Hp->VK->Prop}{ty:W->PH->Bool}{f:W->List W->Po W}(bD:dh (e::es)=true)(b6:decide ((e::es).length<30)=true)(pa:ajy T)(slot:Slot T name id)(kl:typeOf (.builtin id)=pure (.type "method_descriptor"))(hm:nJ X id r)(ht:nO X.K T ty)(hi:lK X.K T r f)(ho:JE X o mo)(ha:JA X (e::es) am)
  (mW:agA o name X.env (eval o X.env)=eval o X.env:=by rfl) (mX:(p.endLine==pos.line)=true:=by rfl):JE X (.Call (.Attribute o name p) (e::es) [] pos) (bS ty f mo am):=⟨aaw bD b6 pa slot kl hm ht hi ho.h ha.h mW mX⟩
theorem gY{c:Str}{cn:String}{p2:Pos}(hk:lx X.K cn)(hv:afv c=some (.type cn))(hn:c≠"__name__")(hd:(c==("__debug__":Str))=false)(g8:isStar e=false)(hg:Gl X "isinstance")(hm:X.mg "isinstance"=none)(nP:Gl X c)(nQ:X.mg c=none)(he:JE X e m) :
  JE X (.Call (.Name "isinstance" p) [e,.Name c p2] [] pos) (el cn m):=⟨acg hk hv hg hm nP nQ he.h hn hd (by rw[eU g8,eU rfl];rfl) (eU rfl) (any_none rfl)⟩
theorem jR:JF X [] cY:=⟨aap⟩
theorem FV(h:JT X c t):JF X [c] t:=⟨aaq h.h⟩
theorem kU{scope:Scope}{ifs:List Expr}{N':List Str}{cap:List (Option Nat)}(hc:X.calm=true)(cp:kr X N' cap scope)(hi:JI X tg iter im)(hg:∀cl C aN aU ex,JG (bR X N' scope cl C aN aU ex) tg g)(ht:∀cl C aN aU ex,JF (bR X N' scope cl C aN aU ex) ifs t)
  (he:∀cl C aN aU ex,JE (bR X N' scope cl C aN aU ex) e m) (hs:∀x,afp iter X.env x=pure x:=by intro _;rfl):JE X (.ListComp e [⟨tg,iter,ifs,0⟩] scope pos) (cJ im cap g t m):=
 ⟨XS hc cp hi.h (fun cl C aN aU ex=>(hg cl C aN aU ex).h) (fun cl C aN aU ex=>(ht cl C aN aU ex).h) (fun cl C aN aU ex=>(he cl C aN aU ex).h) hs⟩
theorem zH{scope:Scope}{ifs:List Expr}{N':List Str}{cap:List (Option Nat)}{i:Nat}{x:Str}(hN:X.N.Nodup)(iD:X.N[i]? =some x)(nR:jz X x)(hx:X.env.scope.names.lookup x=some .local)
  (hc:X.calm=true) (cp:kr X N' cap scope) (hi:JI X tg iter im) (hg:∀cl C aN aU ex,JG (bR X N' scope cl C aN aU ex) tg g) (ht:∀cl C aN aU ex,JF (bR X N' scope cl C aN aU ex) ifs t)
  (he:∀cl C aN aU ex,JE (bR X N' scope cl C aN aU ex) e m) (sI:agL (.ListComp e [⟨tg,iter,ifs,0⟩] scope p) (some (.Name x pos')) pos.line X.env=pure true) (hs:∀x,afp iter X.env x=pure x:=by intro _;rfl) :
  JS X (.Assign [.Name x pos'] (.ListComp e [⟨tg,iter,ifs,0⟩] scope p) pos) (aO (cJ im cap g t m) (gN i)):=
 ⟨XT hN iD nR hx hc cp hi.h (fun cl C aN aU ex=>(hg cl C aN aU ex).h) (fun cl C aN aU ex=>(ht cl C aN aU ex).h) (fun cl C aN aU ex=>(he cl C aN aU ex).h) sI hs⟩
end
open PySem PySem.Spec PyProof.Rows L2 PySem.W Builtin.ObjectAttr Builtin.Getset_descriptor
noncomputable def AW(h:Heap)(x D:Addr):Prop:=∃o,h.get? x=some o/\o.cls=.ref D
section
variable{prog:afm}{w:World}{A:afU}{E:Value->aem->Prop}{s:aem}{K:acs}{x C D:Addr}
theorem AW.acr{M:Model}{h:Heap}(I:AW h x D):Looks M h (typeOf (.ref x)) (.ref D):=let ⟨_,e,c⟩:=I;c▸(Looks.ld e).andThen .now
noncomputable def AX(K:acs)(D:Addr):Bool:=
 findIn K (.ref D) "__getattribute__"==some (some (.builtin "BaseException.__getattribute__"))&&findIn K (.ref D) "__getattr__"==some none &&
 findIn K (.ref D) "__class__"==some (some (.builtin "object.__class__"))&&specialIn K (.builtin "object.__class__") "__get__"==some (some (.builtin "getset_descriptor.__get__"))&&takesIn K (.builtin "object.__class__")==some true &&
 mroIn K D (.type "object")==some true&&mroIn K D (.type "BaseException")==some true&&(clsIn K D).isSome
structure ny(K:acs)(D:Addr):Prop where
 ga:findIn K (.ref D) "__getattribute__"=some (some (.builtin "BaseException.__getattribute__"))
 gh:findIn K (.ref D) "__getattr__"=some none
 cl:findIn K (.ref D) "__class__"=some (some (.builtin "object.__class__"))
 cg:specialIn K (.builtin "object.__class__") "__get__"=some (some (.builtin "getset_descriptor.__get__"))
 ct:takesIn K (.builtin "object.__class__")=some true
 mo:mroIn K D (.type "object")=some true
 mb:mroIn K D (.type "BaseException")=some true
 cd:(clsIn K D).isSome=true
theorem ny.of(h:AX K D=true):ny K D:=by
 unfold AX at h;simp only[aev,beq_iff_eq] at h;obtain⟨⟨⟨⟨⟨⟨⟨h1,h2⟩,h3⟩,h4⟩,h5⟩,h6⟩,h7⟩,h8⟩:=h;exact⟨h1,h2,h3,h4,h5,h6,h7,h8⟩
theorem ny.isType{h:Heap}(hK:ny K D)(X:K.In h):∃c d cd sl,h.get? D=some ⟨c,d,.cls cd,sl⟩/\∀M,Looks M h (PySem.isType (.ref D)) true:=by
 have h8:=hK.cd;unfold clsIn at h8;split at h8
 ·rename_i c' d' cd' A6 ho;refine⟨c',d',cd',A6,X _ _ ho,?_⟩;intro M A' Q' E' s' k q;unfold PySem.isType loadHead;exact aeh (wpAny_loadPart (k _ _ (X _ _ ho)) (aes q))
 ·cases h8
end
noncomputable def xG(x:XC):Mo α:=fun ph=>.ex x ph
noncomputable def qZ(c:Str)(a:AM):SM:=fun σ=>aw (a σ) fun xs=>if xs.length<=1000 then xG ⟨c,[]⟩ else dO
variable{h:Heap}
theorem X1{C:Addr}{Jj:List Value}{newId:String}(fB:K.In h)(q:agC K C Jj newId=true) :
  ∃bm N nm qn bs hd sn sub ab col dd k0 k1 k2 k3 k5 mN,h.get? C=some (excClassObj nm qn C N bs bm hd sn sub ab col dd k0 k1 k2 k3 k5 newId)/\h.Ns N mN/\mN "__init__"=none/\OwnTail h Jj bm:=by
 unfold agC at q;split at q
 case h_2=>cases q
 case h_1 dd cd sl ho=>
  split at q
  case h_2=>cases q
  case h_1 C' bm k0 k1 k2 k3 n k5 hm hs=>
   rw[aev,aev,aev,aev,aev] at q;obtain⟨⟨⟨⟨⟨q1,q2⟩,q3⟩,q4⟩,q5⟩,q6⟩:=q;cases beq_iff_eq.mp q1;cases beq_iff_eq.mp q2;have q3:cd.hasDel=false:=by simpa using q3
   cases cd with
   | mk nm bs mro ns qn hd sn sub ab col del=>
    cases(show mro=_ from hm);cases(show del=_ from q3);cases sl with
    | mk l=>
     cases(show l=_ from hs);exact⟨bm,ns,nm,qn,bs,hd,sn,sub,ab,col,dd,k0,k1,k2,k3,k5,_,fB _ _ ho,.of_isNs (PySem.W.isNs_of_in fB q5),PySem.W.nsMap_none_of_in fB q5 (beq_iff_eq.mp q6),PySem.W.tail_of_in fB q4⟩
abbrev pd:List Value:=[.type "ValueError",.type "Exception",.type "BaseException",.type "object"]
section
variable{X:Cx}{e:Expr}{es:List Expr}{a:AM}{np dA pos:Pos}{x:Str}{C:Addr}
theorem Wq(hq:agC X.K C pd "ValueError.__new__"=true)(hg:Gl X x)(hm:X.mg x=some (.ref C))(hc:X.calm=true)(hn:dh (e::es)=true)(cf:(x==("__debug__":Str))=false)(ha:IA X (e::es) a) :
  IS X (.Raise (some (.Call (.Name x np) (e::es) [] dA)) none pos) (qZ x a):=by
 intro pins s σ H D I h;obtain⟨φ,ph,ws,hH,hS,h⟩:=h;obtain⟨bm,N,nm,qn,bs,hd,sn,sub,ab,col,dd,k0,k1,k2,k3,k5,mN,o1,o2,o3,o4⟩:=X1 I.ok.mod.fB hq;have sx:=hn;unfold dh at sx;rw[afG,aev] at sx;have h0:isStar e=false:=by simpa using sx.1
 refine wpAny_Raise_call_subU (C:=C) (N:=N) (nm:=nm) (q:=qn) (bs:=bs) (bm:=bm) (hdct:=hd) (sn:=sn) (sub:=sub) (ab:=ab) (col:=col) (dd:=dd) (k0:=k0) (k1:=k1) (k2:=k2) (k3:=k3) (k5:=k5) ahN (by rfl) ahN (o4.hasType (by rfl)) (I.ok.hd hc) (any_none hn) o3 (qP I hg hm ⟨rfl,?_⟩ cf);have hA:tA X a σ H (fun vs H1=>vs.length<=1000/\∀e' s',pY X ⟨x,[]⟩ H1 e' s'->X.xe e' s'):=by
  refine tA.bind hH hS h fun xs ph1 aA H1 vs aC s1 r1 h=>?_
  by_cases hl:xs.length<=1000
  ·rw[if_pos hl] at h;exact⟨by rw[<- r1.length];exact hl,fun e' s' t=>h aA H1 e' s' aC Step.refl t⟩
  ·rw[if_neg hl] at h;exact h.elim
 have key:=ha dA pins s σ H _ I hA;rw[eU h0] at key ⊢;refine aiR (aV key fun us s1 ⟨vs,H1,I1,r,q1,q2⟩=>⟨rfl,?_,I1.bk _ _ o1,o2.keeps I1.bk,o4.keeps I1.bk,fun h' e' Bp=>?_⟩)
 ·show us.length<=_;rw[<- r.length,aif];exact aeW q1 (by decide)
 ·exact q2 _ _ ⟨C,hm,rfl,.inl ⟨pins,σ,s1,us,h',e',rfl,rfl,I1,Bp⟩⟩
theorem zj(hq:agC X.K C pd "ValueError.__new__"=true)(hg:Gl X x)(hm:X.mg x=some (.ref C))(hc:X.calm=true)(hn:dh (e::es)=true)(cf:(x==("__debug__":Str))=false)(ha:JA X (e::es) a) :
  JS X (.Raise (some (.Call (.Name x np) (e::es) [] dA)) none pos) (qZ x a):=⟨Wq hq hg hm hc hn cf ha.h⟩
end
open PySem PySem.Spec PyProof.Rows L2 PySem.W
structure bY(X:Cx):Prop where
 st:X.stack=X.env::X.outer
 fr:X.env.frame=some X.env.locals
 ex:X.ex=[]
theorem S7{M:Model}{A:afU}{E:Value->aem->Prop}{s:aem}{base:Heap}{outer:List Env}{L e:Addr}{cls:Value}{args:List Value}{Q:Unit->aem->Prop}
  (hfr:A.frames=some (env::outer)) (hf:env.frame=some L) (Jk:base.StaysIn h) (hl:h.FunFrames base (env::outer)) (hx:Heap.MadeExcOf h s.heap e cls args)
  (hQ:∀h' t,Heap.HeldW base (env::outer) e cls (.ref t) L h'->s.heap.UpToSlots h'->Q () { s with heap:=h' }):wpAny M A (aiJ (.ref e) env) Q E s:=by
 obtain⟨t,he,htn,ht⟩:=hx.there;have new:base.get? e=none:=by
  cases hq:base.get? e with
  | none=>rfl
  | some o'=>have:=Jk e o' hq;rw[hx.new] at this;cases this
 unfold aiJ;simp only[hf];refine aeh (afA (x:=.none) he rfl rfl ?_);rw[if_neg (show ¬((agr != agr)=true) by decide)];refine wpAny_entryW (a0:=.ref t) hfr (hl.of_keeps fun b o hb _=>⟨o,hx.keeps b o hb,rfl⟩) hf he (fun b o hb=>hx.keeps b o (Jk b o hb)) new rfl (show 1<6 by decide) rfl fun h' hN=>?_
 obtain⟨k1,k2,k3,k4⟩:=hN;exact hQ h' t ⟨k1,new,k2,k3⟩ k4
structure rV(X:Cx)(C a:Addr)(H':Hp)(B:Heap)(s':aem):Prop where
 ex:∃pins σ H s,Inv X pins σ H s/\s'.os=s.os/\IW (cS X.stack) H H' s.heap B s'.heap
 bare:aie s'.gens
 aI:cu X.prog X.w H' B
 note:∀{A:afU} {E:Value->aem->Prop} {Q:Unit->aem->Prop},A.frames=some X.stack->(∀h' a0,Heap.HeldW B X.stack a (.ref C) a0 X.env.locals h'->s'.heap.UpToSlots h'->Q () { s' with heap:=h' }) →
  wpAny (model X.prog X.w) A (aiJ (.ref a) X.env) Q E s'
variable{P:afm}
theorem Wr{w:World}(x:cX P w H h a o):∃ob,h.get? a=some ob:=by
 cases o with
 | lst xs=>exact⟨_,x.2.choose_spec.choose_spec.2⟩
 | tup xs=>obtain⟨_,its,_,ob,e,_⟩:=x;exact⟨ob,e⟩
 | dK kvs=>obtain⟨_,_,_,_,ob,_,_,e,_⟩:=x;exact⟨ob,e⟩
 | dT kvs=>obtain⟨_,_,_,_,ob,_,_,e,_⟩:=x;exact⟨ob,e⟩
 | dU kvs=>obtain⟨_,_,ob,_,_,e,_⟩:=x;exact⟨ob,e⟩
 | set S n=>obtain⟨ob,_,_,_,e,_⟩:=x;exact⟨ob,e⟩
 | ins C dx fs=>exact⟨_,x.2.2.2.1⟩
 | own y=>exact x
 | xd fs=>obtain⟨_,⟨ob,_,_,e,_⟩,_⟩:=x;exact⟨ob,e⟩
 | xn lo hi=>obtain⟨_,_,_,e⟩:=x;exact⟨_,e⟩
 | bN ob u=>exact⟨ob,x.1⟩
 | gG ps=>exact⟨_,x⟩
 | met f y=>exact⟨_,x⟩
 | ext φ=>exact x.2.1
section
variable{X:Cx}{C a:Addr}{H':Hp}{B:Heap}{s':aem}{e:Value}
theorem UP(T:bY X)(h:Made X C H' e s'):∃a B,e=.ref a/\rV X C a H' B s':=by
 obtain⟨pins,σ,s,vs,h',a,rfl,rfl,I,hx⟩:=h;have sf:=I.qO;have hl:=I.stack;have Bq:∀env∈X.stack,∀b,env.frame=some b->b∈cS X.stack:=fun env he b hb=>ahk.mpr ⟨env,he,hb⟩
 refine⟨a,agK s.heap (cS X.stack),rfl,⟨pins,σ,H',s,I,rfl,⟨fun b o e n hb=>afY _ e hb,fun b o e n hb=>⟨o.slots,hx.keeps b o e⟩,fun b o e n=>n,fun b o e hb=>⟨o,afY _ e hb⟩,fun b xs e=>e,fun b o u e=>e,fun b ps e=>⟨#[],by simpa using e⟩⟩⟩,
  I.bare,E2 I.aI sf,fun{A E Q} hA hQ=>?_⟩
 have hl':=aiw hl Bq;rw[T.st] at hA;have eM:s.heap.FunFrames (agK s.heap (cS X.stack)) (X.env::X.outer):=by rw[<- T.st];exact hl'
 refine S7 (base:=agK s.heap (cS X.stack)) (h:=s.heap) hA T.fr (fun b o q=>ahO _ q) eM hx fun Br t f1 f2=>hQ Br (.ref t) ?_ f2
 rw[T.st];rw[T.st] at f1;exact f1
theorem UQ(T:bY X){pins:List (Addr×Obj)}{σ:L2.St}{H:Hp}{s:aem}(I:Inv X pins σ H s)(h:Flew X.prog X.w X.stack H s C H' e s'):∃a B,e=.ref a/\rV X C a H' B s':=by
 obtain⟨a,a0,B,rfl,ho,rm,f6,aI,u⟩:=h;refine⟨a,B,rfl,⟨pins,σ,H,s,I,ho,u⟩,rm,aI,fun{A E Q} hA hQ=>?_⟩;rw[T.st] at hA f6;exact wpAny_looks_onW hA T.fr f6 fun h' f1 f2=>hQ h' a0 (by rw[T.st];exact f1) f2
theorem took(T:bY X){x:XC}(h:pY X x H' e s'):∃C,X.mg x.cls=some (.ref C)/\x.fs=[]/\∃a B,e=.ref a/\rV X C a H' B s':=by
 obtain⟨C,hm,hf,h⟩:=h;refine⟨C,hm,hf,?_⟩
 rcases h with h | ⟨pins,σ,H,s,I,h⟩
 ·exact UP T h
 ·exact UQ T I h
theorem rV.inv(T:bY X)(K:rV X C a H' B s'){h:Heap}{a0:Value}(f6:Heap.FlyingW B X.stack a (.ref C) a0 h)(sm:s'.heap.UpToSlots h) :
  ∃pins σ oe,h.get? a=some oe/\oe.cls=.ref C/\aiY oe=true/\H' a=none/\Inv X pins σ (upd H' a (.bN oe (.own a))) { s' with heap:=h }:=by
 obtain⟨⟨pins,σ,H,s,I,ho,u⟩,rm,aI,_⟩:=K;obtain⟨oe,vs,f1,f2,f3,_⟩:=f6.first;have Jl:B.get? a=none:=f6.2.1;have kx:H' a=none:=by
  cases q:H' a with
  | none=>rfl
  | some o=>
   obtain⟨ob,Jm⟩:=Wr (aI a o q);rw[Jl] at Jm;cases Jm
 have BF:∀b∈cS X.stack,∀o,s.heap.get? b=some o->∃sl,h.get? b=some { o with slots:=sl }/\∀vs,o.data≠.fields vs:=fun b hb o e=>by
  obtain⟨_,o',dM,xI⟩:=I.stack.mem hb;rw[e] at dM;cases dM;obtain⟨sl,e1⟩:=u.slot b o e (I.qO b hb) hb;obtain⟨nI,e2⟩:=sm b _ e1 xI;exact⟨nI,e2,xI⟩
 have ne:∀b o,s.heap.get? b=some o->b≠a:=fun b o e z=>by
  by_cases hb:b∈cS X.stack
  ·obtain⟨sl,e1,xI⟩:=BF b hb o e;rw[z,f1] at e1;cases e1;exact xI vs f3
  ·obtain⟨o',e1⟩:=u.there b o e hb;rw[z,Jl] at e1;cases e1
 refine⟨pins,σ,oe,f1,f2,by unfold aiY;rw[f3],kx,I.GP (ch:=[]) ho ⟨fun b o e n hb _=>f6.1 b o (u.keep b o e n hb),fun b o e n hb _=>(BF b hb o e).imp fun sl q=>q.1,fun b o e n _=>by rw[bz (ne b o e)];exact u.free b o e n,fun b o e _=>?_,
  fun b xs e=>?_,fun b ob uu e=>?_,fun b ps e=>?_⟩ (fun b ob e=>?_) rm fun b hb=>nomatch hb⟩
 ·by_cases hb:b∈cS X.stack
  ·obtain⟨sl,e1,_⟩:=BF b hb o e;exact⟨_,e1⟩
  ·obtain⟨o',e1⟩:=u.there b o e hb;exact⟨o',f6.1 b o' e1⟩
 ·have q:=u.gB b xs e;rw[bz (fun z=>by rw[z,kx] at q;cases q)];exact q
 ·have q:=u.eW b ob uu e;rw[bz (fun z=>by rw[z,kx] at q;cases q)];exact q
 ·obtain⟨m,q⟩:=u.fT b ps e;exact⟨m,by rw[bz (fun z=>by rw[z,kx] at q;cases q)];exact q⟩
 ·by_cases hb:b=a
  ·subst hb;rw[bZ] at e;cases e;exact⟨f1,oe,f1⟩
  ·rw[bz hb] at e;refine(aI b ob e).jy (fun c u2 _ q=>f6.1 c u2 q) (fun c q=>?_) fun c xs q=>?_
   ·rw[bz (fun z=>by rw[z,kx] at q;cases q)];exact q
   ·rw[bz (fun z=>by rw[z,kx] at q;cases q)];exact q
theorem UR{M:Model}{A:afU}{E:Value->aem->Prop}{K:acs}{s:aem}{D:Addr}{b:Bool}{Q:Bool->aem->Prop}(fB:K.In s.heap)(I:AW s.heap a C)(hD:ny K D)(kl:ahu K (.ref D)=some (.type "type"))
  (hs:ahE K (.ref C) (.ref D)=some b) (q:Q b s):wpAny M A (excMatches (.ref a) (.ref D)) Q E s:=by
 obtain⟨hh,g,d,t,os⟩:=s;have L1:=PySem.W.looks_typeIn (M:=M) fB kl;obtain⟨_,_,_,_,_,L2'⟩:=hD.isType fB;have L2:=L2' M;have L3:PySem.W.Looks M hh (isSubtype (.ref D) (.type "BaseException")) true:=PySem.W.looks_mroIn (M:=M) fB hD.mb;have L4:=I.acr (M:=M);have L5:=PySem.W.looks_subIn (M:=M) fB hs;have L6:PySem.W.Looks M hh (isInstance (.ref D) (.type "tuple")) false:=L1.andThen (PySem.W.Looks.of_pure tc_notTuple);unfold excMatches;refine aeh (L6.at ?_)
 dsimp only
 rw[if_neg aeK];refine aeh (aes ?_);rw[agN];refine aeh (aeh (aeh ?_));unfold isExcClass;refine aeh (L2.at ?_)
 dsimp only
 rw[if_pos rfl];refine L3.at ?_
 try dsimp only
 rw[if_neg (by decide)];refine aes ?_
 dsimp only
 rw[ahU];refine aes (aeh (L4.at ?_));rw[agN];refine aeh (aeh (aeh (L5.at ?_)));cases b with
 | true=>
  rw[if_pos rfl];exact aes (aes (aes q))
 | false=>
  rw[if_neg aeK];refine aes ?_
  dsimp only
  rw[ahU];exact aes (aes q)
end
section
variable{X:Cx}{pins gX pn':List (Addr×Obj)}{σ:L2.St}{H:Hp}{s:aem}{A':afU}{xe':Value->aem->Prop}{calm':Bool}
abbrev ly(X:Cx)(A':afU)(pn':List (Addr×Obj))(xe':Value->aem->Prop)(calm':Bool):Cx:={ X with A:=A',pn:=pn',xe:=xe',calm:=calm' }
theorem aay(ok:X.Ok)(hA:A'.frames=X.A.frames)(hh:calm'=true->A'.handled=none):(ly X A' pn' xe' calm').Ok:=
 ⟨ok.mod,ok.kind,ok.glob,ok.blt,ok.above,ok.inj,ok.has,ok.lB,hh,hA.trans ok.frames,ok.nE,ok.sk,ok.bs,ok.i4,ok.ll,ok.lm,ok.eX,ok.jC⟩
theorem X3(I:Inv X pins σ H s)(hA:A'.frames=X.A.frames)(hh:calm'=true->A'.handled=none)(hp:∀p∈pn'++gX,p∈X.pn++pins):Inv (ly X A' pn' xe' calm') gX σ H s:=
 ⟨aay I.ok hA hh,I.os,I.bare,I.base,I.loc,I.cell,I.free,I.ie,fun p h=>I.pin p (hp p h),I.aI,I.lk⟩
theorem US(I:Inv (ly X A' pn' xe' calm') gX σ H s)(hA:X.A.frames=A'.frames)(hh:X.calm=true->X.A.handled=none)(hp:∀p∈X.pn++pins,p∈pn'++gX):Inv X pins σ H s:=
 X3 (X:=ly X A' pn' xe' calm') (A':=X.A) (pn':=X.pn) (xe':=X.xe) (calm':=X.calm) I hA hh hp
end
noncomputable def xJ(m:Mo α):Mo α:=fun ph=>match m ph with
 | .ok a ph'=>.ok a ph'
 | _=>.no
theorem bh.len{K:acs}{φ:Nat->Addr}{n:Nat}{H:Hp}:∀{ws:aP} {vs:L2.St},bh K φ n H ws vs->ws.length=vs.length
 | _,_,.nil=>rfl
 | _,_,.sm _ r=>by rw[aeO,aeO,bh.len r]
 | _,_,.nn r=>by rw[aeO,aeO,bh.len r]
theorem bh.none{K:acs}{φ:Nat->Addr}{n:Nat}{H:Hp}:∀(vs:L2.St),bh K φ n H (aeF vs.length ajO) vs
 | []=>.nil
 | _::vs=>.nn (bh.none vs)
structure GZ(K:acs)(D:Addr):Prop where
 ek:ny K D
 ty:ahu K (.ref D)=some (.type "type")
theorem zk(ha:H a=none):Step K φ n H φ n (upd H a o):=by
 refine⟨aeq _,fun _ _=>rfl,fun c xs h=>?_,fun c ob u h=>by rw[bz (fun z=>by rw[z,ha] at h;cases h)];exact h⟩;rw[bz (fun z=>by rw[z,ha] at h;cases h)];exact h
noncomputable def j9(K:acs)(D:Addr)(tb:List (Str×Bool)):Prop:=
 ∀c b,tb.lookup c=some b->∃C,aeo K ael c=some (some (.ref C))/\ahE K (.ref C) (.ref D)=some b
theorem j9.nil{D:Addr}:j9 K D []:=fun c b e=>by cases e
theorem j9.cons{D:Addr}{tb:List (Str×Bool)}{c:Str}{C:Addr}(h1:aeo K ael c=some (some (.ref C)))(h3:ahE K (.ref C) (.ref D)=some b)(h:j9 K D tb) :
  j9 K D ((c,b)::tb):=fun c' b' e=>by
 rw[aeH] at e;split at e
 ·rename_i q;cases e;rw[beq_iff_eq] at q;subst q;exact⟨C,h1,h3⟩
 ·exact h c' b' e
theorem Ep(h:aL K φ ph H)(ha:H a=none):aL K φ ph (upd H a o):=
 ⟨fun i p e=>by
  obtain⟨x,hx,_⟩:=h.at (aen.mp e).1;exact(h.hp i p e).mono (zk ha) (bz fun z=>by rw[z,ha] at hx;cases hx),h.inj,fun p hm=>(h.tb p hm).new ha⟩
noncomputable def sM(ph:PH)(x y:W):Option Nat:=match(if cM x ph=true then cL x ph else none),dat ph 40 y with
 | some ws,some dy=>(bB (dat ph 40) ws).bind fun ds=>ds.findIdx? fun d=>afb d dy
 | _,_=>none
noncomputable def oU(x:W)(ys:List W):Po W:=fun ph=>match ys with
 | [y]=>(sM ph x y).map fun(j:Nat)=>(W.int ((j:Nat):Int),ph)
 | _=>none
noncomputable def FW(K:acs):V->List V->Hp->VK->Prop:=fun x ys H Q=>∃(φ:Nat->Addr) (ph:PH) (wx wy:W) (y:V) (j:Nat),ys=[y]/\aL K φ ph H/\aQ K φ ph.length H wx x/\aQ K φ ph.length H wy y/\sM ph wx wy=some j/\Q (.int j) H
theorem FX{X:Cx}{pins:List (Addr×Obj)}{σ:L2.St}{H:Hp}{s:aem}{φ:Nat->Addr}{ph:PH}(I:Inv X pins σ H s)(hH:aL X.K φ ph H){dx:agJ}:∀{ws:List W} {vs:List V} {us:List Value} {ds:List agJ},ba X.K φ ph.length H ws vs->Vals vs us->bB (dat ph 40) ws=some ds →
  us.findIdx? (jV s dx)=ds.findIdx? fun d=>afb d dx
 | _,_,_,_,.nil,.nil,e=>by cases e;rfl
 | w::ws,_,_,ds,.cons h r,.cons hv rv,e=>by
  unfold bB at e;split at e
  ·rename_i b bs e1 e2;cases e;have q:=kL I hH 40 h hv e1;rw[List.findIdx?_cons,List.findIdx?_cons,FX I hH r rv e2,u3 q]
  ·cases e
theorem X4{x:W}(hH:aL K φ ph H)(r:aQ K φ ph.length H x v)(h:cM x ph=true)(e:cL x ph=some ws):∃a vs,v=.ref a/\bC K H a vs/\ba K φ ph.length H ws vs:=by
 unfold cM at h;unfold cL at e;cases r with
 | fl hq r=>cases e;exact⟨_,_,rfl,hq.sq,r⟩
 | ref hi=>
  simp only at e;split at e
  ·rename_i cP hw;cases e;obtain⟨vs,hv,r⟩:=hH.hp _ _ hw;exact⟨_,vs,rfl,bC.of hv,r⟩
  ·cases e
 | _=>cases h
theorem Ws(hu:X.A.units+64<cLine):nJ X "list.index" (FW X.K):=by
 intro pins s σ H x xs v us Q I rx rv h;obtain⟨φ,ph,wx,wy,y,j,rfl,hH,r1,r2,e,q⟩:=h;obtain⟨u,rfl,ru⟩:=rv.one;unfold sM at e;split at e
 ·rename_i ws dy hs hd;have hL:cM wx ph=true:=by
   cases z:cM wx ph with
   | true=>rfl
   | false=>rw[z,if_neg aeK] at hs;cases hs
  rw[if_pos hL] at hs;obtain⟨ds,e1,e2⟩:=Option.bind_eq_some_iff.mp e;obtain⟨a,vs,rfl,hq,rs⟩:=X4 hH r1 hL hs;cases rx;obtain⟨its,p3,⟨o,n,ho,hc,hdn,hdt⟩,hz⟩:=I.list hq;obtain⟨oc,od,odt,jE⟩:=o;cases(show oc=_ from hc);cases(show odt=_ from hdt);obtain⟨⟨as,k1⟩,c1,l1⟩:=kL I hH 40 r2 ru hd;have q2:=(zE I hH (dx:=dy) rs p3 e1).2;rw[<- FX I hH rs p3 e1,List.findIdx?_eq_some_iff_getElem] at e2;obtain⟨hj,hit,sF⟩:=e2;have b6:its.length<=sizeLine:=by rw[<- p3.length];exact hz
  refine aiO F.slot_list_index ⟨_,ho,rfl⟩ F.entry_list_index (F.args_list_index_2 _ _) (SeqAt.list_indexAt a its.toArray n od jE u (jV s dy) j (by simpa using hj) ?_ (by simpa using hit) fun m hm hmj=>?_) ⟨ho,fun z hz'=>?_,.int _,H,I.tok _,⟨_,rfl⟩,q⟩
  ·have:(j:Int)<its.length:=by exact_mod_cast hj
   have h2:((its.length:Nat):Int)<=(aeD:Nat):=by exact_mod_cast b6
   have h3:((aeD:Nat):Int)<=2 ^ 62:=by rw[aif];decide
   omega
  ·have:=sF m hmj
   simpa using this
  ·obtain⟨d,iB⟩:=q2 z (by simpa using hz');rw[u3 iB];obtain⟨⟨bs,k2⟩,c2,l2⟩:=iB;intro prog w E Q hQ;exact aiS prog w _ E s z u d dy bs as Q k2 k1 c2 c1 (by show X.A.units+1+_<_;omega) hQ
 ·cases e
theorem Wt:lK K "list" (FW K) oU:=by
 intro φ ph H x xs vx vs w ph' Q hH rx rs e k;unfold oU at e;split at e
 ·obtain⟨j,e1,e2⟩:=aeC.mp e;cases e2;cases rs with
  | cons r0 r1=>
   cases r1;exact⟨φ,ph,x,_,_,j,rfl,hH,rx,r0,e1,k φ H _ hH Step.refl (.int _)⟩
 ·cases e
theorem cv{w:World}{mg:Str->Option Value}{base:Heap}{x qual:Str}{st:Stmt}{f:Addr}{fd:aeT}{N ps:List Str}{k np:Nat}{body:SM}(hn:N.length=n)(hp:ps.length=np)(F:b7 K x qual st f fd)(S:b8 N ps (ah st))
  (rh:∀{X:Cx},X.prog=P->X.w=w->X.K=K->X.mg=mg->X.base=base->Bd X N (ah st) k->bY X->X.env.scope=ah st->JB X (aZ st) body):bF P w K mg base (bE P w) (k+1) f fd ps (bP K mg np (fM body n np)):=by
 subst hn hp;exact aaa F S fun cF A outer s H E hr=>(rh (X:=j3 (bE P w) P w K mg base N qual (ah st) f cF A outer s H E) rfl rfl rfl rfl rfl ⟨⟨⟨rfl,fun _ z=>z,fun _ z=>z,fun _ z=>z,fun _ _=>⟨.inl rfl,fun _ _ _ _ _=>trivial⟩,S.nd⟩,rfl,hr⟩,PassesOwn.leaving⟩ ⟨rfl,rfl,rfl⟩ rfl).h
noncomputable def m7(K:acs)(b:Addr):Bool:=(jl K).any fun p=>p.2.2==b
theorem Er{b:Addr}(h:m7 K b=true):∃p∈jl K,p.2.2=b:=by
 obtain⟨p,h1,h2⟩:=aip.mp h;exact⟨p,h1,eq_of_beq h2⟩
theorem UT{p:Str×Addr×Addr}(h:p∈jl K):m7 K p.2.2=true:=aip.mpr ⟨p,h,beq_self_eq_true _⟩
noncomputable def H0(K:acs)(a:Addr)(o:Obj)(xs:List V):Hp:=fun b=>if m7 K b=true then some (.gG #[]) else if b=a/\K.lookup a=none then some (.bN o (.lst xs)) else none
section
variable{Pg:afm}{w:World}{K:acs}{mg mb:Str->Option Value}{k:Nat}{fa a:Addr}{fd:aeT}{x:Str}{bL:aem}{vs:List Value}{ns:List Int}{fm:List W->Mo W}
theorem Wu(KX:K.In bL.heap)(bD:bL.heap.Ns ael mg)(hb:bL.heap.Ns ahG mb)(xC:∀x:Str,x≠"__name__"->mb x=afv x)(adB:bL.heap.NoLimit)
  (hbm:∃bm ob,mg "__builtins__"=some (.ref bm)/\bm≠ahG/\bL.heap.get? bm=some ob/\ob.cls=.type "module"/\ob.dict=some ahG/\ob.data=.plain) (hg:bL.gens= #[])
  (hT:∀p∈jl K,ahV bL.heap p.2.1 p.2.2/\bL.heap.get? p.2.2=some (agF #[])) (hK:aiZ K=true)
  (ha:bL.heap.get? a=some { cls:=.type "list",data:=.seq vs.toArray }) (hi:IntsAre vs ns) (hl:ns.length<=63) (hr:cO k callerA)
  (F:∀base:Heap,K.In base->base.Ns ael mg->bF Pg w K mg base (bE Pg w) k fa fd [x] (bP K mg 1 fm)) (acu:∀(s:aem) (u:Value),BindsTo s fd ⟨[u],[]⟩ [(x,u)])
  (good:∃ph',fm [.fl (ns.map W.int)] []=.ok (.bl true) ph') :
  ajw (model Pg w) callerA (.call (.ref fa) ⟨[.ref a],[]⟩) (fun r s'=>r=.ok (.ret (.bool true))/\OldK bL.heap s'.heap/\s'.os=bL.os/\aie s'.gens) bL:=by
 have rv:=DQ hi;have adC:=hi.length;have eM:ns.length<=sizeLine:=aeW hl (by decide);have tabOf:∀{b:Addr},m7 K b=true->bL.heap.get? b=some (agF #[]):=fun h=>by
  obtain⟨p,h1,rfl⟩:=Er h;exact(hT p h1).2
 have free:∀{b:Addr} {o:Obj},bL.heap.get? b=some o->o≠agF #[]->(b=a->K.lookup a≠none)->H0 K a { cls:=.type "list",data:=.seq vs.toArray } (ns.map V.int) b=none:=fun{b o} e n1 n2=>by
  unfold H0;rw[if_neg (fun h=>n1 (afn (e.symm.trans (tabOf h)))),if_neg (fun h=>n2 h.1 h.2)]
 have Am:∀{b:Addr} {o:Obj},bL.heap.get? b=some o->o.cls≠.none->o.cls≠.type "list"->H0 K a { cls:=.type "list",data:=.seq vs.toArray } (ns.map V.int) b=none:=fun{b o} e n1 n2=>free e (fun z=>n1 (by rw[z])) fun z=>by
  subst z;rw[ha] at e;cases e;exact absurd rfl n2
 have An:∀{b:Addr} {o:Obj} {es:Array DictEntry} {ep:Nat},bL.heap.get? b=some o->o.data=.dict es ep->H0 K a { cls:=.type "list",data:=.seq vs.toArray } (ns.map V.int) b=none:=fun{b o es ep} e d=>free e (fun z=>by rw[z] at d;cases d) fun z=>by
  subst z;rw[ha] at e;cases e;have d':Data.seq vs.toArray _=Data.dict es ep:=d;cases d'
 have na:m7 K a=false:=by
  cases q:m7 K a with
  | false=>rfl
  | true=>have:=tabOf q;rw[ha] at this;cases this
 revert free Am An
 generalize eH:H0 K a { cls:=.type "list",data:=.seq vs.toArray } (ns.map V.int)=H;intro free Am An;have FY:∀b u,H b=some u->(m7 K b=true/\u=.gG #[])\/(b=a/\u=.bN { cls:=.type "list",data:=.seq vs.toArray } (.lst (ns.map V.int))):=fun b u e=>by
  rw[<- eH] at e;unfold H0 at e;split at e
  ·rename_i h;cases e;exact .inl ⟨h,rfl⟩
  ·split at e
   ·rename_i h;cases e;exact .inr ⟨h.1,rfl⟩
   ·cases e
 have aI:cu Pg w H bL.heap:=fun b u e=>by
  rcases FY b u e with⟨h,rfl⟩ | ⟨rfl,rfl⟩
  ·exact tabOf h
  ·exact⟨ha,by rw[aep];exact eM,vs,_,rv,ha⟩
 have tb:∀p∈jl K,ls H p.1 p.2.2:=fun p hp=>⟨#[],by rw[<- eH];exact if_pos (UT hp),trivial,fun pos v e=>nomatch e⟩
 have hS:wR K H a (ns.map V.int):=by
  cases q:K.lookup a with
  | some o=>
   have e:=KX a o q;rw[ha] at e;cases e;exact .inr ⟨_,vs.toArray,_,q,rfl,rfl,rfl,by rw[aew,adC];exact eM,by simpa using rv⟩
  | none=>exact .inl ⟨_,by rw[<- eH];unfold H0;rw[if_neg (by rw[na];simp),if_pos ⟨rfl,q⟩]⟩
 have BG:∀{b:Addr} {o:Obj},bL.heap.get? b=some o->H b=none->(j0 bL.heap H).get? b=some o:=fun e n=>VZ e n
 have xM:∀{b:Addr} {m:Str->Option Value},bL.heap.Ns b m->(j0 bL.heap H).Ns b m:=fun{b m} ⟨o,es,ep,e,d,r⟩=>⟨o,es,ep,BG e (An e d),d,r⟩
 have Jn:K.In (j0 bL.heap H):=fun b o e=>BG (KX b o e) (free (KX b o e) (fun z=>by
  have h2:=afz.mp hK (b,o) (PySem.W.mem_of_lookupK e);subst z;exact absurd (show false=true from h2) aeK) fun z q=>by rw[<- z,e] at q;cases q)
 have hM:Mod K mg (j0 bL.heap H):=⟨Jn,xM bD,⟨mb,xM hb,xC⟩,let ⟨mc,h1,h2⟩:=adB;⟨mc,xM h1,h2⟩,
  let ⟨bm,ob,b1,b2,b3,b4,b5⟩:=hbm;⟨bm,ob,b1,b2,BG b3 (Am b3 (by rw[b4];exact fun z=>nomatch z) (by rw[b4];exact fun z=>absurd (Value.type.inj z) (by decide))),b4,b5⟩⟩
 have e0:nc Pg w K mg (j0 bL.heap H) callerA [] bL H:=⟨rfl,hM,fun b o e=>W5 e,ajF (Uu _ _),trivial,fun b hb=>absurd (show b∈([]:List Addr) from hb) (by simp),aI,.of_eq hg⟩
 obtain⟨ph',eg⟩:=good;refine aiE ((F _ Jn (xM bD)).run callerA [] bL H ⟨[.ref a],[]⟩ [.ref a] [.ref a] (fun v _=>v=.bl true) (fun _ _ _=>False) hr e0 (acu bL (.ref a)) (.cons rfl .nil)
  ⟨rfl,fun _=>0,[],[.fl (ns.map W.int)],⟨fun i o e=>by simp at e,fun i j hi=>absurd hi (by simp),tb⟩,.cons (.fl hS (E3 ns)) .nil,?_⟩) fun r s' h=>?_
 ·rw[eg];intro au H' v _ _ r;cases r;rfl
 ·cases r with
  | error e=>obtain⟨_,_,_,z⟩:=h;exact z.elim
  | ok fl=>
   cases fl with
   | next=>exact agE h
   | brk=>exact agE h
   | cont=>exact agE h
   | ret u=>
    obtain⟨v,H',os,bare,un,HJ,r',q⟩:=h;have q':v=.bl true:=q;subst q';obtain rfl:u=ajv true:=r';refine⟨rfl,⟨fun b o e=>?_,fun b o e=>un.there b o e (by simp)⟩,os,bare⟩;cases q:H b with
    | none=>exact .inl (un.keep b o e q (fun z=>absurd (show b∈([]:List Addr) from z) (by simp)) (by simp))
    | some u=>
     rcases FY b u q with⟨h1,rfl⟩ | ⟨rfl,rfl⟩
     ·obtain⟨more,z⟩:=un.fT b _ q;have e2:s'.heap.get? b=some (agF (#[]++more)):=HJ b _ z;obtain⟨p,hp,rfl⟩:=Er h1;have e3:=(hT p hp).2;rw[e] at e3;cases e3;exact .inr (.inl ⟨((hT p hp).1.tab (hT p hp).2).isCodeTable,rfl,#[],more,rfl,e2⟩)
     ·obtain⟨e2,_⟩:=HJ _ _ (un.eW _ _ _ q);rw[ha] at e;cases e;exact .inl e2
end
theorem X5{l:aiK}{q:afm}{loose:List Str}{XP:(Str->Option Value)->Heap->Prop}{YP:World->Heap->Prop}{d:DefRec}{K:Params->acs}{x:Str}{fm:List W->Mo W}(k:Nat)
  (good:∀ns:List Int,ns.length<=63->∃ph',fm [.fl (ns.map W.int)] []=.ok (.bl true) ph') (hn:l.most=some 63) (sG:d.params.defaults=[]) (hr:cO k callerA) (hY:∀(w:World) (h:Heap),YP w h->(K w.params).In h)
  (hK:∀w:World,aiZ (K w.params)=true) (hT:∀(w:World) (h:Heap),YP w h->∀p∈jl (K w.params),ahV h p.2.1 p.2.2/\h.get? p.2.2=some (agF #[]))
  (F:∀(w:World) (mg:Str->Option Value) (fa:Addr) (h:Heap),(K w.params).In h->h.Ns ael mg->mg d.name=some (.ref fa) →
   ∃fd:aeT,(∀(s:aem) (u:Value),BindsTo s fd ⟨[u],[]⟩ [(x,u)])/\∀base:Heap,(K w.params).In base->base.Ns ael mg->bF l.prog w (K w.params) mg base (bE l.prog w) k fa fd [x] (bP (K w.params) mg 1 fm)) :
  PySem.W.WalkO q loose XP YP l.row.toRowW d [] (fun f vs=>PySem.call f vs):=by
 refine IR.RH hn sG fun w aN bL mg mb fa o pm cd doc a vs ns G Y ho hd hcd hmg ng Ai b6 hg=>?_
 have KX:=hY w _ Y;obtain⟨fd,hb,hF⟩:=F w mg fa _ KX G.T.g hmg;exact Wu KX G.T.g G.T.b G.T.builtins G.T.nolimit G.T.bmain hg (hT w _ Y) (hK w) ng Ai b6 hr hF hb (good ns b6)
noncomputable def xN:W->Option Bool
 | .bl b=>some b
 | _=>none
noncomputable def pM(w:W)(ph:PH):Option (List Bool):=if cM w ph=true then(cL w ph).bind (bB xN) else none
noncomputable def aec:List W->Po W:=fun xs ph=>match xs with
 | [w]=>(pM w ph).map fun bs=>(.bl (bs.any id),ph)
 | _=>none
noncomputable def jB:List W->Po W:=fun xs ph=>match xs with
 | [w]=>(pM w ph).map fun bs=>(.bl (bs.all id),ph)
 | _=>none
section
variable{X:Cx}
theorem X6(bs:List Bool):((afr bs.length).all fun i=>(bs[i]?).getD true)=bs.all id:=by
 rw[Bool.eq_iff_iff,afz,afz];constructor
 ·intro h b hb;obtain⟨i,hi,q⟩:=ajf hb;have:=h i (aha.mpr hi);simp only[afj hi,aiq,q] at this;exact this
 ·intro h i hi;have hi:=aha.mp hi;simp only[afj hi,aiq];exact h _ (List.getElem_mem hi)
theorem Wv{h h':Heap}{o:Obj}(hk:∀b x,b∉[h.objs.size]->(h.push o).get? b=some x->h'.get? b=some x):∀b x,h.get? b=some x->h'.get? b=some x:=
 fun b x e=>hk b x (fun hm=>by rw[aeJ.mp hm] at e;exact agj _ (aex e)) (aek _ e)
theorem uy(hc:X.calm=true):cR X (.builtin "all") (fun xs H Q=>∃p,∃bs:List Bool,xs=[.ref p]/\bC X.K H p (bs.map V.bl)/\Q (.bl (bs.all id)) H):=by
 intro pins s σ H xs us Q I r h;obtain⟨p,bs,rfl,hq,q⟩:=h;obtain⟨u,rfl,rx⟩:=vals1 r;cases rx;obtain⟨its,r',pl,hz⟩:=I.list hq;have b6:=r'.length;rw[aep] at b6;have BD:p<s.heap.objs.size:=by obtain⟨_,e,_⟩:=pl.isList;exact aex e
 refine call_all_walk (wpAny_pyIter_list pl.isList ?_);refine⟨s.heap.objs.size,[s.heap.objs.size,p],[s.heap.objs.size],its.toArray.size,_,_,fun i=>(bs[i]?).getD true,rfl,Walks.list (A:=X.A.in1) (I.ok.hd hc) _ p (afi BD) its.toArray,
  ⟨⟨_,aeN _ rfl,rfl,rfl⟩,pl.isList.push _⟩,fun i v s' Q' E' hP hQ=>?_,fun h' tk hk=>?_⟩
 ·have hP:its[i]? =some v:=by simpa using hP
  have hi:i<bs.length:=by rw[b6];exact(aen.mp hP).1
  obtain⟨u,hu,ru⟩:=r'.get (i:=i) (x:=.bl bs[i]) (by simp[hi]);rw[hP] at hu;cases hu;have ru:v=.bool bs[i]:=ru;subst ru;simp only[afj hi,aiq] at hQ;exact afo hQ
 ·rw[aew,<- b6,X6];exact⟨.bl _,H,I.kept (Wv hk),rfl,q⟩
theorem zI{K:acs}{φ:Nat->Addr}{n:Nat}{H:Hp}:∀{ws:List W} {vs:List V} {bs:List Bool},ba K φ n H ws vs->bB xN ws=some bs->vs=bs.map V.bl
 | _,_,_,.nil,e=>by cases e;rfl
 | w::ws,_,bs,.cons h r,e=>by
  unfold bB at e;split at e
  ·rename_i b bs' e1 e2;cases e;have q:=zI r e2;unfold xN at e1;cases h <;> cases e1
   rw[q];rfl
  ·cases e
theorem Ww{K:acs}{φ:Nat->Addr}{ph:PH}{H:Hp}{w:W}{v:V}{bs:List Bool}(hH:aL K φ ph H)(r:aQ K φ ph.length H w v)(e:pM w ph=some bs):∃p,v=.ref p/\bC K H p (bs.map V.bl):=by
 unfold pM at e;split at e
 ·rename_i hL;cases r with
  | ref hi=>
   unfold cM at hL;simp only at hL;split at hL
   ·rename_i ws hw;obtain⟨vs,hv,rs⟩:=hH.hp _ _ hw;simp only[cL,hw,afy] at e;rw[zI rs e] at hv;exact⟨_,rfl,bC.of hv⟩
   ·cases hL
  | fl h rs=>
   simp only[cL,afy] at e;have q:=zI rs e;subst q;exact⟨_,rfl,h.sq⟩
  | _=>cases hL
 ·cases e
theorem vJ{K:acs}:ig K (fun xs H Q=>∃p,∃bs:List Bool,xs=[.ref p]/\bC K H p (bs.map V.bl)/\Q (.bl (bs.all id)) H) jB:=by
 intro φ ph H xs vs w ph' Q hH r e k;unfold jB at e;split at e
 ·rename_i x;cases q:pM x ph with
  | none=>rw[q] at e;cases e
  | some bs=>
   rw[q] at e;cases e;cases r with
   | cons r r'=>
    cases r';obtain⟨p,rfl,hs⟩:=Ww hH r q;exact⟨p,bs,rfl,hs,k φ H _ hH Step.refl (.bl _)⟩
 ·cases e
end
noncomputable def wg(w:W):Po (List W×(PH->Bool)):=fun ph=>match w with
 | .tup ws=>some ((ws,fun _=>true),ph)
 | w=>lw w ph
noncomputable def fR(m:EM):IM:=fun σ=>aw (m σ) fun w=>lift (wg w)
variable{m:EM}
theorem acv{σ:L2.St}{R:It->Hp->Prop}(h:tI X (fR m) σ H R):tI X (wX m) σ H R\/tI X (Ak m) σ H R:=by
 obtain⟨φ,ph,ws,hH,hS,h⟩:=h;unfold fR at h;rw[cI] at h;cases q:m ws ph with
 | no=>rw[q] at h;exact h.elim
 | ex x ph'=>
  refine .inl ⟨φ,ph,ws,hH,hS,?_⟩;unfold wX;rw[cI,q];rw[q] at h;exact h
 | ok w ph'=>
  rw[q] at h;have h:(lift (wg w) ph').Run _ _:=h;by_cases hw:∃us,w=.tup us
  ·obtain⟨us,rfl⟩:=hw;refine .inr ⟨φ,ph,ws,hH,hS,?_⟩;unfold Ak;rw[cI,q];exact h
  ·refine .inl ⟨φ,ph,ws,hH,hS,?_⟩;unfold wX;rw[cI,q];have e:wg w=lw w:=by
    funext p
    cases w <;> first | rfl | exact absurd ⟨_,rfl⟩ hw
   rw[e] at h;exact h
theorem qR{tg e:Expr}(hl:JE X e m):JI X tg e (fR m):=⟨by
 intro pins s σ H R I h
 rcases acv h with h | h
 ·exact XA hl.h pins s σ H R I h
 ·exact Z5 hl.h pins s σ H R I h⟩
section
variable{X:Cx}{pins:List (Addr×Obj)}{σ:L2.St}{H:Hp}{s:aem}{h':Heap}
theorem E7{t':Nat}{fp:List Addr}{T:Addr}{o:HO}(I:Inv X pins σ H s)(k:∀b u,b∉fp->s.heap.get? b=some u->h'.get? b=some u)(hf:∀b∈fp,iq X pins H b)(hp:s.heap.objs.size<=T)
  (new:cX X.prog X.w (upd H T o) h' T o):Inv X pins σ (upd H T o) { s with heap:=h',toks:=t' }:=by
 have hn:=I.aI.fresh hp;have neT:∀b u,s.heap.get? b=some u->b≠T:=fun b u e=>afi (aeB (aex e) hp)
 have lD:∀b u,H b=some u->b∉fp:=fun b u e z=>by rw[(hf b z).1] at e;cases e
 refine I.step (g':=s.gens) (d':=s.drawn) (ch:=fp) (fun b hb=>?_) (fun b u _ _ hc e _=>k b u hc e) (fun b u _ _ hc e _=>⟨u.slots,k b u hc e⟩) (fun b u _ e n=>by rw[bz (neT b u e)];exact n)
  (fun b u hc e=>⟨u,k b u hc e⟩) (fun b xs e=>by rw[bz (fo e hn)];exact e) (fun b u v e=>by rw[bz (fo e hn)];exact e) (fun b ps e=>⟨#[],by rw[bz (fo e hn),e];simp⟩) (fun m hm=>?_) (fun b u e=>?_) I.bare
 ·obtain⟨_,f1,_,f3,f4,f5⟩:=hf b hb;exact⟨f3,f1,f4,f5⟩
 ·obtain⟨u,es,ep,ho,r⟩:=hm;exact⟨u,es,ep,k _ u (fun z=>(hf _ z).2.1 rfl) ho,r⟩
 ·by_cases hb:b=T
  ·subst hb;rw[bZ] at e;cases e;exact new
  ·rw[bz hb] at e;refine(I.aI b u e).jy (fun c v hc q=>k c v ?_ q) (fun c q=>by rw[bz (fo q hn)];exact q) fun c xs q=>by rw[bz (fo q hn)];exact q
   rcases hc with z | z
   ·rw[z];exact lD b u e
   ·exact lD c _ z
theorem E8{t':Nat}{fp:List Addr}(I:Inv X pins σ H s)(k:∀b u,b∉fp->s.heap.get? b=some u->h'.get? b=some u)(hf:∀b∈fp,iq X pins H b):Inv X pins σ H { s with heap:=h',toks:=t' }:=by
 have lD:∀b u,H b=some u->b∉fp:=fun b u e z=>by rw[(hf b z).1] at e;cases e
 refine I.step (g':=s.gens) (d':=s.drawn) (ch:=fp) (fun b hb=>?_) (fun b u _ _ hc e _=>k b u hc e) (fun b u _ _ hc e _=>⟨u.slots,k b u hc e⟩) (fun b u _ e n=>n)
  (fun b u hc e=>⟨u,k b u hc e⟩) (fun b xs e=>e) (fun b u v e=>e) (fun b ps e=>⟨#[],by rw[e];simp⟩) (fun m hm=>?_) (fun b u e=>?_) I.bare
 ·obtain⟨_,f1,_,f3,f4,f5⟩:=hf b hb;exact⟨f3,f1,f4,f5⟩
 ·obtain⟨u,es,ep,ho,r⟩:=hm;exact⟨u,es,ep,k _ u (fun z=>(hf _ z).2.1 rfl) ho,r⟩
 ·refine(I.aI b u e).jy (fun c v hc q=>k c v ?_ q) (fun _ q=>q) fun _ _ q=>q
  rcases hc with z | z
  ·rw[z];exact lD b u e
  ·exact lD c _ z
end
noncomputable def Jo(K:acs)(a:Addr):It:=
 ⟨fun i H=>∃xs x,bC K H a xs/\xs[i]? =some x,fun i H x H'=>∃T y,x=.ref T/\H T=none/\H'=upd H T (.tup [.int i,y])/\∀xs,bC K H a xs->xs[i]? =some y,fun i H=>∃xs,bC K H a xs/\xs.length<=i⟩
variable{j:Nat}{pos:Pos}
theorem UU{w:World}{gE:List Expr}(a e it:Addr)(Jp:e≠it):Turn P w K (.Tuple gE j pos) (Jo K a) [e,it] e (fun i h=>(∃old,IsEnum h e it (i:Int) old)/\h.IsListIter it a i) where
 mem:=by simp
 obj:=fun i h st b hb=>by
  obtain⟨⟨old,he⟩,o,e1,c,d⟩:=st
  rcases aeG.mp hb with rfl | hb
  ·exact⟨_,he,fun v z=>by cases z⟩
  ·have:b=it:=by simpa using hb
   subst this;exact⟨o,e1,fun v z=>by rw[d] at z;cases z⟩
 keep:=fun i h h' st k=>⟨let ⟨old,he⟩:=st.1;⟨old,k e (by simp) _ he⟩,st.2.at fun o q=>k it (by simp) o q⟩
 item:=by
  intro X hP hw hK hc i pins s σ H E I hf st hg;subst hP hw hK;obtain⟨⟨old,he⟩,hit⟩:=st;obtain⟨xs,x,hq,hx⟩:=hg;obtain⟨its,rv,p,hz⟩:=I.list hq;obtain⟨u,hu,ru⟩:=rv.get hx;refine wpAny_pyNext_enum_item he hit p.isList (x:=u) (by simpa using hu) Jp fun h1 ho adD hT hsz hk=>⟨_,rfl,?_⟩
  refine wpAny_letOwnedTupleGo_enum ho fun h2 he2 dF=>?_
  have kk:∀b o,b∉[e,it]->s.heap.get? b=some o->h2.get? b=some o:=fun b o hb q=>by
   have xO:b≠e:=fun z=>hb (by simp[z])
   have BH:b≠it:=fun z=>hb (by simp[z])
   exact(dF.2 b xO).trans (hk b o xO BH q)
  have Jq:s.heap.objs.size≠e:=ahh (aex he);have new:cX X.prog X.w (upd H s.heap.objs.size (.tup [.int i,x])) h2 s.heap.objs.size (.tup [.int i,x]):=
   ⟨by show 2<=aeD;decide,[.int i s.toks,u],.cons ⟨_,rfl⟩ (.cons ru .nil),_,(dF.2 _ Jq).trans hT,rfl,_,rfl⟩
  refine⟨.ref s.heap.objs.size,_,E7 (s:=s) (h':=h2) (t':=s.toks+1) I kk hf (aeq _) new,rfl,⟨_,x,rfl,I.aI.fresh (aeq _),rfl,fun ys hy=>by rw[I.Ee hy hq];exact hx⟩,⟨⟨_,by simpa using he2⟩,adD.at fun o q=>(dF.2 it Jp.symm).trans q⟩,fun b hb=>?_⟩;rw[bz (fun z=>?_)]
  ·exact(hf b hb).1
  ·subst z
   rcases aeG.mp hb with z | z
   ·exact Jq z
   ·have z:s.heap.objs.size=it:=by simpa using z
    obtain⟨o,e1,_⟩:=hit;exact ahh (aex e1) z
 done:=by
  intro X hP hw hK hc i pins s σ H E I hf st hg;subst hP hw hK;obtain⟨⟨old,he⟩,hit⟩:=st;obtain⟨xs,hq,hx⟩:=hg;obtain⟨its,rv,p,hz⟩:=I.list hq;have hl:=rv.length;exact wpAny_pyNext_enum_end (I.ok.hd hc) he hit p.isList (by simp;omega) fun h1 eb=>⟨rfl,E8 (t':=s.toks) I (fun b o hb q=>eb b o (fun z=>hb (by simp[z])) q) hf⟩
 self:=fun _ _ _ _ _ st h=>let ⟨_,he⟩:=st.1;wpAny_pyIter_enum he h
noncomputable def adE(K:acs)(ta:TA):TI:=fun σ H R=>ta σ H fun vs H1=>∃a,vs=[.ref a]/\(∃xs,bC K H1 a xs)/\R (Jo K a) H1
variable{p:Pos}
theorem X7{a:Expr}{ta:TA}{gE:List Expr}{tp:Pos}(hg:Gl X "enumerate")(hm:X.mg "enumerate"=none)(ha:PA X [a] ta)(hs:aeS [a] X.env=[(false,eval a X.env)]:=by rfl) :
  PI X (.Tuple gE j tp) (.Call (.Name "enumerate" p) [a] [] pos) (adE X.K ta):=by
 intro pins s σ H R I h;refine Call_ (oN I hg hm PyProof.Rows.boot_enumerate (aga (aV (ha pos pins s σ H _ I h) fun us s1 ⟨vs,H1,I1,r1,q1⟩=>?_) hs rfl));obtain⟨a,e,⟨xs,hq⟩,q⟩:=q1;subst e;cases r1 with
 | cons r rr=>
  cases rr;cases r;obtain⟨its,rv,pl,hz⟩:=I1.list hq;refine call_enumerate_list pl.isList fun h' he hit hsz hk=>?_
  refine wpAny_pyIter_enum he ?_;have I2:Inv X pins σ H1 { s1 with heap:=h' }:=I1.kept (t':=s1.toks) hk;refine⟨s1.heap.objs.size+1,[s1.heap.objs.size+1,s1.heap.objs.size],_,_,H1,rfl,I2,UU a _ _ (Nat.succ_ne_self _),⟨⟨_,by simpa using he⟩,hit⟩,fun b hb=>?_,q⟩;have hb:s1.heap.objs.size<=b:=by
   rcases aeG.mp hb with rfl | hb
   ·exact afM _
   ·have:b=s1.heap.objs.size:=by simpa using hb
    exact ajF this.symm
  exact I1.pB hb (I1.aI.fresh hb)
noncomputable def iT(ws:List W):List W:=(afr ws.length).map fun(i:Nat)=>.tup [.int ((i:Nat):Int),ws.getD i .aE]
noncomputable def Ao(xs:List W):Po (List W×(PH->Bool)):=fun ph=>match xs with
 | [w]=>(lw w ph).map fun r=>((iT r.1.1,r.1.2),r.2)
 | _=>none
noncomputable def pe(m:AM):IM:=fun σ=>aw (m σ) fun xs=>lift (Ao xs)
theorem DV{w:W}(h:(iT ws)[i]? =some w):∃x,ws[i]? =some x/\w=.tup [.int i,x]:=by
 unfold iT at h;rw[aeA] at h;cases q:(afr ws.length)[i]? with
 | none=>rw[q] at h;cases h
 | some k=>
  rw[q] at h;obtain⟨hi,e⟩:=aen.mp q;rw[ahQ] at e;subst e;rw[agy] at hi;cases h;exact⟨ws[i],by simp[hi],by simp[hi]⟩
theorem Dx(h:(iT ws)[i]? =none):ws.length<=i:=by
 unfold iT at h
 simpa using h
theorem X8{a:Expr}{am:AM}{gE:List Expr}{tp:Pos}(hg:Gl X "enumerate")(hm:X.mg "enumerate"=none)(ha:IA X [a] am)(hs:aeS [a] X.env=[(false,eval a X.env)]:=by rfl) :
  II X (.Tuple gE j tp) (.Call (.Name "enumerate" p) [a] [] pos) (pe am):=by
 refine PI.imp (X7 hg hm ha hs) fun σ H R h=>?_
 obtain⟨φ,ph,ws,hH,hS,h⟩:=h;refine tA.bind hH hS h fun xs ph1 aA H1 vs aC s1 r1 h=>?_
 obtain⟨r,ph',e,k⟩:=run_lift h;unfold Ao at e;split at e
 ·rename_i w;cases r1 with
  | cons r1 rr=>
   cases rr;unfold lw at e;cases r1 with
   | ref hi=>
    rename_i i;simp only at e;cases q:ph1[i]? with
    | none=>rw[q] at e;cases e
    | some o=>
     cases o with
     | bO _=>rw[q] at e;cases e
     | obj _ _=>rw[q] at e;cases e
     | nK _=>rw[q] at e;cases e
     | xA _=>rw[q] at e;cases e
     | lst items=>
      rw[q] at e;simp only[afa] at e;cases e;obtain⟨vs,hv,r⟩:=aC.hp _ _ q;refine⟨_,rfl,⟨vs,bC.of hv⟩,k aA H1 _ aC s1 ?_⟩;intro aY ph2 H2 bf s2 hc j;have lE:ph2[i]? =some (.lst items):=of_decide_eq_true hc;obtain⟨us,hu,ru⟩:=bf.hp _ _ lE;rw[s2.eq i hi] at hu;refine⟨fun w de=>?_,fun hn=>?_⟩
      ·obtain⟨x,hx,rfl⟩:=DV de;obtain⟨u,eu,ko⟩:=ru.get hx;refine⟨⟨us,u,bC.of hu,eu⟩,fun y fD hy=>?_⟩;obtain⟨T,z,rfl,hT,rfl,hy⟩:=hy;have:=hy us (bC.of hu);rw[eu] at this;cases this;exact⟨bf.tup hT,gv hT,.tup bZ (.cons (.int _) (.cons (ko.mono (gv hT)) .nil))⟩
      ·refine⟨us,bC.of hu,?_⟩;rw[<- ru.length];exact Dx hn
   | fl hq r=>
    simp only[afa] at e;cases e;refine⟨_,rfl,⟨_,hq.sq⟩,k aA H1 _ aC s1 ?_⟩;intro aY ph2 H2 bf s2 hc j;have h2:=aQ.mono s2 (.fl hq r);cases h2 with
    | fl h2 r2=>
     refine⟨fun w de=>?_,fun hn=>?_⟩
     ·obtain⟨x,hx,rfl⟩:=DV de;obtain⟨u,eu,ko⟩:=r2.get hx;refine⟨⟨_,u,h2.sq,eu⟩,fun y fD hy=>?_⟩;obtain⟨T,z,rfl,hT,rfl,hy⟩:=hy;have:=hy _ h2.sq;rw[eu] at this;cases this;exact⟨bf.tup hT,gv hT,.tup bZ (.cons (.int _) (.cons (ko.mono (gv hT)) .nil))⟩
     ·refine⟨_,h2.sq,?_⟩;rw[<- r2.length];exact Dx hn
   | _=>cases e
 ·cases e
theorem X9{a:Expr}{am:AM}{gE:List Expr}{tp:Pos}(hg:Gl X "enumerate")(hm:X.mg "enumerate"=none)(hn:isStar a=false)(ha:JA X [a] am) :
  JI X (.Tuple gE j tp) (.Call (.Name "enumerate" p) [a] [] pos) (pe am):=⟨X8 hg hm ha.h (eU hn)⟩
theorem yV{e:Expr}{gens:List Comprehension}{scope:Scope}{pos':Pos}{x:Str}{line:Nat}(hk:env.scope.kind=.function)(hx:env.scope.names.lookup x=some .local)(hl:(pos'.line==p.line)=true)
  (hn:(scope.names.any fun y=>y.1==x&&(y.2==.local||y.2==.cell))=false):agL (.ListComp e gens scope p) (some (.Name x pos')) line env=pure true:=by
 have e1:(env.kindOf x==some .local)=true:=by unfold Env.kindOf;rw[hx];rfl
 have e2:(env.blockKind==.function)=true:=by unfold Env.blockKind;rw[hk];rfl
 show pure (env.blockKind==.function&&env.kindOf x==some .local&&pos'.line==p.line&& !(scope.names.any fun y=>y.1==x&&(y.2==.local||y.2==.cell)))=_;rw[e1,e2,hl,hn];rfl
noncomputable def newD:Po W:=fun ph=>some (.ref ph.length,ph++[.bO []])
noncomputable def rW:EM:=fun _=>lift newD
theorem Wx{p:Addr}(hH:aL K φ ph H)(hp:H p=none) :
  aL K (ext φ ph.length p) (ph++[.bO []]) (upd H p (.dK []))/\Step K φ ph.length H (ext φ ph.length p) (ph++[PO.bO []]).length (upd H p (.dK []))/\aQ K (ext φ ph.length p) (ph++[PO.bO []]).length (upd H p (.dK [])) (.ref ph.length) (.ref p):=by
 have hl:(ph++[PO.bO []]).length=ph.length+1:=by simp
 rw[hl];have s:=uZ (K:=K) (φ:=φ) (n:=ph.length) (o:=HO.dK []) hp;refine⟨hH.new hp (.inl ⟨[],bZ,.nil⟩),s,?_⟩;have q:aQ K (ext φ ph.length p) (ph.length+1) (upd H p (.dK [])) (.ref ph.length) (.ref (ext φ ph.length p ph.length)):=.ref (afH _);rw[k6] at q;exact q
theorem FZ:JE X (.Dict [] [] pos) rW:=⟨PE.imp Wf fun σ H Q h p hp=>by
 obtain⟨φ,ph,ws,hH,hS,h⟩:=h;obtain⟨w,ph',e,k⟩:=run_lift h;cases e;obtain⟨q1,q2,q3⟩:=Wx hH hp;exact k _ _ _ q1 q2 q3⟩
theorem u4{a b:Key}(h:bX a=bX b):a=b:=by
 cases a <;> cases b <;> simp_all [bX]
theorem uM:∀{a b:List Key},a.map bX=b.map bX->a=b
 | [],[],_=>rfl
 | [],_::_,e=>by simp at e
 | _::_,[],e=>by simp at e
 | x::xs,y::ys,e=>by
  rw[aeP,aeP] at e;injection e with e1 e2
  rw[u4 e1,uM e2]
noncomputable def nz:W->Option Key
 | .int i=>some (.inl i)
 | .str x=>some (.inr x)
 | _=>none
noncomputable def AY:W->Option (List Key)
 | .tup ws=>bB nz ws
 | _=>none
variable{k:Key}
theorem zJ{w:W}(h:nz w=some k):w=bX k:=by
 cases w <;> simp only[nz] at h <;> first | (cases h;done) | (cases h;rfl)
theorem Es:∀{ws:List W} {ks:List Key},bB nz ws=some ks->ws=ks.map bX
 | [],ks,h=>by cases h;rfl
 | w::ws,ks,h=>by
  unfold bB at h;split at h
  ·rename_i b bs e1 e2;cases h;rw[zJ e1,Es e2];rfl
  ·cases h
theorem E9{w:W}{ks:List Key}(h:AY w=some ks):w=.tup (ks.map bX):=by
 cases w <;> simp only[AY] at h <;> first | (cases h;done) | rw[Es h]
theorem Ap(r:aQ K φ n H (bX k) v):v=kV k:=by
 cases k with
 | inl i=>cases r;rfl
 | inr x=>cases r;rfl
theorem F0{K:acs}{φ:Nat->Addr}{n:Nat}{H:Hp}:∀{ks:List Key} {vs:List V},ba K φ n H (ks.map bX) vs->vs=ks.map kV
 | [],_,r=>by cases r;rfl
 | k::ks,_,r=>by
  cases r with
  | cons h r=>rw[Ap h,F0 r];rfl
theorem F1{ks:List Key}(r:aQ K φ n H (.tup (ks.map bX)) v):∃b,v=.ref b/\H b=some (.tup (ks.map kV)):=by
 cases r with
 | tup h r=>rw[F0 r] at h;exact⟨_,rfl,h⟩
noncomputable def gx(kws:List (W×W))(k:W):Option W:=(kws.find? fun p=>decide (p.1=k)).map (·.2)
noncomputable def ij(kws:List (W×W))(k w:W):List (W×W):=if(kws.any fun p=>decide (p.1=k))=true then kws.map (fun p=>if p.1=k then(p.1,w) else p) else kws++[(k,w)]
noncomputable def lz(K:acs)(φ:Nat->Addr)(n:Nat)(H:Hp):Option W->Option V->Prop
 | none,none=>True
 | some w,some v=>aQ K φ n H w v
 | _,_=>False
section
variable{K:acs}{φ:Nat->Addr}{n:Nat}{H:Hp}
theorem aaz{a b:Key}:decide (bX a=bX b)=decide (a=b):=by
 rw[decide_eq_decide];exact⟨u4,fun e=>by rw[e]⟩
theorem Ya{a b:List Key}:decide (W.tup (a.map bX)=W.tup (b.map bX))=decide (a=b):=by
 rw[decide_eq_decide];exact⟨fun e=>uM (W.tup.inj e),fun e=>by rw[e]⟩
theorem cq.val(k:Key):∀{kws:List (W×W)} {kvs:List (Key×V)},cq K φ n H kws kvs->lz K φ n H (gx kws (bX k)) (ir kvs k)
 | _,_,.nil=>trivial
 | _,_,.cons (k:=j) (w:=w) (v:=v) h r=>by
  unfold gx;rw[agb];by_cases e:j=k
  ·rw[decide_eq_true (congrArg bX e),qI (p:=(j,v)) e];exact h
  ·rw[decide_eq_false (fun z=>e (u4 z)),qJ (p:=(j,v)) e];exact cq.val k r
theorem cx.val(k:List Key):∀{kws:List (W×W)} {kvs:List (List Key×V)},cx K φ n H kws kvs->lz K φ n H (gx kws (.tup (k.map bX))) (ir kvs k)
 | _,_,.nil=>trivial
 | _,_,.cons (k:=j) (w:=w) (v:=v) h r=>by
  unfold gx;rw[agb];by_cases e:j=k
  ·rw[decide_eq_true (by rw[e]),qI (p:=(j,v)) e];exact h
  ·rw[decide_eq_false (fun z=>e (uM (W.tup.inj z))),qJ (p:=(j,v)) e];exact cx.val k r
theorem cq.len:∀{kws:List (W×W)} {kvs:List (Key×V)},cq K φ n H kws kvs->kws.length=kvs.length
 | _,_,.nil=>rfl
 | _,_,.cons _ r=>by rw[aeO,aeO,cq.len r]
theorem cx.len:∀{kws:List (W×W)} {kvs:List (List Key×V)},cx K φ n H kws kvs->kws.length=kvs.length
 | _,_,.nil=>rfl
 | _,_,.cons _ r=>by rw[aeO,aeO,cx.len r]
theorem cq.any(k:Key):∀{kws:List (W×W)} {kvs:List (Key×V)},cq K φ n H kws kvs->(kws.any fun p=>decide (p.1=bX k))=kvs.any fun p=>decide (p.1=k)
 | _,_,.nil=>rfl
 | _,_,.cons (k:=j) _ r=>by
  rw[aft,aft,cq.any k r];show(decide (bX j=bX k)||_)=(decide (j=k)||_);rw[aaz]
theorem cx.any(k:List Key):∀{kws:List (W×W)} {kvs:List (List Key×V)},cx K φ n H kws kvs->(kws.any fun p=>decide (p.1=.tup (k.map bX)))=kvs.any fun p=>decide (p.1=k)
 | _,_,.nil=>rfl
 | _,_,.cons (k:=j) _ r=>by
  rw[aft,aft,cx.any k r];show(decide (W.tup (j.map bX)=W.tup (k.map bX))||_)=(decide (j=k)||_);rw[Ya]
theorem cq.iV(k:Key){w:W}{v:V}(q:aQ K φ n H w v):∀{kws:List (W×W)} {kvs:List (Key×V)},cq K φ n H kws kvs->cq K φ n H (kws.map fun p=>if p.1=bX k then(p.1,w) else p) (kvs.map fun p=>if p.1=k then(p.1,v) else p)
 | _,_,.nil=>.nil
 | _,_,.cons (k:=j) h r=>by
  rw[aeP,aeP];by_cases e:j=k
  ·rw[if_pos (show bX j=bX k by rw[e]),if_pos (show j=k from e)];exact .cons q (cq.iV k q r)
  ·rw[if_neg (show ¬bX j=bX k from fun z=>e (u4 z)),if_neg (show ¬j=k from e)];exact .cons h (cq.iV k q r)
theorem cx.iV(k:List Key){w:W}{v:V}(q:aQ K φ n H w v):∀{kws:List (W×W)} {kvs:List (List Key×V)},cx K φ n H kws kvs->cx K φ n H (kws.map fun p=>if p.1=.tup (k.map bX) then(p.1,w) else p) (kvs.map fun p=>if p.1=k then(p.1,v) else p)
 | _,_,.nil=>.nil
 | _,_,.cons (k:=j) h r=>by
  rw[aeP,aeP];by_cases e:j=k
  ·rw[if_pos (show W.tup (j.map bX)=W.tup (k.map bX) by rw[e]),if_pos (show j=k from e)];exact .cons q (cx.iV k q r)
  ·rw[if_neg (show ¬W.tup (j.map bX)=W.tup (k.map bX) from fun z=>e (uM (W.tup.inj z))),if_neg (show ¬j=k from e)];exact .cons h (cx.iV k q r)
theorem cq.snoc(k:Key){w:W}{v:V}(q:aQ K φ n H w v):∀{kws:List (W×W)} {kvs:List (Key×V)},cq K φ n H kws kvs->cq K φ n H (kws++[(bX k,w)]) (kvs++[(k,v)])
 | _,_,.nil=>.cons q .nil
 | _,_,.cons h r=>.cons h (cq.snoc k q r)
theorem cx.snoc(k:List Key){w:W}{v:V}(q:aQ K φ n H w v):∀{kws:List (W×W)} {kvs:List (List Key×V)},cx K φ n H kws kvs->cx K φ n H (kws++[(.tup (k.map bX),w)]) (kvs++[(k,v)])
 | _,_,.nil=>.cons q .nil
 | _,_,.cons h r=>.cons h (cx.snoc k q r)
theorem cq.put(k:Key){w:W}{v:V}(q:aQ K φ n H w v){kws:List (W×W)}{kvs:List (Key×V)}(r:cq K φ n H kws kvs):cq K φ n H (ij kws (bX k) w) (putK kvs k v):=by
 unfold ij putK;rw[r.any k];by_cases e:(kvs.any fun kv=>decide (kv.1=k))=true
 ·rw[if_pos e,if_pos e];exact r.iV k q
 ·rw[if_neg e,if_neg e];exact r.snoc k q
theorem cx.put(k:List Key){w:W}{v:V}(q:aQ K φ n H w v){kws:List (W×W)}{kvs:List (List Key×V)}(r:cx K φ n H kws kvs):cx K φ n H (ij kws (.tup (k.map bX)) w) (putK kvs k v):=by
 unfold ij putK;rw[r.any k];by_cases e:(kvs.any fun kv=>decide (kv.1=k))=true
 ·rw[if_pos e,if_pos e];exact r.iV k q
 ·rw[if_neg e,if_neg e];exact r.snoc k q
end
section
variable{X:Cx}{pins:List (Addr×Obj)}{σ:L2.St}{H:Hp}{s:aem}{a:Addr}
theorem jS(I:Inv X pins σ H s)(e:H a=some (.dK [])):Inv X pins σ (upd H a (.dT [])) s:=by
 obtain⟨z,hd,vs,rel,o,es,ep,h1,h2,h3,h4,h5,h6⟩:=rj I.aI e;cases rel;have he:es.toList=[]:=by
  generalize es.toList=l at h5;cases h5;rfl
 exact I.write (x:=a) (e:=a) (h':=s.heap) (t':=s.toks) (o:=.dT []) (by rw[e];trivial) (.inl rfl) (fun _ _ _ q=>q) ⟨o,h1⟩ ⟨afR _,hd,[],.nil,o,es,ep,h1,h2,h3,by rw[he];rfl,ahW⟩
theorem jp(I:Inv X pins σ H s)(e:H a=some (.dT [])):Inv X pins σ (upd H a (.dK [])) s:=by
 obtain⟨z,hd,xs,rel,o,es,ep,h1,h2,h3,h4,h5,h6⟩:=Aj I.aI e;cases rel;have he:es= #[]:=by
  have:es.toList=[]:=h4
  simpa using this
 subst he;exact I.write (x:=a) (e:=a) (h':=s.heap) (t':=s.toks) (o:=.dK []) (by rw[e];trivial) (.inl rfl) (fun _ _ _ q=>q) ⟨o,h1⟩ ⟨afR _,hd,[],.nil,o,#[],ep,h1,h2,h3,fun x hx=>by simp at hx,.nil,ahW⟩
theorem kQ{o u:HO}(e:H a=some o):upd (upd H a u) a o=H:=by
 rw[zy]
 funext b
 unfold upd;split
 ·rename_i q;rw[q,e]
 ·rfl
end
noncomputable def pf(H:Hp)(a:Addr)(y:V)(o:Option V):Prop:=eY H a y o\/(o=none/\((H a=some (.dK [])/\∃(k:List Key) (b:Addr),y=.ref b/\H b=some (.tup (k.map kV)))\/(H a=some (.dT [])/\∃k:Key,y=kV k)))
noncomputable def G1(H:Hp)(a:Addr)(y v:V)(H':Hp):Prop:=wQ H a y v H'\/(H a=some (.dK [])/\∃(k:List Key) (b:Addr),y=.ref b/\H b=some (.tup (k.map kV))/\H'=upd H a (.dT [(k,v)]))\/(H a=some (.dT [])/\∃k:Key,y=kV k/\H'=upd H a (.dK [(k,v)]))
section
variable{X:Cx}
theorem aaA(hu:X.A.units+1<cLine):bx X (afh .In) (fun y x H Q=>∃a o,x=.ref a/\pf H a y o/\Q (.bl o.isSome) H):=by
 intro pins s σ H y x u v Q I ry rx h;obtain⟨a,o,rfl,g,q⟩:=h;cases rx
 rcases g with g | ⟨rfl,⟨e,k,b,ey,eb⟩ | ⟨e,k,ey⟩⟩
 ·exact AQ hu I g ry fun s3 I3=>⟨.bl o.isSome,H,I3,rfl,q⟩
 ·subst ey;have g:eY (upd H a (.dT [])) a (.ref b) none:=.inr ⟨[],k,b,.inl bZ,rfl,by rw[bz (lg eb e (fun z=>nomatch z))];exact eb,rfl⟩;exact AQ hu (jS I e) g ry fun s3 I3=>⟨.bl false,H,by have:=jp I3 bZ;rwa [kQ e] at this,rfl,q⟩
 ·subst ey;have g:eY (upd H a (.dK [])) a (kV k) none:=.inl ⟨[],k,.inl bZ,rfl,rfl⟩;exact AQ hu (jp I e) g ry fun s3 I3=>⟨.bl false,H,by have:=jS I3 bZ;rwa [kQ e] at this,rfl,q⟩
theorem Yb(hu:X.A.units+1<cLine):bx X (afh .NotIn) (fun y x H Q=>∃a o,x=.ref a/\pf H a y o/\Q (.bl (!o.isSome)) H):=by
 intro pins s σ H y x u v Q I ry rx h;obtain⟨a,o,rfl,g,q⟩:=h;cases rx
 rcases g with g | ⟨rfl,⟨e,k,b,ey,eb⟩ | ⟨e,k,ey⟩⟩
 ·exact zD hu I g ry fun s3 I3=>⟨.bl (!o.isSome),H,I3,rfl,q⟩
 ·subst ey;have g:eY (upd H a (.dT [])) a (.ref b) none:=.inr ⟨[],k,b,.inl bZ,rfl,by rw[bz (lg eb e (fun z=>nomatch z))];exact eb,rfl⟩;exact zD hu (jS I e) g ry fun s3 I3=>⟨.bl true,H,by have:=jp I3 bZ;rwa [kQ e] at this,rfl,q⟩
 ·subst ey;have g:eY (upd H a (.dK [])) a (kV k) none:=.inl ⟨[],k,.inl bZ,rfl,rfl⟩;exact zD hu (jp I e) g ry fun s3 I3=>⟨.bl true,H,by have:=jS I3 bZ;rwa [kQ e] at this,rfl,q⟩
theorem set_dict(hu:X.A.units+1<cLine):lp X (fun o i v H Q=>∃a H',o=.ref a/\G1 H a i v H'/\Q H'):=by
 intro pins s σ H o i v ov iv u Q I ro ri rv h;obtain⟨a,H',rfl,g,q⟩:=h;cases ro
 rcases g with g | ⟨e,k,b,ey,eb,eH⟩ | ⟨e,k,ey,eH⟩
 ·exact yT hu I g ri rv fun s3 I3=>⟨H',I3,q⟩
 ·subst ey eH;have g:wQ (upd H a (.dT [])) a (.ref b) v (upd (upd H a (.dT [])) a (.dT (putK [] k v))):=.inr ⟨[],k,b,bZ,rfl,by rw[bz (lg eb e (fun z=>nomatch z))];exact eb,by decide,rfl⟩;refine yT hu (jS I e) g ri rv fun s3 I3=>⟨_,?_,q⟩
  rw[zy] at I3;exact I3
 ·subst ey eH;have g:wQ (upd H a (.dK [])) a (kV k) v (upd (upd H a (.dK [])) a (.dK (putK [] k v))):=.inl ⟨[],k,bZ,rfl,by decide,rfl⟩;refine yT hu (jp I e) g ri rv fun s3 I3=>⟨_,?_,q⟩
  rw[zy] at I3;exact I3
theorem Yc(hu:X.A.units+1<cLine):i6 X (fun x y H Q=>∃a v,x=.ref a/\eY H a y (some v)/\Q v H):=by
 intro value slice pins s σ H x y v u Q I rx ry h hs;obtain⟨a,w,rfl,g,q⟩:=h;cases rx;have hT:=RI I g;unfold aih;refine aeh ?_;rw[getitemInPython_of_ne hT.not_modules];refine aeh (wpAny_specialOf hT PySem.F.slot_dict_getitem.lookup ?_);have fin:wpAny (model X.prog X.w) X.A (ajd slice false (.ref a) u) (fun r B7=>wpAny (model X.prog X.w) X.A (letTemporaryGo value (.ref a) r >>= fun _=>pure r) (EP X pins σ Q) X.xe B7) X.xe s:=by
  rw[hs];exact wpAny_operating (UJ hu I g ry fun w' s3 I3 fZ=>aeh (wpAny_letTemporaryGo (aes ⟨w,H,I3,fZ,q⟩)))
 first
  | exact aes (aeh fin)
  | exact aeh (aes (aeh fin))
  | exact aeh fin
end
noncomputable def fI:W->Bool
 | .tup _=>true
 | _=>false
noncomputable def gy(kws:List (W×W))(x:W):Bool:=((nz x).isSome&&kws.all fun p=> !fI p.1)||((AY x).isSome&&kws.all fun p=>fI p.1)
noncomputable def ft(y:W)(ph:PH):Option (Nat×List (W×W)):=match y with
 | .ref i=>match ph[i]? with
  | some (.bO kws)=>some (i,kws)
  | _=>none
 | _=>none
section
variable{K:acs}{φ:Nat->Addr}{ph:PH}{H:Hp}
variable{kws:List (W×W)}
theorem cq.Jr{kvs:List (Key×V)}{n:Nat}(r:cq K φ n H kws kvs)(h:kws.all (fun p=>fI p.1)=true):kws=[]/\kvs=[]:=by
 cases r with
 | nil=>exact⟨rfl,rfl⟩
 | cons h' r=>
  rename_i k w v kws kvs;rw[afG] at h;have:fI (bX k)=true:=by simp only[aev] at h;exact h.1
  cases k <;> cases this
theorem cx.AZ{kvs:List (List Key×V)}{n:Nat}(r:cx K φ n H kws kvs)(h:kws.all (fun p=> !fI p.1)=true):kws=[]/\kvs=[]:=by
 cases r with
 | nil=>exact⟨rfl,rfl⟩
 | cons h' r=>
  rw[afG] at h;have h:=(aev _ _▸h).1;cases h
variable{v:V}{i:Nat}
theorem mw{y:W}(hH:aL K φ ph H)(r:aQ K φ ph.length H y v)(e:ft y ph=some (i,kws)):y=.ref i/\i<ph.length/\ph[i]? =some (.bO kws)/\v=.ref (φ i):=by
 unfold ft at e;cases r with
 | ref hi=>
  simp only at e;split at e
  ·rename_i aed hw;cases e;exact⟨rfl,hi,hw,rfl⟩
  ·cases e
 | _=>cases e
theorem qL{x:W}(hH:aL K φ ph H)(hd:ph[i]? =some (.bO kws))(r:aQ K φ ph.length H x v)(hk:gy kws x=true):∃o,pf H (φ i) v o/\lz K φ ph.length H (gx kws x) o:=by
 unfold gy at hk;rw[ahn,aev,aev] at hk
 rcases hk with⟨h1,h2⟩ | ⟨h1,h2⟩
 ·obtain⟨k,hk⟩:=afC.mp h1;have:=zJ hk;subst this;have:=Ap r;subst this
  rcases hH.hp _ _ hd with⟨kvs,q,rd⟩ | ⟨kvs,q,rd⟩
  ·exact⟨_,.inl (.inl ⟨kvs,k,.inl q,rfl,rfl⟩),rd.val k⟩
  ·obtain⟨rfl,rfl⟩:=rd.AZ h2;exact⟨none,.inr ⟨rfl,.inr ⟨q,k,rfl⟩⟩,trivial⟩
 ·obtain⟨ks,hk⟩:=afC.mp h1;have:=E9 hk;subst this;obtain⟨b,rfl,hb⟩:=F1 r
  rcases hH.hp _ _ hd with⟨kvs,q,rd⟩ | ⟨kvs,q,rd⟩
  ·obtain⟨rfl,rfl⟩:=rd.Jr h2;exact⟨none,.inr ⟨rfl,.inl ⟨q,ks,b,rfl,hb⟩⟩,trivial⟩
  ·exact⟨_,.inl (.inr ⟨kvs,ks,b,.inl q,rfl,hb,rfl⟩),rd.val ks⟩
theorem Wy{x w:W}{u:V}(hH:aL K φ ph H)(hi:i<ph.length)(hd:ph[i]? =some (.bO kws))(r:aQ K φ ph.length H x v)(rw:aQ K φ ph.length H w u)(hk:gy kws x=true)(hz:kws.length<aeD) :
  ∃H',G1 H (φ i) v u H'/\aL K φ (ph.set i (.bO (ij kws x w))) H'/\Step K φ ph.length H φ (ph.set i (.bO (ij kws x w))).length H':=by
 obtain⟨y,ey,my⟩:=hH.mu hd rfl;rw[afO];unfold gy at hk;rw[ahn,aev,aev] at hk
 rcases hk with⟨h1,h2⟩ | ⟨h1,h2⟩
 ·obtain⟨k,hk⟩:=afC.mp h1;have:=zJ hk;subst this;have:=Ap r;subst this
  rcases hH.hp _ _ hd with⟨kvs,q,rd⟩ | ⟨kvs,q,rd⟩
  ·have s:=kO (K:=K) (φ:=φ) (n:=ph.length) (y:=HO.dK (putK kvs k u)) ey my;exact⟨_,.inl (.inl ⟨kvs,k,q,rfl,by rw[<- rd.len];exact hz,rfl⟩),hH.put hd rfl (.inl ⟨_,bZ,(rd.put k rw).mono s⟩),s⟩
  ·obtain⟨rfl,rfl⟩:=rd.AZ h2;have s:=kO (K:=K) (φ:=φ) (n:=ph.length) (y:=HO.dK [(k,u)]) ey my;exact⟨_,.inr (.inr ⟨q,k,rfl,rfl⟩),hH.put hd rfl (.inl ⟨_,bZ,((cq.nil).put k rw).mono s⟩),s⟩
 ·obtain⟨ks,hk⟩:=afC.mp h1;have:=E9 hk;subst this;obtain⟨b,rfl,hb⟩:=F1 r
  rcases hH.hp _ _ hd with⟨kvs,q,rd⟩ | ⟨kvs,q,rd⟩
  ·obtain⟨rfl,rfl⟩:=rd.Jr h2;have s:=kO (K:=K) (φ:=φ) (n:=ph.length) (y:=HO.dT [(ks,u)]) ey my;exact⟨_,.inr (.inl ⟨q,ks,b,rfl,hb,rfl⟩),hH.put hd rfl (.inr ⟨_,bZ,((cx.nil).put ks rw).mono s⟩),s⟩
  ·have s:=kO (K:=K) (φ:=φ) (n:=ph.length) (y:=HO.dT (putK kvs ks u)) ey my;exact⟨_,.inl (.inr ⟨kvs,ks,b,q,rfl,hb,by rw[<- rd.len];exact hz,rfl⟩),hH.put hd rfl (.inr ⟨_,bZ,(rd.put ks rw).mono s⟩),s⟩
end
noncomputable def eL:W->W->Po W:=fun x y ph=>match ft y ph with
 | some p=>if gy p.2 x=true then some (.bl (gx p.2 x).isSome,ph) else none
 | none=>kq x y ph
noncomputable def kb:W->W->Po W:=fun x y ph=>match ft y ph with
 | some p=>if gy p.2 x=true then some (.bl (!(gx p.2 x).isSome),ph) else none
 | none=>wY x y ph
noncomputable def ak:W->W->Po W:=fun x y ph=>match ft x ph with
 | some p=>if gy p.2 y=true then(gx p.2 y).map fun w=>(w,ph) else none
 | none=>dH x y ph
noncomputable def rX(o i v:W):Po Unit:=fun ph=>match ft o ph with
 | some p=>if gy p.2 i=true/\p.2.length<aeD then some ((),ph.set p.1 (.bO (ij p.2 i v))) else none
 | none=>HI o i v ph
theorem lz.isSome{K:acs}{φ:Nat->Addr}{n:Nat}{H:Hp}{a:Option W}{b:Option V}(h:lz K φ n H a b):a.isSome=b.isSome:=by
 cases a <;> cases b <;> first | rfl | exact h.elim
theorem acw:cD K (fun x y H Q=>pK K (fun b=>b) x y H Q\/∃a o,y=.ref a/\pf H a x o/\Q (.bl o.isSome) H) eL:=by
 intro φ ph H x y vx vy w ph' Q hH rx ry e k;unfold eL at e;split at e
 ·rename_i p hp;obtain⟨i,kws⟩:=p;obtain⟨rfl,hi,hd,rfl⟩:=mw hH ry hp;split at e
  ·rename_i hk;cases e;obtain⟨o,g,ro⟩:=qL hH hd rx hk;exact .inr ⟨_,o,rfl,g,by rw[<- ro.isSome];exact k φ H _ hH Step.refl (.bl _)⟩
  ·cases e
 ·exact .inl (acj hH rx ry e k)
theorem aaB:cD K (fun x y H Q=>pK K (fun b=> !b) x y H Q\/∃a o,y=.ref a/\pf H a x o/\Q (.bl (!o.isSome)) H) kb:=by
 intro φ ph H x y vx vy w ph' Q hH rx ry e k;unfold kb at e;split at e
 ·rename_i p hp;obtain⟨i,kws⟩:=p;obtain⟨rfl,hi,hd,rfl⟩:=mw hH ry hp;split at e
  ·rename_i hk;cases e;obtain⟨o,g,ro⟩:=qL hH hd rx hk;exact .inr ⟨_,o,rfl,g,by rw[<- ro.isSome];exact k φ H _ hH Step.refl (.bl _)⟩
  ·cases e
 ·exact .inl (aam hH rx ry e k)
theorem acx:cD K (fun x y H Q=>Bf K x y H Q\/∃a v,x=.ref a/\eY H a y (some v)/\Q v H) ak:=by
 intro φ ph H x y vx vy w ph' Q hH rx ry e k;unfold ak at e;split at e
 ·rename_i p hp;obtain⟨i,kws⟩:=p;obtain⟨rfl,hi,hd,rfl⟩:=mw hH rx hp;split at e
  ·rename_i hk;cases q:gx kws y with
   | none=>rw[q] at e;cases e
   | some u=>
    rw[q] at e;cases e;obtain⟨o,g,ro⟩:=qL hH hd ry hk;rw[q] at ro;cases o with
    | none=>exact ro.elim
    | some v=>
     rcases g with g | ⟨z,_⟩
     ·exact .inr ⟨_,v,rfl,g,k φ H _ hH Step.refl ro⟩
     ·cases z
  ·cases e
 ·exact .inl (ace hH rx ry e k)
section
variable{X:Cx}{a b o i:Expr}{ma mb mo mi:EM}{pos:Pos}{N:List Str}{sc:Scope}{k:Nat}
theorem f7.aaC(B:f7 X N sc k)(hp:vg b)(ha:JE X a ma)(hb:JE X b mb):JE X (.Subscript a b pos) (af ak ma mb):=
 ⟨PE.imp (ab3 (i6.or ZE (Yc (iR B.room))) ha.h hb.h hp) fun _ _ _ h=>vh acx h⟩
theorem f7.adF(B:f7 X N sc k)(h:afE .In b=false):Cp X .In b eL:=⟨⟨_,bx.or (aal B.room.units) (aaA (iR B.room)),acw⟩,h⟩
theorem f7.acy(B:f7 X N sc k)(h:afE .NotIn b=false):Cp X .NotIn b kb:=⟨⟨_,bx.or (XM B.room.units) (Yb (iR B.room)),aaB⟩,h⟩
theorem lp.or{t t':wK}(h:lp X t)(h':lp X t'):lp X (fun o i v H Q=>t o i v H Q\/t' o i v H Q):=by
 intro pins s σ H o i v ov iv u Q I ro ri rv q
 rcases q with q | q
 ·exact h pins s σ H o i v ov iv u Q I ro ri rv q
 ·exact h' pins s σ H o i v ov iv u Q I ro ri rv q
noncomputable def ik(o i:EM):GM:=fun v σ=>aw (o σ) fun ow=>aw (i σ) fun iw=>aw (lift (rX ow iw v)) fun _=>aB σ
theorem f7.kW(B:f7 X N sc k)(ho:JE X o mo)(hi:JE X i mi)(ha:∀v,aiU (.Subscript o i pos) X.env v=(do
   let ov <- aja [v] (eval o X.env)
   let iv <- aja [v,ov] (eval i X.env)
   standAt pos
   aja [v,ov,iv] (setItem ov iv v)
   release [v,ov,iv] []):=by intro _;rfl):JG X (.Subscript o i pos) (ik mo mi):=
 ⟨PG.imp (Zj ho.h hi.h (lp.or set_list (set_dict (iR B.room))) ha) fun v σ H Q h=>by
  obtain⟨φ,ph,ws,w,hH,hS,rv,h⟩:=h;refine tM.bind hH hS h fun ow ph1 aA H1 vo aC s1 ro h=>tM.bind aC (hS.mono s1) h fun iw ph2 aY H2 vi bf s2 ri h=>?_
  rw[cI] at h;obtain⟨_,fc,e,k⟩:=run_lift h;have Js:=ro.mono s2;have Jt:=(rv.mono s1).mono s2;unfold rX at e;split at e
  ·rename_i p hp;obtain⟨r,kws⟩:=p;obtain⟨rfl,hr,hd,rfl⟩:=mw bf Js hp;split at e
   ·rename_i hk;cases e;obtain⟨H',g,q1,q2⟩:=Wy bf hr hd ri Jt hk.1 hk.2;exact .inr ⟨_,H',rfl,g,k aY _ σ q1 ((s1.trans s2).trans q2) (((hS.mono s1).mono s2).mono q2)⟩
   ·cases e
  ·unfold HI at e;split at e
   ·rename_i r k';split at e
    ·rename_i cP hw;split at e
     ·rename_i j hj;cases e;cases Js with
      | ref BD=>
       cases ri;obtain⟨us,hu,ru⟩:=bf.hp _ _ hw;obtain⟨q1,q2⟩:=zf bf hw (ru.set Jt j);exact .inl ⟨_,us,_,j,rfl,rfl,hu,by rw[<- ru.length];exact hj,k aY _ σ q1 ((s1.trans s2).trans q2) (((hS.mono s1).mono s2).mono q2)⟩
     ·cases e
    ·cases e
   ·cases e⟩
end
noncomputable def aee:W->Option Int
 | .int i=>some i
 | _=>none
noncomputable def rq(f:Nat->Int):Nat->Int
 | 0=>f 0
 | k+1=>if f (k+1)<rq f k then f (k+1) else rq f k
section
variable{X:Cx}
theorem Wz(f:Nat->Int):∀k,f (argBest (fun i j=>decide (f i<f j)) k)=rq f k
 | 0=>rfl
 | k+1=>by
  have ih:=Wz f k;unfold argBest rq;rw[ih];by_cases h:f (k+1)<rq f k
  ·simp[h]
  ·simp[h,ih]
end
noncomputable def cC:W->W->Po W:=fun x y ph=>match x,y with
 | .ref i,.int k=>match ph[i]? with
  | some (.lst ws)=>if -(2 ^ 63)<=k/\k<2 ^ 63/\ws.length*k.toNat<=aeD then some (.ref ph.length,ph++[.lst (aeF k.toNat ws).flatten]) else none
  | _=>none
 | x,y=>pJ x y ph
theorem ba.rep{K:acs}{φ:Nat->Addr}{n:Nat}{H:Hp}{ws:List W}{vs:List V}(r:ba K φ n H ws vs):∀k:Nat,ba K φ n H (aeF k ws).flatten (aeF k vs).flatten
 | 0=>.nil
 | k+1=>by
  rw[afN,afN,agw,agw];exact r.append (ba.rep r k)
theorem aaD:cD K (fun x y H Q=>(rI rO fun i j=>.int (i*j)) x y H Q\/HF x y H Q) cC:=by
 intro φ ph H x y vx vy w ph' Q hH rx ry e k;unfold cC at e;split at e
 ·rename_i i j;split at e
  ·rename_i ws hw;split at e
   ·rename_i hz;cases e;cases rx with
    | ref hi=>
     cases ry;obtain⟨us,hu,ru⟩:=hH.hp _ _ hw;refine .inr ⟨_,_,us,rfl,rfl,hu,hz.1,hz.2.1,by rw[<- ru.length];exact hz.2.2,fun p hp=>?_⟩;obtain⟨q1,q2,q3⟩:=kP hH (ru.rep j.toNat) hp;exact k _ _ _ q1 q2 q3
   ·cases e
  ·cases e
 ·exact .inl (aaf hH rx ry e k)
theorem ia{a b:Expr}{ma mb:EM}(ha:JE X a ma)(hb:JE X b mb):JE X (.BinOp a .Mult b pos) (af cC ma mb):=⟨rl (bx.or Zq ZJ) aaD ha.h hb.h⟩
noncomputable def acz:HO->Prop
 | .dK _=>True
 | .dT _=>True
 | _=>False
section
variable{K:acs}{φ:Nat->Addr}{n:Nat}{H:Hp}{d:Addr}{o:Obj}{u:HO}(e:H d=some (.bN o u))(hu:acz u)(hc:o.cls=.type "dict")
include e hu hc
omit hc in
end
noncomputable def aaE(kws:List (W×W)):List W:=kws.map fun p=>.tup [p.1,p.2]
noncomputable def acA(i:Nat)(kws:List (W×W))(L:Nat):Mo W:=fun ph=>if ph[i]? =some (.nK kws) then .ok (.ref L) (ph.set i (.bO kws)) else .no
noncomputable def ad1(m:EM)(cap:List (Option Nat))(g:GM)(c:TM)(e:EM):EM:=fun σ=>aw (m σ) fun w ph=>match ft w ph with
 | some p=>aw (dQ (fun _=>true) g c e ph.length (aaE p.2) (gD cap σ)) (fun _=>acA p.1 p.2 ph.length) (ph.set p.1 (.nK p.2)++[.lst []])
 | none=>.no
noncomputable def fV(w:W)(ph:PH):Bool:=(ft w ph).isSome
theorem mP:nO K "dict" fV:=by
 intro φ ph H x vx hH rx e;unfold fV at e;obtain⟨⟨i,kws⟩,hp⟩:=afC.mp e;obtain⟨rfl,hi,hd,rfl⟩:=mw hH rx hp
 rcases hH.hp i _ hd with⟨kvs,q,_⟩ | ⟨kvs,q,_⟩
 ·exact .inr (.inr (.inl ⟨rfl,.inl ⟨kvs,q⟩⟩))
 ·exact .inr (.inr (.inl ⟨rfl,.inr ⟨kvs,q⟩⟩))
noncomputable def HK:V->List V->Hp->VK->Prop:=fun x ys H Q=>∃a y o,x=.ref a/\pf H a y o/\((ys=[y]/\Q (o.getD .aE) H)\/∃d,ys=[y,d]/\Q (o.getD d) H)
noncomputable def fW:W->List W->Po W:=fun x xs ph=>match ft x ph with
 | some p=>match xs with
  | [y]=>if gy p.2 y=true then some ((gx p.2 y).getD .aE,ph) else none
  | [y,z]=>if gy p.2 y=true then some ((gx p.2 y).getD z,ph) else none
  | _=>none
 | none=>none
theorem lz.getD{K:acs}{φ:Nat->Addr}{n:Nat}{H:Hp}{a:Option W}{b:Option V}{z:W}{y:V}(h:lz K φ n H a b)(r:aQ K φ n H z y):aQ K φ n H (a.getD z) (b.getD y):=by
 cases a <;> cases b <;> first | exact r | exact h | exact h.elim
theorem mQ(hu:X.A.units+1<cLine):nJ X "dict.get" HK:=by
 intro pins s σ H x xs v us Q I rx rv h;obtain⟨a,y,o,rfl,g,h⟩:=h;obtain rfl:v=afl a:=rx
 rcases h with⟨rfl,q⟩ | ⟨d,rfl,q⟩
 ·obtain⟨u,rfl,ru⟩:=rv.one
  rcases g with g | ⟨rfl,⟨e,k,b,ey,eb⟩ | ⟨e,k,ey⟩⟩
  ·exact zU hu I g ru fun w' s' I' r'=>⟨_,H,I',r',q⟩
  ·subst ey;have g:eY (upd H a (.dT [])) a (.ref b) none:=.inr ⟨[],k,b,.inl bZ,rfl,by rw[bz (lg eb e (fun z=>nomatch z))];exact eb,rfl⟩;exact zU hu (jS I e) g ru fun w' s3 I3 r'=>⟨_,H,by have:=jp I3 bZ;rwa [kQ e] at this,r',q⟩
  ·subst ey;have g:eY (upd H a (.dK [])) a (kV k) none:=.inl ⟨[],k,.inl bZ,rfl,rfl⟩;exact zU hu (jp I e) g ru fun w' s3 I3 r'=>⟨_,H,by have:=jS I3 bZ;rwa [kQ e] at this,r',q⟩
 ·obtain⟨u,u2,rfl,ru,rd⟩:=Vals.two rv
  rcases g with g | ⟨rfl,⟨e,k,b,ey,eb⟩ | ⟨e,k,ey⟩⟩
  ·exact zV hu I g ru rd fun w' s' I' r'=>⟨_,H,I',r',q⟩
  ·subst ey;have g:eY (upd H a (.dT [])) a (.ref b) none:=.inr ⟨[],k,b,.inl bZ,rfl,by rw[bz (lg eb e (fun z=>nomatch z))];exact eb,rfl⟩;exact zV hu (jS I e) g ru rd fun w' s3 I3 r'=>⟨_,H,by have:=jp I3 bZ;rwa [kQ e] at this,r',q⟩
  ·subst ey;have g:eY (upd H a (.dK [])) a (kV k) none:=.inl ⟨[],k,.inl bZ,rfl,rfl⟩;exact zV hu (jp I e) g ru rd fun w' s3 I3 r'=>⟨_,H,by have:=jS I3 bZ;rwa [kQ e] at this,r',q⟩
theorem mR:lK K "dict" HK fW:=by
 intro φ ph H x xs vx vs w ph' Q hH rx rs e k;unfold fW at e;split at e
 ·rename_i p hp;obtain⟨i,kws⟩:=p;obtain⟨rfl,hi,hd,rfl⟩:=mw hH rx hp;split at e
  ·split at e
   ·rename_i hk;cases e;cases rs with
    | cons r0 rr=>
     cases rr;obtain⟨o,g,ro⟩:=qL hH hd r0 hk;exact⟨_,_,o,rfl,g,.inl ⟨rfl,k φ H _ hH Step.refl (ro.getD .aE)⟩⟩
   ·cases e
  ·split at e
   ·rename_i hk;cases e;cases rs with
    | cons r0 rr=>
     cases rr with
     | cons r1 rr=>
      cases rr;obtain⟨o,g,ro⟩:=qL hH hd r0 hk;exact⟨_,_,o,rfl,g,.inr ⟨_,rfl,k φ H _ hH Step.refl (ro.getD r1)⟩⟩
   ·cases e
  ·cases e
 ·cases e
noncomputable def jw(f:Str)(w:W):List (Str×W)->List (Str×W)
 | []=>[(f,w)]
 | (g,x)::r=>if g=f then(g,w)::r else(g,x)::jw f w r
section
variable{K:acs}{φ:Nat->Addr}{n:Nat}{H:Hp}
theorem eJ.lookup(f:Str):∀{ws:List (Str×W)} {vs:List (Str×V)},eJ K φ n H ws vs->lz K φ n H (ws.lookup f) (vs.lookup f)
 | _,_,.nil=>trivial
 | _,_,.cons (f:=g) h r=>by
  rw[aeH,aeH];cases f==g with
  | true=>exact h
  | false=>exact eJ.lookup f r
theorem eJ.len:∀{ws:List (Str×W)} {vs:List (Str×V)},eJ K φ n H ws vs->ws.length=vs.length
 | _,_,.nil=>rfl
 | _,_,.cons _ r=>by rw[aeO,aeO,eJ.len r]
theorem eJ.put(f:Str){w:W}{v:V}(q:aQ K φ n H w v):∀{ws:List (Str×W)} {vs:List (Str×V)},eJ K φ n H ws vs->eJ K φ n H (jw f w ws) (dn f v vs)
 | _,_,.nil=>.cons q .nil
 | _,_,.cons (f:=g) h r=>by
  unfold jw dn;by_cases e:g=f
  ·rw[if_pos e,if_pos e];exact .cons q r
  ·rw[if_neg e,if_neg e];exact .cons h (eJ.put f q r)
end
noncomputable def pN(c f:Str)(w:W):Po W:=fun ph=>match w with
 | .ref i=>match ph[i]? with
  | some (.obj c' fs)=>if c'=c then(fs.lookup f).map fun x=>(x,ph) else none
  | _=>none
 | _=>none
noncomputable def cc(c f:Str)(m:EM):EM:=fun σ=>aw (m σ) fun w=>lift (pN c f w)
noncomputable def pO(c f:Str)(x y:W):Po Unit:=fun ph=>match x with
 | .ref i=>match ph[i]? with
  | some (.obj c' fs)=>if c'=c/\fs.length<1000 then some ((),ph.set i (.obj c' (jw f y fs))) else none
  | _=>none
 | _=>none
noncomputable def dR(c f:Str)(o v:EM):SM:=fun σ=>aw (v σ) fun y=>aw (o σ) fun x=>aw (lift (pO c f x y)) fun _=>aB (.nx σ)
noncomputable def acB:W->Mo W->Mo W
 | .aE,m=>m
 | _,_=>dO
section
variable{X:Cx}{e o value:Expr}{m mo mv:EM}{c f:Str}{C:Addr}{pos pos' p:Pos}
theorem aaF(bD:aeo X.K ael c=some (some (.ref C)))(hc:gK X.K C)(hn:dP X.K C f)(he:IE X e m)(hb:agA e f X.env (eval e X.env)=eval e X.env:=by rfl):IE X (.Attribute e f pos) (cc c f m):=by
 refine PE.imp (Zu he hb) fun σ H Q h=>?_
 obtain⟨φ,ph,ws,hH,hS,h⟩:=h;refine tM.bind hH hS h fun x ph1 aA H1 vx aC s1 rx h=>?_
 obtain⟨w,ph',e,k⟩:=run_lift h;unfold pN at e;cases rx with
 | ref hi=>
  simp only at e;split at e
  ·rename_i c' fs hw;split at e
   ·rename_i lG;subst lG;obtain⟨C',dx,vs,q1,q2,r⟩:=aC.hp _ _ hw;rw[bD] at q1;cases q1;have ro:=r.lookup f;cases q:fs.lookup f with
    | none=>rw[q] at e;cases e
    | some y=>
     rw[q] at e ro;cases e;cases q':vs.lookup f with
     | none=>rw[q'] at ro;exact ro.elim
     | some v=>rw[q'] at ro;exact⟨_,C,dx,vs,v,rfl,q2,hc,hn,q',k aA H1 v aC s1 ro⟩
   ·cases e
  ·cases e
 | _=>cases e
theorem aaG(bD:aeo X.K ael c=some (some (.ref C)))(hc:gK X.K C)(hn:dP X.K C f)(ho:IE X o mo)(hv:IE X value mv)(hs:agL value (some (.Attribute o f pos')) pos.line X.env=pure false):IS X (.Assign [.Attribute o f pos'] value pos) (dR c f mo mv):=by
 refine PS.imp (Zv ho hv hs) fun D σ H h=>?_
 obtain⟨φ,ph,ws,hH,hS,h⟩:=h;refine tM.bind hH hS h fun y ph1 aA H1 vy aC s1 ry h=>tM.bind aC (hS.mono s1) h fun x ph2 aY H2 vx bf s2 rx h=>?_
 rw[cI] at h;obtain⟨_,fc,e,k⟩:=run_lift h;have ry':=ry.mono s2;unfold pO at e;cases rx with
 | ref hi=>
  simp only at e;split at e
  ·rename_i c' fs hw;split at e
   ·rename_i lG;obtain⟨rfl,hz⟩:=lG;cases e;obtain⟨C',dx,vs,q1,q2,r⟩:=bf.hp _ _ hw;rw[bD] at q1;cases q1;have s3:=kO (K:=X.K) (φ:=aY) (n:=ph2.length) (y:=HO.ins C dx (dn f vy vs)) q2 trivial;refine⟨_,C,dx,vs,rfl,q2,hc,hn,by rw[<- r.len];exact hz,?_⟩;have dc:=bf.put hw rfl (x:=HO.ins C dx (dn f vy vs)) (o:=.obj c' (jw f y fs)) ⟨C,dx,_,bD,bZ,(r.put f ry').mono s3⟩;exact k aY _ dc (by rw[afO];exact(s1.trans s2).trans s3) σ (by rw[afO];exact((hS.mono s1).mono s2).mono s3)
   ·cases e
  ·cases e
 | _=>cases e
theorem eG(bD:aeo X.K ael c=some (some (.ref C)))(hc:gK X.K C)(hn:dP X.K C f)(he:JE X e m)(hb:agA e f X.env (eval e X.env)=eval e X.env:=by rfl):JE X (.Attribute e f pos) (cc c f m):=⟨aaF bD hc hn he.h hb⟩
theorem ib(bD:aeo X.K ael c=some (some (.ref C)))(hc:gK X.K C)(hn:dP X.K C f)(hnc:vI value=true)(ho:JE X o mo)(hv:JE X value mv):JS X (.Assign [.Attribute o f pos'] value pos) (dR c f mo mv):=⟨aaG bD hc hn ho.h hv.h (zi hnc)⟩
end
noncomputable def pP:W->W->Po W:=nL fun i j=>i+j
noncomputable def A0:W->W->Po W:=nL fun i j=>i-j
noncomputable def bw(x:Str):Bool:= !(x==("__debug__":Str))&& !(x==("__classdict__":Str))
section
variable{X:Cx}{N:List Str}{sc:Scope}{k:Nat}{b:Expr}
theorem fH.jv{pos:Pos}(B:fH X N sc)(i:Nat){x:Str}(hN:N[i]? =some x)(hv:aH sc x)(hk:bw x=true):JE X (.Name x pos) (ae i):=by
 unfold bw at hk;rw[aev] at hk;exact B.adA i hN hv (by simpa using hk.1) (by simpa using hk.2)
theorem f7.ak{pos:Pos}{a:Expr}{ma mb:EM}(B:f7 X N sc k)(ha:JE X a ma)(hb:JE X b mb)(hp:vg b:=by intro _ _;rfl):JE X (.Subscript a b pos) (af ak ma mb):=B.aaC hp ha hb
end
noncomputable def hQ(P:afm)(w:World):Option (Key ⊕ List Key)->Int
 | none=>0xFCA86420
 | some (.inl k)=>AI w k
 | some (.inr ks)=>tupleKeyHash (c7 P w) ks
theorem Et:∀{xs:List V} {us:List Value},xs.length=us.length->(∀(j:Nat) x u,xs[j]? =some x->us[j]? =some u->L2.RelV x u)->Vals xs us
 | [],[],_,_=>.nil
 | [],_::_,h,_=>by simp at h
 | _::_,[],h,_=>by simp at h
 | x::xs,u::us,h,k=>.cons (k 0 x u rfl rfl) (Et (by simpa using h) fun j y v h1 h2=>k (j+1) y v (by simpa using h1) (by simpa using h2))
theorem UV{w:World}{u:Value}(h:(c7 P w).is k u=true):L2.RelV (kV k) u:=by
 rcases jf h with⟨i,t,rfl,rfl⟩ | ⟨x,t,rfl,rfl⟩
 ·exact⟨t,rfl⟩
 ·exact⟨t,rfl⟩
section
variable{X:Cx}{pins:List (Addr×Obj)}{σ:L2.St}{H:Hp}{s:aem}
theorem Yd(I:Inv X pins σ H s){d:Addr}{kvs:List (Key×V)}(hd:H d=some (.dK kvs)\/(H d=some (.dT [])/\kvs=[])):∃vs,KV kvs vs/\s.heap.DictOf (c7 X.prog X.w) d vs/\(d==ags)=false/\kvs.length<=sizeLine:=by
 rcases hd with e | ⟨e,rfl⟩
 ·obtain⟨z,y,vs,rel,dd⟩:=rj I.aI e;exact⟨vs,rel,dd,y,z⟩
 ·obtain⟨z,y,vs,rel,dd⟩:=rj (kvs:=[]) (jp I e).aI bZ;exact⟨vs,rel,dd,y,z⟩
theorem UW{kvs:List (Key×V)}{vs:List (Key×Value)}{acc:Array Value}(rel:KV kvs vs)(w8:ItemsOf (fun i v=>∃k x,vs[i]? =some (k,x)/\(c7 X.prog X.w).is k v=true) acc vs.length):Vals (kvs.map fun kv=>kV kv.1) acc.toList:=by
 have hk:=rel.keys;refine Et (by have e1:=rel.length;have e2:=w8.1;have e3:acc.toList.length=acc.size:=ahg;rw[aep];omega) fun j x u h1 h2=>?_
 obtain⟨k,y,e,hi⟩:=w8.2 j u (by simpa using h2);rw[aeA] at h1;obtain⟨kv,e1,rfl⟩:=aeC.mp h1;have e2:(kvs.map (·.1))[j]? =some kv.1:=by rw[aeA,e1];rfl
 rw[hk,aeA,e] at e2;have e3:k=kv.1:=by simpa using e2
 rw[<- e3];exact UV hi
end
noncomputable def zZ:List V->Hp->VK->Prop:=fun xs H Q=>∃d kvs,xs=[.ref d]/\(H d=some (.dK kvs)\/(H d=some (.dT [])/\kvs=[]))/\∀p,H p=none->Q (.ref p) (upd H p (.lst (kvs.map fun kv=>kV kv.1)))
section
variable{X:Cx}
theorem S8(hc:X.calm=true):cR X (.type "list") zZ:=by
 intro pins s σ H xs us Q I r h;obtain⟨d,kvs,rfl,hd,h⟩:=h;obtain⟨u,rfl,rx⟩:=vals1 r;obtain rfl:u=afl d:=rx;obtain⟨vs,rel,dd,y,z⟩:=Yd I hd;obtain⟨ep,ky⟩:=dd.dictAt;refine PySem.W.kdl_call (PySem.W.kdl_dict (knd:=c7 X.prog X.w) (kvs:=vs) (ep:=ep) y) (I.ok.hd hc) ky (by rw[<- rel.length];exact z) fun h' tk acc c hk hD w8=>⟨.ref s.heap.objs.size,_,I.laid (t':=tk) (a:=s.heap.objs.size) (o:=.lst (kvs.map fun kv=>kV kv.1)) (fun b u q=>hk b u q) (aeq _) ⟨by simpa using z,acc.toList,c,UW rel w8,by simpa using hD⟩,rfl,h _ (I.aI.fresh (aeq _))⟩
end
noncomputable def Aq(kws:List (W×W)):Option (List W):=if kws.all (fun p=> !fI p.1)=true then some (kws.map (·.1)) else none
noncomputable def il:List W->Po W:=fun xs ph=>match xs with
 | [w]=>match ft w ph with
  | some p=>(Aq p.2).map fun ks=>(.ref ph.length,ph++[.lst ks])
  | none=>pb [w] ph
 | _=>none
section
variable{K:acs}{φ:Nat->Addr}{n:Nat}{H:Hp}
theorem Eu:∀{kws:List (W×W)} {kvs:List (Key×V)},cq K φ n H kws kvs->ba K φ n H (kws.map (·.1)) (kvs.map fun kv=>kV kv.1)
 | _,_,.nil=>.nil
 | _,_,.cons (k:=k) h r=>.cons (by cases k with | inl i=>exact .int i | inr x=>exact .str x) (Eu r)
theorem UX{ph:PH}{y:W}{v:V}{p:Nat×List (W×W)}{ks:List W}(hH:aL K φ ph H)(r:aQ K φ ph.length H y v)(e:ft y ph=some p)(hk:Aq p.2=some ks) :
  ∃d kvs,v=.ref d/\(H d=some (.dK kvs)\/(H d=some (.dT [])/\kvs=[]))/\ba K φ ph.length H ks (kvs.map fun kv=>kV kv.1):=by
 unfold Aq at hk;split at hk
 ·rename_i ha;cases hk;obtain⟨rfl,hi,hd,rfl⟩:=mw (i:=p.1) (kws:=p.2) hH r e
  rcases hH.hp _ _ hd with⟨kvs,q,rd⟩ | ⟨kvs,q,rt⟩
  ·exact⟨_,kvs,rfl,.inl q,Eu rd⟩
  ·obtain⟨e1,e2⟩:=rt.AZ ha;subst e2;rw[e1];exact⟨_,[],rfl,.inr ⟨q,rfl⟩,.nil⟩
 ·cases hk
end
theorem vj:ig K (fun xs H Q=>(∃p ys,xs=[.ref p]/\(bC K H p ys\/bJ K H p ys)/\∀l,H l=none->Q (.ref l) (upd H l (.lst ys)))\/zZ xs H Q) il:=by
 intro φ ph H xs vs w ph' Q hH r e k;unfold il at e;split at e
 ·rename_i x;cases hd:ft x ph with
  | none=>rw[hd] at e;exact .inl (XY hH r e k)
  | some p=>
   rw[hd] at e;obtain⟨ks,hk,e⟩:=aeC.mp e;cases e;cases r with
   | cons r rn=>
    cases rn;obtain⟨d,kvs,rfl,hdk,rr⟩:=UX hH r hd hk;refine .inr ⟨d,kvs,rfl,hdk,fun p hp=>?_⟩;obtain⟨q1,q2,q3⟩:=kP hH rr hp;exact k _ _ _ q1 q2 q3
 ·cases e
theorem uz(hc:X.calm=true):cR X (.type "list") (fun xs H Q=>(∃p ys,xs=[.ref p]/\(bC X.K H p ys\/bJ X.K H p ys)/\∀l,H l=none->Q (.ref l) (upd H l (.lst ys)))\/zZ xs H Q):=cR.or QG (S8 hc)
open PySem L2
section
variable{α β γ:Type}
theorem qS(a:α)(f:α->Mo β):aw (aB a) f=f a:=rfl
theorem Fb(f:α->Mo β):aw (dO:Mo α) f=dO:=rfl
theorem Fc(x:XC)(f:α->Mo β):aw (xG x:Mo α) f=xG x:=rfl
theorem iH(m:Mo α)(f:α->Mo β)(g:β->Mo γ):aw (aw m f) g=aw m fun a=>aw (f a) g:=by
 funext ph;unfold aw;cases m ph <;> rfl
theorem Fd{c:Prop}[Decidable c](a b:Mo α)(f:α->Mo β):aw (if c then a else b) f=if c then aw a f else aw b f:=by split <;> rfl
theorem ck{m:Mo α}{f:α->Mo β}{ph ph':PH}{a:α}(h:m ph=.ok a ph'):aw m f ph=f a ph':=by unfold aw;rw[h]
theorem F2(a:α)(ph:PH):aB a ph=.ok a ph:=rfl
theorem F3(x:XC)(ph:PH):(xG x:Mo α) ph=.ex x ph:=rfl
theorem Ew(a:α):lift (ret a)=aB a:=rfl
theorem F4{c:Prop}[Decidable c](a b:Mo α)(ph:PH):(if c then a else b) ph=if c then a ph else b ph:=by split <;> rfl
end
theorem F5(w:W)(σ:aP):ae 0 (some w::σ)=aB w:=rfl
theorem F6(i:Nat)(x:Option W)(σ:aP):ae (i+1) (x::σ)=ae i σ:=rfl
theorem G2(w:W)(σ:aP):eC w σ=aB w:=rfl
theorem G3(i:Nat)(w:W)(σ:aP):gN i w σ=aB (σ.set i (some w)):=rfl
theorem jT(f:W->W->Po W)(a b:EM)(σ:aP):af f a b σ=aw (a σ) fun x=>aw (b σ) fun y=>lift (f x y):=rfl
theorem F7(f:W->Po W)(a:EM)(σ:aP):da f a σ=aw (a σ) fun x=>lift (f x):=rfl
theorem m8(m:EM)(σ:aP):eT m σ=aw (m σ) fun w=>lift (match w with
 | .bl b=>ret b
 | _=>eZ):=rfl
theorem Fe(m:EM)(σ:aP):dq m σ=aw (m σ) fun w=>lift (pH w):=rfl
theorem zl(a b:TM)(σ:aP):c8 a b σ=aw (a σ) fun c=>if c=true then b σ else aB false:=rfl
theorem zK(a b:TM)(σ:aP):cU a b σ=aw (a σ) fun c=>if c=true then aB true else b σ:=rfl
theorem Ey(a:TM)(σ:aP):dj a σ=aw (a σ) fun c=>aB (!c):=rfl
theorem F8(t:TM)(a b:EM)(σ:aP):jF t a b σ=aw (t σ) fun c=>if c=true then a σ else b σ:=rfl
theorem oJ(a b:SM)(σ:aP):aD a b σ=aw (a σ) fun f=>match f with
 | .nx ay=>b ay
 | f=>aB f:=rfl
theorem vK(t:TM)(a b:SM)(σ:aP):aX t a b σ=aw (t σ) fun c=>if c=true then a σ else b σ:=rfl
theorem vk(e:EM)(σ:aP):bc e σ=aw (e σ) fun w=>aB (.rt w):=rfl
theorem Ez(σ:aP):bu σ=aB (.nx σ):=rfl
theorem qM(e:EM)(σ:aP):dm e σ=aw (e σ) fun _=>aB (.nx σ):=rfl
theorem vm(e:EM)(g:GM)(σ:aP):aO e g σ=aw (e σ) fun w=>aw (g w σ) fun ay=>aB (.nx ay):=rfl
theorem zm(f:List W->Mo W)(a:AM)(σ:aP):aJ f a σ=aw (a σ) f:=rfl
theorem DW(f:List W->Po W)(a:AM)(σ:aP):bv f a σ=aw (a σ) fun xs=>lift (f xs):=rfl
theorem zL(σ:aP):ai σ=aB []:=rfl
theorem zo(e:EM)(r:AM)(σ:aP):ag e r σ=aw (e σ) fun w=>aw (r σ) fun ws=>aB (w::ws):=rfl
theorem Ff(a:AM)(σ:aP):bH a σ=aw (a σ) fun ws=>lift (jA ws):=rfl
theorem vn(a:AM)(σ:aP):bT a σ=aw (a σ) fun ws=>lift (rR ws):=rfl
theorem F9(c:String)(m:EM)(σ:aP):el c m σ=aw (m σ) fun w=>lift (dI c w):=rfl
theorem Fg(a b:EM)(σ:aP):j6 a b σ=aw (a σ) fun w=>match w with
 | .bl c=>if c=true then b σ else aB (.bl false)
 | _=>dO:=rfl
theorem Ga(a b:EM)(σ:aP):xB a b σ=aw (a σ) fun w=>match w with
 | .bl c=>if c=true then aB (.bl true) else b σ
 | _=>dO:=rfl
theorem Fh(a:EM)(σ:aP):wW a σ=aw (a σ) fun w=>match w with
 | .bl c=>aB (.bl (!c))
 | _=>dO:=rfl
theorem DX(f f':W->W->Po W)(a b c:EM)(σ:aP):iM f f' a b c σ=aw (a σ) fun x=>aw (b σ) fun y=>aw (lift (f x y)) fun z=>match z with
 | .bl k=>if k=true then aw (c σ) fun u=>lift (f' y u) else aB (.bl false)
 | _=>dO:=rfl
theorem kR(ty:W->PH->Bool)(f:W->List W->Po W)(o:EM)(a:AM)(σ:aP):bS ty f o a σ=aw (o σ) fun x=>aw (lift (nu (ty x))) fun _=>aw (a σ) fun xs=>lift (f x xs):=rfl
theorem Fi(w:W):ei (.rt w)=aB w:=rfl
theorem Fj(σ:aP):ei (.nx σ)=aB .aE:=rfl
theorem iy(b:SM)(n:Nat)(x:W):fM b n 1 [x]=aw (b (some x::aeF (n-1) none)) ei:=rfl
theorem gF(b:SM)(n:Nat)(x y:W):fM b n 2 [x,y]=aw (b (some x::some y::aeF (n-2) none)) ei:=rfl
theorem g6(b:SM)(n:Nat)(x y z:W):fM b n 3 [x,y,z]=aw (b (some x::some y::some z::aeF (n-3) none)) ei:=rfl
theorem rY(b:SM)(n:Nat)(x y z u:W):fM b n 4 [x,y,z,u]=aw (b (some x::some y::some z::some u::aeF (n-4) none)) ei:=rfl
theorem G4(i j:Int):lift (addW (.int i) (.int j))=aB (.int (i+j)):=rfl
theorem G5(i j:Int):lift (fv (.int i) (.int j))=aB (.int (i-j)):=rfl
theorem G6(i:Int):lift (cZ (.int i))=aB (.int (-i)):=rfl
theorem Ar{i j:Int}(h:mulC i j=true):lift (pJ (.int i) (.int j))=aB (.int (i*j)):=by
 unfold pJ;simp only[h,if_true];rfl
theorem acC{i j:Int}(h:j≠0):lift (aR (.int i) (.int j))=aB (.int (i.fmod j)):=by
 unfold aR pF;simp only[ne_eq,h,not_false_eq_true,decide_true,if_true];rfl
theorem As{i j:Int}(h:j≠0)(h':j.natAbs<2 ^ 64):lift (bg (.int i) (.int j))=aB (.int (i.fdiv j)):=by
 unfold bg pF;simp only[ne_eq,h,h',not_false_eq_true,decide_true,ajq,if_true];rfl
theorem rZ(i j:Int):lift (eN (.int i) (.int j))=aB (.bl (decide (i<j))):=rfl
theorem nA(i j:Int):lift (fe (.int i) (.int j))=aB (.bl (decide (i<=j))):=rfl
theorem xa(i j:Int):lift (pZ (.int i) (.int j))=aB (.bl (decide (j<i))):=rfl
theorem HL(i j:Int):lift (geW (.int i) (.int j))=aB (.bl (decide (j<=i))):=rfl
theorem G7(i:Int):lift (rS [.int i])=aB (.int i):=rfl
theorem Gb(b:Bool):lift (rS [.bl b])=aB (.int (if b then 1 else 0)):=rfl
theorem G8(i:Int):lift (adt [.int i])=aB (.int (if i<0 then -i else i)):=rfl
theorem G9(i j:Int):lift (acn [.int i,.int j])=aB (.int (if j>i then j else i)):=rfl
theorem Ha(i j:Int):lift (aco [.int i,.int j])=aB (.int (if j<i then j else i)):=rfl
theorem HM(b:Bool):lift (match W.bl b with
 | .bl b=>ret b
 | _=>eZ)=aB b:=rfl
theorem Gd(b:Bool):lift (pH (.bl b))=aB b:=rfl
theorem Ge(i:Int):lift (pH (.int i))=aB (i != 0):=rfl
theorem Gf(ws:List W):lift (pH (.tup ws))=aB (!ws.isEmpty):=rfl
theorem Au(i j:Int):lift (aS (.int i) (.int j))=aB (.bl (decide (i=j))):=by
 funext ph;unfold aS ff lift;simp only[dat];rfl
theorem rA(i j:Int):lift (cz (.int i) (.int j))=aB (.bl (!decide (i=j))):=by
 funext ph;unfold cz ff lift;simp only[dat];rfl
theorem so(s:String):agl (aei s)=true:=by
 unfold agl;rw[ahp];simp only[air,afz,ahi,decide_eq_true_eq];rintro n ⟨c,_,rfl⟩;have h:=c.valid;simp only[UInt32.isValidChar,Nat.isValidChar] at h;show c.val.toNat<_;omega
theorem vL{a b:String}:aei a=aei b↔a=b:=by
 constructor
 ·intro h;rw[ahp,ahp] at h;have h:=congrArg ajE (Str.mk.inj h);simp only[List.toList_toArray] at h;have mi:∀l l':List Char,l.map Char.toNat=l'.map Char.toNat->l=l':=by
   intro l
   induction l with
   | nil=>intro l' h;cases l' with
    | nil=>rfl
    | cons _ _=>cases h
   | cons x l ih=>intro l' h;cases l' with
    | nil=>cases h
    | cons y l'=>
     have:=ajp h;rw[ih l' this.2,Char.ext (UInt32.toNat_inj.mp this.1)]
  have q:a.toList=b.toList:=mi _ _ h;exact String.toList_inj.mp q
 ·intro h;rw[h]
theorem acD{a b:Str}(ha:agl a=true)(hb:agl b=true):lift (aS (.str a) (.str b))=aB (.bl (decide (a=b))):=by
 funext ph;unfold aS ff lift;simp only[dat,ha,hb,if_true];rfl
theorem acE{a b:Str}(ha:agl a=true)(hb:agl b=true):lift (cz (.str a) (.str b))=aB (.bl (!decide (a=b))):=by
 funext ph;unfold cz ff lift;simp only[dat,ha,hb,if_true];rfl
theorem Av(a b:String):lift (aS (.str (aei a)) (.str (aei b)))=aB (.bl (decide (a=b))):=by
 rw[acD (so a) (so b)];simp only[vL]
theorem wk(a b:String):lift (cz (.str (aei a)) (.str (aei b)))=aB (.bl (!decide (a=b))):=by
 rw[acE (so a) (so b)];simp only[vL]
theorem Hb(a b:Bool):lift (cz (.bl a) (.bl b))=aB (.bl (!(a==b))):=by
 funext ph;unfold cz ff lift;simp only[dat];rfl
theorem r6(c:String)(w:W)(t:String)(h:∀ph,rp w ph=some t):lift (dI c w)=aB (.bl (dW t c)):=by
 funext ph;unfold lift dI;rw[h];rfl
theorem HN(c:String)(i:Int):lift (dI c (.int i))=aB (.bl (dW "int" c)):=r6 _ _ _ fun _=>rfl
theorem HP(c:String)(b:Bool):lift (dI c (.bl b))=aB (.bl (dW "bool" c)):=r6 _ _ _ fun _=>rfl
theorem HQ(c:String):lift (dI c .aE)=aB (.bl (dW "NoneType" c)):=r6 _ _ _ fun _=>rfl
theorem HR(c:String)(x:Str):lift (dI c (.str x))=aB (.bl (dW "str" c)):=r6 _ _ _ fun _=>rfl
theorem HS(c:String)(ws:List W):lift (dI c (.tup ws))=aB (.bl (dW "tuple" c)):=r6 _ _ _ fun _=>rfl
theorem z6{c:String}(h:ph[i]? =some (.lst ws)):lift (dI c (.ref i)) ph=.ok (.bl (dW "list" c)) ph:=by
 unfold lift dI rp;simp only[h]
theorem HU:dW "int" "int"=true:=by decide +kernel
theorem HV:dW "int" "bool"=false:=by decide +kernel
theorem HW:dW "bool" "int"=true:=by decide +kernel
theorem HX:dW "bool" "bool"=true:=by decide +kernel
theorem HY:dW "NoneType" "int"=false:=by decide +kernel
theorem HZ:dW "str" "int"=false:=by decide +kernel
theorem Ia:dW "list" "int"=false:=by decide +kernel
theorem Ib:dW "list" "list"=true:=by decide +kernel
theorem Ic:dW "tuple" "tuple"=true:=by decide +kernel
theorem Gg:lift (jA [])=aB (.tup []):=rfl
theorem Gh(a:W):lift (jA [a])=aB (.tup [a]):=rfl
theorem Gi(a b:W):lift (jA [a,b])=aB (.tup [a,b]):=rfl
theorem Gj(a b c:W):lift (jA [a,b,c])=aB (.tup [a,b,c]):=rfl
theorem Gk(a b c d:W):lift (jA [a,b,c,d])=aB (.tup [a,b,c,d]):=rfl
theorem Gm(a b c d e:W):lift (jA [a,b,c,d,e])=aB (.tup [a,b,c,d,e]):=rfl
theorem Aw(a:W)(l:List W):lift (dH (.tup (a::l)) (.int 0))=aB a:=by
 funext ph;unfold lift dH cy fY;simp[cL,aB]
theorem Hc(a b:W)(l:List W):lift (dH (.tup (a::b::l)) (.int 1))=aB b:=by
 funext ph;unfold lift dH cy fY;simp[cL,aB];rw[if_pos (by omega)];simp
theorem Hd(a b c:W)(l:List W):lift (dH (.tup (a::b::c::l)) (.int 2))=aB c:=by
 funext ph;unfold lift dH cy fY;simp[cL,aB];rw[if_pos (by omega)];simp
theorem He(a b c d:W)(l:List W):lift (dH (.tup (a::b::c::d::l)) (.int 3))=aB d:=by
 funext ph;unfold lift dH cy fY;simp[cL,aB];rw[if_pos (by omega)];simp
theorem Hf(a b c d e:W)(l:List W):lift (dH (.tup (a::b::c::d::e::l)) (.int 4))=aB e:=by
 funext ph;unfold lift dH cy fY;simp[cL,aB];rw[if_pos (by omega)];simp
noncomputable def pj:W->Bool
 | .aE=>true
 | _=>false
theorem Gn(w:W):lift (GW w .aE)=aB (.bl (!pj w)):=by
 unfold GW;cases w <;> rfl
theorem Hg(w:W):lift (nv w .aE)=aB (.bl (pj w)):=by
 unfold nv;cases w <;> rfl
theorem Fm(i:Int):pj (.int i)=false:=rfl
theorem Fn:pj .aE=true:=rfl
theorem Fo(ws:List W):pj (.tup ws)=false:=rfl
theorem Fp(i:Nat):pj (.ref i)=false:=rfl
noncomputable def Ex(ph ph':PH):Prop:=∃m,ph'=ph++m
theorem Ex.refl(ph:PH):Ex ph ph:=⟨[],by simp⟩
theorem Ex.trans{a b c:PH}(h:Ex a b)(h':Ex b c):Ex a c:=by
 obtain⟨m,rfl⟩:=h;obtain⟨m',rfl⟩:=h';exact⟨m++m',by simp⟩
theorem Ex.one(ph:PH)(o:PO):Ex ph (ph++[o]):=⟨[o],rfl⟩
theorem Ex.get{a b:PH}(h:Ex a b){o:PO}(e:a[i]? =some o):b[i]? =some o:=by
 obtain⟨m,rfl⟩:=h;rw[afq (aen.mp e).1];exact e
theorem bW(ph:PH)(o:PO):(ph++[o])[ph.length]? =some o:=by simp
theorem small(h:n<=1000000):n<=sizeLine:=aeW h (by decide)
section
variable{β:Type}{ph:PH}{i:Nat}{ws:List W}
theorem k9(ws:List W)(ph:PH)(h:ws.length<=aeD):lift (rR ws) ph=.ok (.ref ph.length) (ph++[.lst ws]):=by
 unfold lift rR;rw[if_pos h]
theorem aaH(h:ph[i]? =some (.lst ws)){k:Int}{w:W}(hk:cy ws k=some w):lift (dH (.ref i) (.int k)) ph=.ok w ph:=by
 unfold lift dH;simp only[cL,h,afy,hk,afa]
theorem iJ(h:ph[i]? =some (.lst ws)):lift (bU [.ref i]) ph=.ok (.int ws.length) ph:=by
 unfold lift bU;simp only[cL,h,afa]
theorem zM(h:ph[i]? =some (.lst ws)):cM (.ref i) ph=true:=by unfold cM;simp only[h]
theorem vp(h:ph[i]? =some (.lst ws)):lift (nu (cM (.ref i))) ph=.ok () ph:=by
 unfold lift nu;rw[if_pos (zM h)]
theorem uB(h:ph[i]? =some (.lst ws))(hz:ws.length<aeD)(w:W):lift (dg (.ref i) [w]) ph=.ok .aE (ph.set i (.lst (ws++[w]))):=by
 unfold lift dg;simp only[h,hz,if_true]
theorem WA(h:ph[i]? =some (.lst ws)):lift (pb [.ref i]) ph=.ok (.ref ph.length) (ph++[.lst ws]):=by
 unfold lift pb;simp only[cL,h]
theorem vq{j:Nat}{us:List W}(h:ph[i]? =some (.lst ws))(h':ph[j]? =some (.lst us))(hz:ws.length+us.length<=aeD):lift (addW (.ref i) (.ref j)) ph=.ok (.ref ph.length) (ph++[.lst (ws++us)]):=by
 unfold lift addW;simp only[h,h',hz,if_true]
end
theorem oj(a b:Int)(h:0<b):0<=a.fmod b/\a.fmod b<b:=by
 rw[Int.fmod_eq_emod_of_nonneg _ (by omega)];exact⟨Int.emod_nonneg _ (by omega),Int.emod_lt_of_pos _ h⟩
theorem gw(ws:List α)(k:Nat)(h:k<ws.length):cy ws (k:Int)=ws[k]? :=by
 unfold cy fY;rw[if_pos (by omega),if_pos (by omega)];rfl
theorem adG(ws:List W):lift (bU [.fl ws])=aB (.int ws.length):=by funext ph;rfl
theorem ixF{i:Int}{w:W}(h:cy ws i=some w):lift (dH (.fl ws) (.int i))=aB w:=by
 funext ph;unfold lift dH;simp only[cL,afy,h,afa];rfl
theorem EA{chk:PH->Bool}{g:GM}{b:SM}(R:W->PH->Prop)(I:Nat->aP->PH->Prop):∀(items:List W) (k:Nat) (σ:aP) (ph:PH),
  (∀j σ ph,I j σ ph->chk ph=true) →
  (∀j x σ ph,items[j]? =some x->I (k+j) σ ph->∃σ1 ph1,g x σ ph=.ok σ1 ph1/\∃f ph2,b σ1 ph1=.ok f ph2/\((∃bM,(f=.nx bM\/f=.ct bM)/\I (k+j+1) bM ph2)\/∃w,f=.rt w/\R w ph2)) →
  I k σ ph->(∃ay ph',dS chk g b items σ ph=.ok (.nx ay) ph'/\I (k+items.length) ay ph')\/∃w ph',dS chk g b items σ ph=.ok (.rt w) ph'/\R w ph'
 | [],k,σ,ph,hc,hs,h0=>by
  refine .inl ⟨σ,ph,?_,h0⟩;unfold dS;rw[if_pos (hc _ _ _ h0)]
 | x::xs,k,σ,ph,hc,hs,h0=>by
  obtain⟨σ1,ph1,e1,f,ph2,e2,h⟩:=hs 0 x σ ph rfl h0;have e:dS chk g b (x::xs) σ ph=(match f with
   | .nx ay=>dS chk g b xs ay
   | .ct ay=>dS chk g b xs ay
   | .bk ay=>aB (.nx ay)
   | .rt w=>aB (.rt w)) ph2:=by
   conv=>lhs;unfold dS
   rw[if_pos (hc _ _ _ h0),ck e1,ck e2]
   all_goals (cases f <;> rfl)
  rcases h with⟨bM,hf,hI⟩ | ⟨w,rfl,hR⟩
  ·have e:dS chk g b (x::xs) σ ph=dS chk g b xs bM ph2:=by
    rcases hf with rfl | rfl <;> exact e
   rw[e];have ih:=EA R I xs (k+1) bM ph2 hc (fun j y σ ph hj hI=>by
    have:=hs (j+1) y σ ph (by simpa using hj) (by rw[show k+(j+1)=k+1+j by omega];exact hI);rw[show k+(j+1)+1=k+1+j+1 by omega] at this;exact this) hI
   rw[show k+1+xs.length=k+(x::xs).length by simp;omega] at ih;exact ih
  ·exact .inr ⟨w,ph2,e,hR⟩
theorem qN{chk:PH->Bool}{g:GM}{b:SM}(I:Nat->aP->PH->Prop)(items:List W)(σ:aP)(ph:PH)
  (hc:∀j σ ph,I j σ ph->chk ph=true)
  (hs:∀j x σ ph,items[j]? =some x->I j σ ph->∃σ1 ph1,g x σ ph=.ok σ1 ph1/\∃f ph2,b σ1 ph1=.ok f ph2/\∃bM,(f=.nx bM\/f=.ct bM)/\I (j+1) bM ph2)
  (h0:I 0 σ ph):∃ay ph',dS chk g b items σ ph=.ok (.nx ay) ph'/\I items.length ay ph':=by
 have:=EA (fun _ _=>False) I items 0 σ ph hc (fun j x σ ph hj hI=>by
  rw[ahy] at hI ⊢;obtain⟨σ1,ph1,e1,f,ph2,e2,h⟩:=hs j x σ ph hj hI;exact⟨σ1,ph1,e1,f,ph2,e2,.inl h⟩) h0
 rw[ahy] at this
 rcases this with h | ⟨_,_,_,h⟩
 ·exact h
 ·exact h.elim
theorem yW{chk:PH->Bool}{g:GM}{c:TM}{e:EM}(L:Nat)(I:Nat->List W->aP->PH->Prop):∀(items:List W) (k:Nat) (acc:List W) (σ:aP) (ph:PH),
  (∀j acc σ ph,I j acc σ ph->chk ph=true) →
  (∀j x acc σ ph,items[j]? =some x->I (k+j) acc σ ph->∃σ1 ph1,g x σ ph=.ok σ1 ph1/\∃t ph2,c σ1 ph1=.ok t ph2/\((t=false/\I (k+j+1) acc σ1 ph2)\/(t=true/\∃w fc,e σ1 ph2=.ok w fc/\fc[L]? =some (.lst acc)/\acc.length<aeD/\I (k+j+1) (acc++[w]) σ1 (fc.set L (.lst (acc++[w])))))) →
  I k acc σ ph->∃r9 ay ph',dQ chk g c e L items σ ph=.ok () ph'/\I (k+items.length) r9 ay ph'
 | [],k,acc,σ,ph,hc,hs,h0=>by
  refine⟨acc,σ,ph,?_,h0⟩;unfold dQ;rw[if_pos (hc _ _ _ _ h0)]
 | x::xs,k,acc,σ,ph,hc,hs,h0=>by
  obtain⟨σ1,ph1,e1,t,ph2,e2,h⟩:=hs 0 x acc σ ph rfl h0;have next:∀A1 lJ,I (k+1) A1 σ1 lJ->∃r9 ay ph',dQ chk g c e L xs σ1 lJ=.ok () ph'/\I (k+(x::xs).length) r9 ay ph':=fun A1 lJ hI=>by
   have ih:=yW L I xs (k+1) A1 σ1 lJ hc (fun j y acc σ ph hj hI=>by
    have:=hs (j+1) y acc σ ph (by simpa using hj) (by rw[show k+(j+1)=k+1+j by omega];exact hI);rw[show k+(j+1)+1=k+1+j+1 by omega] at this;exact this) hI
   rw[show k+1+xs.length=k+(x::xs).length by simp;omega] at ih;exact ih
  have n1:fA (g x σ) ph=.ok σ1 ph1:=by unfold fA;rw[e1]
  have n2:fA (c σ1) ph1=.ok t ph2:=by unfold fA;rw[e2]
  rcases h with⟨rfl,hI⟩ | ⟨rfl,w,fc,e3,hL,hz,hI⟩
  ·have e:dQ chk g c e L (x::xs) σ ph=dQ chk g c e L xs σ1 ph2:=by
    conv=>lhs;unfold dQ
    rw[if_pos (hc _ _ _ _ h0),ck n1,ck n2];rfl
   rw[e];exact next _ _ hI
  ·have n3:fA (e σ1) ph2=.ok w fc:=by unfold fA;rw[e3]
   have e:dQ chk g c e L (x::xs) σ ph=dQ chk g c e L xs σ1 (fc.set L (.lst (acc++[w]))):=by
    conv=>lhs;unfold dQ
    rw[if_pos (hc _ _ _ _ h0),ck n1,ck n2];show aw (fA (e σ1)) _ ph2=_;rw[ck n3];exact ck (uB hL hz w)
   rw[e];exact next _ _ hI
theorem EB(im:IM)(cap:List (Option Nat))(g:GM)(c:TM)(e:EM)(σ:aP):cJ im cap g c e σ=aw (im σ) fun r ph=>aw (dQ r.2 g c e ph.length r.1 (gD cap σ)) (fun _=>aB (.ref ph.length)) (ph++[.lst []]):=rfl
theorem Ye(ph m:PH)(o o':PO):(ph++[o]++m).set ph.length o'=ph++[o']++m:=by
 rw[agX,agO _ _ (aeq _)];simp
variable{σ:aP}
theorem mE(as:List α)(h:α->W){im:IM}{cap:List (Option Nat)}{g:GM}{c:TM}{e:EM}{ph0:PH}{chk:PH->Bool}(i8:im σ ph0=.ok (as.map h,chk) ph)(BI:∀ph',Ex ph ph'->chk ph'=true)(hz:as.length<=aeD)
  (F:α->Option W) (S:aP->Prop) (h0:S (gD cap σ))
  (step:∀x∈as,∀σ H,S σ->Ex ph H->∃σ1,g (h x) σ H=.ok σ1 H/\S σ1/\∃t H1,c σ1 H=.ok t H1/\Ex H H1/\((t=false/\F x=none)\/(t=true/\∃w H2,e σ1 H1=.ok w H2/\Ex H1 H2/\F x=some w))) :
  ∃ph',cJ im cap g c e σ ph0=.ok (.ref ph.length) ph'/\Ex (ph++[.lst (as.filterMap F)]) ph':=by
 rw[EB,ck i8];have key:=yW (chk:=chk) (g:=g) (c:=c) (e:=e) ph.length (fun k acc σ H=>S σ/\acc=(as.take k).filterMap F/\Ex (ph++[.lst acc]) H) (as.map h) 0 [] (gD cap σ) (ph++[.lst []])
  (fun j acc σ H hI=>BI _ ((Ex.one _ _).trans hI.2.2))
  (fun j y acc σ H hj hI=>by
   rw[ahy] at hI ⊢;obtain⟨hS,ha,hE⟩:=hI;rw[aeA] at hj;cases hx:as[j]? with
   | none=>rw[hx] at hj;cases hj
   | some x=>
    rw[hx] at hj;cases hj;have tk:(as.take (j+1)).filterMap F=acc++(F x).toList:=by
     rw[List.take_add_one,hx,List.filterMap_append,ha];cases hF:F x <;> simp[hF]
    obtain⟨σ1,e1,km,t,H1,e2,x2,h⟩:=step x (aeV hx) σ H hS ((Ex.one _ _).trans hE);refine⟨σ1,H,e1,t,H1,e2,?_⟩
    rcases h with⟨rfl,hF⟩ | ⟨rfl,w,H2,e3,x3,hF⟩
    ·exact .inl ⟨rfl,km,by rw[tk,hF];simp,hE.trans x2⟩
    ·have x4:=(hE.trans x2).trans x3;refine .inr ⟨rfl,w,H2,e3,x4.get (bW _ _),?_,km,by rw[tk,hF];rfl,?_⟩
     ·have hl:acc.length<=j:=by
       rw[ha];exact aeW (List.length_filterMap_le _ _) (by simp;omega)
      have:=(aen.mp hx).1;omega
     ·obtain⟨m,rfl⟩:=x4;rw[Ye];exact⟨m,rfl⟩)
  ⟨h0,by simp,Ex.refl _⟩
 obtain⟨acc,ay,ph',e1,_,ha,hE⟩:=key;refine⟨ph',?_,?_⟩
 ·show aw (dQ chk g c e ph.length (as.map h) (gD cap σ)) _ _=_;rw[ck e1];rfl
 ·rw[ahy,aep,List.take_length] at ha;rw[<- ha];exact hE
theorem oK{α β:Type}(f:α->β):∀l:List α,l.filterMap (fun a=>some (f a))=l.map f
 | []=>rfl
 | a::l=>by
  rw[List.filterMap_cons_some (f:=fun a=>some (f a)) (b:=f a) rfl,oK f l];rfl
theorem Yf{w:W}(h:(iT ws)[i]? =some w):∃x,ws[i]? =some x/\w=.tup [.int i,x]:=by
 unfold iT at h;rw[aeA] at h;cases q:(afr ws.length)[i]? with
 | none=>rw[q] at h;cases h
 | some k=>
  rw[q] at h;obtain⟨hi,e⟩:=aen.mp q;rw[ahQ] at e;subst e;rw[agy] at hi;cases h;exact⟨ws[i],by simp[hi],by simp[hi]⟩
theorem qF(h:m σ ph=.ok (.ref i) ph')(hi:ph'[i]? =some (.lst ws)):fR m σ ph=.ok (ws,fun p=>decide (p[i]? =some (.lst ws))) ph':=by
 unfold fR;rw[ck h];unfold lift wg lw;simp only[hi]
theorem oV{m:AM}{j:Int}(h:m σ ph=.ok [.int j] ph')(h1: -(2 ^ 62)<=j)(h2:j<2 ^ 62):dG m σ ph=.ok (gZ 0 j.toNat,fun _=>true) ph':=by
 unfold dG;rw[ck h];unfold lift AR;simp only[h1,h2,and_self,if_true]
theorem UY{m:AM}(h:m σ ph=.ok [.ref i] ph')(hi:ph'[i]? =some (.lst ws)):pe m σ ph=.ok (iT ws,fun p=>decide (p[i]? =some (.lst ws))) ph':=by
 unfold pe;rw[ck h];unfold lift Ao lw;simp only[hi,afa]
theorem EC{lo:Int}{k:Nat}{w:W}(h:(gZ lo n)[k]? =some w):k<n/\w=.int (lo+(k:Int)):=by
 unfold gZ at h;rw[aeA] at h;cases q:(afr n)[k]? with
 | none=>rw[q] at h;cases h
 | some j=>
  rw[q] at h;obtain⟨hi,e⟩:=aen.mp q;rw[ahQ] at e;subst e;rw[agy] at hi;cases h;exact⟨hi,rfl⟩
theorem ED(lo:Int)(n:Nat):(gZ lo n).length=n:=by unfold gZ;simp
theorem aaI{ds:List agJ}{x:W}{d:agJ}(h1:bB (dat ph 40) ws=some ds)(h2:dat ph 40 x=some d):lift (kq x (.tup ws)) ph=.ok (.bl (ds.any fun e=>afb e d)) ph:=by
 unfold lift kq inD;simp only[cL,h1,h2,afa]
theorem wm(a b:Str):afb (.str a) (.str b)=decide (a=b):=by
 unfold afb;rfl
theorem jP{α β γ:Type}(f:β->Option γ)(g:α->β)(h:α->γ)(hf:∀a,f (g a)=some (h a)):∀l:List α,bB f (l.map g)=some (l.map h)
 | []=>rfl
 | a::l=>by
  show bB f (g a::l.map g)=_;unfold bB;rw[hf a,jP f g h hf l];rfl
theorem Fq(x:String)(ss:List String):lift (kq (.str (aei x)) (.tup (ss.map fun s=>.str (aei s))))=aB (.bl (ss.any fun s=>decide (s=x))):=by
 funext ph
 rw[aaI (jP _ _ (fun s=>aiP (aei s)) (fun s=>by simp only[dat,so,if_true]) ss) (d:=.str (aei x)) (by simp only[dat,so,if_true])];rw[ajJ];simp only[ajC,wm,vL];rfl
theorem Ax(x a b:String):lift (kq (.str (aei x)) (.tup [.str (aei a),.str (aei b)]))=aB (.bl (decide (a=x)||decide (b=x))):=by
 have:=Fq x [a,b];simp only[aeP,aiH,aft,List.any_nil,ajo] at this;exact this
theorem Hh(x a b c:String):lift (kq (.str (aei x)) (.tup [.str (aei a),.str (aei b),.str (aei c)]))=aB (.bl (decide (a=x)||(decide (b=x)||decide (c=x)))):=by
 have:=Fq x [a,b,c];simp only[aeP,aiH,aft,List.any_nil,ajo] at this;exact this
theorem Yg{bs:List Bool}(h:ph[i]? =some (.lst (bs.map W.bl))):lift (jB [.ref i]) ph=.ok (.bl (bs.all id)) ph:=by
 unfold lift jB pM;simp only[zM h,if_true,cL,h,afy,jP xN W.bl id (fun _=>rfl),afa,List.map_id_fun,id]
theorem Ay(ws:List W)(y:W):ak (.tup ws) y=dH (.tup ws) y:=rfl
theorem Hi(ws:List W)(y:W):ak (.fl ws) y=dH (.fl ws) y:=rfl
theorem Az(x:Str)(y:W):ak (.str x) y=dH (.str x) y:=rfl
theorem AA(x:W)(ws:List W):eL x (.tup ws)=kq x (.tup ws):=rfl
theorem Hj(x:W)(ws:List W):eL x (.fl ws)=kq x (.fl ws):=rfl
theorem Gp(x:W)(ws:List W):kb x (.tup ws)=wY x (.tup ws):=rfl
theorem z7(i:Int)(y:W):cC (.int i) y=pJ (.int i) y:=by
 funext ph;unfold cC;cases y <;> rfl
theorem zp(o i:EM)(v:W)(σ:aP):ik o i v σ=aw (o σ) fun ow=>aw (i σ) fun iw=>aw (lift (rX ow iw v)) fun _=>aB σ:=rfl
section
variable{ph:PH}{i:Nat}{ws:List W}{kws:List (W×W)}
theorem AB(h:ph[i]? =some (.lst ws)):ft (.ref i) ph=none:=by unfold ft;simp only[h]
theorem AD(h:ph[i]? =some (.bO kws)):ft (.ref i) ph=some (i,kws):=by unfold ft;simp only[h]
theorem eV(h:ph[i]? =some (.lst ws)){k:Int}{w:W}(hk:cy ws k=some w):lift (ak (.ref i) (.int k)) ph=.ok w ph:=by
 have:=aaH h hk;unfold lift at this ⊢;unfold ak;rw[AB h];exact this
theorem WB{ds:List agJ}{x:W}{d:agJ}(h:ph[i]? =some (.lst ws))(h1:bB (dat ph 40) ws=some ds)(h2:dat ph 40 x=some d):lift (kb x (.ref i)) ph=.ok (.bl (!(ds.any fun e=>afb e d))) ph:=by
 unfold lift kb;rw[AB h];unfold wY inD;simp only[cL,h,h1,h2,afa]
theorem WC(h:ph[i]? =some (.bO kws)){k:W}(hk:gy kws k=true)(hz:kws.length<aeD)(v:W):lift (rX (.ref i) k v) ph=.ok () (ph.set i (.bO (ij kws k v))):=by
 unfold lift rX;simp only[AD h,hk,hz,and_self,if_true]
theorem WD(h:ph[i]? =some (.lst ws)){k:Int}(h1: -(2 ^ 63)<=k)(h2:k<2 ^ 63)(hz:ws.length*k.toNat<=aeD):lift (cC (.ref i) (.int k)) ph=.ok (.ref ph.length) (ph++[.lst (aeF k.toNat ws).flatten]):=by
 unfold lift cC;simp only[h,h1,h2,hz,and_self,if_true]
end
theorem Fs(σ:aP):rW σ=lift newD:=rfl
theorem xb(b:SM)(n:Nat)(x y z u v:W):fM b n 5 [x,y,z,u,v]=aw (b (some x::some y::some z::some u::some v::aeF (n-5) none)) ei:=rfl
theorem Ie(b:SM)(n:Nat)(x y z u v w:W):fM b n 6 [x,y,z,u,v,w]=aw (b (some x::some y::some z::some u::some v::some w::aeF (n-6) none)) ei:=rfl
theorem zq{t:TM}{b:SM}:∀(n:Nat) (σ:aP) (ph:PH),(cG t b n σ ph).pI=false->cG t b (n+1) σ ph=cG t b n σ ph
 | 0,σ,ph,h=>by cases h
 | n+1,σ,ph,h=>by
  have h':(aw (t σ) (fun c=>if c=true then aw (b σ) fun f=>match f with
   | .nx ay=>cG t b n ay
   | .ct ay=>cG t b n ay
   | .bk ay=>aB (.nx ay)
   | .rt w=>aB (.rt w)
   else aB (.nx σ)) ph).pI=false:=h
  show aw (t σ) (fun c=>if c=true then aw (b σ) fun f=>match f with
   | .nx ay=>cG t b (n+1) ay
   | .ct ay=>cG t b (n+1) ay
   | .bk ay=>aB (.nx ay)
   | .rt w=>aB (.rt w)
   else aB (.nx σ)) ph=aw (t σ) (fun c=>if c=true then aw (b σ) fun f=>match f with
   | .nx ay=>cG t b n ay
   | .ct ay=>cG t b n ay
   | .bk ay=>aB (.nx ay)
   | .rt w=>aB (.rt w)
   else aB (.nx σ)) ph
  cases e1:t σ ph with
  | no=>unfold aw;rw[e1]
  | ex x p=>unfold aw;rw[e1]
  | ok c p=>
   rw[ck e1] at h' ⊢;rw[ck e1];cases c with
   | false=>rfl
   | true=>
    simp only[if_true] at h' ⊢;cases e2:b σ p with
    | no=>unfold aw;rw[e2]
    | ex x q=>unfold aw;rw[e2]
    | ok f q=>
     rw[ck e2] at h' ⊢;rw[ck e2];cases f with
     | nx ay=>exact zq n ay q h'
     | ct ay=>exact zq n ay q h'
     | bk ay=>rfl
     | rt w=>rfl
theorem Gq{t:TM}{b:SM}{m:Nat}(hm:n<=m)(h:(cG t b n σ ph).pI=false):cG t b m σ ph=cG t b n σ ph:=by
 induction m with
 | zero=>
  have:n=0:=by omega
  rw[this]
 | succ m ih=>
  by_cases e:n=m+1
  ·rw[e]
  ·have:=ih (by omega);rw[zq m σ ph (by rw[this];exact h),this]
theorem li(ph:PH)(n:Nat)(i:Int):dat ph n (.int i)=some (.int i):=by cases n <;> rfl
theorem CQ:∀ds:List agJ,(∀d∈ds,afb d d=true)->agY ds ds=true
 | [],_=>by unfold agY;rfl
 | d::ds,h=>by
  simp only[agY,h d (by simp),CQ ds (fun e he=>h e (by simp[he])),ajq]
theorem EE{α β:Type}{f:α->Option β}:∀{l:List α} {m:List β},bB f l=some m->∀b∈m,∃a∈l,f a=some b
 | [],m,h,b,hb=>by cases h;cases hb
 | a::l,m,h,b,hb=>by
  unfold bB at h;split at h
  ·rename_i b' m' e1 e2;cases h
   rcases aeG.mp hb with rfl | hb
   ·exact⟨a,by simp,e1⟩
   ·obtain⟨c,hc,e⟩:=EE e2 b hb;exact⟨c,by simp[hc],e⟩
  ·cases h
theorem WE:∀(n:Nat) (w:W) (d:agJ),dat ph n w=some d->afb d d=true:=by
 intro n
 induction n with
 | zero=>
  intro w d h;cases w <;> simp only[dat] at h <;> first | (cases h;simp[afb];done) | skip
  ·split at h
   ·cases h;simp[afb]
   ·cases h
  all_goals cases h
 | succ n ih=>
  have key:∀(ws:List W) (ds:List agJ),bB (dat ph n) ws=some ds->agY ds ds=true:=fun ws ds h=>
   CQ ds fun d hd=>let ⟨w,_,e⟩:=EE h d hd;ih w d e
  intro w d h;cases w with
  | aE=>cases h;simp[afb]
  | bl b=>cases h;simp[afb]
  | int i=>cases h;simp[afb]
  | str x=>
   simp only[dat] at h;split at h
   ·cases h;simp[afb]
   ·cases h
  | tup ws=>
   simp only[dat] at h;cases q:bB (dat ph n) ws with
   | none=>rw[q] at h;cases h
   | some ds=>rw[q] at h;cases h;simp only[afb,key ws ds q]
  | fl ws=>
   simp only[dat] at h;cases q:bB (dat ph n) ws with
   | none=>rw[q] at h;cases h
   | some ds=>rw[q] at h;cases h;simp only[afb,key ws ds q]
  | ref i=>
   simp only[dat] at h;split at h
   ·rename_i ws hw;cases q:bB (dat ph n) ws with
    | none=>rw[q] at h;cases h
    | some ds=>rw[q] at h;cases h;simp only[afb,key ws ds q]
   ·cases h
  | exc c ns ws=>simp only[dat] at h;cases h
  | fn x ws=>simp only[dat] at h;cases h
  | kt ws=>simp only[dat] at h;cases h
theorem Hk{x:W}(h:ff ph x y=some b):lift (aS x y) ph=.ok (.bl b) ph:=by
 unfold lift aS;simp only[h,afa]
theorem AE{x:W}(h:ff ph x y=some b):lift (cz x y) ph=.ok (.bl (!b)) ph:=by
 unfold lift cz;simp only[h,afa]
theorem Gr{x:W}{d:agJ}(h1:dat ph 40 x=some d)(h2:dat ph 40 y=some d):ff ph x y=some true:=by
 unfold ff;rw[h1,h2];simp only[WE 40 _ _ h1]
theorem eq_nil{ds:List agJ}(hi:ph[i]? =some (.lst ws))(hj:ph[j]? =some (.lst []))(hd:bB (dat ph 39) ws=some ds):ff ph (.ref i) (.ref j)=some ws.isEmpty:=by
 unfold ff;have e1:dat ph 40 (.ref i)=some (.list ds):=by simp only[dat,hi,hd,afa]
 have e2:dat ph 40 (.ref j)=some (.list []):=by simp only[dat,hj,bB,afa]
 rw[e1,e2];cases ws with
 | nil=>cases hd;simp[afb,agY]
 | cons w ws=>
  unfold bB at hd;split at hd
  ·cases hd;simp[afb,agY]
  ·cases hd
section
variable{ph:PH}{i:Nat}{c f:Str}{fs:List (Str×W)}{w y:W}{kws:List (W×W)}
theorem Ft(h:ph[i]? =some (.obj c fs))(hl:fs.lookup f=some w):lift (pN c f (.ref i)) ph=.ok w ph:=by
 unfold lift pN;simp only[h,hl];rfl
theorem Fu(h:ph[i]? =some (.obj c fs))(hz:fs.length<1000):lift (pO c f (.ref i) y) ph=.ok () (ph.set i (.obj c (jw f y fs))):=by
 unfold lift pO;simp only[h];rw[if_pos ⟨trivial,hz⟩]
theorem Yh(h:ph[i]? =some (.bO kws)):lift (nu (fV (.ref i))) ph=.ok () ph:=by
 unfold lift nu fV;rw[AD h];rfl
theorem Yi(h:ph[i]? =some (.bO kws)){k z:W}(hk:gy kws k=true):lift (fW (.ref i) [k,z]) ph=.ok ((gx kws k).getD z) ph:=by
 unfold lift fW;simp only[AD h,hk,if_true]
end
theorem S9(x:String)(ss:List String)(h:ph[i]? =some (.lst (ss.map fun s=>.str (aei s))))(hj:ss.findIdx? (fun s=>decide (s=x))=some j):lift (oU (.ref i) [.str (aei x)]) ph=.ok (.int j) ph:=by
 have e1:cL (.ref i) ph=some (ss.map fun s=>W.str (aei s)):=by unfold cL;simp only[h]
 have e2:bB (dat ph 40) (ss.map fun s=>W.str (aei s))=some (ss.map fun s=>aiP (aei s)):=jP _ _ _ (fun s=>by simp only[dat,so,if_true]) ss;have e3:dat ph 40 (.str (aei x))=some (.str (aei x)):=by simp only[dat,so,if_true]
 have e4:sM ph (.ref i) (.str (aei x))=some j:=by
  unfold sM;rw[if_pos (zM h),e1,e3];simp only[e2,afy];rw[List.findIdx?_map,<- hj]
  congr 1
  funext s
  simp only[ajC,wm,vL]
 unfold lift oU;simp only[e4,afa]
theorem q0(m:EM)(lo hi:OM)(σ:aP):c5 m lo hi σ=aw (m σ) fun w=>aw (lo σ) fun l=>aw (hi σ) fun h=>lift (hG w l h):=rfl
theorem aaJ(h:ph[i]? =some (.lst ws))(k:Nat):lift (hG (.ref i) none (some (k:Int))) ph=.ok (.ref ph.length) (ph++[.lst (ws.take k)]):=by
 have:fU ws none (some (k:Int))=ws.take k:=by
  unfold fU HT.bj;simp;rw[if_neg (by omega)];omega
 unfold lift hG;simp only[h,this]
section
variable{ph:PH}{i:Nat}{kws:List (W×W)}
theorem Yj{ws:List W}(h:ph[i]? =some (.lst ws))(k:Nat):lift (hG (.ref i) (some (k:Int)) none) ph=.ok (.ref ph.length) (ph++[.lst (ws.drop k)]):=by
 have:fU ws (some (k:Int)) none=ws.drop k:=by
  unfold fU HT.bj;simp;rw[if_neg (by omega)];by_cases hk:k<=ws.length
  ·rw[aho hk,List.take_of_length_le (by simp)]
  ·rw[ais (by omega),agf (aeq _),agf (by omega),List.take_nil]
 unfold lift hG;simp only[h,this]
end
section
variable{X:Cx}{pins:List (Addr×Obj)}{σ:L2.St}{H:Hp}{s:aem}
noncomputable def kz(sc:Scope)(n:Str):Scope:={ sc with names:=sc.names.map fun p=>if p.1==n then(p.1,.free) else p }
theorem Dy{n x:Str}:∀{l:List (Str×agW)},(l.map fun p=>if p.1==n then(p.1,aeM) else p).lookup x=if x==n then(l.lookup x).map fun _=>.free else l.lookup x
 | []=>by simp
 | p::l=>by
  rw[aeP];obtain⟨y,k⟩:=p;have ih:=Dy (n:=n) (x:=x) (l:=l);by_cases hy:y=n
  ·subst hy;simp only[beq_self_eq_true,if_true];rw[aeH,aeH,ih];by_cases hx:x=y
   ·subst hx;simp
   ·have:(x==y)=false:=by simpa using hx
    simp[this]
  ·have Ju:(y==n)=false:=by simpa using hy
   simp only[Ju,Bool.false_eq_true,if_false];rw[aeH,aeH,ih];by_cases hx:x=y
   ·subst hx;simp[Ju]
   ·have:(x==y)=false:=by simpa using hx
    simp[this]
end
noncomputable def wo(j:Nat)(w:W)(σ:aP):aP:=(aeF σ.length none).set j (some w)
noncomputable def pk(tb:List (Str×Bool))(j:Nat)(b h:SM):SM:=fun σ=>match σ[j]? with
 | some (some w)=>fun ph=>match b σ ph with
  | .ex x ph'=>if tb.lookup x.cls=some true/\x.fs.isEmpty=true then xJ (h (wo j w σ)) ph' else .no
  | .ok f ph'=>.ok f ph'
  | .no=>.no
 | _=>dO
section
variable{X:Cx}
abbrev kc(X:Cx)(pn':List (Addr×Obj))(E:Value->aem->Prop)(j:Nat)(v:V):Cx:={ X with pn:=pn',xe:=E,kp:=fun σ=>X.kp σ/\σ[j]? =some (some v) }
variable{σ:L2.St}{H:Hp}{E:Value->aem->Prop}
theorem Yk{pins gX pn':List (Addr×Obj)}{s:aem}{j:Nat}{v:V}(I:Inv X pins σ H s)(hv:σ[j]? =some (some v))(hp:∀p∈pn'++gX,p∈X.pn++pins):Inv (kc X pn' E j v) gX σ H s:=
 ⟨⟨I.ok.mod,I.ok.kind,I.ok.glob,I.ok.blt,I.ok.above,I.ok.inj,I.ok.has,I.ok.lB,I.ok.hd,I.ok.frames,I.ok.nE,I.ok.sk,I.ok.bs,I.ok.i4,I.ok.ll,I.ok.lm,I.ok.eX,I.ok.jC⟩,I.os,I.bare,I.base,I.loc,I.cell,I.free,I.ie,fun p h=>I.pin p (hp p h),I.aI,⟨I.lk.1,I.lk.2,hv⟩⟩
theorem DY{pins gX pn':List (Addr×Obj)}{s:aem}{j:Nat}{v:V}{A':afU}{xe':Value->aem->Prop}{calm':Bool}{pn2:List (Addr×Obj)}(I:Inv (kc X pn' E j v) gX σ H s)(hA:A'.frames=X.A.frames)(hh:calm'=true->A'.handled=none)(hp:∀p∈pn2++pins,p∈pn'++gX):Inv (ly X A' pn2 xe' calm') pins σ H s:=
 ⟨⟨I.ok.mod,I.ok.kind,I.ok.glob,I.ok.blt,I.ok.above,I.ok.inj,I.ok.has,I.ok.lB,hh,hA.trans I.ok.frames,I.ok.nE,I.ok.sk,I.ok.bs,I.ok.i4,I.ok.ll,I.ok.lm,I.ok.eX,I.ok.jC⟩,I.os,I.bare,I.base,I.loc,I.cell,I.free,I.ie,fun p h=>I.pin p (hp p h),I.aI,⟨I.lk.1,I.lk.2.1⟩⟩
theorem Gs{Y:Cx}{pins:List (Addr×Obj)}{s:aem}(I:Inv Y pins σ H s):Inv { Y with xe:=E } pins σ H s:=
 ⟨⟨I.ok.mod,I.ok.kind,I.ok.glob,I.ok.blt,I.ok.above,I.ok.inj,I.ok.has,I.ok.lB,I.ok.hd,I.ok.frames,I.ok.nE,I.ok.sk,I.ok.bs,I.ok.i4,I.ok.ll,I.ok.lm,I.ok.eX,I.ok.jC⟩,I.os,I.bare,I.base,I.loc,I.cell,I.free,I.ie,I.pin,I.aI,I.lk⟩
theorem aaK{Y:Cx}{x:XC}{H':Hp}{e:Value}{s':aem}(h:pY Y x H' e s'):pY { Y with xe:=E } x H' e s':=by
 obtain⟨C,hm,hf,h⟩:=h;refine⟨C,hm,hf,?_⟩
 rcases h with⟨pins,σ,s,vs,h',a,e1,e2,I,hx⟩ | ⟨pins,σ,H,s,I,h⟩
 ·exact .inl ⟨pins,σ,s,vs,h',a,e1,e2,Gs I,hx⟩
 ·exact .inr ⟨pins,σ,H,s,Gs I,h⟩
theorem aaL{j:Nat}{o:Option V}(h:σ[j]? =some o):σ.set j o=σ:=by
 obtain⟨hl,e⟩:=aen.mp h;rw[<- e];exact List.set_getElem_self hl
variable{body pq:List Stmt}{qi:Stmt}{c n:Str}{j:Nat}{tb:List (Str×Bool)}{D:Addr}{np xc pos:Pos}{mb mh:SM}
theorem aaM(T:bY X)(ad3:X.calm=true)(nP:Gl X c)(nQ:X.mg c=some (.ref D))(cf:(c==("__debug__":Str))=false)(hk:GZ X.K D)(hT:j9 X.K D tb)
  (hb:∀(pn:List (Addr×Obj)) (K0 E0:Value->aem->Prop) (v:V),gL (kc X pn (fun e s'=>wpAny (model X.prog X.w) X.A (aiJ e X.env) (fun _ fC=>K0 e fC) E0 s') j v) body mb) (hh:∀a E,gL (ly X (X.A.mark (some (.ref a))) X.pn E false) (qi::pq) mh) :
  IS X (.Try body [.ExceptHandler (some (.Name c np)) none (qi::pq) xc] [] [] pos) (pk tb j mb mh):=by
 intro pins s σ H Dn I h;obtain⟨φ,ph,ws,hH,hS,h⟩:=h;have Jv:=I.ok.hd;unfold pk at h;cases ew:ws[j]? with
 | none=>simp only[ew] at h;exact h.elim
 | some ow=>
 cases ow with
 | none=>simp only[ew] at h;exact h.elim
 | some wj=>
 simp only[ew] at h;obtain⟨va,ev,ra⟩:=hS.get ew
 let X0:Cx:=kc X (X.pn++pins) X.xe j va
 let K0:Value->aem->Prop:=fun e sX=>wpAny (model X.prog X.w) X.A (setFlight e none) (fun _ B7=>wpAny (model X.prog X.w) X.A (handleBy e X.env [.ExceptHandler (some (.Name c np)) none (qi::pq) xc]) (SP X pins Dn) X.xe B7) X.xe sX
 let E1:Value->aem->Prop:=fun e s'=>wpAny (model X.prog X.w) X.A (aiJ e X.env) (fun _ fC=>K0 e fC) X.xe s'
 have I1:Inv (kc X (X.pn++pins) E1 j va) [] σ H s:=Yk I ev fun p hp=>by simpa using hp
 have back:∀{ay:L2.St} {H':Hp} {s':aem},Inv (kc X (X.pn++pins) E1 j va) [] ay H' s'->Inv X pins ay H' s':=fun{ay H' s'} J=>DY (A':=X.A) (xe':=X.xe) (calm':=X.calm) (pn2:=X.pn) J rfl Jv fun p hp=>by simpa using hp
 have acF:tS (kc X (X.pn++pins) E1 j va) mb Dn σ H:=by
  refine⟨φ,ph,ws,hH,hS,?_⟩;cases q:mb ws ph with
  | ok f ph'=>rw[q] at h;exact h
  | no=>rw[q] at h;exact h
  | ex x ph'=>
   rw[q] at h
   dsimp only at h
   intro au H' e s' rH st th;by_cases hx:tb.lookup x.cls=some true/\x.fs.isEmpty=true
   case neg=>rw[if_neg hx] at h;exact h.elim
   rw[if_pos hx] at h;have th:pY X0 x H' e s':=aaK (E:=X.xe) th;obtain⟨C,hmx,Ja,a,B,rfl,K⟩:=took (X:=X0) ⟨T.st,T.fr,T.ex⟩ th;obtain⟨C',tn,adH⟩:=hT _ _ hx.1;have Ig:=aet I.ok.mod.fB I.ok.mod.glob tn;have adI:X.mg x.cls=some (.ref C):=hmx;rw[adI] at Ig;cases Ig;refine K.note (A:=X.A) I.ok.frames fun h4 a0 acG Jw=>?_
   refine wpAny_landsW acG fun h5 Jx Jy=>?_
   obtain⟨ad4,gf,oe5,ge5,gc5,_,kx,J5⟩:=K.inv (X:=X0) ⟨T.st,T.fr,T.ex⟩ Jx (Jw.trans Jy)
   let X2:Cx:=ly X (X.A.mark (some (.ref a))) X.pn (fun _ _=>False) false
   have to2:∀{p5:List (Addr×Obj)} {ay:L2.St} {H2:Hp} {s':aem},Inv X0 p5 ay H2 s'->Inv X2 pins ay H2 s':=fun{p5 ay H2 s'} J=>DY J rfl (fun z=>nomatch z) fun p hp=>ahB _ hp
   have Jz:=to2 J5;refine wpAny_handleBy_cons (codeAny_handlers_test (qP (X:=X2) Jz nP nQ ?_ cf)) (by intro z;cases z);refine UR Jz.dC ⟨oe5,ge5,gc5⟩ hk.ek hk.ty adH (codeAny_handlers_suite ?_);refine lands_againW Jx fun h6 fl6 sm6=>?_
   obtain⟨ad5,ja,BJ,ge6,gc6,gn6,_,J6⟩:=K.inv (X:=X0) ⟨T.st,T.fr,T.ex⟩ fl6 ((Jw.trans Jy).trans sm6);have J6':=to2 J6;have b6:ws.length=ja.length:=by rw[hS.len,I.len];exact J6.len.symm
   have hj6:ja[j]? =some (some va):=J6.lk.2.2;have xP:=st.trans (zk (K:=X.K) (φ:=au) (n:=ph'.length) (o:=HO.bN BJ (.own a)) kx);have rs:bh X.K au ph'.length (upd H' a (.bN BJ (.own a))) (wo j wj ws) ja:=by
    have:=bh.set (ws:=aeF ws.length none) (ra.mono xP) j (by rw[b6];exact bh.none ja);rw[aaL hj6] at this;exact this
   have aaN:tS X2 mh Dn ja (upd H' a (.bN BJ (.own a))):=by
    refine⟨au,ph',wo j wj ws,Ep rH kx,rs,?_⟩;unfold xJ at h;cases q2:mh (wo j wj ws) ph' with
    | no=>rw[q2] at h;exact h.elim
    | ex y p2=>rw[q2] at h;exact h.elim
    | ok f p2=>
     rw[q2] at h;exact fun aY H2 r2 s2=>h aY H2 r2 (xP.trans s2)
   have wt:∀{ay:L2.St} {H2:Hp} {s':aem},Inv X2 pins ay H2 s'->Inv X pins ay H2 s':=fun{ay H2 s'} J=>US J rfl Jv fun p hp=>hp
   refine afJ (hh a (fun _ _=>False) pins _ _ _ Dn J6' aaN) (fun f s8 z=>?_) fun _ _ z=>z.elim
   cases f with
   | next=>obtain⟨ay,H2,J8,q8⟩:=z;exact⟨_,H2,wt J8,q8⟩
   | brk=>obtain⟨ay,H2,J8,q8⟩:=z;exact⟨_,H2,wt J8,q8⟩
   | cont=>obtain⟨ay,H2,J8,q8⟩:=z;exact⟨_,H2,wt J8,q8⟩
   | ret u=>obtain⟨v,ay,H2,J8,r8,q8⟩:=z;exact⟨v,_,H2,wt J8,r8,q8⟩
 refine wpAny_Try_except (afJ (hb (X.pn++pins) K0 X.xe va [] s σ H Dn I1 acF) (fun f s1 z=>?_) fun e s1 z=>z);cases f with
 | next=>
  obtain⟨ay,H',J,q⟩:=z;exact ahj ⟨ay,H',back J,q⟩
 | brk=>obtain⟨ay,H',J,q⟩:=z;exact⟨ay,H',back J,q⟩
 | cont=>obtain⟨ay,H',J,q⟩:=z;exact⟨ay,H',back J,q⟩
 | ret u=>obtain⟨v,ay,H',J,r,q⟩:=z;exact⟨v,ay,H',back J,r,q⟩
end
noncomputable def rB(c:Str)(fm:List W->Mo W)(a:AM):EM:=fun σ=>aw (a σ) fun ws ph=>aw (fA (fm (.ref ph.length::ws))) (fun w=>acB w (aB (.ref ph.length))) (ph++[.obj c []])
noncomputable def lj(g:W->W->Po W)(c f:Str)(o v:EM):SM:=fun σ=>aw (o σ) fun x=>aw (lift (pN c f x)) fun y=>aw (v σ) fun z=>aw (lift (g y z)) fun u=>aw (lift (pO c f x u)) fun _=>aB (.nx σ)
section
variable{X:Cx}{e o value:Expr}{es:List Expr}{m mo mv:EM}{a:AM}{c f:Str}{C:Addr}{pos pos' wN p:Pos}
variable{k:Nat}
theorem Yl{g:Addr}{fd:aeT}{ps:List Str}{fm:List W->Mo W}(bD:aeo X.K ael c=some (some (.ref C)))(M:Mk X.K C g)(F:bF X.prog X.w X.K X.mg X.base (bE X.prog X.w) k g fd ps (bP X.K X.mg ps.length fm))(hl:∀{xs:List W} {ph:PH},xs.length≠ps.length->fm xs ph=.no)(hr:cO (k+1) X.A)
  (hg:Gl X c) (hm:X.mg c=some (.ref C)) (hb:Binds X.K fd ps []) (cf:(c==("__debug__":Str))=false) (hn:dh (e::es)=true) (ha:IA X (e::es) a):IE X (.Call (.Name c p) (e::es) [] pos) (rB c fm a):=by
 unfold dh at hn;rw[afG,aev] at hn;refine PE.imp (Xk (E:=fun _ _ _=>False) (dvs:=[]) M F hr hg hm hb .nil (fun pins σ H s e s' I z=>by obtain⟨_,_,_,z⟩:=z;exact z.elim) ha cf (eU (by simpa using hn.1)) (any_none (by unfold dh;exact hn.2))) fun σ H Q h=>?_
 obtain⟨φ,ph,ws,hH,hS,h⟩:=h;unfold rB at h;refine tA.bind hH hS h fun xs ph1 aA H1 vs aC st1 JC h=>?_
 rw[cI] at h;intro x dx hx JD Jb;rw[ahl];have sN:upd H1 dx (.own x) x=none:=by rw[bz (ahH Jb)];exact hx
 have BK:(ph1++[PO.obj c []]).length=ph1.length+1:=by simp
 have s1:=zk (K:=X.K) (φ:=aA) (n:=ph1.length) (o:=HO.own x) JD;have s2:=uZ (K:=X.K) (φ:=aA) (n:=ph1.length) (o:=HO.ins C dx []) sN;have bf:=(Ep (o:=HO.own x) aC JD).new sN (o:=PO.obj c []) (x:=HO.ins C dx []) ⟨C,dx,[],bD,bZ,.nil⟩;have q:aQ X.K (ext aA ph1.length x) (ph1.length+1) (upd (upd H1 dx (.own x)) x (.ins C dx [])) (.ref ph1.length) (.ref (ext aA ph1.length x ph1.length)):=.ref (afH _);rw[k6] at q;have b6:xs.length=vs.length:=JC.length;by_cases hz:(W.ref ph1.length::xs).length=ps.length
 case neg=>
  have h:=qK (E':=fun _ _=>False) h;rw[hl hz] at h;exact h.elim
 refine⟨by rw[aeO] at hz ⊢;omega,ext aA ph1.length x,ph1++[.obj c []],.ref ph1.length::xs,bf,.cons (by rw[BK];exact q) (by rw[BK];exact(JC.mono s1).mono s2),(qK (E':=fun _ _=>False) h).mono (fun w ph' h au H' v hH' s' rv=>?_) fun _ _ z=>agE z⟩;rw[BK] at s';cases rv with
 | aE=>exact⟨rfl,h au H' _ hH' (st1.trans ((s1.trans s2).trans s')) (q.mono s')⟩
 | _=>exact h.elim
theorem Ym{g:Addr}{fd:aeT}{ps:List Str}{fm:List W->Mo W}(bD:aeo X.K ael c=some (some (.ref C)))(M:Mk X.K C g)(F:bF X.prog X.w X.K X.mg X.base (bE X.prog X.w) k g fd ps (bP X.K X.mg ps.length fm))(hl:∀{xs:List W} {ph:PH},xs.length≠ps.length->fm xs ph=.no)(hr:cO (k+1) X.A)
  (hg:Gl X c) (hm:X.mg c=some (.ref C)) (hb:Binds X.K fd ps []) (cf:(c==("__debug__":Str))=false) (hn:dh (e::es)=true) (ha:JA X (e::es) a):JE X (.Call (.Name c p) (e::es) [] pos) (rB c fm a):=⟨Yl bD M F hl hr hg hm hb cf hn ha.h⟩
noncomputable def xf(g:W->W->Po W)(rd:V->V->Hp->VK->Prop):Prop:=∀{y z w:W} {ph ph':PH},g y z ph=some (w,ph')->∃i j k:Int,y=.int i/\z=.int j/\w=.int k/\ph'=ph/\∀H Q,Q (.int k) H->rd (.int i) (.int j) H Q
theorem Yn{g:W->W->Po W}{op:ajm}{rd:V->V->Hp->VK->Prop}(sC:rP X op rd)(ho:xf g rd)(bD:aeo X.K ael c=some (some (.ref C)))(hc:gK X.K C)(hn:dP X.K C f)(ng:IE X o mo)(hv:IE X value mv):IS X (.AugAssign (.Attribute o f wN) op value pos) (lj g c f mo mv):=by
 refine PS.imp (UC ng hv sC) fun D σ H h=>?_
 obtain⟨φ,ph,ws,hH,hS,h⟩:=h;refine tM.bind hH hS h fun x ph1 aA H1 vx aC s1 rx h=>?_
 rw[cI] at h;obtain⟨y,aef,e1,h⟩:=run_lift h;unfold pN at e1;cases rx with
 | @ref i hi=>
  simp only at e1;split at e1
  ·rename_i c' fs hw;split at e1
   ·rename_i lG;subst lG;obtain⟨C',dx,vs,q1,q2,r⟩:=aC.hp _ _ hw;rw[bD] at q1;cases q1;have ro:=r.lookup f;cases q:fs.lookup f with
    | none=>rw[q] at e1;cases e1
    | some y0=>
     rw[q] at e1 ro;cases e1;cases q':vs.lookup f with
     | none=>rw[q'] at ro;exact ro.elim
     | some v=>
      rw[q'] at ro;refine⟨_,C,dx,vs,v,rfl,q2,hc,hn,q',?_⟩;refine tM.bind aC (hS.mono s1) h fun z ph2 aY H2 vz bf s2 rz h=>?_
      rw[cI] at h;obtain⟨u,fc,e3,h⟩:=run_lift h;obtain⟨a1,a2,a3,rfl,rfl,rfl,rfl,IU⟩:=ho e3;cases rz;cases ro;refine IU _ _ ?_;rw[cI] at h;obtain⟨_,lJ,e4,k⟩:=run_lift h;unfold pO at e4;simp only at e4;split at e4
      ·rename_i c2 fs2 de;split at e4
       ·rename_i adJ;obtain⟨rfl,hz⟩:=adJ;cases e4;obtain⟨C2,xQ,BL,p1,p2,r2⟩:=bf.hp _ _ de;rw[bD] at p1;cases p1;have hφ:aA i=aY i:=(s2.eq i hi).symm;have s3:=kO (K:=X.K) (φ:=aY) (n:=fc.length) (y:=HO.ins C xQ (dn f (.int a3) BL)) p2 trivial;have dc:=bf.put de rfl (x:=HO.ins C xQ (dn f (.int a3) BL)) (o:=.obj c2 (jw f (.int a3) fs2)) ⟨C,xQ,_,bD,bZ,(r2.put f (.int a3)).mono s3⟩;rw[hφ];exact⟨xQ,BL,p2,by rw[<- r2.len];exact hz,k aY _ dc (by rw[afO];exact(s1.trans s2).trans s3) σ (by rw[afO];exact((hS.mono s1).mono s2).mono s3)⟩
       ·cases e4
      ·cases e4
   ·cases e1
  ·cases e1
 | _=>cases e1
theorem zN{g:W->W->Po W}{op:ajm}{rd:V->V->Hp->VK->Prop}(sC:rP X op rd)(ho:xf g rd)(bD:aeo X.K ael c=some (some (.ref C)))(hc:gK X.K C)(hn:dP X.K C f)(ng:JE X o mo)(hv:JE X value mv):JS X (.AugAssign (.Attribute o f wN) op value pos) (lj g c f mo mv):=⟨Yn sC ho bD hc hn ng.h hv.h⟩
theorem Hl:xf pP Hx:=fun{y z w ph ph'} h=>by
 unfold pP nL at h;split at h
 ·cases h;exact⟨_,_,_,rfl,rfl,rfl,rfl,fun H Q q=>⟨_,_,rfl,rfl,q⟩⟩
 ·cases h
theorem acH:xf A0 Hy:=fun{y z w ph ph'} h=>by
 unfold A0 nL at h;split at h
 ·cases h;exact⟨_,_,_,rfl,rfl,rfl,rfl,fun H Q q=>⟨_,_,rfl,rfl,q⟩⟩
 ·cases h
variable{sc:Scope}
theorem oW{n x:Str}{kd:agW}(h:(kz sc n).names.lookup x=some kd):(x=n/\kd=.free)\/(x≠n/\sc.names.lookup x=some kd):=by
 unfold kz at h;simp only[Dy] at h;by_cases hx:x=n
 ·subst hx;simp only[beq_self_eq_true,if_true] at h;obtain⟨_,_,h⟩:=aeC.mp h;exact .inl ⟨rfl,h.symm⟩
 ·have:(x==n)=false:=by simpa using hx
  rw[this] at h;exact .inr ⟨hx,h⟩
theorem Bd.adK{N:List Str}{j:Nat}{n:Str}{v:V}{pn:List (Addr×Obj)}{E:Value->aem->Prop}(B:Bd X N sc k)(hj:N[j]? =some n)(hv:aH sc n)(hp:aiA (model X.prog X.w) X.A X.env E):Bd (kc X pn E j v) N (kz sc n) k:=by
 have ql:∀x,Loc (kz sc n) x->x≠n/\Loc sc x:=fun x h=>by
  rcases h with h | h
  ·rcases oW h with⟨_,z⟩ | ⟨z,h⟩
   ·cases z
   ·exact⟨z,.inl h⟩
  ·rcases oW h with⟨_,z⟩ | ⟨z,h⟩
   ·cases z
   ·exact⟨z,.inr h⟩
 exact⟨⟨⟨B.hN,fun x h=>by
   rcases h with h | h | h
   ·rcases oW h with⟨_,z⟩ | ⟨_,h⟩
    ·cases z
    ·exact B.nS x (.inl h)
   ·rcases oW h with⟨_,z⟩ | ⟨_,h⟩
    ·cases z
    ·exact B.nS x (.inr (.inl h))
   ·rcases oW h with⟨z,_⟩ | ⟨_,h⟩
    ·rw[z];exact B.nS n hv
    ·exact B.nS x (.inr (.inr h)),fun x h=>B.loc x (ql x h).2,fun x h=>by
   rcases oW h with⟨_,z⟩ | ⟨_,h⟩
   ·cases z
   ·exact B.gl x h,fun x h=>⟨(B.fn x (ql x h).2).1,fun i hi σ o hk=>⟨(B.fn x (ql x h).2).2 i hi σ o hk.1,by
   have hi:X.N[i]? =some x:=hi;rw[B.hN] at hi;rw[agq (fun z=>(ql x h).1 (by rw[z,hj] at hi;exact(afn hi).symm))];exact hk.2⟩⟩,B.nd⟩,B.calm,B.room⟩,hp⟩
variable{body pq:List Stmt}{qi:Stmt}{n:Str}{tb:List (Str×Bool)}{D:Addr}{np xc:Pos}{mb mh:SM}
theorem aaO{N:List Str}(B:Bd X N sc k)(T:bY X)(aF:X.env.scope=sc)(nP:Gl X c)(nQ:X.mg c=some (.ref D))(cf:(c==("__debug__":Str))=false)(hk:GZ X.K D)(hT:j9 X.K D tb)(j:Nat)(hj:N[j]? =some n)(hv:aH sc n)
  (hb:∀{X':Cx},X'.K=X.K->X'.mg=X.mg->Bd X' N (kz sc n) k->bY X'->X'.env.scope=sc->JB X' body mb) (hh:∀{X':Cx},X'.K=X.K->X'.mg=X.mg->fH X' N sc->JB X' (qi::pq) mh) :
  JS X (.Try body [.ExceptHandler (some (.Name c np)) none (qi::pq) xc] [] [] pos) (pk tb j mb mh):=
 ⟨aaM T B.calm nP nQ cf hk hT (fun pn K0 E0 v=>(hb (X':=kc X pn _ j v) rfl rfl (B.adK hj hv PassesOwn.looking) ⟨T.st,T.fr,T.ex⟩ aF).h)
  (fun a E=>(hh (X':=ly X (X.A.mark (some (.ref a))) X.pn E false) rfl rfl ⟨B.hN,B.nS,B.loc,B.gl,B.fn,B.nd⟩).h)⟩
end
theorem Yo(e:jl K=[]):∀p∈jl K,ahV h p.2.1 p.2.2/\h.get? p.2.2=some (agF #[]):=fun p hp=>by
 rw[e] at hp;exact nomatch hp
noncomputable def JH(z:Str):It:=⟨fun i _=>i<z.cps.size,fun i H x H'=>H'=H/\∃c,z.cps[i]? =some c/\x=.str ⟨#[c]⟩,fun i _=>z.cps.size<=i⟩
theorem WG{w:World}{tg:Expr}(z:Str)(t:Tok)(it:Addr):Turn P w K tg (JH z) [it] it (fun i h=>h.IsStrIter it "str_ascii_iterator" z t i) where
 mem:=by simp
 obj:=fun i h st b hb=>by
  have e:b=it:=by simpa using hb
  subst e;obtain⟨o,e,c,d⟩:=st;exact⟨o,e,fun v z=>by rw[d] at z;cases z⟩
 keep:=fun i h h' st k=>let ⟨o,ho,r⟩:=st;⟨o,k it (by simp) o ho,r⟩
 item:=by
  intro X hP hw hK hc i pins s σ H E I hf st hg;subst hP hw hK;obtain⟨f0,f1,f2,f3,f4,f5⟩:=hf it (by simp);obtain⟨c0,hx⟩:∃c,z.cps[i]? =some c:=⟨_,Array.getElem?_eq_getElem (show i<z.cps.size from hg)⟩
  refine wpAny_pyNext_ascii_item st hx fun h' dD sb=>?_
  have I1:Inv X pins σ H { s with heap:=h',toks:=s.toks+1 }:=I.turned (t':=s.toks+1) (fun b o hb e=>(sb.2 b hb).trans e) f0 f1 f3 f4 f5;obtain⟨o,e,c,d⟩:=id dD;exact⟨_,rfl,vY (s:={ s with heap:=h',toks:=s.toks+1 }) e c d (by decide) ⟨.str ⟨#[c0]⟩,H,I1,⟨_,rfl⟩,⟨rfl,_,hx,rfl⟩,dD,fun b hb=>(hf b hb).1⟩⟩
 done:=by
  intro X hP hw hK hc i pins s σ H E I hf st hg;subst hP hw hK;obtain⟨f0,f1,f2,f3,f4,f5⟩:=hf it (by simp);exact wpAny_pyNext_ascii_end (I.ok.hd hc) st (by simpa using(show z.cps.size<=i from hg)) fun h' eb=>⟨rfl,I.turned (t':=s.toks) (fun b o hb e=>eb b o hb e) f0 f1 f3 f4 f5⟩
 self:=fun _ _ _ _ _ st h=>wpAny_pyIter_striter_ascii st h
section
variable{X:Cx}{tg:Expr}
noncomputable def acI(tl:TE):TI:=fun σ H R=>tl σ H fun v H1=>∃z,v=.str z/\z.cps.all (· <128)=true/\R (JH z) H1
variable{l:Expr}
theorem aaP{tl:TE}(hl:PE X l tl):PI X tg l (acI tl):=by
 intro pins s σ H R I h;refine aV (hl pins s σ H _ I h) fun v s1 ⟨x,H1,I1,r1,q1⟩=>?_
 obtain⟨z,e,ha,q⟩:=q1;subst e;obtain⟨t,rfl⟩:=r1;refine wpAny_pyIter_ascii ha ?_;refine⟨s1.heap.objs.size,[s1.heap.objs.size],_,_,H1,rfl,I1.kept (t':=s1.toks) fun b o e=>aek _ e,WG z t _,⟨_,aeN _ rfl,rfl,rfl⟩,fun b hb=>?_,q⟩;have e:b=s1.heap.objs.size:=by simpa using hb
 subst e;exact I1.pB (aeq _) (I1.aI.fresh (aeq _))
noncomputable def xg(z:Str):List W:=z.cps.toList.map fun c=>.str ⟨#[c]⟩
noncomputable def xh(w:W):Po (List W×(PH->Bool)):=fun ph=>match w with
 | .str z=>if z.cps.all (· <128)=true then some ((xg z,fun _=>true),ph) else none
 | _=>none
noncomputable def sd(m:EM):IM:=fun σ=>aw (m σ) fun w=>lift (xh w)
theorem aaQ{m:EM}(hl:IE X l m):II X tg l (sd m):=by
 refine PI.imp (aaP hl) fun σ H R h=>?_
 obtain⟨φ,ph,ws,hH,hS,h⟩:=h;refine tM.bind hH hS h fun w ph1 aA H1 v aC s1 r1 h=>?_
 obtain⟨r,ph',e,k⟩:=run_lift h;unfold xh at e;cases r1 with
 | str z=>
  simp only at e;split at e
  ·rename_i ha;cases e;refine⟨z,rfl,ha,k aA H1 _ aC s1 ?_⟩;intro aY ph2 H2 bf s2 hc j;refine⟨fun w de=>?_,fun hn=>?_⟩
   ·unfold xg at de;rw[aeA] at de;obtain⟨c,xw,rfl⟩:=aeC.mp de;have JJ:z.cps[j]? =some c:=by rw[<- xw];simp
    refine⟨(Array.getElem?_eq_some_iff.mp JJ).1,fun x fD hy=>?_⟩;obtain⟨rfl,d,hd,rfl⟩:=hy;rw[JJ] at hd;cases hd;exact⟨bf,Step.refl,.str _⟩
   ·unfold xg at hn;show z.cps.size<=j
    simpa using hn
  ·cases e
 | _=>cases e
theorem aaR{m:EM}(hl:JE X l m):JI X tg l (sd m):=⟨aaQ hl.h⟩
end
noncomputable def iW(w:W)(_:PH):Bool:=match w with
 | .str _=>true
 | _=>false
theorem vM:nO K "str" iW:=by
 intro φ ph H x vx hH rx e;unfold iW at e;cases rx with
 | str z=>rfl
 | _=>cases e
noncomputable def strOf:W->Option Str
 | .str z=>some z
 | _=>none
noncomputable def gz:W->List W->Po W:=fun x xs ph=>match x,xs with
 | .str z,[.ref i]=>match ph[i]? with
  | some (.lst ws)=>match bB strOf ws with
   | some zs=>if zs.length<=1048576/\(∀y∈zs,y.length<=10)/\z.length<=6 then some (.str (ajM z zs),ph) else none
   | none=>none
  | _=>none
 | _,_=>none
noncomputable def rJoin(K:acs):V->List V->Hp->VK->Prop:=fun x ys H Q=>∃z p zs,x=.str z/\ys=[.ref p]/\bC K H p (zs.map V.str)/\zs.length<=1048576/\(∀y∈zs,y.length<=10)/\z.length<=6/\Q (.str (ajM z zs)) H
theorem CS:∀{zs:List Str} {us:List Value},Vals (zs.map V.str) us->CarriedAll us (zs.map aiP)
 | [],us,r=>by cases r;exact .nil
 | z::zs,us,r=>by
  cases r with
  | cons h r=>
   obtain⟨t,rfl⟩:=h;exact .cons (.str z t) (CS r)
theorem vt:nJ X "str.join" (rJoin X.K):=by
 intro pins s σ H x xs v us Q I rx rv h;obtain⟨z,p,zs,rfl,rfl,hq,hn,hB,hz,q⟩:=h;obtain⟨t,rfl⟩:=rx;obtain⟨u,rfl,ru⟩:=Vals.one rv;cases ru;obtain⟨its,ri,pl,_⟩:=I.list hq;refine PySem.W.KT.join_B (l:=zs) (g:=fun y=>y) 10 pl.isList (CS ri) hB hn (by omega) fun t' k=>?_
 rw[List.map_id'];exact⟨.str (ajM z zs),H,I.tok k,⟨t',rfl⟩,q⟩
theorem zr{K:acs}{φ:Nat->Addr}{n:Nat}{H:Hp}:∀{ws:List W} {zs:List Str} {vs:List V},bB strOf ws=some zs->ba K φ n H ws vs->vs=zs.map V.str
 | [],zs,vs,e,r=>by cases r;cases e;rfl
 | w::ws,zs,vs,e,r=>by
  cases r with
  | cons h r=>
   unfold bB at e;cases h with
   | str z=>
    simp only[strOf] at e;cases q:bB strOf ws with
    | none=>rw[q] at e;cases e
    | some us=>rw[q] at e;cases e;rw[zr q r];rfl
   | _=>cases e
theorem vv:lK K "str" (rJoin K) gz:=by
 intro φ ph H x xs vx vs w ph' Q hH rx rs e k;unfold gz at e;cases rx with
 | str z=>
  split at e
  ·rename_i z' i hx;cases hx;cases rs with
   | cons r0 rr=>
    cases rr;cases r0 with
    | ref hi=>
     split at e
     ·rename_i ws hw;split at e
      ·rename_i zs hzs;split at e
       ·rename_i hc;cases e;obtain⟨vs,hv,r⟩:=hH.hp _ _ hw;rw[zr hzs r] at hv;exact⟨z,_,zs,rfl,rfl,bC.of hv,hc.1,hc.2.1,hc.2.2,k φ H _ hH Step.refl (.str _)⟩
       ·cases e
      ·cases e
     ·cases e
  ·cases e
 | _=>cases e
end IL
namespace PySem
open Sem (wp)
namespace ZT
section
variable{prog:afm}{w:World}{A:afU}{E:Value->aem->Prop}{s:aem}
variable{xs:Array Value}
theorem Ta{h:Heap}{a:Addr}(x:h.IsTuple a xs)(ob:Obj):(h.push ob).IsTuple a xs:=let ⟨o,ho,r⟩:=x;⟨o,aek _ ho,r⟩
variable{Q:Value->aem->Prop}
theorem yi{it l:Addr}{i:Nat}{items}{x:Value}(hit:s.heap.IsTupleIter it l i)
  (hl:s.heap.IsTuple l items) (hx:items[i]? =some x)
  (hQ:∀h',h'.IsTupleIter it l (i+1)->ahw it s.heap h'->Q x { s with heap:=h' }) :
  wpAny (model prog w) A (afg (.ref it)) Q E s:=by
 obtain⟨o,ho,hc,hd⟩:=id hit;obtain⟨ol,BM,_,nl,BN⟩:=hl;unfold afg;refine aeh (afF (name:=aei "__next__") hit.typeIs agh
  (agi agh hit.typeIs ahJ ?_ (ahF _)))
 show wpAny _ _ (field (.ref it) 0 >>= _) _ _ s;refine aeh (afA ho hd (x:=.ref l) rfl ?_);show wpAny _ _ (if(afl l==agr)=true then _ else _) _ _ s;rw[if_neg (show ¬((afl l==agr)=true) from aeK)];show wpAny _ _ (field (.ref it) 1 >>= _) _ _ s;refine aeh (afA ho hd (x:=.int i 0) rfl ?_);show wpAny _ _ (seqItems? (.ref l) >>= _) _ _ s;refine aeh (agp BM BN ?_);simp only[agz,hx];refine aeh (wpAny_setField ho hd (by simp) (aes ⟨x,rfl,aes (hQ _ ?_ (ajg ..))⟩));exact⟨_,aiG _ ho (Obj.isFreed_of_fields (Obj.data_mapFields hd _)),(Obj.cls_mapFields ..).trans hc,by
  rw[Obj.data_mapFields hd];simp[rawInt]⟩
theorem Co{it l:Addr}{i:Nat}{items}(hh:A.handled=none)
  (hit:s.heap.IsTupleIter it l i) (hl:s.heap.IsTuple l items) (hx:items[i]? =none)
  (hE:∀h' e,Heap.ExtBut it s.heap h'->(∃o,h'.get? e=some o/\o.cls=.type "StopIteration")->E (.ref e) { s with heap:=h' }) :
  wpAny (model prog w) A (afg (.ref it)) Q E s:=by
 obtain⟨o,ho,hc,hd⟩:=id hit;obtain⟨ol,BM,_,nl,BN⟩:=hl;unfold afg;refine aeh (afF (name:=aei "__next__") hit.typeIs agh
  (agi agh hit.typeIs ahJ ?_ (ahF _)))
 show wpAny _ _ (field (.ref it) 0 >>= _) _ _ s;refine aeh (afA ho hd (x:=.ref l) rfl ?_);show wpAny _ _ (if(afl l==agr)=true then _ else _) _ _ s;rw[if_neg (show ¬((afl l==agr)=true) from aeK)];show wpAny _ _ (field (.ref it) 1 >>= _) _ _ s;refine aeh (afA ho hd (x:=.int i 0) rfl ?_);show wpAny _ _ (seqItems? (.ref l) >>= _) _ _ s;refine aeh (agp BM BN ?_);simp only[agz,hx];refine aeh (wpAny_rule (aeh (wpAny_setField ho hd (by simp) ?_)));show wpAny _ _ (newExc (.type "StopIteration") [] >>= _) _ _ _;refine aeh ?_;simp only[newExc,newTuple];refine aeh (afW ?_ (by size_fits));refine aeh (m:=firstArgMember _ _) (wpAny_of_eq (a:=agr) (by first | rfl | (simp only[firstArgMember];rfl)) ?_);refine afW ?_ (by size_fits);simp only[raiseNew];refine aeh (wpAny_handled ?_)
 first | rw[show A.in1.handled=none from hh] | rw[hh]
 refine aeh (aes (wpAny_throw ?_));exact hE _ _ (((ajg ..).extBut.push _).push _) ⟨_,aeN _ rfl,rfl⟩
variable{z i1 i2 l1 l2:Addr}{k1 k2:Nat}{ys:Array Value}{a b:Value}
theorem OK{TI TO:Addr}{x y:Value}(D:ajr z TI TO i1 i2 l1 l2)
  (hz:IsZip s.heap z TI TO .none) (eo:ahc s.heap TI (.ref i1) (.ref i2)) (eO:ahc s.heap TO a b)
  (h1:s.heap.IsTupleIter i1 l1 k1) (h2:s.heap.IsTupleIter i2 l2 k2) (hO:s.heap.IsTuple l1 xs) (eM:s.heap.IsTuple l2 ys) (hx:xs[k1]? =some x) (hy:ys[k2]? =some y)
  (hQ:∀h',IsZip h' z TI TO (rawInt s.heap.objs.size)->ahc h' TO x y->h'.IsTupleIter i1 l1 (k1+1)->h'.IsTupleIter i2 l2 (k2+1)->ahc h' s.heap.objs.size x y->h'.objs.size=s.heap.objs.size+1 →
   (∀c o,c≠z->c≠TO->c≠i1->c≠i2->s.heap.get? c=some o->h'.get? c=some o)->Q (.ref s.heap.objs.size) { s with heap:=h' }) :
  wpAny (model prog w) A (Builtin.«zip.__next__» ⟨[.ref z],[]⟩) (fun fin s'=>∃v,fin=.done (.ret v)/\Q v s') E s:=by
 show wpAny _ _ (field (.ref z) 2 >>= _) _ _ _;refine aeh (afA hz rfl (x:=.bool false) rfl ?_);show wpAny _ _ (field (.ref z) 3 >>= _) _ _ _;refine aeh (afA hz rfl (x:=.ref TI) rfl ?_);refine aeh (agp eo rfl ?_);show wpAny _ _ (afB (.ref z) >>= _) _ _ _;refine aeh ?_;unfold afB;refine aeh (afA hz rfl (x:=.none) rfl (aes ?_));simp only[if_true];refine aeh (wpAny_rule ?_);refine aeh (afA hz rfl (x:=.ref TO) rfl ?_);refine aeh (agm hz (by simp) fun jc lN fg=>?_)
 replace lN:IsZip jc z TI TO .ellipsis:=lN
 refine aeh ?_;simp only[List.zipIdx_cons,List.zipIdx_nil,agN,ahU];refine aeh (aeh (ail ?_));show wpAny _ _ (afg (.ref i1) >>= _) _ _ _;refine aeh (yi (h1.extBut fg.extBut D.i1z) (hO.extBut fg.extBut D.l1z) hx fun sY JK f9=>aes ?_);have se:ahc sY TO a b:=f9.extBut _ _ D.TOi1 (fg.extBut _ _ D.TOz eO);refine aeh (agp se rfl ?_);refine aeh (ahD se fun yd xi gM=>?_)
 replace xi:ahc yd TO x b:=xi
 refine aeh (wpAny_letGo (aes ?_));refine aeh (aeh (ail ?_));show wpAny _ _ (afg (.ref i2) >>= _) _ _ _;refine aeh (yi (((h2.extBut fg.extBut D.i2z).extBut f9.extBut D.i12.symm).extBut gM.extBut D.TOi2.symm)
  (((eM.extBut fg.extBut D.l2z).extBut f9.extBut D.l2i1).extBut gM.extBut D.l2TO) hy fun B8 adW lO=>aes ?_)
 have Ih:ahc B8 TO x b:=lO.extBut _ _ D.TOi2 xi;refine aeh (agp Ih rfl ?_);refine aeh (ahD Ih fun dZ si lP=>?_)
 replace si:ahc dZ TO x y:=si
 refine aeh (wpAny_letGo (aes (aes ?_)));refine aeh (agp si rfl ?_);refine aeh (wpAny_newTuple ?_);have hsz:dZ.objs.size=s.heap.objs.size:=by rw[lP.1,lO.1,gM.1,f9.1,fg.1]
 have JL:IsZip dZ z TI TO .ellipsis:=lP.extBut _ _ D.TOz.symm (lO.extBut _ _ D.i2z.symm (gM.extBut _ _ D.TOz.symm (f9.extBut _ _ D.i1z.symm lN)));have adX:∀c o,c≠z->c≠TO->c≠i1->c≠i2->s.heap.get? c=some o->dZ.get? c=some o:=fun c o c1 c2 c3 c4 e=>
  lP.extBut _ _ c2 (lO.extBut _ _ c4 (gM.extBut _ _ c2 (f9.extBut _ _ c3 (fg.extBut _ _ c1 e))))
 have JM:dZ.IsTupleIter i1 l1 (k1+1):=((JK.extBut gM.extBut D.TOi1.symm).extBut lO.extBut D.i12).extBut lP.extBut D.TOi1.symm;have JN:dZ.IsTupleIter i2 l2 (k2+1):=adW.extBut lP.extBut D.TOi2.symm;have Ii:z<dZ.objs.size:=aex JL;have ad6:TO<dZ.objs.size:=aex si;have ad7:i1<dZ.objs.size:=by obtain⟨_,e,_⟩:=JM;exact aex e
 have ad8:i2<dZ.objs.size:=by obtain⟨_,e,_⟩:=JN;exact aex e
 show wpAny _ _ (ahd (.ref z) (.ref dZ.objs.size) >>= _) _ _ _;refine aeh ?_;unfold ahd;have adY:IsZip (dZ.push { cls:=.type "tuple",data:=.seq #[x,y] }) z TI TO .ellipsis:=aek _ JL;refine aeh (agm adY (by simp) fun adZ BO BP=>?_)
 replace BO:IsZip adZ z TI TO (rawInt dZ.objs.size):=BO
 refine agm BO (by simp) fun sZ xR BQ=>?_
 replace xR:IsZip sZ z TI TO (rawInt dZ.objs.size):=xR
 have up:∀c o,c≠z->dZ.get? c=some o->sZ.get? c=some o:=fun c o c1 e=>BQ.extBut _ _ c1 (BP.extBut _ _ c1 (aek _ e))
 have JP:ahc sZ dZ.objs.size x y:=BQ.extBut _ _ (ahh Ii) (BP.extBut _ _ (ahh Ii) (aeN _ rfl));have JQ:sZ.objs.size=dZ.objs.size+1:=by rw[BQ.1,BP.1,afV]
 rw[hsz] at xR JP JQ;refine aes ⟨_,rfl,?_⟩;show Q (.ref dZ.objs.size) _;rw[hsz];exact hQ sZ xR (up _ _ D.TOz si) (JM.at fun o e=>up _ o D.i1z e) (JN.at fun o e=>up _ o D.i2z e) JP JQ fun c o c1 c2 c3 c4 e=>up c o c1 (adX c o c1 c2 c3 c4 e)
theorem P8{TI TO:Addr}{Q:Fin->aem->Prop}(hh:A.handled=none)(D:ajr z TI TO i1 i2 l1 l2)
  (hz:IsZip s.heap z TI TO .none) (eo:ahc s.heap TI (.ref i1) (.ref i2)) (eO:ahc s.heap TO a b)
  (h1:s.heap.IsTupleIter i1 l1 k1) (h2:s.heap.IsTupleIter i2 l2 k2) (hO:s.heap.IsTuple l1 xs) (eM:s.heap.IsTuple l2 ys) (A2:xs[k1]? =none\/ys[k2]? =none)
  (hE:∀h' e,(∀c o,c≠z->c≠TO->c≠i1->c≠i2->s.heap.get? c=some o->h'.get? c=some o)->(∃o,h'.get? e=some o/\o.cls=.type "StopIteration")->E (.ref e) { s with heap:=h' }) :
  wpAny (model prog w) A (Builtin.«zip.__next__» ⟨[.ref z],[]⟩) Q E s:=by
 show wpAny _ _ (field (.ref z) 2 >>= _) _ _ _;refine aeh (afA hz rfl (x:=.bool false) rfl ?_);show wpAny _ _ (field (.ref z) 3 >>= _) _ _ _;refine aeh (afA hz rfl (x:=.ref TI) rfl ?_);refine aeh (agp eo rfl ?_);show wpAny _ _ (afB (.ref z) >>= _) _ _ _;refine aeh ?_;unfold afB;refine aeh (afA hz rfl (x:=.none) rfl (aes ?_));simp only[if_true];refine aeh (wpAny_rule ?_);refine aeh (afA hz rfl (x:=.ref TO) rfl ?_);refine aeh (agm hz (by simp) fun jc lN fg=>?_)
 replace lN:IsZip jc z TI TO .ellipsis:=lN
 refine aeh ?_;simp only[List.zipIdx_cons,List.zipIdx_nil,agN,ahU];refine aeh (aeh (ail ?_));show wpAny _ _ (afg (.ref i1) >>= _) _ _ _;cases hx:xs[k1]? with
 | none=>
  refine aeh (Co hh (h1.extBut fg.extBut D.i1z) (hO.extBut fg.extBut D.l1z) hx fun sY e f9 he=>?_);obtain⟨oe,nU,sO⟩:=he;have JR:IsZip sY z TI TO .ellipsis:=f9 _ _ D.i1z.symm lN;have BR:e≠z:=fun x=>by subst x;rw[JR] at nU;cases nU;simp at sO
  refine agm JR (by simp) fun yd _ gM=>hE yd e (fun c o c1 _ c3 _ x=>gM.extBut _ _ c1 (f9 _ _ c3 (fg.extBut _ _ c1 x))) ⟨oe,gM.extBut _ _ BR nU,sO⟩
 | some x=>
  have hy:ys[k2]? =none:=by rcases A2 with h | h;rw[hx] at h;cases h;exact h
  refine aeh (yi (h1.extBut fg.extBut D.i1z) (hO.extBut fg.extBut D.l1z) hx fun sY JK f9=>aes ?_);have se:ahc sY TO a b:=f9.extBut _ _ D.TOi1 (fg.extBut _ _ D.TOz eO);refine aeh (agp se rfl ?_);refine aeh (ahD se fun yd xi gM=>?_);refine aeh (wpAny_letGo (aes ?_));refine aeh (aeh (ail ?_));show wpAny _ _ (afg (.ref i2) >>= _) _ _ _;refine aeh (Co hh (((h2.extBut fg.extBut D.i2z).extBut f9.extBut D.i12.symm).extBut gM.extBut D.TOi2.symm)
   (((eM.extBut fg.extBut D.l2z).extBut f9.extBut D.l2i1).extBut gM.extBut D.l2TO) hy fun B8 e lO he=>?_)
  obtain⟨oe,nU,sO⟩:=he;have JU:IsZip B8 z TI TO .ellipsis:=lO _ _ D.i2z.symm (gM.extBut _ _ D.TOz.symm (f9.extBut _ _ D.i1z.symm lN));have BR:e≠z:=fun x=>by subst x;rw[JU] at nU;cases nU;simp at sO
  refine agm JU (by simp) fun dZ _ lP=>hE dZ e (fun c o c1 c2 c3 c4 x=>lP.extBut _ _ c1 (lO _ _ c4 (gM.extBut _ _ c2 (f9.extBut _ _ c3 (fg.extBut _ _ c1 x))))) ⟨oe,lP.extBut _ _ BR nU,sO⟩
theorem Mv{TI TO:Addr}{x y:Value}{Q:Option Value->aem->Prop}(D:ajr z TI TO i1 i2 l1 l2)
  (hz:IsZip s.heap z TI TO .none) (eo:ahc s.heap TI (.ref i1) (.ref i2)) (eO:ahc s.heap TO a b)
  (h1:s.heap.IsTupleIter i1 l1 k1) (h2:s.heap.IsTupleIter i2 l2 k2) (hO:s.heap.IsTuple l1 xs) (eM:s.heap.IsTuple l2 ys) (hx:xs[k1]? =some x) (hy:ys[k2]? =some y)
  (hQ:∀h',IsZip h' z TI TO (rawInt s.heap.objs.size)->ahc h' TO x y->h'.IsTupleIter i1 l1 (k1+1)->h'.IsTupleIter i2 l2 (k2+1)->ahc h' s.heap.objs.size x y->h'.objs.size=s.heap.objs.size+1 →
   (∀c o,c≠z->c≠TO->c≠i1->c≠i2->s.heap.get? c=some o->h'.get? c=some o)->Q (some (.ref s.heap.objs.size)) { s with heap:=h' }) :
  wpAny (model prog w) A (pyNext (.ref z)) Q E s:=by
 have hT:s.TypeIs (.ref z) "zip":=⟨_,hz,rfl⟩
 unfold pyNext;exact aeh (wpAny_attempt (afF (name:=aei "__next__") hT ahK
  (agi ahK hT F.entry_zip_next
   (OK D hz eo eO h1 h2 hO eM hx hy fun h' a1 a2 a3 a4 a5 a6 a7=>aes (hQ h' a1 a2 a3 a4 a5 a6 a7)) (F.args_zip_next_1 _))))
theorem MW{TI TO:Addr}{Q:Option Value->aem->Prop}(hh:A.handled=none)(D:ajr z TI TO i1 i2 l1 l2)
  (hz:IsZip s.heap z TI TO .none) (eo:ahc s.heap TI (.ref i1) (.ref i2)) (eO:ahc s.heap TO a b)
  (h1:s.heap.IsTupleIter i1 l1 k1) (h2:s.heap.IsTupleIter i2 l2 k2) (hO:s.heap.IsTuple l1 xs) (eM:s.heap.IsTuple l2 ys) (A2:xs[k1]? =none\/ys[k2]? =none)
  (hQ:∀h',(∀c o,c≠z->c≠TO->c≠i1->c≠i2->s.heap.get? c=some o->h'.get? c=some o)->Q none { s with heap:=h' }):wpAny (model prog w) A (pyNext (.ref z)) Q E s:=by
 have hT:s.TypeIs (.ref z) "zip":=⟨_,hz,rfl⟩
 unfold pyNext;refine aeh (wpAny_attempt (afF (name:=aei "__next__") hT ahK
  (agi ahK hT F.entry_zip_next (P8 hh D hz eo eO h1 h2 hO eM A2 fun h' e hk he=>?_) (F.args_zip_next_1 _))))
 obtain⟨o,ho,hc⟩:=he;refine aeh (wpAny_isInstance (T:="StopIteration") (b:=true) ⟨o,ho,hc⟩ isSubtype_stop ?_);exact aes (hQ _ hk)
end
abbrev vN(h:Heap)(l1:Addr):Heap:=h.push { cls:=.type "tuple_iterator",data:=.fields #[.ref l1,.int 0 0] }
abbrev vO(h:Heap)(l1 l2:Addr):Heap:=(vN h l1).push { cls:=.type "tuple_iterator",data:=.fields #[.ref l2,.int 0 0] }
abbrev vP(h:Heap)(l1 l2:Addr):Heap:=(vO h l1 l2).push { cls:=.type "tuple",data:=.seq #[.ref h.objs.size,.ref (vN h l1).objs.size] }
abbrev vQ(h:Heap)(l1 l2:Addr):Heap:=(vP h l1 l2).push { cls:=.type "tuple",data:=.seq #[.none,.none] }
abbrev mS(h:Heap)(l1 l2:Addr):Heap:=(vQ h l1 l2).push { cls:=.type "zip",data:=.fields #[.none,.bool false,.bool false,.ref (vO h l1 l2).objs.size,.ref (vP h l1 l2).objs.size] }
theorem OL(l1 l2:Addr)(xs ys:Array Value) :
  Meets (Builtin.«zip.__new__» ⟨[.type "zip",.ref l1,.ref l2],[]⟩) (fun _ R s=>s.heap.IsTuple l1 xs/\s.heap.IsTuple l2 ys /\
   R (.ok (.ret (.ref (vQ s.heap l1 l2).objs.size))) { s with heap:=mS s.heap l1 l2 }):=
 .of_wp fun prog w A R s h=>by
  obtain⟨hp,g,d,tk,os⟩:=s;obtain⟨hO,eM,h⟩:=h;have aeg:=sub_zip;have hL1:agP (Shared.heap ⟨hp,g,d,tk,os⟩) l1 xs:=hO;have hL2:agP (Shared.heap ⟨hp.push { cls:=.type "tuple_iterator",data:=.fields #[.ref l1,.int 0 0] },g,d,tk,os⟩) l2 ys:=Ta eM _
  wp_walk using ahP hL1,ahP hL2
  exact⟨_,rfl,h⟩
section
variable{prog:afm}{w:World}{A:afU}{E:Value->aem->Prop}{s:aem}
theorem RK{l1 l2:Addr}{xs ys:Array Value}{Q:Value->aem->Prop}(hO:s.heap.IsTuple l1 xs)(eM:s.heap.IsTuple l2 ys)
  (h:∀h',IsZip h' (s.heap.objs.size+4) (s.heap.objs.size+2) (s.heap.objs.size+3) .none->ahc h' (s.heap.objs.size+2) (.ref s.heap.objs.size) (.ref (s.heap.objs.size+1)) →
   ahc h' (s.heap.objs.size+3) .none .none->h'.IsTupleIter s.heap.objs.size l1 0->h'.IsTupleIter (s.heap.objs.size+1) l2 0->h'.objs.size=s.heap.objs.size+5 →
   (∀c o,s.heap.get? c=some o->h'.get? c=some o)->Q (.ref (s.heap.objs.size+4)) { s with heap:=h' }) :
  wpAny (model prog w) A (call (.type "zip") [.ref l1,.ref l2]) Q E s:=by
 refine callType_new F.called_zip (by decide) (F.typeCall_zip_2 _ _) (F.newCall_zip_2 _ _) (fun obj=>F.args_object_init_3 obj _ _) F.entry_zip_new
  (OL l1 l2 xs ys) ⟨hO,eM,?_⟩
 have z1:(vN s.heap l1).objs.size=s.heap.objs.size+1:=afV ..;have z2:(vO s.heap l1 l2).objs.size=s.heap.objs.size+2:=by rw[afV,z1]
 have z3:(vP s.heap l1 l2).objs.size=s.heap.objs.size+3:=by rw[afV,z2]
 have z4:(vQ s.heap l1 l2).objs.size=s.heap.objs.size+4:=by rw[afV,z3]
 have z5:(mS s.heap l1 l2).objs.size=s.heap.objs.size+5:=by rw[afV,z4]
 have g5:(mS s.heap l1 l2).get? (vQ s.heap l1 l2).objs.size=some _:=aeN _ rfl;have g4:(mS s.heap l1 l2).get? (vP s.heap l1 l2).objs.size=some _:=aek _ (aeN _ rfl);have g3:(mS s.heap l1 l2).get? (vO s.heap l1 l2).objs.size=some _:=aek _ (aek _ (aeN _ rfl));have g2:(mS s.heap l1 l2).get? (vN s.heap l1).objs.size=some _:=aek _ (aek _ (aek _ (aeN _ rfl)));have g1:(mS s.heap l1 l2).get? s.heap.objs.size=some _:=aek _ (aek _ (aek _ (aek _ (aeN _ rfl))));show _/\_;rw[z2,z3,z4] at g5;rw[z1,z2] at g3;rw[z3] at g4;rw[z1] at g2;rw[z4];exact⟨⟨_,g5,rfl⟩,h _ g5 g3 g4 ⟨_,g1,rfl,rfl⟩ ⟨_,g2,rfl,rfl⟩ z5 fun c o x=>
  aek _ (aek _ (aek _ (aek _ (aek _ x))))⟩
end
end ZT
end PySem
namespace IL
open PySem PySem.Spec PyProof.Rows L2
theorem UZ:afv "zip"=some (.type "zip"):=by kernel_rfl
theorem aaS{n a b:Nat}(ha:a<n)(hb:b<n):ajr (n+4) (n+2) (n+3) n (n+1) a b:=by
 constructor <;> (intro h;change @Eq Nat _ _ at h;omega)
noncomputable def Ij(K:acs)(a b:Addr):It:=
 ⟨fun i H=>∃xs ys x y,bJ K H a xs/\bJ K H b ys/\xs[i]? =some x/\ys[i]? =some y,fun i H v H'=>∃T x y,v=.ref T/\H T=none/\H'=upd H T (.tup [x,y])/\∀xs ys,bJ K H a xs->bJ K H b ys->xs[i]? =some x/\ys[i]? =some y,fun i H=>∃xs ys,bJ K H a xs/\bJ K H b ys/\(xs.length<=i\/ys.length<=i)⟩
variable{j:Nat}
theorem U0{P:afm}{w:World}{K:acs}{gE:List Expr}{pos:Pos}(a b z TI TO i1 i2:Addr)(D:ajr z TI TO i1 i2 a b):Turn P w K (.Tuple gE j pos) (Ij K a b) [z,TI,TO,i1,i2] z
  (fun i h=>IsZip h z TI TO .none/\ahc h TI (.ref i1) (.ref i2)/\(∃x y,ahc h TO x y)/\h.IsTupleIter i1 a i/\h.IsTupleIter i2 b i) where
 mem:=by simp
 obj:=fun i h st c hc=>by
  obtain⟨hz,eo,⟨x,y,eO⟩,⟨o1,e1,c1,d1⟩,o2,e2,c2,d2⟩:=st;have:c=z\/c=TI\/c=TO\/c=i1\/c=i2:=by simpa using hc
  rcases this with rfl | rfl | rfl | rfl | rfl
  ·exact⟨_,hz,fun v q=>by cases q⟩
  ·exact⟨_,eo,fun v q=>by cases q⟩
  ·exact⟨_,eO,fun v q=>by cases q⟩
  ·exact⟨_,e1,fun v q=>by rw[d1] at q;cases q⟩
  ·exact⟨_,e2,fun v q=>by rw[d2] at q;cases q⟩
 keep:=fun i h h' st k=>by
  obtain⟨hz,eo,⟨x,y,eO⟩,h1,h2⟩:=st;exact⟨k z (by simp) _ hz,k TI (by simp) _ eo,⟨x,y,k TO (by simp) _ eO⟩,h1.at fun o q=>k i1 (by simp) o q,h2.at fun o q=>k i2 (by simp) o q⟩
 item:=by
  intro X hP hw hK hc i pins s σ H E I hf st hg;subst hP hw hK;obtain⟨hz,eo,⟨x0,y0,eO⟩,h1,h2⟩:=st;obtain⟨xs,ys,x,y,qa,qb,hx,hy⟩:=hg;obtain⟨p4,xS,px,_⟩:=I.tuple qa;obtain⟨p6,xT,py,_⟩:=I.tuple qb;obtain⟨u,hu,ru⟩:=xS.get hx;obtain⟨v,hv,rv⟩:=xT.get hy;refine PySem.ZT.Mv D hz eo eO h1 h2 (show agP _ _ p4.toArray from px) (show agP _ _ p6.toArray from py) (x:=u) (y:=v) (by simpa using hu) (by simpa using hv) fun g1 a1 a2 a3 a4 a5 a6 hk=>⟨_,rfl,?_⟩
  refine wpAny_letOwnedTupleGo_zip a1 fun g2 b1 dF=>?_
  have kk:∀c o,c∉[z,TI,TO,i1,i2]->s.heap.get? c=some o->g2.get? c=some o:=fun c o hc q=>by
   have n:c≠z/\c≠TI/\c≠TO/\c≠i1/\c≠i2:=by simpa using hc
   exact(dF.2 c n.1).trans (hk c o n.1 n.2.2.1 n.2.2.2.1 n.2.2.2.2 q)
  have lt:∀{c o},s.heap.get? c=some o->s.heap.objs.size≠c:=fun e=>ahh (aex e)
  have JV:s.heap.objs.size≠z:=lt hz;have new:cX X.prog X.w (upd H s.heap.objs.size (.tup [x,y])) g2 s.heap.objs.size (.tup [x,y]):=
   ⟨by show 2<=aeD;decide,[u,v],.cons ru (.cons rv .nil),_,(dF.2 _ JV).trans a5,rfl,_,rfl⟩
  refine⟨.ref s.heap.objs.size,_,E7 (s:=s) (h':=g2) (t':=s.toks) I kk hf (aeq _) new,rfl,⟨_,x,y,rfl,I.aI.fresh (aeq _),rfl,fun xs' ys' h3 h4=>by rw[I.yR h3 qa,I.yR h4 qb];exact⟨hx,hy⟩⟩,
   ⟨b1,dF.extBut _ _ D.TIz (hk _ _ D.TIz D.TITO D.TIi1 D.TIi2 eo),⟨u,v,dF.extBut _ _ D.TOz a2⟩,a3.extBut dF.extBut D.i1z,a4.extBut dF.extBut D.i2z⟩,fun c hc=>?_⟩
  rw[bz (fun q=>?_)]
  ·exact(hf c hc).1
  ·have:c=z\/c=TI\/c=TO\/c=i1\/c=i2:=by simpa using hc
   rcases this with e | e | e | e | e
   ·exact JV (by rw[<- q,e])
   ·exact lt eo (by rw[<- q,e])
   ·exact lt eO (by rw[<- q,e])
   ·obtain⟨o,e1,_⟩:=h1;exact lt e1 (by rw[<- q,e])
   ·obtain⟨o,e1,_⟩:=h2;exact lt e1 (by rw[<- q,e])
 done:=by
  intro X hP hw hK hc i pins s σ H E I hf st hg;subst hP hw hK;obtain⟨hz,eo,⟨x0,y0,eO⟩,h1,h2⟩:=st;obtain⟨xs,ys,qa,qb,hx⟩:=hg;obtain⟨p4,xS,px,_⟩:=I.tuple qa;obtain⟨p6,xT,py,_⟩:=I.tuple qb;have l1:=xS.length;have l2:=xT.length;refine PySem.ZT.MW (I.ok.hd hc) D hz eo eO h1 h2 (show agP _ _ p4.toArray from px) (show agP _ _ p6.toArray from py) (hx.elim (fun hx=>.inl (by simp;omega)) fun hx=>.inr (by simp;omega)) fun g1 hk=>⟨rfl,E8 (t':=s.toks) I (fun c o hc q=>?_) hf⟩
  have n:c≠z/\c≠TI/\c≠TO/\c≠i1/\c≠i2:=by simpa using hc
  exact hk c o n.1 n.2.2.1 n.2.2.2.1 n.2.2.2.2 q
 self:=fun _ _ _ _ _ st h=>wpAny_pyIter_zip st.1 h
noncomputable def aaT(K:acs)(ta:TA):TI:=fun σ H R=>ta σ H fun vs H1=>∃a b,vs=[.ref a,.ref b]/\(∃xs,bJ K H1 a xs)/\(∃ys,bJ K H1 b ys)/\R (Ij K a b) H1
theorem Yp{X:Cx}{a b:Expr}{ta:TA}{gE:List Expr}{tp p pos:Pos}(hg:Gl X "zip")(hm:X.mg "zip"=none)(ha:PA X [a,b] ta)(hs:aeS [a,b] X.env=[(false,eval a X.env),(false,eval b X.env)]:=by rfl)(dF:aeS [b] X.env=[(false,eval b X.env)]:=by rfl) :
  PI X (.Tuple gE j tp) (.Call (.Name "zip" p) [a,b] [] pos) (aaT X.K ta):=by
 intro pins s σ H R I h;refine Call_ (oN I hg hm UZ (aga (aV (ha pos pins s σ H _ I h) fun us s1 ⟨vs,H1,I1,r1,q1⟩=>?_) (by rw[hs,dF]) (by rw[dF];rfl)));obtain⟨a,b,e,⟨xs,qa⟩,⟨ys,qb⟩,q⟩:=q1;subst e;obtain⟨u1,u2,rfl,r1,r2⟩:=Vals.two r1;cases r1;cases r2;obtain⟨p4,xS,px,_⟩:=I1.tuple qa;obtain⟨p6,xT,py,_⟩:=I1.tuple qb;refine PySem.ZT.RK (show agP _ _ p4.toArray from px) (show agP _ _ p6.toArray from py) fun h' hz eo eO h1 h2 hsz hk=>?_
 refine wpAny_pyIter_zip hz ?_;have I2:Inv X pins σ H1 { s1 with heap:=h' }:=I1.kept (t':=s1.toks) hk;have la:a<s1.heap.objs.size:=by obtain⟨o,e,_⟩:=(show s1.heap.IsTuple a p4.toArray from px);exact aex e
 have lb:b<s1.heap.objs.size:=by obtain⟨o,e,_⟩:=(show s1.heap.IsTuple b p6.toArray from py);exact aex e
 refine⟨s1.heap.objs.size+4,[s1.heap.objs.size+4,s1.heap.objs.size+2,s1.heap.objs.size+3,s1.heap.objs.size,s1.heap.objs.size+1],_,_,H1,rfl,I2,
  U0 a b (s1.heap.objs.size+4) (s1.heap.objs.size+2) (s1.heap.objs.size+3) s1.heap.objs.size (s1.heap.objs.size+1) (aaS la lb),⟨hz,eo,⟨_,_,eO⟩,h1,h2⟩,fun c hc=>?_,q⟩
 have hc:s1.heap.objs.size<=c:=by
  have:c=s1.heap.objs.size+4\/c=s1.heap.objs.size+2\/c=s1.heap.objs.size+3\/c=s1.heap.objs.size\/c=s1.heap.objs.size+1:=by simpa using hc
  rcases this with e | e | e | e | e <;> rw[e] <;> first | exact aeq _ | exact Nat.le_add_right _ _
 exact I1.pB hc (I1.aI.fresh hc)
noncomputable def wu:W->Option (List W)
 | .tup ws=>some ws
 | .kt ws=>some ws
 | _=>none
noncomputable def nB(us vs:List W):List W:=(us.zip vs).map fun p=>.tup [p.1,p.2]
theorem WH{us vs:List W}{w:W}(h:(nB us vs)[j]? =some w):∃x y,us[j]? =some x/\vs[j]? =some y/\w=.tup [x,y]:=by
 unfold nB at h;rw[aeA] at h;obtain⟨p,hp,rfl⟩:=aeC.mp h;have:=List.getElem?_zip_eq_some.mp hp;exact⟨p.1,p.2,this.1,this.2,rfl⟩
theorem U1{us vs:List W}(h:(nB us vs)[j]? =none):us.length<=j\/vs.length<=j:=by
 unfold nB at h;have:=List.getElem?_eq_none_iff.mp h;rw[aep,List.length_zip] at this;omega
theorem DZ{K:acs}{φ:Nat->Addr}{n:Nat}{H:Hp}{w:W}{v:V}{ws:List W}(r:aQ K φ n H w v)(e:wu w=some ws) :
  ∃a vs,v=.ref a/\∀au n' H',Step K φ n H au n' H'->bJ K H' a vs/\ba K au n' H' ws vs:=by
 cases r with
 | tup h r=>cases e;exact⟨_,_,rfl,fun au n' H' s=>⟨bJ.of (s.tup _ _ h),r.mono s⟩⟩
 | kt h r=>cases e;exact⟨_,_,rfl,fun au n' H' s=>⟨.inr h,r.mono s⟩⟩
 | _=>cases e
noncomputable def wz(xs:List W):Po (List W×(PH->Bool)):=fun ph=>match xs with
 | [a,b]=>match wu a,wu b with
  | some us,some vs=>some ((nB us vs,fun _=>true),ph)
  | _,_=>none
 | _=>none
noncomputable def rC(m:AM):IM:=fun σ=>aw (m σ) fun xs=>lift (wz xs)
section
variable{X:Cx}{a b:Expr}{am:AM}{gE:List Expr}{j:Nat}{tp p pos:Pos}
theorem Yq(hg:Gl X "zip")(hm:X.mg "zip"=none)(ha:IA X [a,b] am)(hs:aeS [a,b] X.env=[(false,eval a X.env),(false,eval b X.env)])(dF:aeS [b] X.env=[(false,eval b X.env)]) :
  II X (.Tuple gE j tp) (.Call (.Name "zip" p) [a,b] [] pos) (rC am):=by
 refine PI.imp (Yp hg hm ha hs dF) fun σ H R h=>?_
 obtain⟨φ,ph,ws,hH,hS,h⟩:=h;refine tA.bind hH hS h fun xs ph1 aA H1 vs aC s1 r1 h=>?_
 obtain⟨r,ph',e,k⟩:=run_lift h;unfold wz at e;split at e
 ·rename_i wa wb;split at e
  ·rename_i us vs' qa qb;cases e;cases r1 with
   | cons ra rr=>
    cases rr with
    | cons rb rr=>
     cases rr;obtain⟨aa,va,rfl,fa⟩:=DZ ra qa;obtain⟨bb,vb,rfl,fb⟩:=DZ rb qb;refine⟨aa,bb,rfl,⟨_,(fa _ _ _ Step.refl).1⟩,⟨_,(fb _ _ _ Step.refl).1⟩,k aA H1 _ aC s1 ?_⟩;intro aY ph2 H2 bf s2 hc j;obtain⟨sa,JX⟩:=fa _ _ _ s2;obtain⟨sb,JY⟩:=fb _ _ _ s2;refine⟨fun w de=>?_,fun hn=>?_⟩
     ·obtain⟨x,y,hx,hy,rfl⟩:=WH de;obtain⟨u,eu,ru⟩:=JX.get hx;obtain⟨v,ev,rv⟩:=JY.get hy;refine⟨⟨_,_,u,v,sa,sb,eu,ev⟩,fun z fD hz=>?_⟩;obtain⟨T,x',y',rfl,hT,rfl,hz⟩:=hz;obtain⟨z1,z2⟩:=hz _ _ sa sb;rw[eu] at z1;cases z1;rw[ev] at z2;cases z2;exact⟨bf.tup hT,gv hT,.tup bZ (.cons (ru.mono (gv hT)) (.cons (rv.mono (gv hT)) .nil))⟩
     ·refine⟨_,_,sa,sb,?_⟩;rw[<- JX.length,<- JY.length];exact U1 hn
  ·cases e
 ·cases e
theorem Fv(hg:Gl X "zip")(hm:X.mg "zip"=none)(hn:isStar a=false)(sA:isStar b=false)(ha:JA X [a,b] am):JI X (.Tuple gE j tp) (.Call (.Name "zip" p) [a,b] [] pos) (rC am):=⟨Yq hg hm ha.h (by rw[eU hn,eU sA];rfl) (by rw[eU sA];rfl)⟩
end
end IL
namespace PySem
open Sem (wp)
namespace ZL
end ZL
end PySem
namespace IL
open PySem PySem.Spec PyProof.Rows L2
end IL
namespace PyProof.Rows
open PySem PySem.Spec PySem.Calls PyProof.V
namespace KTD
section
variable{prog:afm}{w:World}{A:afU}{E:Value->aem->Prop}{s:aem}{δ:Type}{R:δ->Value->Prop}{a:Addr}{D:List (Str×δ)}{k:Str}{tk:Tok}
theorem nV(T:TabOf R s.heap a D):s.TypeIs (.ref a) "dict":=let ⟨_,o,_,_,ho,hc,_⟩:=T;⟨o,ho,hc.1⟩
theorem CC{Q:Option Value->aem->Prop}(T:TabOf R s.heap a D)(h1:∀d v,datumAt k D=some d->R d v->Q (some v) { s with toks:=s.toks+1 })(h2:datumAt k D=none->Q none { s with toks:=s.toks+1 }) :
  wpAny (model prog w) A (dictGet a (.str k tk)) Q E s:=by
 obtain⟨_,o,es,ep,ho,hc,hd,hr⟩:=T;unfold dictGet
 try with_reducible refine agV ?_
 refine aeh (wpAny_pyHash_str (aeh (kt_dictFind_strs (s:={ s with toks:=s.toks+1 }) ho hd (by obtain⟨l⟩:=es;simpa using hr.exact) ?_)));have hq:Q (findBy (fun k v=>v.isStr k) es k) { s with toks:=s.toks+1 }:=by
  have hf:findBy (fun k v=>v.isStr k) es k=(es.toList.find? fun e=>e.key.isStr k).map (·.val):=by
   obtain⟨l⟩:=es;simp[findBy]
  rw[hf];cases ky:datumAt k D with
  | some d=>obtain⟨v,hv,f6⟩:=hr.find_some ky;rw[hv];exact h1 d v ky f6
  | none=>rw[hr.find_none ky];exact h2 ky
 rw[findBy_of_findIdx?] at hq;cases hi:es.findIdx? fun e=>e.key.isStr k with
 | none=>rw[hi] at hq;exact aes hq
 | some i=>rw[hi] at hq;exact aeh (wpAny_dictEntries (s:={ s with toks:=s.toks+1 }) ho hd (aes hq))
theorem RL{value slice:Expr}{Q:Value->aem->Prop}(T:TabOf R s.heap a D)(adL:inKeys k D=true)(h:∀d v,datumAt k D=some d->R d v->Q v { s with toks:=s.toks+1 })
  (hs:ajd slice false (.ref a) (.str k tk)=operate [.ref a,.str k tk] (ajc (.ref a) (.str k tk)):=by with_unfolding_all rfl) (hg:∀r,letTemporaryGo value (.ref a) r=pure ():=by intro _;with_unfolding_all rfl) :
  wpAny (model prog w) A (aih value slice (.ref a) (.str k tk)) Q E s:=by
 refine subscriptTail_builtin (nV T) aic.lookup ?_ hs hg;unfold ajc
 try with_reducible refine agV ?_
 refine aeh (wpAny_sequenceKey (nV T) (by decide) ?_);refine aeh (afF (name:=aei "__getitem__") (nV T) aic
  (agi aic (nV T) entry_dict_getitem ?_ (args_dict_getitem _ _)))
 show wpAny _ _ (dictGet a (.str k tk) >>= _) _ _ s;exact aeh (CC T (fun d v ha hv=>aes ⟨v,rfl,aes (h d v ha hv)⟩) fun hn=>absurd hn (at_of_mem adL))
theorem QH{Q:Value->aem->Prop}(T:TabOf R s.heap a D)(h:Q (.bool (!inKeys k D)) { s with toks:=s.toks+1 }):wpAny (model prog w) A (afh .NotIn (.str k tk) (.ref a)) Q E s:=by
 show wpAny _ _ (do return .bool (!(<- contains (.ref a) (.str k tk)))) Q E s;refine aeh ?_;unfold contains
 try with_reducible refine agV ?_
 refine aeh (wpAny_specialOf (nV T) ahR.lookup ?_);show wpAny _ _ (if(some (Value.builtin "dict.__contains__")==some agr)=true then _ else _) _ E s;rw[if_neg (by rw[beq_builtin_none];exact aeK)];refine aeh (wpAny_callSpecialUnlessNone?_slot (name:=aei "__contains__") (nV T) ahR
  (agi ahR (nV T) entry_dict_contains ?_ (args_dict_contains _ _)))
 show wpAny _ _ (dictGet a (.str k tk) >>= _) _ _ s;refine aeh (CC T (fun d v ha _=>?_) fun hn=>?_)
 ·have hb:inKeys k D=true:=by rw[<- isSome_datumAt,ha];rfl
  rw[hb] at h;show wpAny _ _ (ret (.bool true)) _ _ _;exact aes ⟨_,rfl,afo (aes h)⟩
 ·have hb:inKeys k D=false:=by rw[<- isSome_datumAt,hn];rfl
  rw[hb] at h;show wpAny _ _ (Builtin.Dict.pendingKey? a (.str k tk) >>= _) _ _ _;exact aeh (wpAny_pendingKey_other T.1 (aes ⟨_,rfl,afo (aes h)⟩))
end
end KTD
end PyProof.Rows
namespace PySem.Txt
theorem join_eq(z:Str)(l:List Str):ajM z l=Str.join z l:=StrLaws.glued_eq_join z l
end PySem.Txt
namespace IL
open PySem PySem.Spec PyProof.Rows L2
noncomputable def ed(k:Str):List (Str×List Str)->Option (List Str)
 | []=>none
 | (x,d)::D=>if decide (k=x)=true then some d else ed k D
noncomputable def wA(D:List (Str×List Str))(w:W):Po W:=fun ph=>match w with
 | .str k=>(ed k D).map fun l=>(.kt (l.map W.str),ph)
 | _=>none
noncomputable def wB(D:List (Str×List Str))(m:EM):EM:=fun σ=>aw (m σ) fun w=>lift (wA D w)
noncomputable def pQ(f:Bool->Bool)(D:List (Str×List Str))(w:W):Po W:=fun ph=>match w with
 | .str k=>some (.bl (f (ed k D).isSome),ph)
 | _=>none
noncomputable def Hm(D:List (Str×List Str))(m:EM):EM:=fun σ=>aw (m σ) fun w=>lift (pQ (fun b=> !b) D w)
noncomputable def pR(x y:W):Po W:=fun ph=>match x,y with
 | .str k,.kt ws=>(bB strOf ws).map fun zs=>(.bl (decide (k∈zs)),ph)
 | _,_=>none
noncomputable def pS(x y:W):Po W:=fun ph=>match x,y with
 | .str k,.str z=>some (.bl (!(afS z k 0 z.length 1).isEmpty),ph)
 | _,_=>none
noncomputable def ad2(d k1 v1 k2 v2:W):Po W:=fun ph=>match d with
 | .ref i=>match ph[i]? with
  | some (.bO [])=>if(nz k1).isSome=true/\(nz k2).isSome=true then some (.ref i,ph.set i (.bO (ij (ij [] k1 v1) k2 v2))) else none
  | _=>none
 | _=>none
theorem yL(k:Str):∀D:List (Str×List Str),KTD.datumAt k D=ed k D
 | []=>rfl
 | (x,d)::D=>by unfold KTD.datumAt ed;rw[yL k D]
theorem D0(k:Str)(D:List (Str×List Str)):KTD.inKeys k D=(ed k D).isSome:=by rw[<- KTD.isSome_datumAt,yL]
noncomputable def m9:List Str->List Value->Bool
 | [],[]=>true
 | x::xs,.str y _::vs=>(y==x)&&m9 xs vs
 | _,_=>false
theorem Dz:∀{l:List Str} {vs:List Value},m9 l vs=true->Vals (l.map V.str) vs
 | [],[],_=>.nil
 | [],_::_,h=>by simp[m9] at h
 | _::_,[],h=>by simp[m9] at h
 | x::xs,v::vs,h=>by
  cases v with
  | str y t=>
   unfold m9 at h;rw[aev] at h;obtain⟨h1,h2⟩:=h;obtain rfl:=beq_iff_eq.mp h1;exact .cons ⟨t,rfl⟩ (Dz h2)
  | _=>simp[m9] at h
noncomputable def qc(K:acs)(l:List Str)(v:Value):Bool:=match v with
 | .ref a=>match K.lookup a with
  | some o=>(o.cls==.type "tuple")&&(match o.data with
   | .seq its _=>Nat.ble its.size aeD&&m9 l its.toList
   | _=>false)
  | none=>false
 | _=>false
variable{K:acs}
theorem Fw{l:List Str}{a:Addr}(h:qc K l (.ref a)=true):nh K a (l.map V.str):=by
 unfold qc at h;simp only at h;split at h
 ·rename_i o ho;rw[aev] at h;obtain⟨h1,h2⟩:=h;split at h2
  ·rename_i its n hd;rw[aev] at h2;exact⟨o,its,n,ho,beq_iff_eq.mp h1,hd,aey h2.1,Dz h2.2⟩
  ·cases h2
 ·cases h
theorem Yr{l:List Str}{v:Value}(h:qc K l v=true):∃a,v=.ref a/\nh K a (l.map V.str):=by
 cases v with
 | ref a=>exact⟨a,rfl,Fw h⟩
 | _=>cases h
noncomputable def KTab(K:acs)(a:Addr)(D:List (Str×List Str)):Prop:=
 ∀h:Heap,(∀b o,K.lookup b=some o->h.get? b=some o)->KTD.TabOf (fun(l:List Str) v=>∃b,v=.ref b/\nh K b (l.map V.str)) h a D
theorem Ys{a:Addr}{D:List (Str×List Str)}(h:KTD.tabLook (qc K) (fun b=>K.lookup b) a D=true):KTab K a D:=fun _ hg=>KTD.tab_of_look (fun _ _ q=>Yr q) hg h
theorem yX{K:acs}{φ:Nat->Addr}{n:Nat}{H:Hp}:∀{l:List Str},ba K φ n H (l.map W.str) (l.map V.str)
 | []=>.nil
 | x::_=>.cons (.str x) yX
section
variable{X:Cx}{x:Str}{ka:Addr}{D:List (Str×List Str)}{l:List Str}{b:Expr}{m:EM}{p pos:Pos}
theorem aaU(hg:Gl X x)(hm:X.mg x=some (.ref ka))(hk:nh X.K ka (l.map V.str))(hd:(x==("__debug__":Str))=false):JE X (.Name x pos) (eC (.kt (l.map W.str))):=⟨nq (qQ (v:=.ref ka) hg hm rfl hd) fun _ _ _=>.kt hk yX⟩
theorem Fx(hg:Gl X x)(hm:X.mg x=some (.ref ka))(T:KTab X.K ka D)(hd:(x==("__debug__":Str))=false)(hs:vg b)(hb:JE X b m):JE X (.Subscript (.Name x p) b pos) (wB D m):=by
 refine⟨?_⟩;intro pins s σ H Q I h;refine Subscript_ (wM (R:=fun x y H2=>x=.ref ka/\∃k l,y=.str k/\ed k D=some l/\∀b,nh X.K b (l.map V.str)->Q (.ref b) H2) (qQ (v:=.ref ka) hg hm rfl hd) hb.h I ?_ fun v u s2 x y H2 I2 rx ry q=>?_)
 ·obtain⟨φ,ph,ws,hH,hS,h⟩:=h;show tM X m σ H _;refine tM.bind hH hS h fun w ph1 aA H1 v aC s1 r1 h=>⟨rfl,?_⟩
  obtain⟨w2,ph2,e,k⟩:=run_lift h;unfold wA at e;cases r1 with
  | str z=>
   simp only at e;cases q:ed z D with
   | none=>rw[q] at e;cases e
   | some l=>rw[q] at e;cases e;exact⟨z,l,rfl,q,fun b hb=>k aA H1 _ aC s1 (.kt hb yX)⟩
  | _=>cases e
 ·obtain⟨rfl,k,l,rfl,hl,q⟩:=q;cases rx;obtain⟨t,rfl⟩:=ry;refine KTD.RL (T s2.heap fun b o e=>I2.dC b o e) (by rw[D0,hl];rfl) (fun d v iB hv=>?_) (hs _ _);rw[yL,hl] at iB;cases iB;obtain⟨b,rfl,hk⟩:=hv;exact⟨.ref b,H2,I2.tok _,rfl,q b hk⟩
abbrev A3(ka:Addr)(D:List (Str×List Str))(f:Bool->Bool):R2:=fun x y H Q=>∃k,x=.str k/\y=.ref ka/\Q (.bl (f (ed k D).isSome)) H
theorem Yt(T:KTab X.K ka D):bx X (afh .NotIn) (A3 ka D fun b=> !b):=by
 intro pins s σ H x y v u Q I rx ry h;obtain⟨k,rfl,rfl,q⟩:=h;cases ry;obtain⟨t,rfl⟩:=rx;exact KTD.QH (T s.heap fun b o e=>I.dC b o e) ⟨.bl _,H,I.tok _,rfl,by rw[D0];exact q⟩
theorem Yu{f:Bool->Bool}{σ:L2.St}{H:Hp}{Q:VK}(h:tM X (fun σ=>aw (m σ) fun w=>lift (pQ f D w)) σ H Q):nH (A3 ka D f) (tM X m) (tC (.ref ka)) σ H Q:=by
 obtain⟨φ,ph,ws,hH,hS,h⟩:=h;refine tM.bind hH hS h fun w ph1 aA H1 v aC s1 r1 h=>?_
 obtain⟨w2,ph2,e,k⟩:=run_lift h;unfold pQ at e;cases r1 with
 | str z=>cases e;exact⟨z,rfl,rfl,k aA H1 _ aC s1 (.bl _)⟩
 | _=>cases e
theorem WI{f:Bool->Bool}{σ:L2.St}{H:Hp}{Q:Bool->Hp->Prop}(h:tT X (eT (fun σ=>aw (m σ) fun w=>lift (pQ f D w))) σ H Q):Ag (nH (A3 ka D f) (tM X m) (tC (.ref ka))) σ H Q:=by
 obtain⟨φ,ph,ws,hH,hS,h⟩:=h;refine Yu (tM.bind hH hS h fun x ph1 aA H1 vx aC s1 rx h=>?_);obtain⟨w,ph',e,k⟩:=run_lift h;split at e
 ·cases e;cases rx;exact⟨_,rfl,k aA H1 aC s1⟩
 ·cases e
theorem Yv(hg:Gl X x)(hm:X.mg x=some (.ref ka))(T:KTab X.K ka D)(hd:(x==("__debug__":Str))=false)(hk:afE .NotIn (.Name x p)=false)(hb:JE X b m):JT X (.Compare b [.NotIn] [.Name x p] pos) (eT (Hm D m)):=
 ⟨PT.imp (EU (Yt T) hb.h (qQ (v:=.ref ka) hg hm rfl hd) hk) fun _ _ _ h=>WI h⟩
end
theorem Fy(k:Str):∀zs:List Str,L2.eL (.str k) (zs.map V.str)=decide (k∈zs)
 | []=>rfl
 | z::zs=>by
  have ih:=Fy k zs;unfold L2.eL at ih ⊢;rw[aeP,aft,ih];show((z==k)||_)=_;by_cases h:z=k
  ·subst h;simp
  ·have h':¬k=z:=fun e=>h e.symm
   simp[h,h']
theorem U2(zs:List Str):(zs.map V.str).all jU=true:=by
 rw[afz];intro x hx;obtain⟨z,_,rfl⟩:=ahi.mp hx;rfl
theorem aaV:cD K (IK K false) pR:=by
 intro φ ph H x y vx vy w ph' Q hH rx ry e k;unfold pR at e;cases rx with
 | str z=>
  cases ry with
  | kt h r=>
   simp only at e;rename_i ws a vs;cases q:bB strOf ws with
   | none=>rw[q] at e;cases e
   | some zs=>
    rw[q] at e;cases e;have:=zr q r;subst this;refine⟨a,_,rfl,.inr (.inr h),rfl,U2 zs,?_⟩;have e2:=Fy z zs;simp only[Bool.false_eq_true,if_false];rw[e2];exact k φ H _ hH Step.refl (.bl _)
  | _=>cases e
 | _=>cases e
theorem aaW:cD K (fun x y H Q=>∃i j,x=.str i/\y=.str j/\Q (.bl (!(afS j i 0 j.length 1).isEmpty)) H) pS:=by
 intro φ ph H x y vx vy w ph' Q hH rx ry e k;unfold pS at e;cases rx with
 | str z=>
  cases ry with
  | str y=>cases e;exact⟨z,y,rfl,rfl,k φ H _ hH Step.refl (.bl _)⟩
  | _=>cases e
 | _=>cases e
theorem aaX{X:Cx}{b:Expr}(h:afE .In b=false):Cp X .In b pR:=⟨⟨_,UG,aaV⟩,h⟩
theorem aaY{X:Cx}{b:Expr}(h:afE .In b=false):Cp X .In b pS:=⟨⟨_,Uy,aaW⟩,h⟩
end IL
local macro_rules | `(tactic| ac_nf) => `(tactic| try simp only [IL.qS, IL.Fc, IL.Fb, IL.iH, IL.Fd, IL.F5, IL.F6, IL.G2, IL.G3, IL.jT, IL.F7, IL.m8, IL.Fe, IL.zl, IL.zK, IL.Ey, IL.F8, IL.oJ, IL.vK, IL.vk, IL.Ez, IL.qM, IL.vm, IL.zm, IL.DW, IL.zL, IL.zo, IL.Ff, IL.vn, IL.F9, IL.Fg, IL.Ga, IL.Fh, IL.DX, IL.kR, IL.Fi, IL.Fj, IL.iy, IL.gF, IL.g6, IL.rY, IL.G4, IL.G5, IL.G6, IL.rZ, IL.nA, IL.xa, IL.HL, IL.G7, IL.Gb, IL.G8, IL.G9, IL.Ha, IL.HM, IL.Gd, IL.Ge, IL.Gf, IL.Au, IL.rA, IL.Ew, IL.F2, IL.F3, IL.F4, decide_true, decide_false, Bool.false_eq_true, Bool.not_true, Bool.not_false, IL.Av, IL.wk, IL.Hb, IL.HN, IL.HP, IL.HQ, IL.HR, IL.HS, IL.HU, IL.HV, IL.HW, IL.HX, IL.HY, IL.HZ, IL.Ia, IL.Ib, IL.Ic, IL.Gg, IL.Gh, IL.Gi, IL.Gj, IL.Gk, IL.Gm, IL.Aw, IL.Hc, IL.Hd, IL.He, IL.Hf, IL.Gn, IL.Hg, IL.Fm, IL.Fn, IL.Fo, IL.Fp, IL.xb, IL.Ie, IL.Ay, IL.Hi, IL.Az, IL.AA, IL.Hj, IL.Gp, IL.z7, IL.zp, IL.Fs, IL.Ax, IL.Hh, Bool.or_false, Bool.false_or, Bool.or_true, Bool.true_or, Bool.and_true, Bool.true_and, Bool.and_false, Bool.false_and, Nat.reduceSub, List.reduceReplicate, List.set_cons_zero, List.set_cons_succ, if_true, if_false, ↓reduceIte, String.reduceEq, reduceCtorEq])
local macro_rules | `(tactic| push_cast [$as:simpLemma,*]) => `(tactic| try simp only [IL.qS, IL.Fc, IL.Fb, IL.iH, IL.Fd, IL.F5, IL.F6, IL.G2, IL.G3, IL.jT, IL.F7, IL.m8, IL.Fe, IL.zl, IL.zK, IL.Ey, IL.F8, IL.oJ, IL.vK, IL.vk, IL.Ez, IL.qM, IL.vm, IL.zm, IL.DW, IL.zL, IL.zo, IL.Ff, IL.vn, IL.F9, IL.Fg, IL.Ga, IL.Fh, IL.DX, IL.kR, IL.Fi, IL.Fj, IL.iy, IL.gF, IL.g6, IL.rY, IL.G4, IL.G5, IL.G6, IL.rZ, IL.nA, IL.xa, IL.HL, IL.G7, IL.Gb, IL.G8, IL.G9, IL.Ha, IL.HM, IL.Gd, IL.Ge, IL.Gf, IL.Au, IL.rA, IL.Ew, IL.F2, IL.F3, IL.F4, decide_true, decide_false, Bool.false_eq_true, Bool.not_true, Bool.not_false, IL.Av, IL.wk, IL.Hb, IL.HN, IL.HP, IL.HQ, IL.HR, IL.HS, IL.HU, IL.HV, IL.HW, IL.HX, IL.HY, IL.HZ, IL.Ia, IL.Ib, IL.Ic, IL.Gg, IL.Gh, IL.Gi, IL.Gj, IL.Gk, IL.Gm, IL.Aw, IL.Hc, IL.Hd, IL.He, IL.Hf, IL.Gn, IL.Hg, IL.Fm, IL.Fn, IL.Fo, IL.Fp, IL.xb, IL.Ie, IL.Ay, IL.Hi, IL.Az, IL.AA, IL.Hj, IL.Gp, IL.z7, IL.zp, IL.Fs, IL.Ax, IL.Hh, Bool.or_false, Bool.false_or, Bool.or_true, Bool.true_or, Bool.and_true, Bool.true_and, Bool.and_false, Bool.false_and, Nat.reduceSub, List.reduceReplicate, List.set_cons_zero, List.set_cons_succ, if_true, if_false, ↓reduceIte, String.reduceEq, reduceCtorEq, $as,*])
local macro_rules | `(term| nofun) => `(by decide +kernel)
namespace IL.K03
open PySem PySem.Spec PyProof.Rows L2
theorem iz(us:List Value)(hl:us.length=1):∃a,us=[a]:=List.length_eq_one_iff.mp hl
theorem g7(us:List Value)(hl:us.length=2):∃a1 a2,us=[a1,a2]:=by
 cases us with
 | nil=>cases hl
 | cons a1 us=>
  obtain⟨a2,rfl⟩:=iz us (aiL hl);exact⟨a1,a2,rfl⟩
theorem lA(us:List Value)(hl:us.length=3):∃a1 a2 a3,us=[a1,a2,a3]:=by
 cases us with
 | nil=>cases hl
 | cons a1 us=>
  obtain⟨a2,a3,rfl⟩:=g7 us (aiL hl);exact⟨a1,a2,a3,rfl⟩
theorem A4(us:List Value)(hl:us.length=4):∃a1 a2 a3 a4,us=[a1,a2,a3,a4]:=by
 cases us with
 | nil=>cases hl
 | cons a1 us=>
  obtain⟨a2,a3,a4,rfl⟩:=lA us (aiL hl);exact⟨a1,a2,a3,a4,rfl⟩
theorem adM(us:List Value)(hl:us.length=5):∃a1 a2 a3 a4 a5,us=[a1,a2,a3,a4,a5]:=by
 cases us with
 | nil=>cases hl
 | cons a1 us=>
  obtain⟨a2,a3,a4,a5,rfl⟩:=A4 us (aiL hl);exact⟨a1,a2,a3,a4,a5,rfl⟩
noncomputable def top(i:Nat):Stmt:=aej.main.body.getD i (.Pass ⟨0,0,0,0⟩)
abbrev hW:Stmt:=top 38
abbrev cN:Stmt:=top 39
abbrev jd:Stmt:=top 40
abbrev gj:Stmt:=top 41
abbrev cE:Stmt:=top 42
abbrev dr:Stmt:=top 43
abbrev iG:Stmt:=top 47
abbrev fK:Stmt:=top 18
abbrev gp:Stmt:=top 8
abbrev gS:Stmt:=top 19
abbrev h9:Stmt:=top 20
abbrev fq:Stmt:=top 21
abbrev d5:Stmt:=top 22
abbrev hV:Stmt:=top 23
abbrev gg:Stmt:=top 24
abbrev eP:Stmt:=top 25
abbrev cW:Stmt:=top 26
abbrev eR:Stmt:=top 35
abbrev gQ:Stmt:=inClass (top 29) 0
abbrev iO:Stmt:=top 30
abbrev iU:Stmt:=top 9
abbrev gU:Stmt:=top 10
abbrev gq:Stmt:=top 11
abbrev iK:Stmt:=top 31
abbrev jg:Stmt:=top 32
abbrev fL:Stmt:=top 33
abbrev d0:Stmt:=top 34
abbrev fJ:Stmt:=top 36
abbrev jj:Stmt:=top 44
abbrev gu:Stmt:=top 45
abbrev cV:Stmt:=top 46
abbrev gP:Stmt:=top 48
abbrev bK:Stmt:=top 49
noncomputable def di:List (Str×List Str):=[("set",["name","number"]),("copy",["name","name"]),("do",["name","word","name","name"]),("take",["name"]),("tell",["name"]),("turn",[]),("if",["name","place"]),("go",["place"]),("end",[])]
noncomputable def kX:List Str:=["sum","less","times","part","below","alike"]
noncomputable def eQ:SM:=(aD (aX (eT (af eN (ae 1) (bv bU (ag (ae 0) ai)))) (bc (af ak (ae 0) (ae 1))) bu) (bc (eC (.int (0)))))
noncomputable def cB:List W->Mo W:=fM eQ 2 2
noncomputable def yl:SM:=(aD (aO (cJ (dG (ag (eC (.int (6))) ai)) [none,some 2,some 6,some 0] (gN 0) cY (af ak (ae 1) (af aR (af addW (af addW (af bg (ae 3) (eC (.int (18)))) (af cC (eC (.int (5))) (ae 0))) (af bg (ae 2) (eC (.int (6))))) (eC (.int (26)))))) (gN 7)) (aX (eT (af aS (af aR (ae 0) (eC (.int (3)))) (eC (.int (0))))) (dm (bS cM dg (ae 5) (ag (bS iW gz (eC (.str "")) (ag (c5 (ae 7) d8 (cK (af addW (eC (.int (1))) (af aR (af addW (af bg (ae 0) (eC (.int (3)))) (ae 6)) (eC (.int (6))))))) ai)) ai))) (aX (eT (af aS (af aR (ae 0) (eC (.int (3)))) (eC (.int (1))))) (aD (aO (cJ (dG (ag (eC (.int (6))) ai)) [none,some 2,some 0] (gN 0) cY (af ak (ae 1) (af aR (af addW (af bg (ae 2) (eC (.int (18)))) (af cC (eC (.int (5))) (ae 0))) (eC (.int (26)))))) (gN 7)) (aD (aO (af ak (ae 2) (af aR (af addW (af bg (ae 0) (eC (.int (108)))) (ae 6)) (eC (.int (26))))) (gN 8)) (aD (aO (bS iW gz (eC (.str "")) (ag (c5 (ae 7) (cK (af addW (ae 4) (eC (.int (1))))) (cK (ae 3))) ai)) (gN 9)) (dm (bS cM dg (ae 5) (ag (af addW (af addW (bS iW gz (eC (.str "")) (ag (c5 (ae 7) d8 (cK (ae 4))) ai)) (ae 8)) (ae 9)) ai)))))) (dm (bS cM dg (ae 5) (ag (bS iW gz (eC (.str "")) (ag (af addW (c5 (ae 7) (cK (af aR (ae 6) (eC (.int (6))))) d8) (c5 (ae 7) d8 (cK (af aR (ae 6) (eC (.int (6))))))) ai)) ai))))))
noncomputable def lV:SM:=(aD (aO (eC (.str "abcdefghijklmnopqrstuvwxyz")) (gN 2)) (aD (aO (af addW (eC (.int (1))) (af aR (af bg (ae 0) (eC (.int (3)))) (eC (.int (6))))) (gN 3)) (aD (aO (af aR (af bg (ae 0) (eC (.int (18)))) (ae 3)) (gN 4)) (aD (aO (bT ai) (gN 5)) (aD (iu (dG (ag (ae 1) ai)) (gN 6) yl) (bc (ae 5)))))))
noncomputable def tR:List W->Mo W:=fM lV 10 2
noncomputable def jK:SM:=(aD (aX (eT (af aS (af aR (ae 0) (eC (.int (4)))) (eC (.int (3))))) (bc (af ak (bT (ag (eC (.int (2147483647))) (ag (da cZ (eC (.int (2147483648)))) (ag (eC (.int (65536))) (ag (da cZ (eC (.int (1)))) (ag (eC (.int (46341))) (ag (da cZ (eC (.int (65537)))) (ag (eC (.int (1))) (ag (eC (.int (0))) ai))))))))) (af aR (af bg (ae 0) (eC (.int (4)))) (eC (.int (8)))))) bu) (aD (aX (eT (af aS (af aR (ae 0) (eC (.int (4)))) (eC (.int (2))))) (bc (af fv (af aR (af cC (af bg (ae 0) (eC (.int (4)))) (eC (.int (48271)))) (eC (.int (4294967296)))) (eC (.int (2147483648))))) bu) (aD (aX (eT (af aS (af aR (ae 0) (eC (.int (4)))) (eC (.int (1))))) (bc (af fv (af aR (af bg (ae 0) (eC (.int (4)))) (eC (.int (100003)))) (eC (.int (1000))))) bu) (bc (af fv (af aR (af bg (ae 0) (eC (.int (4)))) (eC (.int (19)))) (eC (.int (6))))))))
noncomputable def je:List W->Mo W:=fM jK 1 1
noncomputable def jL:SM:=(aD (aX (c8 (eT (af cz (ae 3) (bT ai))) (eT (af aS (af aR (ae 0) (eC (.int (2)))) (eC (.int (1)))))) (bc (af ak (ae 3) (af aR (af bg (ae 0) (eC (.int (2)))) (bv bU (ag (ae 3) ai))))) bu) (bc (af addW (af addW (ae 1) (eC (.int (1)))) (af aR (af bg (ae 0) (eC (.int (2)))) (af fv (ae 2) (ae 1))))))
noncomputable def lX:List W->Mo W:=fM jL 4 4
noncomputable def l4:SM:=(aD (aO (af aR (af cC (ae 0) (eC (.int (48271)))) (eC (.int (2147483647)))) (gN 0)) (aD (aO (af bg (ae 0) (eC (.int (16)))) (gN 5)) (aD (aO (af ak (ae 3) (af aR (ae 5) (bv bU (ag (ae 3) ai)))) (gN 6)) (aD (aO (af ak (ae 3) (af aR (af bg (ae 5) (eC (.int (6)))) (bv bU (ag (ae 3) ai)))) (gN 7)) (aD (aO (af ak (ae 3) (af aR (af bg (ae 5) (eC (.int (36)))) (bv bU (ag (ae 3) ai)))) (gN 8)) (aD (aO (af aR (ae 0) (eC (.int (16)))) (gN 9)) (aD (aX (eT (af eN (ae 9) (eC (.int (3))))) (bc (af ak (bT (ag (bH (ag (eC (.str "set")) (ag (ae 6) (ag (aJ je (ag (af bg (ae 5) (eC (.int (6)))) ai)) ai)))) (ag (bH (ag (eC (.str "copy")) (ag (ae 6) (ag (ae 7) ai)))) (ag (bH (ag (eC (.str "tell")) (ag (ae 6) ai))) ai)))) (ae 9))) bu) (aD (aX (eT (af eN (ae 9) (eC (.int (8))))) (aD (aO (af ak (bT (ag (eC (.str "sum")) (ag (eC (.str "less")) (ag (eC (.str "times")) (ag (eC (.str "part")) (ag (eC (.str "below")) (ag (eC (.str "alike")) ai))))))) (af aR (af bg (ae 5) (eC (.int (216)))) (eC (.int (6))))) (gN 10)) (bc (bH (ag (eC (.str "do")) (ag (ae 6) (ag (ae 10) (ag (ae 7) (ag (ae 8) ai)))))))) bu) (aD (aX (eT (af eN (ae 9) (eC (.int (10))))) (bc (af ak (bT (ag (bH (ag (eC (.str "take")) (ag (ae 6) ai))) (ag (bH (ag (eC (.str "turn")) ai)) ai))) (af fv (ae 9) (eC (.int (8)))))) bu) (aD (aX (eT (af eN (ae 9) (eC (.int (14))))) (bc (bH (ag (eC (.str "if")) (ag (ae 6) (ag (aJ lX (ag (af bg (ae 5) (eC (.int (6)))) (ag (ae 1) (ag (ae 2) (ag (ae 4) ai))))) ai))))) bu) (aD (aX (eT (af aS (ae 9) (eC (.int (14))))) (bc (bH (ag (eC (.str "go")) (ag (aJ lX (ag (af bg (ae 5) (eC (.int (6)))) (ag (ae 1) (ag (ae 2) (ag (ae 4) ai))))) ai)))) bu) (bc (af ak (bT (ag (bH (ag (eC (.str "end")) ai)) (ag (bH (ag (eC (.str "tell")) (ag (ae 6) ai))) (ag (bH (ag (eC (.str "turn")) ai)) ai)))) (af aR (af bg (ae 5) (eC (.int (6)))) (eC (.int (3)))))))))))))))))
noncomputable def ua:List W->Mo W:=fM l4 11 5
noncomputable def tq:SM:=(aD (dm (bS cM dg (ae 4) (ag (aJ ua (ag (af addW (aJ cB (ag (ae 0) (ag (af addW (ae 1) (af aR (ae 6) (eC (.int (24))))) ai))) (af cC (eC (.int (7919))) (ae 6))) (ag (ae 6) (ag (ae 2) (ag (ae 3) (ag (ae 5) ai)))))) ai))) (aX (eT (af aS (af ak (ae 4) (da cZ (eC (.int (1))))) (bH (ag (eC (.str "turn")) ai)))) (dm (bS cM dg (ae 5) (ag (ae 6) ai))) bu))
noncomputable def lY:SM:=(aD (aO (bT ai) (gN 4)) (aD (aO (bT ai) (gN 5)) (aD (iu (dG (ag (ae 2) ai)) (gN 6) tq) (bc (ae 4)))))
noncomputable def yv:List W->Mo W:=fM lY 7 4
noncomputable def lZ:SM:=(aD (aX (cU (eT (af aS (af ak (ae 0) (eC (.int (0)))) (eC (.str "if")))) (eT (af aS (af ak (ae 0) (eC (.int (0)))) (eC (.str "go"))))) (bc (af addW (c5 (ae 0) d8 (cK (da cZ (eC (.int (1)))))) (bH (ag (af addW (af ak (ae 0) (da cZ (eC (.int (1))))) (ae 1)) ai)))) bu) (bc (ae 0)))
noncomputable def qp:List W->Mo W:=fM lZ 2 2
noncomputable def mz:SM:=(aD (aX (cU (dj (dq (el "str" (ae 0)))) (dj (eT (iM fe fe (eC (.int (1))) (bv bU (ag (ae 0) ai)) (eC (.int (6))))))) (bc (eC (.bl false))) bu) (bc (bv jB (ag (cJ (sd (ae 0)) [none] (gN 0) cY (af pS (ae 0) (eC (.str "abcdefghijklmnopqrstuvwxyz")))) ai))))
noncomputable def yY:List W->Mo W:=fM mz 1 1
noncomputable def jh:SM:=(aD (aX (cU (dj (dq (el "int" (ae 0)))) (dq (el "bool" (ae 0)))) (bc (eC (.bl false))) bu) (bc (iM fe eN (da cZ (eC (.int (2147483648)))) (ae 0) (eC (.int (2147483648))))))
noncomputable def kH:List W->Mo W:=fM jh 1 1
noncomputable def mB:SM:=(bc (j6 (el "str" (ae 0)) (af pR (ae 0) (eC (.kt (kX.map W.str))))))
noncomputable def yZ:List W->Mo W:=fM mB 1 1
noncomputable def mf:SM:=(bc (j6 (aJ kH (ag (ae 0) ai)) (iM fe fe (eC (.int (0))) (ae 0) (ae 1))))
noncomputable def yM:List W->Mo W:=fM mf 2 2
noncomputable def jk:SM:=(aD (aX (eT (af aS (ae 0) (eC (.str "name")))) (bc (aJ yY (ag (ae 1) ai))) bu) (aD (aX (eT (af aS (ae 0) (eC (.str "number")))) (bc (aJ kH (ag (ae 1) ai))) bu) (aD (aX (eT (af aS (ae 0) (eC (.str "word")))) (bc (aJ yZ (ag (ae 1) ai))) bu) (bc (aJ yM (ag (ae 1) (ag (ae 2) ai)))))))
noncomputable def jO:List W->Mo W:=fM jk 3 3
noncomputable def mF:SM:=(aD (aX (cU (dj (dq (el "tuple" (ae 0)))) (eT (af aS (bv bU (ag (ae 0) ai)) (eC (.int (0)))))) (bc (eC (.bl false))) bu) (aD (aX (cU (dj (dq (el "str" (af ak (ae 0) (eC (.int (0))))))) (eT (Hm di (af ak (ae 0) (eC (.int (0))))))) (bc (eC (.bl false))) bu) (aD (aO (wB di (af ak (ae 0) (eC (.int (0))))) (gN 2)) (aD (aX (eT (af cz (bv bU (ag (ae 0) ai)) (af addW (bv bU (ag (ae 2) ai)) (eC (.int (1)))))) (bc (eC (.bl false))) bu) (bc (bv jB (ag (cJ (rC (ag (ae 2) (ag (c5 (ae 0) (cK (eC (.int (1)))) d8) ai))) [none,none,some 1] (j8 2 [(gN 0),(gN 1)]) cY (aJ jO (ag (ae 0) (ag (ae 1) (ag (ae 2) ai))))) ai)))))))
noncomputable def zt:List W->Mo W:=fM mF 3 2
noncomputable def kE:SM:=(bc (cJ (rC (ag (wB di (af ak (ae 0) (eC (.int (0))))) (ag (c5 (ae 0) (cK (eC (.int (1)))) d8) ai))) [none,none,some 1] (j8 2 [(gN 0),(gN 1)]) (eT (af aS (ae 0) (ae 2))) (ae 1)))
noncomputable def nZ:List W->Mo W:=fM kE 2 2
noncomputable def ye:SM:=(aX (c8 (eT (af fe (ae 2) (ae 1))) (eT (af cz (af ak (af ak (ae 0) (ae 2)) (eC (.int (0)))) (eC (.str "turn"))))) (bc (eC (.bl true))) bu)
noncomputable def lR:SM:=(aD (iu (fR (aJ nZ (ag (af ak (ae 0) (ae 1)) (ag (eC (.str "place")) ai)))) (gN 2) ye) (bc (eC (.bl false))))
noncomputable def yj:List W->Mo W:=fM lR 3 2
noncomputable def yk:SM:=(aX (eT (af kb (ae 3) (ae 2))) (dm (bS cM dg (ae 2) (ag (ae 3) ai))) bu)
noncomputable def lS:SM:=(aD (aO (bv il (ag (ae 1) ai)) (gN 2)) (aD (iu (fR (aJ nZ (ag (ae 0) (ag (eC (.str "name")) ai)))) (gN 3) yk) (bc (ae 2))))
noncomputable def yq:List W->Mo W:=fM lS 4 2
noncomputable def ym:SM:=(aD (aX (cU (dj (dq (aJ zt (ag (ae 3) (ag (bv bU (ag (ae 0) ai)) ai))))) (dq (aJ yj (ag (ae 0) (ag (ae 2) ai))))) qW bu) (aD (aO (aJ yq (ag (ae 3) (ag (ae 1) ai))) (gN 1)) (aX (eT (af pZ (bv bU (ag (ae 1) ai)) (eC (.int (12))))) qW bu)))
noncomputable def lW:SM:=(aD (aX (cU (dj (dq (el "list" (ae 0)))) (eT (af pZ (bv bU (ag (ae 0) ai)) (eC (.int (60)))))) qW bu) (aD (aO (bT ai) (gN 1)) (aD (iu (pe (ag (ae 0) ai)) (j8 2 [(gN 2),(gN 3)]) ym) (bc (ae 1)))))
noncomputable def yu:List W->Mo W:=fM lW 4 1
noncomputable def mj:SM:=(aD (aX (cU (dj (dq (el "list" (ae 0)))) (dj (dq (bv jB (ag (cJ (fR (ae 0)) [none] (gN 0) cY (aJ kH (ag (ae 0) ai))) ai))))) (qZ "BadRun" (ag (eC (.str "inputs that are no list of numbers")) ai)) bu) (aX (cU (dj (dq (aJ kH (ag (ae 1) ai)))) (dj (eT (iM fe fe (eC (.int (0))) (ae 1) (eC (.int (10000))))))) (qZ "BadRun" (ag (eC (.str "turns that are no whole number from 0 to 10000")) ai)) bu))
noncomputable def yN:List W->Mo W:=fM mj 2 2
noncomputable def mm:SM:=(aD (dR "Run" "inputs" (ae 0) (bv il (ag (ae 1) ai))) (aD (dR "Run" "turns_left" (ae 0) (ae 2)) (aD (dR "Run" "at" (ae 0) (eC (.int (0)))) (aD (dR "Run" "holds" (ae 0) rW) (aD (dR "Run" "told" (ae 0) (bT ai)) (aD (dR "Run" "takes" (ae 0) (eC (.int (0)))) (dR "Run" "word" (ae 0) (eC .aE))))))))
noncomputable def qC:List W->Mo W:=fM mm 3 3
noncomputable def iP:SM:=(bc (bS fV fW (cc "Run" "holds" (ae 0)) (ag (ae 1) (ag (eC (.int (0))) ai))))
noncomputable def gW:List W->Mo W:=fM iP 2 2
noncomputable def jx:SM:=(bc (af fv (af aR (af addW (ae 0) (eC (.int (2147483648)))) (af cC (eC (.int (2))) (eC (.int (2147483648))))) (eC (.int (2147483648)))))
noncomputable def pv:List W->Mo W:=fM jx 1 1
noncomputable def kS:SM:=(aD (aX (eT (af aS (ae 1) (eC (.int (0))))) (qZ "ByNought" (ag (eC (.str "part by nought")) ai)) bu) (bc (aJ pv (ag (af bg (ae 0) (ae 1)) ai))))
noncomputable def zu:List W->Mo W:=fM kS 2 2
noncomputable def kJ:SM:=(aD (aX (eT (af aS (ae 0) (eC (.str "sum")))) (bc (aJ pv (ag (af addW (ae 1) (ae 2)) ai))) bu) (aD (aX (eT (af aS (ae 0) (eC (.str "less")))) (bc (aJ pv (ag (af fv (ae 1) (ae 2)) ai))) bu) (aD (aX (eT (af aS (ae 0) (eC (.str "times")))) (bc (aJ pv (ag (af cC (ae 1) (ae 2)) ai))) bu) (aD (aX (eT (af aS (ae 0) (eC (.str "part")))) (bc (aJ zu (ag (ae 1) (ag (ae 2) ai)))) bu) (aD (aX (eT (af aS (ae 0) (eC (.str "below")))) (bc (jF (eT (af eN (ae 1) (ae 2))) (eC (.int (1))) (eC (.int (0))))) bu) (bc (jF (eT (af aS (ae 1) (ae 2))) (eC (.int (1))) (eC (.int (0))))))))))
noncomputable def om:List W->Mo W:=fM kJ 3 3
noncomputable def mL:SM:=(aD (lj pP "Run" "takes" (ae 0) (eC (.int (1)))) (aD (aX (eT (af pZ (cc "Run" "takes" (ae 0)) (bv bU (ag (cc "Run" "inputs" (ae 0)) ai)))) (bc (eC (.int (0)))) bu) (bc (af ak (cc "Run" "inputs" (ae 0)) (af fv (cc "Run" "takes" (ae 0)) (eC (.int (1))))))))
noncomputable def vw:List W->Mo W:=fM mL 1 1
noncomputable def l6:SM:=(aD (aX (eT (af aS (cc "Run" "turns_left" (ae 0)) (eC (.int (0))))) (dR "Run" "word" (ae 0) (eC (.str "dry"))) bu) (lj A0 "Run" "turns_left" (ae 0) (eC (.int (1)))))
noncomputable def ui:List W->Mo W:=fM l6 1 1
noncomputable def mG:SM:=(aD (lj pP "Run" "at" (ae 0) (eC (.int (1)))) (aX (eT (af aS (af ak (ae 1) (eC (.int (0)))) (eC (.str "set")))) (aO (af ak (ae 1) (eC (.int (2)))) (ik (cc "Run" "holds" (ae 0)) (af ak (ae 1) (eC (.int (1)))))) (aX (eT (af aS (af ak (ae 1) (eC (.int (0)))) (eC (.str "copy")))) (aO (aJ gW (ag (ae 0) (ag (af ak (ae 1) (eC (.int (2)))) ai))) (ik (cc "Run" "holds" (ae 0)) (af ak (ae 1) (eC (.int (1)))))) (aX (eT (af aS (af ak (ae 1) (eC (.int (0)))) (eC (.str "do")))) (aO (aJ om (ag (af ak (ae 1) (eC (.int (2)))) (ag (aJ gW (ag (ae 0) (ag (af ak (ae 1) (eC (.int (3)))) ai))) (ag (aJ gW (ag (ae 0) (ag (af ak (ae 1) (eC (.int (4)))) ai))) ai)))) (ik (cc "Run" "holds" (ae 0)) (af ak (ae 1) (eC (.int (1)))))) (aX (eT (af aS (af ak (ae 1) (eC (.int (0)))) (eC (.str "take")))) (aO (aJ vw (ag (ae 0) ai)) (ik (cc "Run" "holds" (ae 0)) (af ak (ae 1) (eC (.int (1)))))) (aX (eT (af aS (af ak (ae 1) (eC (.int (0)))) (eC (.str "tell")))) (dm (bS cM dg (cc "Run" "told" (ae 0)) (ag (aJ gW (ag (ae 0) (ag (af ak (ae 1) (eC (.int (1)))) ai))) ai))) (aX (eT (af aS (af ak (ae 1) (eC (.int (0)))) (eC (.str "turn")))) (dm (aJ ui (ag (ae 0) ai))) (aX (eT (af aS (af ak (ae 1) (eC (.int (0)))) (eC (.str "if")))) (dR "Run" "at" (ae 0) (jF (eT (af cz (aJ gW (ag (ae 0) (ag (af ak (ae 1) (eC (.int (1)))) ai))) (eC (.int (0))))) (af ak (ae 1) (eC (.int (2)))) (cc "Run" "at" (ae 0)))) (aX (eT (af aS (af ak (ae 1) (eC (.int (0)))) (eC (.str "go")))) (dR "Run" "at" (ae 0) (af ak (ae 1) (eC (.int (1))))) (dR "Run" "word" (ae 0) (eC (.str "done"))))))))))))
noncomputable def oE:List W->Mo W:=fM mG 2 2
noncomputable def hZ:SM:=(dm (aJ oE (ag (ae 3) (ag (jF (eT (af eN (cc "Run" "at" (ae 3)) (bv bU (ag (ae 0) ai)))) (af ak (ae 0) (cc "Run" "at" (ae 3))) (bH (ag (eC (.str "end")) ai))) ai))))
noncomputable def mC:SM:=(aD (aO (rB "Run" qC (ag (ae 1) (ag (ae 2) ai))) (gN 3)) (aD (pk [("ByNought",true)] 3 (eD (eT (af nv (cc "Run" "word" (ae 3)) (eC .aE))) hZ) (dR "Run" "word" (ae 3) (eC (.str "nought")))) (bc (bH (ag (cc "Run" "word" (ae 3)) (ag (cc "Run" "told" (ae 3)) (ag (cc "Run" "takes" (ae 3)) ai)))))))
noncomputable def y4:List W->Mo W:=fM mC 4 3
noncomputable def l7:SM:=(aD (dm (aJ yu (ag (ae 0) ai))) (aD (dm (aJ yN (ag (ae 1) (ag (ae 2) ai)))) (bc (aJ y4 (ag (ae 0) (ag (ae 1) (ag (ae 2) ai)))))))
noncomputable def uj:List W->Mo W:=fM l7 3 3
noncomputable def kM:SM:=(bc (af fv (ae 0) (af cC (af bg (af addW (ae 0) (eC (.int (2147483648)))) (eC (.int (4294967296)))) (eC (.int (4294967296))))))
noncomputable def qG:List W->Mo W:=fM kM 1 1
noncomputable def mn:SM:=(aD (aX (cU (eT (af aS (ae 0) (eC (.str "below")))) (eT (af aS (ae 0) (eC (.str "alike"))))) (bc (bv rS (ag (xB (j6 (af eN (ae 1) (ae 2)) (af aS (ae 0) (eC (.str "below")))) (j6 (af aS (ae 1) (ae 2)) (af aS (ae 0) (eC (.str "alike"))))) ai))) bu) (aD (aX (eT (af aS (ae 0) (eC (.str "part")))) (bc (aJ qG (ag (af bg (ae 1) (ae 2)) ai))) bu) (bc (aJ qG (ag (af ak (bT (ag (af addW (ae 1) (ae 2)) (ag (af fv (ae 1) (ae 2)) (ag (af cC (ae 1) (ae 2)) ai)))) (bS cM oU (bT (ag (eC (.str "sum")) (ag (eC (.str "less")) (ag (eC (.str "times")) ai)))) (ag (ae 0) ai))) ai)))))
noncomputable def yO:List W->Mo W:=fM mn 3 3
noncomputable def iE:SM:=(aD (aO (af ak (ae 0) (ae 6)) (gN 7)) (aD (aO (af addW (ae 6) (eC (.int (1)))) (gN 6)) (aD (aX (c8 (eT (af aS (af ak (ae 7) (eC (.int (0)))) (eC (.str "turn")))) (eT (af aS (ae 2) (eC (.int (0)))))) (bc (bH (ag (eC (.str "dry")) (ag (ae 4) (ag (ae 5) ai))))) bu) (aD (aX (c8 (eT (af aS (af ak (ae 7) (eC (.int (0)))) (eC (.str "do")))) (c8 (eT (af aS (af ak (ae 7) (eC (.int (2)))) (eC (.str "part")))) (eT (af aS (bS fV fW (ae 3) (ag (af ak (ae 7) (eC (.int (4)))) (ag (eC (.int (0))) ai))) (eC (.int (0))))))) (bc (bH (ag (eC (.str "nought")) (ag (ae 4) (ag (ae 5) ai))))) bu) (aX (eT (af aS (af ak (ae 7) (eC (.int (0)))) (eC (.str "turn")))) (aO (af fv (ae 2) (eC (.int (1)))) (gN 2)) (aX (eT (af aS (af ak (ae 7) (eC (.int (0)))) (eC (.str "set")))) (aO (af ak (ae 7) (eC (.int (2)))) (ik (ae 3) (af ak (ae 7) (eC (.int (1)))))) (aX (eT (af aS (af ak (ae 7) (eC (.int (0)))) (eC (.str "copy")))) (aO (bS fV fW (ae 3) (ag (af ak (ae 7) (eC (.int (2)))) (ag (eC (.int (0))) ai))) (ik (ae 3) (af ak (ae 7) (eC (.int (1)))))) (aX (eT (af aS (af ak (ae 7) (eC (.int (0)))) (eC (.str "do")))) (aO (aJ yO (ag (af ak (ae 7) (eC (.int (2)))) (ag (bS fV fW (ae 3) (ag (af ak (ae 7) (eC (.int (3)))) (ag (eC (.int (0))) ai))) (ag (bS fV fW (ae 3) (ag (af ak (ae 7) (eC (.int (4)))) (ag (eC (.int (0))) ai))) ai)))) (ik (ae 3) (af ak (ae 7) (eC (.int (1)))))) (aX (eT (af aS (af ak (ae 7) (eC (.int (0)))) (eC (.str "take")))) (aD (aO (af ak (af addW (c5 (ae 1) (cK (ae 5)) (cK (af addW (ae 5) (eC (.int (1)))))) (bT (ag (eC (.int (0))) ai))) (eC (.int (0)))) (ik (ae 3) (af ak (ae 7) (eC (.int (1)))))) (aO (af addW (ae 5) (eC (.int (1)))) (gN 5))) (aX (eT (af aS (af ak (ae 7) (eC (.int (0)))) (eC (.str "tell")))) (dm (bS cM dg (ae 4) (ag (bS fV fW (ae 3) (ag (af ak (ae 7) (eC (.int (1)))) (ag (eC (.int (0))) ai))) ai))) (aX (eT (af aS (af ak (ae 7) (eC (.int (0)))) (eC (.str "go")))) (aO (af ak (ae 7) (eC (.int (1)))) (gN 6)) (aX (eT (af cz (bS fV fW (ae 3) (ag (af ak (ae 7) (eC (.int (1)))) (ag (eC (.int (0))) ai))) (eC (.int (0))))) (aO (af ak (ae 7) (eC (.int (2)))) (gN 6)) bu))))))))))))
noncomputable def lT:SM:=(aD (aO rW (gN 3)) (aD (aO (bT ai) (gN 4)) (aD (aO (eC (.int (0))) (gN 5)) (aD (aO (eC (.int (0))) (gN 6)) (aD (eD (c8 (eT (af eN (ae 6) (bv bU (ag (ae 0) ai)))) (eT (af cz (af ak (af ak (ae 0) (ae 6)) (eC (.int (0)))) (eC (.str "end"))))) iE) (bc (bH (ag (eC (.str "done")) (ag (ae 4) (ag (ae 5) ai))))))))))
noncomputable def qj:List W->Mo W:=fM lT 8 3
noncomputable def kI:SM:=(bc (j6 (el "int" (ae 0)) (wW (el "bool" (ae 0)))))
noncomputable def l8:List W->Mo W:=fM kI 1 1
noncomputable def pw:SM:=(aD (aO (aJ tR (ag (aJ cB (ag (ae 0) (ag (eC (.int (0))) ai))) (ag (af addW (eC (.int (1))) (af aR (aJ cB (ag (ae 0) (ag (eC (.int (1))) ai))) (eC (.int (12))))) ai))) (gN 1)) (aD (aO (af aR (af bg (aJ cB (ag (ae 0) (ag (eC (.int (1))) ai))) (eC (.int (12)))) (eC (.int (25)))) (gN 2)) (aD (aX (eT (af aS (af aR (af bg (aJ cB (ag (ae 0) (ag (eC (.int (1))) ai))) (eC (.int (300)))) (eC (.int (8)))) (eC (.int (1))))) (aO (af addW (eC (.int (25))) (af aR (af bg (aJ cB (ag (ae 0) (ag (eC (.int (1))) ai))) (eC (.int (2400)))) (eC (.int (36))))) (gN 2)) bu) (aD (aO (aJ yv (ag (ae 0) (ag (eC (.int (3))) (ag (ae 2) (ag (ae 1) ai))))) (gN 3)) (aD (aX (c8 (eT (af aS (af aR (aJ cB (ag (ae 0) (ag (eC (.int (2))) ai))) (eC (.int (3)))) (eC (.int (1))))) (eT (af eN (ae 2) (eC (.int (50)))))) (aD (aO (af cC (bT (ag (bH (ag (eC (.str "take")) (ag (af ak (ae 1) (eC (.int (0)))) ai))) (ag (bH (ag (eC (.str "tell")) (ag (af ak (ae 1) (eC (.int (0)))) ai))) ai))) (af addW (eC (.int (1))) (af aR (af bg (aJ cB (ag (ae 0) (ag (eC (.int (2))) ai))) (eC (.int (3)))) (eC (.int (4)))))) (gN 4)) (aD (aO (af addW (ae 4) (cJ (fR (ae 3)) [none,some 4] (gN 0) cY (aJ qp (ag (ae 0) (ag (bv bU (ag (ae 1) ai)) ai))))) (gN 3)) (aO (bv bU (ag (ae 3) ai)) (gN 2)))) bu) (aD (aO (aJ cB (ag (ae 0) (ag (eC (.int (2))) ai))) (gN 5)) (aD (aO (cJ (dG (ag (af ak (bT (ag (eC (.int (0))) (ag (eC (.int (1))) (ag (eC (.int (1))) (ag (eC (.int (1))) (ag (eC (.int (2))) (ag (eC (.int (2))) (ag (eC (.int (3))) (ag (eC (.int (5))) (ag (eC (.int (8))) ai)))))))))) (af aR (ae 5) (eC (.int (9))))) ai)) [none,some 0] (gN 0) cY (aJ je (ag (aJ cB (ag (ae 1) (ag (af addW (eC (.int (27))) (ae 0)) ai))) ai))) (gN 6)) (aD (aO (af aR (af bg (ae 5) (eC (.int (9)))) (eC (.int (10)))) (gN 7)) (aD (aX (eT (af aS (af aR (af bg (ae 5) (eC (.int (90)))) (eC (.int (9)))) (eC (.int (1))))) (aO (af addW (eC (.int (10))) (af aR (af bg (ae 5) (eC (.int (810)))) (eC (.int (31))))) (gN 7)) bu) (aD (aX (eT (af aS (cJ (dG (ag (ae 2) ai)) [none,some 3] (gN 0) (c8 (eT (af eL (af ak (af ak (ae 1) (ae 0)) (eC (.int (0)))) (bH (ag (eC (.str "if")) (ag (eC (.str "go")) ai))))) (eT (af fe (af ak (af ak (ae 1) (ae 0)) (da cZ (eC (.int (1))))) (ae 0)))) (ae 0)) (bT ai))) (aO (af ak (bT (ag (ae 7) (ag (eC (.int (10000))) ai))) (af aR (af bg (ae 5) (eC (.int (90)))) (eC (.int (2))))) (gN 7)) bu) (aD (aX (eT (af aS (af aR (af bg (ae 5) (eC (.int (90)))) (eC (.int (9)))) (eC (.int (2))))) (aD (aO (bT (ag (bH (ag (eC (.str "turn")) ai)) (ag (bH (ag (eC (.str "take")) (ag (af ak (ae 1) (da cZ (eC (.int (1))))) ai))) (ag (bH (ag (eC (.str "do")) (ag (af ak (ae 1) (eC (.int (0)))) (ag (eC (.str "sum")) (ag (af ak (ae 1) (eC (.int (0)))) (ag (af ak (ae 1) (da cZ (eC (.int (1))))) ai)))))) (ag (bH (ag (eC (.str "tell")) (ag (af ak (ae 1) (eC (.int (0)))) ai))) ai))))) (gN 3)) (aD (dm (bS cM dg (ae 3) (ag (bH (ag (eC (.str "go")) (ag (eC (.int (0))) ai))) ai))) (aD (aO (af addW (eC (.int (41))) (af aR (af bg (ae 5) (eC (.int (810)))) (eC (.int (460))))) (gN 7)) (aO (af addW (ae 6) (cJ (dG (ag (eC (.int (60))) ai)) [none,some 0] (gN 0) cY (aJ je (ag (af addW (aJ cB (ag (ae 1) (ag (af addW (eC (.int (27))) (af aR (ae 0) (eC (.int (8))))) ai))) (af cC (af cC (eC (.int (7919))) (ae 0)) (ae 0))) ai)))) (gN 6))))) bu) (aD (aO (bT (ag (bv il (ag (ae 3) ai)) (ag (bv il (ag (ae 6) ai)) ai))) (gN 8)) (aD (aO (aJ uj (ag (af ak (ae 8) (eC (.int (0)))) (ag (af ak (ae 8) (eC (.int (1)))) (ag (ae 7) ai)))) (gN 9)) (aD (aO (aJ qj (ag (ae 3) (ag (ae 6) (ag (ae 7) ai)))) (gN 10)) (aD (aX (cU (dj (dq (el "tuple" (ae 9)))) (cU (eT (af cz (bv bU (ag (ae 9) ai)) (eC (.int (3))))) (cU (eT (af cz (ae 9) (ae 10))) (eT (af cz (ae 8) (bT (ag (ae 3) (ag (ae 6) ai)))))))) (bc (eC (.bl false))) bu) (aD (aX (cU (dj (dq (el "str" (af ak (ae 9) (eC (.int (0))))))) (cU (dj (dq (el "list" (af ak (ae 9) (eC (.int (1))))))) (dj (dq (aJ l8 (ag (af ak (ae 9) (eC (.int (2)))) ai)))))) (bc (eC (.bl false))) bu) (bc (bv jB (ag (cJ (fR (af ak (ae 9) (eC (.int (1))))) [none] (gN 0) cY (aJ l8 (ag (ae 0) ai))) ai)))))))))))))))))))
noncomputable def rE:List W->Mo W:=fM pw 11 1
set_option genInjectivity false in
structure Tx(K:acs)(mg:Str->Option Value) where
 a_law_cell_at:Addr
 t4:aeT
 fk:b7 K "_law_cell_at" "_law_cell_at" hW a_law_cell_at t4
 hX:mg "_law_cell_at"=some (.ref a_law_cell_at)
 eQ:Binds K t4 ["_law_script","_law_k"] []
 a_law_names_by:Addr
 tU:aeT
 n5:b7 K "_law_names_by" "_law_names_by" cN a_law_names_by tU
 CD:mg "_law_names_by"=some (.ref a_law_names_by)
 lV:Binds K tU ["_law_n","_law_many"] []
 a_law_number_by:Addr
 tH:aeT
 kF:b7 K "_law_number_by" "_law_number_by" jd a_law_number_by tH
 tJ:mg "_law_number_by"=some (.ref a_law_number_by)
 jK:Binds K tH ["_law_cell"] []
 a_law_jump_by:Addr
 t5:aeT
 l3:b7 K "_law_jump_by" "_law_jump_by" gj a_law_jump_by t5
 yw:mg "_law_jump_by"=some (.ref a_law_jump_by)
 jL:Binds K t5 ["_law_more","_law_place","_law_many","_law_turns"] []
 a_law_row_by:Addr
 ub:aeT
 oa:b7 K "_law_row_by" "_law_row_by" cE a_law_row_by ub
 CT:mg "_law_row_by"=some (.ref a_law_row_by)
 l4:Binds K ub ["_law_cell","_law_place","_law_many","_law_names","_law_turns"] []
 a_law_rows_by:Addr
 t6:aeT
 n8:b7 K "_law_rows_by" "_law_rows_by" dr a_law_rows_by t6
 CM:mg "_law_rows_by"=some (.ref a_law_rows_by)
 lY:Binds K t6 ["_law_script","_law_first","_law_many","_law_names"] []
 a_law_shifted:Addr
 t7:aeT
 n9:b7 K "_law_shifted" "_law_shifted" iG a_law_shifted t7
 CN:mg "_law_shifted"=some (.ref a_law_shifted)
 lZ:Binds K t7 ["_law_row","_law_more"] []
 a_is_name:Addr
 uN:aeT
 ox:b7 K "is_name" "is_name" fK a_is_name uN
 D1:mg "is_name"=some (.ref a_is_name)
 mz:Binds K uN ["thing"] []
 a_is_number:Addr
 uk:aeT
 jM:b7 K "is_number" "is_number" gp a_is_number uk
 qw:mg "is_number"=some (.ref a_is_number)
 jh:Binds K uk ["thing"] []
 a_is_word:Addr
 uO:aeT
 oy:b7 K "is_word" "is_word" gS a_is_word uO
 D2:mg "is_word"=some (.ref a_is_word)
 mB:Binds K uO ["thing"] []
 a_is_place:Addr
 uC:aeT
 oo:b7 K "is_place" "is_place" h9 a_is_place uC
 DA:mg "is_place"=some (.ref a_is_place)
 mf:Binds K uC ["thing","last_place"] []
 a_is_part:Addr
 uP:aeT
 oz:b7 K "is_part" "is_part" fq a_is_part uP
 D4:mg "is_part"=some (.ref a_is_part)
 jk:Binds K uP ["kind","thing","last_place"] []
 a_is_row:Addr
 u5:aeT
 oG:b7 K "is_row" "is_row" d5 a_is_row u5
 EF:mg "is_row"=some (.ref a_is_row)
 mF:Binds K u5 ["row","last_place"] []
 a_parts_of_kind:Addr
 tK:aeT
 lU:b7 K "parts_of_kind" "parts_of_kind" hV a_parts_of_kind tK
 yr:mg "parts_of_kind"=some (.ref a_parts_of_kind)
 kE:Binds K tK ["row","wanted"] []
 a_jumps_back_badly:Addr
 tj:aeT
 nY:b7 K "jumps_back_badly" "jumps_back_badly" gg a_jumps_back_badly tj
 Cj:mg "jumps_back_badly"=some (.ref a_jumps_back_badly)
 lR:Binds K tj ["rows","at"] []
 a_with_names_of:Addr
 tL:aeT
 n0:b7 K "with_names_of" "with_names_of" eP a_with_names_of tL
 Cw:mg "with_names_of"=some (.ref a_with_names_of)
 lS:Binds K tL ["row","names"] []
 a_need_program:Addr
 tV:aeT
 n6:b7 K "need_program" "need_program" cW a_need_program tV
 CF:mg "need_program"=some (.ref a_need_program)
 lW:Binds K tV ["rows"] []
 a_need_run:Addr
 uD:aeT
 oq:b7 K "need_run" "need_run" eR a_need_run uD
 DB:mg "need_run"=some (.ref a_need_run)
 mj:Binds K uD ["inputs","turns"] []
 a_Run_init:Addr
 uE:aeT
 qD:b7 K "__init__" "Run.__init__" gQ a_Run_init uE
 mm:Binds K uE ["self","inputs","turns"] []
 a_held:Addr
 vR:aeT
 jq:b7 K "held" "held" iO a_held vR
 oX:mg "held"=some (.ref a_held)
 iP:Binds K vR ["run","name"] []
 a_fit:Addr
 wC:aeT
 jZ:b7 K "fit" "fit" iU a_fit wC
 rF:mg "fit"=some (.ref a_fit)
 jx:Binds K wC ["number"] []
 a_parted:Addr
 u6:aeT
 oH:b7 K "parted" "parted" gU a_parted u6
 EG:mg "parted"=some (.ref a_parted)
 kS:Binds K u6 ["one","other"] []
 a_reckoned:Addr
 uF:aeT
 ot:b7 K "reckoned" "reckoned" gq a_reckoned uF
 DC:mg "reckoned"=some (.ref a_reckoned)
 kJ:Binds K uF ["word","one","other"] []
 a_taken:Addr
 vA:aeT
 oM:b7 K "taken" "taken" iK a_taken vA
 Fz:mg "taken"=some (.ref a_taken)
 mL:Binds K vA ["run"] []
 a_make_turn:Addr
 ul:aeT
 oh:b7 K "make_turn" "make_turn" jg a_make_turn ul
 Dc:mg "make_turn"=some (.ref a_make_turn)
 l6:Binds K ul ["run"] []
 a_do_row:Addr
 u7:aeT
 oI:b7 K "do_row" "do_row" fL a_do_row u7
 EH:mg "do_row"=some (.ref a_do_row)
 mG:Binds K u7 ["run","row"] []
 a_outcome:Addr
 uQ:aeT
 oA:b7 K "outcome" "outcome" d0 a_outcome uQ
 D5:mg "outcome"=some (.ref a_outcome)
 mC:Binds K uQ ["rows","inputs","turns"] []
 a_first_run:Addr
 um:aeT
 oi:b7 K "first_run" "first_run" fJ a_first_run um
 Dd:mg "first_run"=some (.ref a_first_run)
 l7:Binds K um ["rows","inputs","turns"] []
 a_law_fit:Addr
 uR:aeT
 mD:b7 K "_law_fit" "_law_fit" jj a_law_fit uR
 y6:mg "_law_fit"=some (.ref a_law_fit)
 kM:Binds K uR ["_law_number"] []
 a_law_deed:Addr
 uG:aeT
 ou:b7 K "_law_deed" "_law_deed" gu a_law_deed uG
 DD:mg "_law_deed"=some (.ref a_law_deed)
 mn:Binds K uG ["_law_word","_law_one","_law_other"] []
 a_law_first_run:Addr
 tN:aeT
 n4:b7 K "_law_first_run" "_law_first_run" cV a_law_first_run tN
 Cy:mg "_law_first_run"=some (.ref a_law_first_run)
 lT:Binds K tN ["_law_rows","_law_inputs","_law_turns"] []
 a_law_whole:Addr
 uo:aeT
 l9:b7 K "_law_whole" "_law_whole" gP a_law_whole uo
 yC:mg "_law_whole"=some (.ref a_law_whole)
 kI:Binds K uo ["_law_found"] []
 a_law:Addr
 wD:aeT
 rG:b7 K "law" "law" bK a_law wD
 acJ:mg "law"=some (.ref a_law)
 pw:Binds K wD ["_law_script"] []
 rJ:mg "all"=none
 z8:mg "bool"=none
 De:mg "enumerate"=none
 wG:mg "int"=none
 gn:mg "isinstance"=none
 eh:mg "len"=none
 lc:mg "list"=none
 kY:mg "range"=none
 rK:mg "str"=none
 zO:mg "tuple"=none
 AF:mg "zip"=none
 mH:Addr
 vB:mg "FORMS"=some (.ref mH)
 di:KTab K mH di
 rf:Tok
 oY:mg "HALF"=some (.int (2147483648) rf)
 qH:Tok
 D6:mg "LETTERS"=some (.str "abcdefghijklmnopqrstuvwxyz" qH)
 qm:Tok
 CG:mg "MOST_LETTERS"=some (.int (6) qm)
 qr:Tok
 CU:mg "MOST_NAMES"=some (.int (12) qr)
 qy:Tok
 Df:mg "MOST_ROWS"=some (.int (60) qy)
 qu:Tok
 CV:mg "MOST_TURNS"=some (.int (10000) qu)
 mI:Addr
 FA:mg "WORDS"=some (.ref mI)
 kX:nh K mI (kX.map V.str)
 u9:Addr
 U3:aeo K ael "BadRun"=some (some (.ref u9))
 y8:mg "BadRun"=some (.ref u9)
 y9:agC K u9 pd "ValueError.__new__"=true
 ip:Addr
 ce:aeo K ael "Run"=some (some (.ref ip))
 Gu:mg "Run"=some (.ref ip)
 cm:gK K ip
 mk_Run:Mk K ip a_Run_init
 kN:dP K ip "at"
 l5:dP K ip "holds"
 t8:dP K ip "inputs"
 og:dP K ip "takes"
 uq:dP K ip "told"
 tm:dP K ip "turns_left"
 me:dP K ip "word"
 kK:Addr
 Dg:aeo K ael "ByNought"=some (some (.ref kK))
 yD:mg "ByNought"=some (.ref kK)
 Dh:ny K kK
 Di:agC K kK pd "ValueError.__new__"=true
 Dj:ahu K (.ref kK)=some (.type "type")
 Cc:ahE K (.ref kK) (.ref kK)=some true
noncomputable def Tx.cast{K K':acs}{mg JZ:Str->Option Value}(h1:K'=K)(h2:JZ=mg)(T:Tx K mg):Tx K' JZ:=by subst h1 h2;exact T
variable{X:Cx}{N N':List Str}{sc:Scope}{k:Nat}{g:GM}
theorem iX{scope:Scope}{tg:Expr}(B:Bd X N sc k)(T:Tx X.K X.mg)(hc:∀y∈scope.names,y.2≠.cell)(nd:N'.Nodup)(h:∀{Y:Cx},Bd Y N' scope k->Tx Y.K Y.mg->JG Y tg g)(cl:List (Str×Addr))(C:Addr)(aN:aem)(aU:Hp)(ex:List Addr):JG (bR X N' scope cl C aN aU ex) tg g:=h (B.bR hc nd) T
variable{t:TM}
theorem iY{scope:Scope}{ifs:List Expr}(B:Bd X N sc k)(T:Tx X.K X.mg)(hc:∀y∈scope.names,y.2≠.cell)(nd:N'.Nodup)(h:∀{Y:Cx},Bd Y N' scope k->Tx Y.K Y.mg->JF Y ifs t)(cl:List (Str×Addr))(C:Addr)(aN:aem)(aU:Hp)(ex:List Addr):JF (bR X N' scope cl C aN aU ex) ifs t:=h (B.bR hc nd) T
theorem iZ{scope:Scope}{e:Expr}{m:EM}(B:Bd X N sc k)(T:Tx X.K X.mg)(hc:∀y∈scope.names,y.2≠.cell)(nd:N'.Nodup)(h:∀{Y:Cx},Bd Y N' scope k->Tx Y.K Y.mg->JE Y e m)(cl:List (Str×Addr))(C:Addr)(aN:aem)(aU:Hp)(ex:List Addr):JE (bR X N' scope cl C aN aU ex) e m:=h (B.bR hc nd) T
theorem qq:bw "_law_script"=true:=nofun
theorem mJ:bw "_law_k"=true:=nofun
theorem zv:bw "_law_n"=true:=nofun
theorem qz:bw "_law_many"=true:=nofun
theorem yE:bw "_law_some"=true:=nofun
theorem RM:bw "_law_size"=true:=nofun
theorem U4:bw "_law_at"=true:=nofun
theorem uc:bw "_law_names"=true:=nofun
theorem yF:bw "_law_word"=true:=nofun
theorem RN:bw "_law_sign"=true:=nofun
theorem RO:bw "_law_back"=true:=nofun
theorem EI:bw "_law_j"=true:=nofun
theorem yG:bw "_law_cell"=true:=nofun
theorem yH:bw "_law_more"=true:=nofun
theorem kG:bw "_law_place"=true:=nofun
theorem qv:bw "_law_turns"=true:=nofun
theorem yP:bw "_law_one"=true:=nofun
theorem CW:bw "_law_other"=true:=nofun
theorem QI:bw "_law_third"=true:=nofun
theorem RP:bw "_law_kind"=true:=nofun
theorem QJ:bw "_law_first"=true:=nofun
theorem qA:bw "_law_rows"=true:=nofun
theorem yQ:bw "_law_row"=true:=nofun
theorem kT:bw "thing"=true:=nofun
theorem Yw:bw "sign"=true:=nofun
theorem yx:bw "last_place"=true:=nofun
theorem zP:bw "kind"=true:=nofun
theorem rg:bw "row"=true:=nofun
theorem WJ:bw "kinds"=true:=nofun
theorem U5:bw "wanted"=true:=nofun
theorem vC:bw "rows"=true:=nofun
theorem Hn:bw "at"=true:=nofun
theorem WK:bw "place"=true:=nofun
theorem EJ:bw "names"=true:=nofun
theorem aaZ:bw "met"=true:=nofun
theorem FC:bw "name"=true:=nofun
theorem uS:bw "inputs"=true:=nofun
theorem vc:bw "turns"=true:=nofun
theorem Yx:bw "self"=true:=nofun
theorem mT:bw "run"=true:=nofun
theorem U6:bw "number"=true:=nofun
theorem Gv:bw "one"=true:=nofun
theorem EK:bw "other"=true:=nofun
theorem Yy:bw "word"=true:=nofun
theorem P9:bw "_law_number"=true:=nofun
theorem CO:bw "_law_inputs"=true:=nofun
theorem QK:bw "_law_store"=true:=nofun
theorem RQ:bw "_law_told"=true:=nofun
theorem QL:bw "_law_taken"=true:=nofun
theorem CY:bw "_law_found"=true:=nofun
theorem CZ:bw "_law_front"=true:=nofun
theorem Qa:bw "_law_handed"=true:=nofun
theorem Tb:bw "_law_due"=true:=nofun
theorem Mw:aH (ah hW) "_law_script":=.inl nofun
theorem Mx:aH (ah hW) "_law_k":=.inl nofun
theorem LM:(ah hW).names.lookup ("len":Str)=some .globalImplicit:=nofun
theorem LN:aH (ah cN) "_law_n":=.inr (.inl nofun)
theorem LO:aH (ah cN) "_law_many":=.inl nofun
theorem LP:aH (ah cN) "_law_some":=.inr (.inl nofun)
theorem LQ:Loc (ah cN) "_law_some":=.inr nofun
theorem LR:aH (ah cN) "_law_size":=.inl nofun
theorem LS:Loc (ah cN) "_law_size":=.inl nofun
theorem LU:aH (ah cN) "_law_at":=.inl nofun
theorem LV:Loc (ah cN) "_law_at":=.inl nofun
theorem LW:aH (ah cN) "_law_names":=.inl nofun
theorem LX:Loc (ah cN) "_law_names":=.inl nofun
theorem LY:aH (ah cN) "_law_k":=.inr (.inl nofun)
theorem LZ:Loc (ah cN) "_law_k":=.inr nofun
theorem L0:aH (ah cN) "_law_word":=.inl nofun
theorem Ck:Loc (ah cN) "_law_word":=.inl nofun
theorem L7:aH (ah cN) "_law_sign":=.inl nofun
theorem L8:Loc (ah cN) "_law_sign":=.inl nofun
theorem L9:aH (ah cN) "_law_back":=.inl nofun
theorem Ma:Loc (ah cN) "_law_back":=.inl nofun
theorem yf:(ah cN).names.lookup ("range":Str)=some .globalImplicit:=nofun
theorem Lb:aH (ah jd) "_law_cell":=.inl nofun
theorem My:aH (ah gj) "_law_more":=.inl nofun
theorem Mz:aH (ah gj) "_law_place":=.inl nofun
theorem MA:aH (ah gj) "_law_many":=.inl nofun
theorem MB:aH (ah gj) "_law_turns":=.inl nofun
theorem Mb:(ah gj).names.lookup ("len":Str)=some .globalImplicit:=nofun
theorem MX:aH (ah cE) "_law_cell":=.inl nofun
theorem MY:Loc (ah cE) "_law_cell":=.inl nofun
theorem MZ:aH (ah cE) "_law_place":=.inl nofun
theorem M0:aH (ah cE) "_law_many":=.inl nofun
theorem M1:aH (ah cE) "_law_names":=.inl nofun
theorem M2:aH (ah cE) "_law_turns":=.inl nofun
theorem M3:aH (ah cE) "_law_more":=.inl nofun
theorem M4:Loc (ah cE) "_law_more":=.inl nofun
theorem M5:aH (ah cE) "_law_one":=.inl nofun
theorem M6:Loc (ah cE) "_law_one":=.inl nofun
theorem M7:aH (ah cE) "_law_other":=.inl nofun
theorem M8:Loc (ah cE) "_law_other":=.inl nofun
theorem M9:aH (ah cE) "_law_third":=.inl nofun
theorem Na:Loc (ah cE) "_law_third":=.inl nofun
theorem Nb:aH (ah cE) "_law_kind":=.inl nofun
theorem Nc:Loc (ah cE) "_law_kind":=.inl nofun
theorem MC:aH (ah cE) "_law_word":=.inl nofun
theorem MD:Loc (ah cE) "_law_word":=.inl nofun
theorem yn:(ah cE).names.lookup ("len":Str)=some .globalImplicit:=nofun
theorem Ks:(ah cE).names.lookup ("_law_number_by":Str)=some .globalImplicit:=nofun
theorem B9:(ah cE).names.lookup ("_law_jump_by":Str)=some .globalImplicit:=nofun
theorem ME:aH (ah dr) "_law_script":=.inl nofun
theorem MF:aH (ah dr) "_law_first":=.inl nofun
theorem MG:aH (ah dr) "_law_many":=.inl nofun
theorem MH:aH (ah dr) "_law_names":=.inl nofun
theorem MI:aH (ah dr) "_law_rows":=.inl nofun
theorem MJ:Loc (ah dr) "_law_rows":=.inl nofun
theorem MK:aH (ah dr) "_law_turns":=.inl nofun
theorem ML:Loc (ah dr) "_law_turns":=.inl nofun
theorem MM:aH (ah dr) "_law_place":=.inl nofun
theorem MN:Loc (ah dr) "_law_place":=.inl nofun
theorem K4:(ah dr).names.lookup ("range":Str)=some .globalImplicit:=nofun
theorem Kt:(ah dr).names.lookup ("_law_cell_at":Str)=some .globalImplicit:=nofun
theorem Kw:(ah dr).names.lookup ("_law_row_by":Str)=some .globalImplicit:=nofun
theorem MO:aH (ah iG) "_law_row":=.inl nofun
theorem MP:aH (ah iG) "_law_more":=.inl nofun
theorem Qb:aH (ah fK) "thing":=.inl nofun
theorem KQ:(ah fK).names.lookup ("isinstance":Str)=some .globalImplicit:=nofun
theorem ON:(ah fK).names.lookup ("str":Str)=some .globalImplicit:=nofun
theorem OO:(ah fK).names.lookup ("len":Str)=some .globalImplicit:=nofun
theorem KC:(ah fK).names.lookup ("MOST_LETTERS":Str)=some .globalImplicit:=nofun
theorem OP:(ah fK).names.lookup ("all":Str)=some .globalImplicit:=nofun
theorem N8:aH (ah gp) "thing":=.inl nofun
theorem Ca:(ah gp).names.lookup ("isinstance":Str)=some .globalImplicit:=nofun
theorem Nd:(ah gp).names.lookup ("int":Str)=some .globalImplicit:=nofun
theorem MQ:(ah gp).names.lookup ("bool":Str)=some .globalImplicit:=nofun
theorem Cq:(ah gp).names.lookup ("HALF":Str)=some .globalImplicit:=nofun
theorem Qc:aH (ah gS) "thing":=.inl nofun
theorem KR:(ah gS).names.lookup ("isinstance":Str)=some .globalImplicit:=nofun
theorem OQ:(ah gS).names.lookup ("str":Str)=some .globalImplicit:=nofun
theorem Nf:(ah gS).names.lookup ("WORDS":Str)=some .globalImplicit:=nofun
theorem OR:aH (ah h9) "thing":=.inl nofun
theorem OS:aH (ah h9) "last_place":=.inl nofun
theorem KS:(ah h9).names.lookup ("is_number":Str)=some .globalImplicit:=nofun
theorem Qd:aH (ah fq) "kind":=.inl nofun
theorem Qe:aH (ah fq) "thing":=.inl nofun
theorem Qf:aH (ah fq) "last_place":=.inl nofun
theorem Mc:(ah fq).names.lookup ("is_name":Str)=some .globalImplicit:=nofun
theorem K5:(ah fq).names.lookup ("is_number":Str)=some .globalImplicit:=nofun
theorem Md:(ah fq).names.lookup ("is_word":Str)=some .globalImplicit:=nofun
theorem Lc:(ah fq).names.lookup ("is_place":Str)=some .globalImplicit:=nofun
theorem QM:aH (ah d5) "row":=.inl nofun
theorem QN:aH (ah d5) "kinds":=.inl nofun
theorem QO:Loc (ah d5) "kinds":=.inl nofun
theorem Cd:(ah d5).names.lookup ("isinstance":Str)=some .globalImplicit:=nofun
theorem N9:(ah d5).names.lookup ("tuple":Str)=some .globalImplicit:=nofun
theorem yy:(ah d5).names.lookup ("len":Str)=some .globalImplicit:=nofun
theorem Qg:(ah d5).names.lookup ("str":Str)=some .globalImplicit:=nofun
theorem Cz:(ah d5).names.lookup ("FORMS":Str)=some .globalImplicit:=nofun
theorem Qh:(ah d5).names.lookup ("zip":Str)=some .globalImplicit:=nofun
theorem Qi:(ah d5).names.lookup ("all":Str)=some .globalImplicit:=nofun
theorem Ld:aH (ah hV) "row":=.inl nofun
theorem KD:(ah hV).names.lookup ("FORMS":Str)=some .globalImplicit:=nofun
theorem K6:(ah hV).names.lookup ("zip":Str)=some .globalImplicit:=nofun
theorem KG:aH (ah gg) "rows":=.inl nofun
theorem KH:aH (ah gg) "at":=.inl nofun
theorem KI:aH (ah gg) "place":=.inl nofun
theorem KJ:Loc (ah gg) "place":=.inl nofun
theorem Ko:(ah gg).names.lookup ("parts_of_kind":Str)=some .globalImplicit:=nofun
theorem Le:aH (ah eP) "row":=.inl nofun
theorem Lf:aH (ah eP) "names":=.inl nofun
theorem Lg:aH (ah eP) "met":=.inl nofun
theorem Lh:Loc (ah eP) "met":=.inl nofun
theorem Li:aH (ah eP) "name":=.inl nofun
theorem Lj:Loc (ah eP) "name":=.inl nofun
theorem KU:(ah eP).names.lookup ("list":Str)=some .globalImplicit:=nofun
theorem Kq:(ah eP).names.lookup ("parts_of_kind":Str)=some .globalImplicit:=nofun
theorem Me:aH (ah cW) "rows":=.inl nofun
theorem Mf:aH (ah cW) "names":=.inl nofun
theorem Cm:Loc (ah cW) "names":=.inl nofun
theorem Mg:aH (ah cW) "at":=.inl nofun
theorem Mh:Loc (ah cW) "at":=.inl nofun
theorem Mi:aH (ah cW) "row":=.inl nofun
theorem Mj:Loc (ah cW) "row":=.inl nofun
theorem Ku:(ah cW).names.lookup ("isinstance":Str)=some .globalImplicit:=nofun
theorem K7:(ah cW).names.lookup ("list":Str)=some .globalImplicit:=nofun
theorem yh:(ah cW).names.lookup ("len":Str)=some .globalImplicit:=nofun
theorem Kx:(ah cW).names.lookup ("MOST_ROWS":Str)=some .globalImplicit:=nofun
theorem Ky:(ah cW).names.lookup ("enumerate":Str)=some .globalImplicit:=nofun
theorem KN:(ah cW).names.lookup ("is_row":Str)=some .globalImplicit:=nofun
theorem Kp:(ah cW).names.lookup ("jumps_back_badly":Str)=some .globalImplicit:=nofun
theorem Kr:(ah cW).names.lookup ("with_names_of":Str)=some .globalImplicit:=nofun
theorem Kv:(ah cW).names.lookup ("MOST_NAMES":Str)=some .globalImplicit:=nofun
theorem OT:aH (ah eR) "inputs":=.inl nofun
theorem OU:aH (ah eR) "turns":=.inl nofun
theorem KO:(ah eR).names.lookup ("isinstance":Str)=some .globalImplicit:=nofun
theorem Ng:(ah eR).names.lookup ("list":Str)=some .globalImplicit:=nofun
theorem Oa:(ah eR).names.lookup ("all":Str)=some .globalImplicit:=nofun
theorem Cn:(ah eR).names.lookup ("BadRun":Str)=some .globalImplicit:=nofun
theorem KW:(ah eR).names.lookup ("is_number":Str)=some .globalImplicit:=nofun
theorem KP:(ah eR).names.lookup ("MOST_TURNS":Str)=some .globalImplicit:=nofun
theorem OV:aH (ah gQ) "self":=.inl nofun
theorem OW:aH (ah gQ) "inputs":=.inl nofun
theorem OX:aH (ah gQ) "turns":=.inl nofun
theorem Nh:(ah gQ).names.lookup ("list":Str)=some .globalImplicit:=nofun
theorem Tc:aH (ah iO) "run":=.inl nofun
theorem Td:aH (ah iO) "name":=.inl nofun
theorem U7:aH (ah iU) "number":=.inl nofun
theorem yI:(ah iU).names.lookup ("HALF":Str)=some .globalImplicit:=nofun
theorem QP:aH (ah gU) "one":=.inl nofun
theorem QQ:aH (ah gU) "other":=.inl nofun
theorem Ml:(ah gU).names.lookup ("ByNought":Str)=some .globalImplicit:=nofun
theorem Qj:(ah gU).names.lookup ("fit":Str)=some .globalImplicit:=nofun
theorem OY:aH (ah gq) "word":=.inl nofun
theorem OZ:aH (ah gq) "one":=.inl nofun
theorem O0:aH (ah gq) "other":=.inl nofun
theorem yt:(ah gq).names.lookup ("fit":Str)=some .globalImplicit:=nofun
theorem Mm:(ah gq).names.lookup ("parted":Str)=some .globalImplicit:=nofun
theorem RR:aH (ah iK) "run":=.inl nofun
theorem QR:(ah iK).names.lookup ("len":Str)=some .globalImplicit:=nofun
theorem Ob:aH (ah jg) "run":=.inl nofun
theorem QS:aH (ah fL) "run":=.inl nofun
theorem QT:aH (ah fL) "row":=.inl nofun
theorem qo:(ah fL).names.lookup ("held":Str)=some .globalImplicit:=nofun
theorem Mn:(ah fL).names.lookup ("reckoned":Str)=some .globalImplicit:=nofun
theorem Oc:(ah fL).names.lookup ("taken":Str)=some .globalImplicit:=nofun
theorem Lk:(ah fL).names.lookup ("make_turn":Str)=some .globalImplicit:=nofun
theorem Qk:aH (ah d0) "inputs":=.inl nofun
theorem Ql:aH (ah d0) "turns":=.inl nofun
theorem yz:aH (ah d0) "run":=.inl nofun
theorem Qm:Loc (ah d0) "run":=.inl nofun
theorem O1:(ah d0).names.lookup ("Run":Str)=some .globalImplicit:=nofun
theorem Ll:(ah d0).names.lookup ("ByNought":Str)=some .globalImplicit:=nofun
theorem Od:aH (kz (ah d0) "run") "rows":=.inl nofun
theorem Oe:aH (kz (ah d0) "run") "run":=.inr (.inr nofun)
theorem Ni:(kz (ah d0) "run").names.lookup ("len":Str)=some .globalImplicit:=nofun
theorem Lm:(kz (ah d0) "run").names.lookup ("do_row":Str)=some .globalImplicit:=nofun
theorem Of:aH (ah fJ) "rows":=.inl nofun
theorem Og:aH (ah fJ) "inputs":=.inl nofun
theorem Oh:aH (ah fJ) "turns":=.inl nofun
theorem Kz:(ah fJ).names.lookup ("need_program":Str)=some .globalImplicit:=nofun
theorem KY:(ah fJ).names.lookup ("need_run":Str)=some .globalImplicit:=nofun
theorem K8:(ah fJ).names.lookup ("outcome":Str)=some .globalImplicit:=nofun
theorem Qn:aH (ah jj) "_law_number":=.inl nofun
theorem O2:aH (ah gu) "_law_word":=.inl nofun
theorem O3:aH (ah gu) "_law_one":=.inl nofun
theorem O4:aH (ah gu) "_law_other":=.inl nofun
theorem Oi:(ah gu).names.lookup ("int":Str)=some .globalImplicit:=nofun
theorem Cf:(ah gu).names.lookup ("_law_fit":Str)=some .globalImplicit:=nofun
theorem Ln:aH (ah cV) "_law_rows":=.inl nofun
theorem Lo:aH (ah cV) "_law_inputs":=.inl nofun
theorem Lp:aH (ah cV) "_law_turns":=.inl nofun
theorem Lq:Loc (ah cV) "_law_turns":=.inl nofun
theorem Lr:aH (ah cV) "_law_store":=.inl nofun
theorem Ls:Loc (ah cV) "_law_store":=.inl nofun
theorem Lu:aH (ah cV) "_law_told":=.inl nofun
theorem Lv:Loc (ah cV) "_law_told":=.inl nofun
theorem Lw:aH (ah cV) "_law_taken":=.inl nofun
theorem Cg:Loc (ah cV) "_law_taken":=.inl nofun
theorem Lx:aH (ah cV) "_law_place":=.inl nofun
theorem td:Loc (ah cV) "_law_place":=.inl nofun
theorem Ly:aH (ah cV) "_law_row":=.inl nofun
theorem Lz:Loc (ah cV) "_law_row":=.inl nofun
theorem K9:(ah cV).names.lookup ("len":Str)=some .globalImplicit:=nofun
theorem KA:(ah cV).names.lookup ("_law_deed":Str)=some .globalImplicit:=nofun
theorem Oj:aH (ah gP) "_law_found":=.inl nofun
theorem Cb:(ah gP).names.lookup ("isinstance":Str)=some .globalImplicit:=nofun
theorem Nj:(ah gP).names.lookup ("int":Str)=some .globalImplicit:=nofun
theorem MR:(ah gP).names.lookup ("bool":Str)=some .globalImplicit:=nofun
theorem U8:aH (ah bK) "_law_script":=.inr (.inl nofun)
theorem U9:aH (ah bK) "_law_names":=.inl nofun
theorem Va:Loc (ah bK) "_law_names":=.inl nofun
theorem Vb:aH (ah bK) "_law_many":=.inl nofun
theorem za:Loc (ah bK) "_law_many":=.inl nofun
theorem Vc:aH (ah bK) "_law_rows":=.inr (.inl nofun)
theorem zb:Loc (ah bK) "_law_rows":=.inr nofun
theorem Vd:aH (ah bK) "_law_front":=.inr (.inl nofun)
theorem Ve:Loc (ah bK) "_law_front":=.inr nofun
theorem Vf:aH (ah bK) "_law_cell":=.inl nofun
theorem Vg:Loc (ah bK) "_law_cell":=.inl nofun
theorem Vh:aH (ah bK) "_law_inputs":=.inl nofun
theorem D7:Loc (ah bK) "_law_inputs":=.inl nofun
theorem Vi:aH (ah bK) "_law_turns":=.inl nofun
theorem uT:Loc (ah bK) "_law_turns":=.inl nofun
theorem Vj:aH (ah bK) "_law_handed":=.inl nofun
theorem Vk:Loc (ah bK) "_law_handed":=.inl nofun
theorem Vl:aH (ah bK) "_law_found":=.inl nofun
theorem Vm:Loc (ah bK) "_law_found":=.inl nofun
theorem Te:aH (ah bK) "_law_due":=.inl nofun
theorem Tf:Loc (ah bK) "_law_due":=.inl nofun
theorem kD:(ah bK).names.lookup ("_law_cell_at":Str)=some .globalImplicit:=nofun
theorem LA:(ah bK).names.lookup ("_law_names_by":Str)=some .globalImplicit:=nofun
theorem Mp:(ah bK).names.lookup ("_law_rows_by":Str)=some .globalImplicit:=nofun
theorem DE:(ah bK).names.lookup ("len":Str)=some .globalImplicit:=nofun
theorem yB:(ah bK).names.lookup ("range":Str)=some .globalImplicit:=nofun
theorem yJ:(ah bK).names.lookup ("list":Str)=some .globalImplicit:=nofun
theorem Nk:(ah bK).names.lookup ("first_run":Str)=some .globalImplicit:=nofun
theorem La:(ah bK).names.lookup ("_law_first_run":Str)=some .globalImplicit:=nofun
theorem yo:(ah bK).names.lookup ("isinstance":Str)=some .globalImplicit:=nofun
theorem QU:(ah bK).names.lookup ("tuple":Str)=some .globalImplicit:=nofun
theorem Tg:(ah bK).names.lookup ("str":Str)=some .globalImplicit:=nofun
theorem Nl:(ah bK).names.lookup ("_law_whole":Str)=some .globalImplicit:=nofun
theorem Th:(ah bK).names.lookup ("all":Str)=some .globalImplicit:=nofun
section
variable{P:afm}{w:World}{K:acs}{mg:Str->Option Value}{base:Heap}
theorem O5:b8 ["_law_script","_law_k"] ["_law_script","_law_k"] (ah hW):=⟨rfl,rfl,rfl,nofun,rfl,nofun,nofun⟩
variable{X:Cx}
theorem Nn(T:Tx X.K X.mg)(B:Bd X ["_law_script","_law_k"] (ah hW) 0)(hF:bY X)(aF:X.env.scope=ah hW):JB X (aZ hW) eQ:=
 have v0 {p:Pos}:JE X (.Name "_law_script" p) (ae 0):=B.jv 0 rfl Mw qq;have v1 {p:Pos}:JE X (.Name "_law_k" p) (ae 1):=B.jv 1 rfl Mx mJ
 (aK (bi (aW iS v1 (dw rfl nofun nofun eA eE (B.gl _ LM) T.eh aeZ (aj rfl v0 az))) (aG (bo (B.ak v0 v1))) bG) (aG (bo ao)))
theorem iF(T:Tx K mg):bF P w K mg base (bE P w) 1 T.a_law_cell_at T.t4 ["_law_script","_law_k"] (bP K mg 2 (fM eQ 2 2)):=cv rfl rfl T.fk O5 fun{X} h1 h2 h3 h4 h5 B hF aF=>by subst h3 h4;exact Nn T B hF aF
theorem Ol:b8 ["_law_n","_law_many","_law_some","_law_size","_law_at","_law_names","_law_k","_law_word","_law_sign","_law_back"] ["_law_n","_law_many"] (ah cN):=⟨rfl,rfl,rfl,nofun,rfl,nofun,nofun⟩
theorem MT(T:Tx X.K X.mg)(B:Bd X ["_law_n","_law_many","_law_some","_law_size","_law_at","_law_names","_law_k","_law_word","_law_sign","_law_back"] (ah cN) 0)(hF:bY X)(aF:X.env.scope=ah cN):JB X (aZ cN) lV:=
 have v0 {p:Pos}:JE X (.Name "_law_n" p) (ae 0):=B.jv 0 rfl LN zv;have v1 {p:Pos}:JE X (.Name "_law_many" p) (ae 1):=B.jv 1 rfl LO qz;have v2 {p:Pos}:JE X (.Name "_law_some" p) (ae 2):=B.jv 2 rfl LP yE;have v3 {p:Pos}:JE X (.Name "_law_size" p) (ae 3):=B.jv 3 rfl LR RM;have v4 {p:Pos}:JE X (.Name "_law_at" p) (ae 4):=B.jv 4 rfl LU U4;have v5 {p:Pos}:JE X (.Name "_law_names" p) (ae 5):=B.jv 5 rfl LW uc;have v6 {p:Pos}:JE X (.Name "_law_k" p) (ae 6):=B.jv 6 rfl LY mJ;have v7 {p:Pos}:JE X (.Name "_law_word" p) (ae 7):=B.jv 7 rfl L0 yF;have v8 {p:Pos}:JE X (.Name "_law_sign" p) (ae 8):=B.jv 8 rfl L7 RN;have v9 {p:Pos}:JE X (.Name "_law_back" p) (ae 9):=B.jv 9 rfl L9 RO
 (aK (B.bI 2 rfl LQ rfl aT) (aK (B.bI 3 rfl LS rfl (cb ao (bQ (cj v0 ao) ao))) (aK (B.bI 4 rfl LV rfl (bQ (cj v0 ao) v3)) (aK (B.bI 5 rfl LX rfl (du az)) (aK (B.rT (ms (B.gl _ yf) T.kY rfl (aj rfl v1 az)) (B.d9 6 rfl LZ) (aK (zH (i:=7) (by rw[B.hN];exact B.nd) (by rw[B.hN];rfl) (B.fn _ Ck).2 (by rw[aF];decide +kernel) B.calm (N':=["_law_j","_law_some","_law_k","_law_n"]) (Bd.cap B.hN aF nofun) (ms (B.gl _ yf) T.kY rfl (aj rfl ao az)) (iX B T nofun nofun fun{X} B T=>(B.d9 0 rfl (.inl rfl))) (iY B T nofun nofun fun{X} B T=>jR) (iZ B T nofun nofun fun{X} B T=>(B.ak (B.jv 1 rfl (.inr (.inr rfl)) yE) (bQ (cb (cb (cj (B.jv 3 rfl (.inr (.inr rfl)) zv) ao) (ia ao (B.jv 0 rfl (.inl rfl) EI))) (cj (B.jv 2 rfl (.inr (.inr rfl)) mJ) ao)) ao))) (yV (by rw[aF];rfl) (by rw[aF];decide +kernel) rfl nofun)) (aG (bi (aW B.eq (bQ v0 ao) ao) (aG (gV rfl (dJ rfl rfl aeX afc afd ji jt jN v5 (aj rfl (dJ rfl rfl agI agQ agR vt vM vv aT (aj rfl (jY v7 mK (iI (cb ao (bQ (cb (cj v0 ao) v6) ao)))) az)) az)))) (aG (bi (aW B.eq (bQ v0 ao) ao) (aK (zH (i:=7) (by rw[B.hN];exact B.nd) (by rw[B.hN];rfl) (B.fn _ Ck).2 (by rw[aF];decide +kernel) B.calm (N':=["_law_j","_law_some","_law_n"]) (Bd.cap B.hN aF nofun) (ms (B.gl _ yf) T.kY rfl (aj rfl ao az)) (iX B T nofun nofun fun{X} B T=>(B.d9 0 rfl (.inl rfl))) (iY B T nofun nofun fun{X} B T=>jR) (iZ B T nofun nofun fun{X} B T=>(B.ak (B.jv 1 rfl (.inr (.inr rfl)) yE) (bQ (cb (cj (B.jv 2 rfl (.inr (.inr rfl)) zv) ao) (ia ao (B.jv 0 rfl (.inl rfl) EI))) ao))) (yV (by rw[aF];rfl) (by rw[aF];decide +kernel) rfl nofun)) (aK (B.bI 8 rfl L8 rfl (B.ak v2 (bQ (cb (cj v0 ao) v6) ao))) (aK (B.bI 9 rfl Ma rfl (dJ rfl rfl agI agQ agR vt vM vv aT (aj rfl (jY v7 (iI (cb v4 ao)) (iI v3)) az))) (aG (gV rfl (dJ rfl rfl aeX afc afd ji jt jN v5 (aj rfl (cb (cb (dJ rfl rfl agI agQ agR vt vM vv aT (aj rfl (jY v7 mK (iI v4)) az)) v8) v9) az))))))) (aG (gV rfl (dJ rfl rfl aeX afc afd ji jt jN v5 (aj rfl (dJ rfl rfl agI agQ agR vt vM vv aT (aj rfl (cb (jY v7 (iI (bQ v6 ao)) mK) (jY v7 mK (iI (bQ v6 ao)))) az)) az)))))))))) (aG (bo v5)))))))
theorem Om(T:Tx K mg):bF P w K mg base (bE P w) 1 T.a_law_names_by T.tU ["_law_n","_law_many"] (bP K mg 2 (fM lV 10 2)):=cv rfl rfl T.n5 Ol fun{X} h1 h2 h3 h4 h5 B hF aF=>by subst h3 h4;exact MT T B hF aF
theorem Np:b8 ["_law_cell"] ["_law_cell"] (ah jd):=⟨rfl,rfl,rfl,nofun,rfl,nofun,nofun⟩
theorem Mq(T:Tx X.K X.mg)(B:Bd X ["_law_cell"] (ah jd) 0)(hF:bY X)(aF:X.env.scope=ah jd):JB X (aZ jd) jK:=
 have v0 {p:Pos}:JE X (.Name "_law_cell" p) (ae 0):=B.jv 0 rfl Lb yG
 (aK (bi (aW B.eq (bQ v0 ao) ao) (aG (bo (B.ak (du (aj rfl ao (aj rfl (jo ao) (aj rfl ao (aj rfl (jo ao) (aj rfl ao (aj rfl (jo ao) (aj rfl ao (aj rfl ao az))))))))) (bQ (cj v0 ao) ao)))) bG) (aK (bi (aW B.eq (bQ v0 ao) ao) (aG (bo (iN (bQ (ia (cj v0 ao) ao) ao) ao))) bG) (aK (bi (aW B.eq (bQ v0 ao) ao) (aG (bo (iN (bQ (cj v0 ao) ao) ao))) bG) (aG (bo (iN (bQ (cj v0 ao) ao) ao))))))
theorem yp(T:Tx K mg):bF P w K mg base (bE P w) 1 T.a_law_number_by T.tH ["_law_cell"] (bP K mg 1 (fM jK 1 1)):=cv rfl rfl T.kF Np fun{X} h1 h2 h3 h4 h5 B hF aF=>by subst h3 h4;exact Mq T B hF aF
theorem O6:b8 ["_law_more","_law_place","_law_many","_law_turns"] ["_law_more","_law_place","_law_many","_law_turns"] (ah gj):=⟨rfl,rfl,rfl,nofun,rfl,nofun,nofun⟩
theorem Nq(T:Tx X.K X.mg)(B:Bd X ["_law_more","_law_place","_law_many","_law_turns"] (ah gj) 0)(hF:bY X)(aF:X.env.scope=ah gj):JB X (aZ gj) jL:=
 have v0 {p:Pos}:JE X (.Name "_law_more" p) (ae 0):=B.jv 0 rfl My yH;have v1 {p:Pos}:JE X (.Name "_law_place" p) (ae 1):=B.jv 1 rfl Mz kG;have v2 {p:Pos}:JE X (.Name "_law_many" p) (ae 2):=B.jv 2 rfl MA qz;have v3 {p:Pos}:JE X (.Name "_law_turns" p) (ae 3):=B.jv 3 rfl MB qv
 (aK (bi (ej (k7 (aW B.ne v3 (du az)) (d7 (aW B.eq (bQ v0 ao) ao)))) (aG (bo (B.ak v3 (bQ (cj v0 ao) (dw rfl nofun nofun eA eE (B.gl _ Mb) T.eh aeZ (aj rfl v3 az)))))) bG) (aG (bo (cb (cb v1 ao) (bQ (cj v0 ao) (iN v2 v1))))))
theorem CH(T:Tx K mg):bF P w K mg base (bE P w) 1 T.a_law_jump_by T.t5 ["_law_more","_law_place","_law_many","_law_turns"] (bP K mg 4 (fM jL 4 4)):=cv rfl rfl T.l3 O6 fun{X} h1 h2 h3 h4 h5 B hF aF=>by subst h3 h4;exact Nq T B hF aF
theorem Qo:b8 ["_law_cell","_law_place","_law_many","_law_names","_law_turns","_law_more","_law_one","_law_other","_law_third","_law_kind","_law_word"] ["_law_cell","_law_place","_law_many","_law_names","_law_turns"] (ah cE):=⟨rfl,rfl,rfl,nofun,rfl,nofun,nofun⟩
theorem Oo(T:Tx X.K X.mg)(B:Bd X ["_law_cell","_law_place","_law_many","_law_names","_law_turns","_law_more","_law_one","_law_other","_law_third","_law_kind","_law_word"] (ah cE) 1)(hF:bY X)(aF:X.env.scope=ah cE):JB X (aZ cE) l4:=
 have v0 {p:Pos}:JE X (.Name "_law_cell" p) (ae 0):=B.jv 0 rfl MX yG;have v1 {p:Pos}:JE X (.Name "_law_place" p) (ae 1):=B.jv 1 rfl MZ kG;have v2 {p:Pos}:JE X (.Name "_law_many" p) (ae 2):=B.jv 2 rfl M0 qz;have v3 {p:Pos}:JE X (.Name "_law_names" p) (ae 3):=B.jv 3 rfl M1 uc;have v4 {p:Pos}:JE X (.Name "_law_turns" p) (ae 4):=B.jv 4 rfl M2 qv;have v5 {p:Pos}:JE X (.Name "_law_more" p) (ae 5):=B.jv 5 rfl M3 yH;have v6 {p:Pos}:JE X (.Name "_law_one" p) (ae 6):=B.jv 6 rfl M5 yP;have v7 {p:Pos}:JE X (.Name "_law_other" p) (ae 7):=B.jv 7 rfl M7 CW;have v8 {p:Pos}:JE X (.Name "_law_third" p) (ae 8):=B.jv 8 rfl M9 QI;have v9 {p:Pos}:JE X (.Name "_law_kind" p) (ae 9):=B.jv 9 rfl Nb RP;have sH {p:Pos}:JE X (.Name "_law_word" p) (ae 10):=B.jv 10 rfl MC yF
 (aK (B.bI 0 rfl MY rfl (bQ (ia v0 ao) ao)) (aK (B.bI 5 rfl M4 rfl (cj v0 ao)) (aK (B.bI 6 rfl M6 rfl (B.ak v3 (bQ v5 (dw rfl nofun nofun eA eE (B.gl _ yn) T.eh aeZ (aj rfl v3 az))))) (aK (B.bI 7 rfl M8 rfl (B.ak v3 (bQ (cj v5 ao) (dw rfl nofun nofun eA eE (B.gl _ yn) T.eh aeZ (aj rfl v3 az))))) (aK (B.bI 8 rfl Na rfl (B.ak v3 (bQ (cj v5 ao) (dw rfl nofun nofun eA eE (B.gl _ yn) T.eh aeZ (aj rfl v3 az))))) (aK (B.bI 9 rfl Nc rfl (bQ v0 ao)) (aK (bi (aW iS v9 ao) (aG (bo (B.ak (du (aj rfl (cT (aj rfl aT (aj rfl v6 (aj rfl (bt rfl nofun (yp T) bp (B.room.mono (by decide)) (B.gl _ Ks) T.tJ T.kF.kp T.jK (aj rfl (cj v5 ao) az)) az)))) (aj rfl (cT (aj rfl aT (aj rfl v6 (aj rfl v7 az)))) (aj rfl (cT (aj rfl aT (aj rfl v6 az))) az)))) v9))) bG) (aK (bi (aW iS v9 ao) (aK (B.bI 10 rfl MD rfl (B.ak (du (aj rfl aT (aj rfl aT (aj rfl aT (aj rfl aT (aj rfl aT (aj rfl aT az))))))) (bQ (cj v5 ao) ao))) (aG (bo (cT (aj rfl aT (aj rfl v6 (aj rfl sH (aj rfl v7 (aj rfl v8 az))))))))) bG) (aK (bi (aW iS v9 ao) (aG (bo (B.ak (du (aj rfl (cT (aj rfl aT (aj rfl v6 az))) (aj rfl (cT (aj rfl aT az)) az))) (iN v9 ao)))) bG) (aK (bi (aW iS v9 ao) (aG (bo (cT (aj rfl aT (aj rfl v6 (aj rfl (bt rfl nofun (CH T) bp (B.room.mono (by decide)) (B.gl _ B9) T.yw T.l3.kp T.jL (aj rfl (cj v5 ao) (aj rfl v1 (aj rfl v2 (aj rfl v4 az))))) az)))))) bG) (aK (bi (aW B.eq v9 ao) (aG (bo (cT (aj rfl aT (aj rfl (bt rfl nofun (CH T) bp (B.room.mono (by decide)) (B.gl _ B9) T.yw T.l3.kp T.jL (aj rfl (cj v5 ao) (aj rfl v1 (aj rfl v2 (aj rfl v4 az))))) az))))) bG) (aG (bo (B.ak (du (aj rfl (cT (aj rfl aT az)) (aj rfl (cT (aj rfl aT (aj rfl v6 az))) (aj rfl (cT (aj rfl aT az)) az)))) (bQ (cj v5 ao) ao)))))))))))))))
theorem Qp(T:Tx K mg):bF P w K mg base (bE P w) 2 T.a_law_row_by T.ub ["_law_cell","_law_place","_law_many","_law_names","_law_turns"] (bP K mg 5 (fM l4 11 5)):=cv rfl rfl T.oa Qo fun{X} h1 h2 h3 h4 h5 B hF aF=>by subst h3 h4;exact Oo T B hF aF
theorem O7:b8 ["_law_script","_law_first","_law_many","_law_names","_law_rows","_law_turns","_law_place"] ["_law_script","_law_first","_law_many","_law_names"] (ah dr):=⟨rfl,rfl,rfl,nofun,rfl,nofun,nofun⟩
theorem Nr(T:Tx X.K X.mg)(B:Bd X ["_law_script","_law_first","_law_many","_law_names","_law_rows","_law_turns","_law_place"] (ah dr) 2)(hF:bY X)(aF:X.env.scope=ah dr):JB X (aZ dr) lY:=
 have v0 {p:Pos}:JE X (.Name "_law_script" p) (ae 0):=B.jv 0 rfl ME qq;have v1 {p:Pos}:JE X (.Name "_law_first" p) (ae 1):=B.jv 1 rfl MF QJ;have v2 {p:Pos}:JE X (.Name "_law_many" p) (ae 2):=B.jv 2 rfl MG qz;have v3 {p:Pos}:JE X (.Name "_law_names" p) (ae 3):=B.jv 3 rfl MH uc;have v4 {p:Pos}:JE X (.Name "_law_rows" p) (ae 4):=B.jv 4 rfl MI qA;have v5 {p:Pos}:JE X (.Name "_law_turns" p) (ae 5):=B.jv 5 rfl MK qv;have v6 {p:Pos}:JE X (.Name "_law_place" p) (ae 6):=B.jv 6 rfl MM kG
 (aK (B.bI 4 rfl MJ rfl (du az)) (aK (B.bI 5 rfl ML rfl (du az)) (aK (B.rT (ms (B.gl _ K4) T.kY rfl (aj rfl v2 az)) (B.d9 6 rfl MN) (aK (gV rfl (dJ rfl rfl aeX afc afd ji jt jN v4 (aj rfl (bt rfl nofun (Qp T) bp (B.room.mono (by decide)) (B.gl _ Kw) T.CT T.oa.kp T.l4 (aj rfl (cb (bt rfl nofun (iF T) bp (B.room.mono (by decide)) (B.gl _ Kt) T.hX T.fk.kp T.eQ (aj rfl v0 (aj rfl (cb v1 (bQ v6 ao)) az))) (ia ao v6)) (aj rfl v6 (aj rfl v2 (aj rfl v3 (aj rfl v5 az)))))) az))) (aG (bi (aW B.eq (B.ak v4 (jo ao)) (cT (aj rfl aT az))) (aG (gV rfl (dJ rfl rfl aeX afc afd ji jt jN v5 (aj rfl v6 az)))) bG)))) (aG (bo v4)))))
theorem O8(T:Tx K mg):bF P w K mg base (bE P w) 3 T.a_law_rows_by T.t6 ["_law_script","_law_first","_law_many","_law_names"] (bP K mg 4 (fM lY 7 4)):=cv rfl rfl T.n8 O7 fun{X} h1 h2 h3 h4 h5 B hF aF=>by subst h3 h4;exact Nr T B hF aF
theorem O9:b8 ["_law_row","_law_more"] ["_law_row","_law_more"] (ah iG):=⟨rfl,rfl,rfl,nofun,rfl,nofun,nofun⟩
theorem Nt(T:Tx X.K X.mg)(B:Bd X ["_law_row","_law_more"] (ah iG) 0)(hF:bY X)(aF:X.env.scope=ah iG):JB X (aZ iG) lZ:=
 have v0 {p:Pos}:JE X (.Name "_law_row" p) (ae 0):=B.jv 0 rfl MO yQ;have v1 {p:Pos}:JE X (.Name "_law_more" p) (ae 1):=B.jv 1 rfl MP yH
 (aK (bi (ej (fQ (aW B.eq (B.ak v0 ao) aT) (d7 (aW B.eq (B.ak v0 ao) aT)))) (aG (bo (cb (jY v0 mK (iI (jo ao))) (cT (aj rfl (cb (B.ak v0 (jo ao)) v1) az))))) bG) (aG (bo v0)))
theorem Pa(T:Tx K mg):bF P w K mg base (bE P w) 1 T.a_law_shifted T.t7 ["_law_row","_law_more"] (bP K mg 2 (fM lZ 2 2)):=cv rfl rfl T.n9 O9 fun{X} h1 h2 h3 h4 h5 B hF aF=>by subst h3 h4;exact Nt T B hF aF
theorem Ti:b8 ["thing"] ["thing"] (ah fK):=⟨rfl,rfl,rfl,nofun,rfl,nofun,nofun⟩
theorem QV(T:Tx X.K X.mg)(B:Bd X ["thing"] (ah fK) 0)(hF:bY X)(aF:X.env.scope=ah fK):JB X (aZ fK) mz:=
 have v0 {p:Pos}:JE X (.Name "thing" p) (ae 0):=B.jv 0 rfl Qb kT
 (aK (bi (ej (fQ (fN (fO rfl (gY u0 agS nofun nofun rfl (B.gl _ KQ) T.gn (B.gl _ ON) T.rK v0))) (d7 (fN (Eo jX jX (by with_unfolding_all rfl) ao (dw rfl nofun nofun eA eE (B.gl _ OO) T.eh aeZ (aj rfl v0 az)) (jQ (B.gl _ KC) T.CG nofun)))))) (aG (bo jW)) bG) (aG (bo (dw rfl nofun nofun (uy B.calm) vJ (B.gl _ OP) T.rJ agT (aj rfl (kU B.calm (N':=["sign"]) (Bd.cap B.hN aF nofun) (aaR v0) (iX B T nofun nofun fun{X} B T=>(B.d9 0 rfl (.inl rfl))) (iY B T nofun nofun fun{X} B T=>jR) (iZ B T nofun nofun fun{X} B T=>(oS (aaY (by with_unfolding_all rfl)) (B.jv 0 rfl (.inl rfl) Yw) (XZ (B.gl _ rfl) T.D6 nofun)))) az)))))
theorem Tj(T:Tx K mg):bF P w K mg base (bE P w) 1 T.a_is_name T.uN ["thing"] (bP K mg 1 (fM mz 1 1)):=cv rfl rfl T.ox Ti fun{X} h1 h2 h3 h4 h5 B hF aF=>by subst h3 h4;exact QV T B hF aF
theorem QW:b8 ["thing"] ["thing"] (ah gp):=⟨rfl,rfl,rfl,nofun,rfl,nofun,nofun⟩
theorem Pb(T:Tx X.K X.mg)(B:Bd X ["thing"] (ah gp) 0)(hF:bY X)(aF:X.env.scope=ah gp):JB X (aZ gp) jh:=
 have v0 {p:Pos}:JE X (.Name "thing" p) (ae 0):=B.jv 0 rfl N8 kT
 (aK (bi (ej (fQ (fN (fO rfl (gY Ek ahz nofun nofun rfl (B.gl _ Ca) T.gn (B.gl _ Nd) T.wG v0))) (d7 (fO rfl (gY DS aix nofun nofun rfl (B.gl _ Ca) T.gn (B.gl _ MQ) T.z8 v0))))) (aG (bo jW)) bG) (aG (bo (En jX iS (by with_unfolding_all rfl) (jo (jQ (B.gl _ Cq) T.oY nofun)) v0 (jQ (B.gl _ Cq) T.oY nofun)))))
theorem ud(T:Tx K mg):bF P w K mg base (bE P w) 1 T.a_is_number T.uk ["thing"] (bP K mg 1 (fM jh 1 1)):=cv rfl rfl T.jM QW fun{X} h1 h2 h3 h4 h5 B hF aF=>by subst h3 h4;exact Pb T B hF aF
theorem Tn:b8 ["thing"] ["thing"] (ah gS):=⟨rfl,rfl,rfl,nofun,rfl,nofun,nofun⟩
theorem QX(T:Tx X.K X.mg)(B:Bd X ["thing"] (ah gS) 0)(hF:bY X)(aF:X.env.scope=ah gS):JB X (aZ gS) mB:=
 have v0 {p:Pos}:JE X (.Name "thing" p) (ae 0):=B.jv 0 rfl Qc kT
 (aG (bo (qX (gY u0 agS nofun nofun rfl (B.gl _ KR) T.gn (B.gl _ OQ) T.rK v0) (oT (oS (aaX (by with_unfolding_all rfl)) v0 (aaU (B.gl _ Nf) T.FA T.kX nofun))))))
theorem To(T:Tx K mg):bF P w K mg base (bE P w) 1 T.a_is_word T.uO ["thing"] (bP K mg 1 (fM mB 1 1)):=cv rfl rfl T.oy Tn fun{X} h1 h2 h3 h4 h5 B hF aF=>by subst h3 h4;exact QX T B hF aF
theorem RS:b8 ["thing","last_place"] ["thing","last_place"] (ah h9):=⟨rfl,rfl,rfl,nofun,rfl,nofun,nofun⟩
theorem Qq(T:Tx X.K X.mg)(B:Bd X ["thing","last_place"] (ah h9) 1)(hF:bY X)(aF:X.env.scope=ah h9):JB X (aZ h9) mf:=
 have v0 {p:Pos}:JE X (.Name "thing" p) (ae 0):=B.jv 0 rfl OR kT;have v1 {p:Pos}:JE X (.Name "last_place" p) (ae 1):=B.jv 1 rfl OS yx
 (aG (bo (qX (bt rfl nofun (ud T) bp (B.room.mono (by decide)) (B.gl _ KS) T.qw T.jM.kp T.jh (aj rfl v0 az)) (oT (En jX jX (by with_unfolding_all rfl) ao v0 v1)))))
theorem RT(T:Tx K mg):bF P w K mg base (bE P w) 2 T.a_is_place T.uC ["thing","last_place"] (bP K mg 2 (fM mf 2 2)):=cv rfl rfl T.oo RS fun{X} h1 h2 h3 h4 h5 B hF aF=>by subst h3 h4;exact Qq T B hF aF
theorem Tp:b8 ["kind","thing","last_place"] ["kind","thing","last_place"] (ah fq):=⟨rfl,rfl,rfl,nofun,rfl,nofun,nofun⟩
theorem QY(T:Tx X.K X.mg)(B:Bd X ["kind","thing","last_place"] (ah fq) 2)(hF:bY X)(aF:X.env.scope=ah fq):JB X (aZ fq) jk:=
 have v0 {p:Pos}:JE X (.Name "kind" p) (ae 0):=B.jv 0 rfl Qd zP;have v1 {p:Pos}:JE X (.Name "thing" p) (ae 1):=B.jv 1 rfl Qe kT;have v2 {p:Pos}:JE X (.Name "last_place" p) (ae 2):=B.jv 2 rfl Qf yx
 (aK (bi (aW B.eq v0 aT) (aG (bo (bt rfl nofun (Tj T) bp (B.room.mono (by decide)) (B.gl _ Mc) T.D1 T.ox.kp T.mz (aj rfl v1 az)))) bG) (aK (bi (aW B.eq v0 aT) (aG (bo (bt rfl nofun (ud T) bp (B.room.mono (by decide)) (B.gl _ K5) T.qw T.jM.kp T.jh (aj rfl v1 az)))) bG) (aK (bi (aW B.eq v0 aT) (aG (bo (bt rfl nofun (To T) bp (B.room.mono (by decide)) (B.gl _ Md) T.D2 T.oy.kp T.mB (aj rfl v1 az)))) bG) (aG (bo (bt rfl nofun (RT T) bp (B.room.mono (by decide)) (B.gl _ Lc) T.DA T.oo.kp T.mf (aj rfl v1 (aj rfl v2 az))))))))
theorem Tq(T:Tx K mg):bF P w K mg base (bE P w) 3 T.a_is_part T.uP ["kind","thing","last_place"] (bP K mg 3 (fM jk 3 3)):=cv rfl rfl T.oz Tp fun{X} h1 h2 h3 h4 h5 B hF aF=>by subst h3 h4;exact QY T B hF aF
theorem Vn:b8 ["row","last_place","kinds"] ["row","last_place"] (ah d5):=⟨rfl,rfl,rfl,nofun,rfl,nofun,nofun⟩
theorem RU(T:Tx X.K X.mg)(B:Bd X ["row","last_place","kinds"] (ah d5) 3)(hF:bY X)(aF:X.env.scope=ah d5):JB X (aZ d5) mF:=
 have v0 {p:Pos}:JE X (.Name "row" p) (ae 0):=B.jv 0 rfl QM rg;have v2 {p:Pos}:JE X (.Name "kinds" p) (ae 2):=B.jv 2 rfl QN WJ
 (aK (bi (ej (fQ (fN (fO rfl (gY Dw aim nofun nofun rfl (B.gl _ Cd) T.gn (B.gl _ N9) T.zO v0))) (d7 (aW B.eq (dw rfl nofun nofun eA eE (B.gl _ yy) T.eh aeZ (aj rfl v0 az)) ao)))) (aG (bo jW)) bG) (aK (bi (ej (fQ (fN (fO rfl (gY u0 agS nofun nofun rfl (B.gl _ Cd) T.gn (B.gl _ Qg) T.rK (B.ak v0 ao)))) (d7 (Yv (B.gl _ Cz) T.vB T.di nofun (by with_unfolding_all rfl) (B.ak v0 ao))))) (aG (bo jW)) bG) (aK (B.bI 2 rfl QO rfl (Fx (B.gl _ Cz) T.vB T.di nofun (by intro _ _;rfl) (B.ak v0 ao))) (aK (bi (aW B.ne (dw rfl nofun nofun eA eE (B.gl _ yy) T.eh aeZ (aj rfl v0 az)) (cb (dw rfl nofun nofun eA eE (B.gl _ yy) T.eh aeZ (aj rfl v2 az)) ao)) (aG (bo jW)) bG) (aG (bo (dw rfl nofun nofun (uy B.calm) vJ (B.gl _ Qi) T.rJ agT (aj rfl (kU B.calm (N':=["kind","thing","last_place"]) (Bd.cap B.hN aF nofun) (Fv (B.gl _ Qh) T.AF rfl rfl (aj rfl v2 (aj rfl (jY v0 (iI ao) mK) az))) (iX B T nofun nofun fun{X} B T=>(zY B.calm (oC (B.d9 0 rfl (.inl rfl)) (oC (B.d9 1 rfl (.inl rfl)) zG)))) (iY B T nofun nofun fun{X} B T=>jR) (iZ B T nofun nofun fun{X} B T=>(bt rfl nofun (Tq T) bp (B.room.mono (by decide)) (B.gl _ rfl) T.D4 T.oz.kp T.jk (aj rfl (B.jv 0 rfl (.inl rfl) zP) (aj rfl (B.jv 1 rfl (.inl rfl) kT) (aj rfl (B.jv 2 rfl (.inr (.inr rfl)) yx) az)))))) az))))))))
theorem Vo(T:Tx K mg):bF P w K mg base (bE P w) 4 T.a_is_row T.u5 ["row","last_place"] (bP K mg 2 (fM mF 3 2)):=cv rfl rfl T.oG Vn fun{X} h1 h2 h3 h4 h5 B hF aF=>by subst h3 h4;exact RU T B hF aF
theorem Nu:b8 ["row","wanted"] ["row","wanted"] (ah hV):=⟨rfl,rfl,rfl,nofun,rfl,nofun,nofun⟩
theorem Mr(T:Tx X.K X.mg)(B:Bd X ["row","wanted"] (ah hV) 0)(hF:bY X)(aF:X.env.scope=ah hV):JB X (aZ hV) kE:=
 have v0 {p:Pos}:JE X (.Name "row" p) (ae 0):=B.jv 0 rfl Ld rg
 (aG (bo (kU B.calm (N':=["kind","thing","wanted"]) (Bd.cap B.hN aF nofun) (Fv (B.gl _ K6) T.AF rfl rfl (aj rfl (Fx (B.gl _ KD) T.vB T.di nofun (by intro _ _;rfl) (B.ak v0 ao)) (aj rfl (jY v0 (iI ao) mK) az))) (iX B T nofun nofun fun{X} B T=>(zY B.calm (oC (B.d9 0 rfl (.inl rfl)) (oC (B.d9 1 rfl (.inl rfl)) zG)))) (iY B T nofun nofun fun{X} B T=>(FV (aW B.eq (B.jv 0 rfl (.inl rfl) zP) (B.jv 2 rfl (.inr (.inr rfl)) U5)))) (iZ B T nofun nofun fun{X} B T=>(B.jv 1 rfl (.inl rfl) kT)))))
theorem Cr(T:Tx K mg):bF P w K mg base (bE P w) 1 T.a_parts_of_kind T.tK ["row","wanted"] (bP K mg 2 (fM kE 2 2)):=cv rfl rfl T.lU Nu fun{X} h1 h2 h3 h4 h5 B hF aF=>by subst h3 h4;exact Mr T B hF aF
theorem LB:b8 ["rows","at","place"] ["rows","at"] (ah gg):=⟨rfl,rfl,rfl,nofun,rfl,nofun,nofun⟩
theorem KZ(T:Tx X.K X.mg)(B:Bd X ["rows","at","place"] (ah gg) 1)(hF:bY X)(aF:X.env.scope=ah gg):JB X (aZ gg) lR:=
 have v0 {p:Pos}:JE X (.Name "rows" p) (ae 0):=B.jv 0 rfl KG vC;have v1 {p:Pos}:JE X (.Name "at" p) (ae 1):=B.jv 1 rfl KH Hn;have v2 {p:Pos}:JE X (.Name "place" p) (ae 2):=B.jv 2 rfl KI WK
 (aK (B.rT (qR (bt rfl nofun (Cr T) bp (B.room.mono (by decide)) (B.gl _ Ko) T.yr T.lU.kp T.kE (aj rfl (B.ak v0 v1) (aj rfl aT az)))) (B.d9 2 rfl KJ) (aG (bi (ej (k7 (aW jX v2 v1) (d7 (aW B.ne (B.ak (B.ak v0 v2) ao) aT)))) (aG (bo jW)) bG))) (aG (bo jW)))
theorem LC(T:Tx K mg):bF P w K mg base (bE P w) 2 T.a_jumps_back_badly T.tj ["rows","at"] (bP K mg 2 (fM lR 3 2)):=cv rfl rfl T.nY LB fun{X} h1 h2 h3 h4 h5 B hF aF=>by subst h3 h4;exact KZ T B hF aF
theorem Nv:b8 ["row","names","met","name"] ["row","names"] (ah eP):=⟨rfl,rfl,rfl,nofun,rfl,nofun,nofun⟩
theorem Ms(T:Tx X.K X.mg)(B:Bd X ["row","names","met","name"] (ah eP) 1)(hF:bY X)(aF:X.env.scope=ah eP):JB X (aZ eP) lS:=
 have v0 {p:Pos}:JE X (.Name "row" p) (ae 0):=B.jv 0 rfl Le rg;have v1 {p:Pos}:JE X (.Name "names" p) (ae 1):=B.jv 1 rfl Lf EJ;have v2 {p:Pos}:JE X (.Name "met" p) (ae 2):=B.jv 2 rfl Lg aaZ;have v3 {p:Pos}:JE X (.Name "name" p) (ae 3):=B.jv 3 rfl Li FC
 (aK (B.bI 2 rfl Lh rfl (qY rfl nofun nofun (uz B.calm) vj (B.gl _ KU) T.lc afx (aj rfl v1 az))) (aK (B.rT (qR (bt rfl nofun (Cr T) bp (B.room.mono (by decide)) (B.gl _ Kq) T.yr T.lU.kp T.kE (aj rfl v0 (aj rfl aT az)))) (B.d9 3 rfl Lj) (aG (bi (aW (B.acy (by with_unfolding_all rfl)) v3 v2) (aG (gV rfl (dJ rfl rfl aeX afc afd ji jt jN v2 (aj rfl v3 az)))) bG))) (aG (bo v2))))
theorem Nw(T:Tx K mg):bF P w K mg base (bE P w) 2 T.a_with_names_of T.tL ["row","names"] (bP K mg 2 (fM lS 4 2)):=cv rfl rfl T.n0 Nv fun{X} h1 h2 h3 h4 h5 B hF aF=>by subst h3 h4;exact Ms T B hF aF
theorem Oq:b8 ["rows","names","at","row"] ["rows"] (ah cW):=⟨rfl,rfl,rfl,nofun,rfl,nofun,nofun⟩
theorem MU(T:Tx X.K X.mg)(B:Bd X ["rows","names","at","row"] (ah cW) 4)(hF:bY X)(aF:X.env.scope=ah cW):JB X (aZ cW) lW:=
 have v0 {p:Pos}:JE X (.Name "rows" p) (ae 0):=B.jv 0 rfl Me vC;have v1 {p:Pos}:JE X (.Name "names" p) (ae 1):=B.jv 1 rfl Mf EJ;have v2 {p:Pos}:JE X (.Name "at" p) (ae 2):=B.jv 2 rfl Mg Hn;have v3 {p:Pos}:JE X (.Name "row" p) (ae 3):=B.jv 3 rfl Mi rg
 (aK (bi (ej (fQ (fN (fO rfl (gY yU afx nofun nofun rfl (B.gl _ Ku) T.gn (B.gl _ K7) T.lc v0))) (d7 (aW Al (dw rfl nofun nofun eA eE (B.gl _ yh) T.eh aeZ (aj rfl v0 az)) (jQ (B.gl _ Kx) T.Df nofun))))) (aG zh) bG) (aK (B.bI 1 rfl Cm rfl (du az)) (aK (B.rT (X9 (B.gl _ Ky) T.De rfl (aj rfl v0 az)) (zY B.calm (oC (B.d9 2 rfl Mh) (oC (B.d9 3 rfl Mj) zG))) (aK (bi (ej (fQ (fN (fO rfl (bt rfl nofun (Vo T) bp (B.room.mono (by decide)) (B.gl _ KN) T.EF T.oG.kp T.mF (aj rfl v3 (aj rfl (dw rfl nofun nofun eA eE (B.gl _ yh) T.eh aeZ (aj rfl v0 az)) az))))) (d7 (fO rfl (bt rfl nofun (LC T) bp (B.room.mono (by decide)) (B.gl _ Kp) T.Cj T.nY.kp T.lR (aj rfl v0 (aj rfl v2 az))))))) (aG zh) bG) (aK (B.bI 1 rfl Cm rfl (bt rfl nofun (Nw T) bp (B.room.mono (by decide)) (B.gl _ Kr) T.Cw T.n0.kp T.lS (aj rfl v3 (aj rfl v1 az)))) (aG (bi (aW Al (dw rfl nofun nofun eA eE (B.gl _ yh) T.eh aeZ (aj rfl v1 az)) (jQ (B.gl _ Kv) T.CU nofun)) (aG zh) bG))))) (aG (bo v1)))))
theorem Ot(T:Tx K mg):bF P w K mg base (bE P w) 5 T.a_need_program T.tV ["rows"] (bP K mg 1 (fM lW 4 1)):=cv rfl rfl T.n6 Oq fun{X} h1 h2 h3 h4 h5 B hF aF=>by subst h3 h4;exact MU T B hF aF
theorem RV:b8 ["inputs","turns"] ["inputs","turns"] (ah eR):=⟨rfl,rfl,rfl,nofun,rfl,nofun,nofun⟩
theorem Qr(T:Tx X.K X.mg)(B:Bd X ["inputs","turns"] (ah eR) 1)(hF:bY X)(aF:X.env.scope=ah eR):JB X (aZ eR) mj:=
 have v0 {p:Pos}:JE X (.Name "inputs" p) (ae 0):=B.jv 0 rfl OT uS;have v1 {p:Pos}:JE X (.Name "turns" p) (ae 1):=B.jv 1 rfl OU vc
 (aK (bi (ej (fQ (fN (fO rfl (gY yU afx nofun nofun rfl (B.gl _ KO) T.gn (B.gl _ Ng) T.lc v0))) (d7 (fN (fO rfl (dw rfl nofun nofun (uy B.calm) vJ (B.gl _ Oa) T.rJ agT (aj rfl (kU B.calm (N':=["thing"]) (Bd.cap B.hN aF nofun) (qR v0) (iX B T nofun nofun fun{X} B T=>(B.d9 0 rfl (.inl rfl))) (iY B T nofun nofun fun{X} B T=>jR) (iZ B T nofun nofun fun{X} B T=>(bt rfl nofun (ud T) bp (B.room.mono (by decide)) (B.gl _ rfl) T.qw T.jM.kp T.jh (aj rfl (B.jv 0 rfl (.inl rfl) kT) az)))) az))))))) (aG (zj T.y9 (B.gl _ Cn) T.y8 B.calm rfl nofun (aj rfl aT az))) bG) (aG (bi (ej (fQ (fN (fO rfl (bt rfl nofun (ud T) bp (B.room.mono (by decide)) (B.gl _ KW) T.qw T.jM.kp T.jh (aj rfl v1 az)))) (d7 (fN (Eo jX jX (by with_unfolding_all rfl) ao v1 (jQ (B.gl _ KP) T.CV nofun)))))) (aG (zj T.y9 (B.gl _ Cn) T.y8 B.calm rfl nofun (aj rfl aT az))) bG)))
theorem RW(T:Tx K mg):bF P w K mg base (bE P w) 2 T.a_need_run T.uD ["inputs","turns"] (bP K mg 2 (fM mj 2 2)):=cv rfl rfl T.oq RV fun{X} h1 h2 h3 h4 h5 B hF aF=>by subst h3 h4;exact Qr T B hF aF
theorem RX:b8 ["self","inputs","turns"] ["self","inputs","turns"] (ah gQ):=⟨rfl,rfl,rfl,nofun,rfl,nofun,nofun⟩
theorem Qs(T:Tx X.K X.mg)(B:Bd X ["self","inputs","turns"] (ah gQ) 0)(hF:bY X)(aF:X.env.scope=ah gQ):JB X (aZ gQ) mm:=
 have v0 {p:Pos}:JE X (.Name "self" p) (ae 0):=B.jv 0 rfl OV Yx;have v1 {p:Pos}:JE X (.Name "inputs" p) (ae 1):=B.jv 1 rfl OW uS;have v2 {p:Pos}:JE X (.Name "turns" p) (ae 2):=B.jv 2 rfl OX vc
 (aK (ib T.ce T.cm T.t8 rfl v0 (qY rfl nofun nofun (uz B.calm) vj (B.gl _ Nh) T.lc afx (aj rfl v1 az))) (aK (ib T.ce T.cm T.tm rfl v0 v2) (aK (ib T.ce T.cm T.kN rfl v0 ao) (aK (ib T.ce T.cm T.l5 rfl v0 FZ) (aK (ib T.ce T.cm T.uq rfl v0 (du az)) (aK (ib T.ce T.cm T.og rfl v0 ao) (aG (ib T.ce T.cm T.me rfl v0 FT))))))))
theorem RY(T:Tx K mg):bF P w K mg base (bE P w) 1 T.a_Run_init T.uE ["self","inputs","turns"] (bP K mg 3 (fM mm 3 3)):=cv rfl rfl T.qD RX fun{X} h1 h2 h3 h4 h5 B hF aF=>by subst h3 h4;exact Qs T B hF aF
theorem Yz:b8 ["run","name"] ["run","name"] (ah iO):=⟨rfl,rfl,rfl,nofun,rfl,nofun,nofun⟩
theorem Vp(T:Tx X.K X.mg)(B:Bd X ["run","name"] (ah iO) 0)(hF:bY X)(aF:X.env.scope=ah iO):JB X (aZ iO) iP:=
 have v0 {p:Pos}:JE X (.Name "run" p) (ae 0):=B.jv 0 rfl Tc mT;have v1 {p:Pos}:JE X (.Name "name" p) (ae 1):=B.jv 1 rfl Td FC
 (aG (bo (dJ rfl rfl afu aeY afD (mQ (iR B.room)) mP mR (eG T.ce T.cm T.l5 v0) (aj rfl v1 (aj rfl ao az)))))
theorem qT(T:Tx K mg):bF P w K mg base (bE P w) 1 T.a_held T.vR ["run","name"] (bP K mg 2 (fM iP 2 2)):=cv rfl rfl T.jq Yz fun{X} h1 h2 h3 h4 h5 B hF aF=>by subst h3 h4;exact Vp T B hF aF
theorem aa0:b8 ["number"] ["number"] (ah iU):=⟨rfl,rfl,rfl,nofun,rfl,nofun,nofun⟩
theorem WL(T:Tx X.K X.mg)(B:Bd X ["number"] (ah iU) 0)(hF:bY X)(aF:X.env.scope=ah iU):JB X (aZ iU) jx:=
 have v0 {p:Pos}:JE X (.Name "number" p) (ae 0):=B.jv 0 rfl U7 U6
 (aG (bo (iN (bQ (cb v0 (jQ (B.gl _ yI) T.oY nofun)) (ia ao (jQ (B.gl _ yI) T.oY nofun))) (jQ (B.gl _ yI) T.oY nofun))))
theorem vS(T:Tx K mg):bF P w K mg base (bE P w) 1 T.a_fit T.wC ["number"] (bP K mg 1 (fM jx 1 1)):=cv rfl rfl T.jZ aa0 fun{X} h1 h2 h3 h4 h5 B hF aF=>by subst h3 h4;exact WL T B hF aF
theorem Vq:b8 ["one","other"] ["one","other"] (ah gU):=⟨rfl,rfl,rfl,nofun,rfl,nofun,nofun⟩
theorem RZ(T:Tx X.K X.mg)(B:Bd X ["one","other"] (ah gU) 1)(hF:bY X)(aF:X.env.scope=ah gU):JB X (aZ gU) kS:=
 have v0 {p:Pos}:JE X (.Name "one" p) (ae 0):=B.jv 0 rfl QP Gv;have v1 {p:Pos}:JE X (.Name "other" p) (ae 1):=B.jv 1 rfl QQ EK
 (aK (bi (aW B.eq v1 ao) (aG (zj T.Di (B.gl _ Ml) T.yD B.calm rfl nofun (aj rfl aT az))) bG) (aG (bo (bt rfl nofun (vS T) bp (B.room.mono (by decide)) (B.gl _ Qj) T.rF T.jZ.kp T.jx (aj rfl (cj v0 v1) az)))))
theorem Vr(T:Tx K mg):bF P w K mg base (bE P w) 2 T.a_parted T.u6 ["one","other"] (bP K mg 2 (fM kS 2 2)):=cv rfl rfl T.oH Vq fun{X} h1 h2 h3 h4 h5 B hF aF=>by subst h3 h4;exact RZ T B hF aF
theorem R0:b8 ["word","one","other"] ["word","one","other"] (ah gq):=⟨rfl,rfl,rfl,nofun,rfl,nofun,nofun⟩
theorem Qt(T:Tx X.K X.mg)(B:Bd X ["word","one","other"] (ah gq) 2)(hF:bY X)(aF:X.env.scope=ah gq):JB X (aZ gq) kJ:=
 have v0 {p:Pos}:JE X (.Name "word" p) (ae 0):=B.jv 0 rfl OY Yy;have v1 {p:Pos}:JE X (.Name "one" p) (ae 1):=B.jv 1 rfl OZ Gv;have v2 {p:Pos}:JE X (.Name "other" p) (ae 2):=B.jv 2 rfl O0 EK
 (aK (bi (aW B.eq v0 aT) (aG (bo (bt rfl nofun (vS T) bp (B.room.mono (by decide)) (B.gl _ yt) T.rF T.jZ.kp T.jx (aj rfl (cb v1 v2) az)))) bG) (aK (bi (aW B.eq v0 aT) (aG (bo (bt rfl nofun (vS T) bp (B.room.mono (by decide)) (B.gl _ yt) T.rF T.jZ.kp T.jx (aj rfl (iN v1 v2) az)))) bG) (aK (bi (aW B.eq v0 aT) (aG (bo (bt rfl nofun (vS T) bp (B.room.mono (by decide)) (B.gl _ yt) T.rF T.jZ.kp T.jx (aj rfl (ia v1 v2) az)))) bG) (aK (bi (aW B.eq v0 aT) (aG (bo (bt rfl nofun (Vr T) bp (B.room.mono (by decide)) (B.gl _ Mm) T.EG T.oH.kp T.kS (aj rfl v1 (aj rfl v2 az))))) bG) (aK (bi (aW B.eq v0 aT) (aG (bo (we (aW iS v1 v2) ao ao))) bG) (aG (bo (we (aW B.eq v1 v2) ao ao))))))))
theorem R4(T:Tx K mg):bF P w K mg base (bE P w) 3 T.a_reckoned T.uF ["word","one","other"] (bP K mg 3 (fM kJ 3 3)):=cv rfl rfl T.ot R0 fun{X} h1 h2 h3 h4 h5 B hF aF=>by subst h3 h4;exact Qt T B hF aF
theorem WM:b8 ["run"] ["run"] (ah iK):=⟨rfl,rfl,rfl,nofun,rfl,nofun,nofun⟩
theorem Tr(T:Tx X.K X.mg)(B:Bd X ["run"] (ah iK) 0)(hF:bY X)(aF:X.env.scope=ah iK):JB X (aZ iK) mL:=
 have v0 {p:Pos}:JE X (.Name "run" p) (ae 0):=B.jv 0 rfl RR mT
 (aK (zN FN Hl T.ce T.cm T.og v0 ao) (aK (bi (aW Al (eG T.ce T.cm T.og v0) (dw rfl nofun nofun eA eE (B.gl _ QR) T.eh aeZ (aj rfl (eG T.ce T.cm T.t8 v0) az))) (aG (bo ao)) bG) (aG (bo (B.ak (eG T.ce T.cm T.t8 v0) (iN (eG T.ce T.cm T.og v0) ao))))))
theorem WN(T:Tx K mg):bF P w K mg base (bE P w) 1 T.a_taken T.vA ["run"] (bP K mg 1 (fM mL 1 1)):=cv rfl rfl T.oM WM fun{X} h1 h2 h3 h4 h5 B hF aF=>by subst h3 h4;exact Tr T B hF aF
theorem QZ:b8 ["run"] ["run"] (ah jg):=⟨rfl,rfl,rfl,nofun,rfl,nofun,nofun⟩
theorem Pc(T:Tx X.K X.mg)(B:Bd X ["run"] (ah jg) 0)(hF:bY X)(aF:X.env.scope=ah jg):JB X (aZ jg) l6:=
 have v0 {p:Pos}:JE X (.Name "run" p) (ae 0):=B.jv 0 rfl Ob mT
 (aK (bi (aW B.eq (eG T.ce T.cm T.tm v0) ao) (aG (ib T.ce T.cm T.me rfl v0 aT)) bG) (aG (zN Zw acH T.ce T.cm T.tm v0 ao)))
theorem Q0(T:Tx K mg):bF P w K mg base (bE P w) 1 T.a_make_turn T.ul ["run"] (bP K mg 1 (fM l6 1 1)):=cv rfl rfl T.oh QZ fun{X} h1 h2 h3 h4 h5 B hF aF=>by subst h3 h4;exact Pc T B hF aF
theorem Vs:b8 ["run","row"] ["run","row"] (ah fL):=⟨rfl,rfl,rfl,nofun,rfl,nofun,nofun⟩
theorem R5(T:Tx X.K X.mg)(B:Bd X ["run","row"] (ah fL) 3)(hF:bY X)(aF:X.env.scope=ah fL):JB X (aZ fL) mG:=
 have v0 {p:Pos}:JE X (.Name "run" p) (ae 0):=B.jv 0 rfl QS mT;have v1 {p:Pos}:JE X (.Name "row" p) (ae 1):=B.jv 1 rfl QT rg
 (aK (zN FN Hl T.ce T.cm T.kN v0 ao) (aG (bi (aW B.eq (B.ak v1 ao) aT) (aG (k8 (B.ak v1 ao) (B.kW (eG T.ce T.cm T.l5 v0) (B.ak v1 ao)))) (aG (bi (aW B.eq (B.ak v1 ao) aT) (aG (k8 (bt rfl nofun (qT T) bp (B.room.mono (by decide)) (B.gl _ qo) T.oX T.jq.kp T.iP (aj rfl v0 (aj rfl (B.ak v1 ao) az))) (B.kW (eG T.ce T.cm T.l5 v0) (B.ak v1 ao)))) (aG (bi (aW B.eq (B.ak v1 ao) aT) (aG (k8 (bt rfl nofun (R4 T) bp (B.room.mono (by decide)) (B.gl _ Mn) T.DC T.ot.kp T.kJ (aj rfl (B.ak v1 ao) (aj rfl (bt rfl nofun (qT T) bp (B.room.mono (by decide)) (B.gl _ qo) T.oX T.jq.kp T.iP (aj rfl v0 (aj rfl (B.ak v1 ao) az))) (aj rfl (bt rfl nofun (qT T) bp (B.room.mono (by decide)) (B.gl _ qo) T.oX T.jq.kp T.iP (aj rfl v0 (aj rfl (B.ak v1 ao) az))) az)))) (B.kW (eG T.ce T.cm T.l5 v0) (B.ak v1 ao)))) (aG (bi (aW B.eq (B.ak v1 ao) aT) (aG (k8 (bt rfl nofun (WN T) bp (B.room.mono (by decide)) (B.gl _ Oc) T.Fz T.oM.kp T.mL (aj rfl v0 az)) (B.kW (eG T.ce T.cm T.l5 v0) (B.ak v1 ao)))) (aG (bi (aW B.eq (B.ak v1 ao) aT) (aG (gV rfl (dJ rfl rfl aeX afc afd ji jt jN (eG T.ce T.cm T.uq v0) (aj rfl (bt rfl nofun (qT T) bp (B.room.mono (by decide)) (B.gl _ qo) T.oX T.jq.kp T.iP (aj rfl v0 (aj rfl (B.ak v1 ao) az))) az)))) (aG (bi (aW B.eq (B.ak v1 ao) aT) (aG (gV rfl (bt rfl nofun (Q0 T) bp (B.room.mono (by decide)) (B.gl _ Lk) T.Dc T.oh.kp T.l6 (aj rfl v0 az)))) (aG (bi (aW B.eq (B.ak v1 ao) aT) (aG (ib T.ce T.cm T.kN rfl v0 (we (aW B.ne (bt rfl nofun (qT T) bp (B.room.mono (by decide)) (B.gl _ qo) T.oX T.jq.kp T.iP (aj rfl v0 (aj rfl (B.ak v1 ao) az))) ao) (B.ak v1 ao) (eG T.ce T.cm T.kN v0)))) (aG (bi (aW B.eq (B.ak v1 ao) aT) (aG (ib T.ce T.cm T.kN rfl v0 (B.ak v1 ao))) (aG (ib T.ce T.cm T.me rfl v0 aT)))))))))))))))))))
theorem Vt(T:Tx K mg):bF P w K mg base (bE P w) 4 T.a_do_row T.u7 ["run","row"] (bP K mg 2 (fM mG 2 2)):=cv rfl rfl T.oI Vs fun{X} h1 h2 h3 h4 h5 B hF aF=>by subst h3 h4;exact R5 T B hF aF
theorem Ts:b8 ["rows","inputs","turns","run"] ["rows","inputs","turns"] (ah d0):=⟨rfl,rfl,rfl,nofun,rfl,nofun,nofun⟩
theorem Q1(T:Tx X.K X.mg)(B:Bd X ["rows","inputs","turns","run"] (ah d0) 4)(hF:bY X)(aF:X.env.scope=ah d0):JB X (aZ d0) mC:=
 have v1 {p:Pos}:JE X (.Name "inputs" p) (ae 1):=B.jv 1 rfl Qk uS;have v2 {p:Pos}:JE X (.Name "turns" p) (ae 2):=B.jv 2 rfl Ql vc;have v3 {p:Pos}:JE X (.Name "run" p) (ae 3):=B.jv 3 rfl yz mT
 (aK (B.bI 3 rfl Qm rfl (Ym T.ce T.mk_Run (RY T) bp (B.room.mono (by decide)) (B.gl _ O1) T.Gu T.mm nofun rfl (aj rfl v1 (aj rfl v2 az)))) (aK (aaO B hF aF (B.gl _ Ll) T.yD nofun ⟨T.Dh,T.Dj⟩ (j9.cons T.Dg T.Cc j9.nil) 3 rfl yz (fun{X} h1 h2 B hF aF=>(fun(T:Tx X.K X.mg)=>by have v0 {p:Pos}:JE X (.Name "rows" p) (ae 0):=B.jv 0 rfl Od vC;have v3 {p:Pos}:JE X (.Name "run" p) (ae 3):=B.jv 3 rfl Oe mT;exact(aG (B.FU (aW acp (eG T.ce T.cm T.me v3) FT) (aG (gV rfl (bt rfl nofun (Vt T) bp (B.room.mono (by decide)) (B.gl _ Lm) T.EH T.oI.kp T.mG (aj rfl v3 (aj rfl (we (aW iS (eG T.ce T.cm T.kN v3) (dw rfl nofun nofun eA eE (B.gl _ Ni) T.eh aeZ (aj rfl v0 az))) (B.ak v0 (eG T.ce T.cm T.kN v3)) (cT (aj rfl aT az))) az)))))))) (Tx.cast h1 h2 T)) (fun h1 h2 B=>(fun T=>(aG (ib T.ce T.cm T.me rfl (B.jv 3 rfl yz mT) aT))) (Tx.cast h1 h2 T))) (aG (bo (cT (aj rfl (eG T.ce T.cm T.me v3) (aj rfl (eG T.ce T.cm T.uq v3) (aj rfl (eG T.ce T.cm T.og v3) az))))))))
theorem Tt(T:Tx K mg):bF P w K mg base (bE P w) 5 T.a_outcome T.uQ ["rows","inputs","turns"] (bP K mg 3 (fM mC 4 3)):=cv rfl rfl T.oA Ts fun{X} h1 h2 h3 h4 h5 B hF aF=>by subst h3 h4;exact Q1 T B hF aF
theorem Q2:b8 ["rows","inputs","turns"] ["rows","inputs","turns"] (ah fJ):=⟨rfl,rfl,rfl,nofun,rfl,nofun,nofun⟩
theorem Pd(T:Tx X.K X.mg)(B:Bd X ["rows","inputs","turns"] (ah fJ) 5)(hF:bY X)(aF:X.env.scope=ah fJ):JB X (aZ fJ) l7:=
 have v0 {p:Pos}:JE X (.Name "rows" p) (ae 0):=B.jv 0 rfl Of vC;have v1 {p:Pos}:JE X (.Name "inputs" p) (ae 1):=B.jv 1 rfl Og uS;have v2 {p:Pos}:JE X (.Name "turns" p) (ae 2):=B.jv 2 rfl Oh vc
 (aK (gV rfl (bt rfl nofun (Ot T) bp (B.room.mono (by decide)) (B.gl _ Kz) T.CF T.n6.kp T.lW (aj rfl v0 az))) (aK (gV rfl (bt rfl nofun (RW T) bp (B.room.mono (by decide)) (B.gl _ KY) T.DB T.oq.kp T.mj (aj rfl v1 (aj rfl v2 az)))) (aG (bo (bt rfl nofun (Tt T) bp (B.room.mono (by decide)) (B.gl _ K8) T.D5 T.oA.kp T.mC (aj rfl v0 (aj rfl v1 (aj rfl v2 az))))))))
theorem Q3(T:Tx K mg):bF P w K mg base (bE P w) 6 T.a_first_run T.um ["rows","inputs","turns"] (bP K mg 3 (fM l7 3 3)):=cv rfl rfl T.oi Q2 fun{X} h1 h2 h3 h4 h5 B hF aF=>by subst h3 h4;exact Pd T B hF aF
theorem Tu:b8 ["_law_number"] ["_law_number"] (ah jj):=⟨rfl,rfl,rfl,nofun,rfl,nofun,nofun⟩
theorem Q4(T:Tx X.K X.mg)(B:Bd X ["_law_number"] (ah jj) 0)(hF:bY X)(aF:X.env.scope=ah jj):JB X (aZ jj) kM:=
 have v0 {p:Pos}:JE X (.Name "_law_number" p) (ae 0):=B.jv 0 rfl Qn P9
 (aG (bo (iN v0 (ia (cj (cb v0 ao) ao) ao))))
theorem DF(T:Tx K mg):bF P w K mg base (bE P w) 1 T.a_law_fit T.uR ["_law_number"] (bP K mg 1 (fM kM 1 1)):=cv rfl rfl T.mD Tu fun{X} h1 h2 h3 h4 h5 B hF aF=>by subst h3 h4;exact Q4 T B hF aF
theorem R6:b8 ["_law_word","_law_one","_law_other"] ["_law_word","_law_one","_law_other"] (ah gu):=⟨rfl,rfl,rfl,nofun,rfl,nofun,nofun⟩
theorem Qu(T:Tx X.K X.mg)(B:Bd X ["_law_word","_law_one","_law_other"] (ah gu) 1)(hF:bY X)(aF:X.env.scope=ah gu):JB X (aZ gu) mn:=
 have v0 {p:Pos}:JE X (.Name "_law_word" p) (ae 0):=B.jv 0 rfl O2 yF;have v1 {p:Pos}:JE X (.Name "_law_one" p) (ae 1):=B.jv 1 rfl O3 yP;have v2 {p:Pos}:JE X (.Name "_law_other" p) (ae 2):=B.jv 2 rfl O4 CW
 (aK (bi (ej (fQ (aW B.eq v0 aT) (d7 (aW B.eq v0 aT)))) (aG (bo (qY rfl nofun nofun Uz aai (B.gl _ Oi) T.wG ahz (aj rfl (acq (qX (oS iS v1 v2) (oT (oS B.eq v0 aT))) (oT (qX (oS B.eq v1 v2) (oT (oS B.eq v0 aT))))) az)))) bG) (aK (bi (aW B.eq v0 aT) (aG (bo (bt rfl nofun (DF T) bp (B.room.mono (by decide)) (B.gl _ Cf) T.y6 T.mD.kp T.kM (aj rfl (cj v1 v2) az)))) bG) (aG (bo (bt rfl nofun (DF T) bp (B.room.mono (by decide)) (B.gl _ Cf) T.y6 T.mD.kp T.kM (aj rfl (B.ak (du (aj rfl (cb v1 v2) (aj rfl (iN v1 v2) (aj rfl (ia v1 v2) az)))) (dJ rfl rfl aeX PySem.F.slot_list_index PySem.F.type_list_index (Ws B.room.units) jt Wt (du (aj rfl aT (aj rfl aT (aj rfl aT az)))) (aj rfl v0 az))) az))))))
theorem R7(T:Tx K mg):bF P w K mg base (bE P w) 2 T.a_law_deed T.uG ["_law_word","_law_one","_law_other"] (bP K mg 3 (fM mn 3 3)):=cv rfl rfl T.ou R6 fun{X} h1 h2 h3 h4 h5 B hF aF=>by subst h3 h4;exact Qu T B hF aF
theorem Nx:b8 ["_law_rows","_law_inputs","_law_turns","_law_store","_law_told","_law_taken","_law_place","_law_row"] ["_law_rows","_law_inputs","_law_turns"] (ah cV):=⟨rfl,rfl,rfl,nofun,rfl,nofun,nofun⟩
theorem Mt(T:Tx X.K X.mg)(B:Bd X ["_law_rows","_law_inputs","_law_turns","_law_store","_law_told","_law_taken","_law_place","_law_row"] (ah cV) 2)(hF:bY X)(aF:X.env.scope=ah cV):JB X (aZ cV) lT:=
 have v0 {p:Pos}:JE X (.Name "_law_rows" p) (ae 0):=B.jv 0 rfl Ln qA;have v1 {p:Pos}:JE X (.Name "_law_inputs" p) (ae 1):=B.jv 1 rfl Lo CO;have v2 {p:Pos}:JE X (.Name "_law_turns" p) (ae 2):=B.jv 2 rfl Lp qv;have v3 {p:Pos}:JE X (.Name "_law_store" p) (ae 3):=B.jv 3 rfl Lr QK;have v4 {p:Pos}:JE X (.Name "_law_told" p) (ae 4):=B.jv 4 rfl Lu RQ;have v5 {p:Pos}:JE X (.Name "_law_taken" p) (ae 5):=B.jv 5 rfl Lw QL;have v6 {p:Pos}:JE X (.Name "_law_place" p) (ae 6):=B.jv 6 rfl Lx kG;have v7 {p:Pos}:JE X (.Name "_law_row" p) (ae 7):=B.jv 7 rfl Ly yQ
 (aK (B.bI 3 rfl Ls rfl FZ) (aK (B.bI 4 rfl Lv rfl (du az)) (aK (B.bI 5 rfl Cg rfl ao) (aK (B.bI 6 rfl td rfl ao) (aK (B.FU (ej (k7 (aW iS v6 (dw rfl nofun nofun eA eE (B.gl _ K9) T.eh aeZ (aj rfl v0 az))) (d7 (aW B.ne (B.ak (B.ak v0 v6) ao) aT)))) (aK (B.bI 7 rfl Lz rfl (B.ak v0 v6)) (aK (B.bI 6 rfl td rfl (cb v6 ao)) (aK (bi (ej (k7 (aW B.eq (B.ak v7 ao) aT) (d7 (aW B.eq v2 ao)))) (aG (bo (cT (aj rfl aT (aj rfl v4 (aj rfl v5 az)))))) bG) (aK (bi (ej (k7 (aW B.eq (B.ak v7 ao) aT) (k7 (aW B.eq (B.ak v7 ao) aT) (d7 (aW B.eq (dJ rfl rfl afu aeY afD (mQ (iR B.room)) mP mR v3 (aj rfl (B.ak v7 ao) (aj rfl ao az))) ao))))) (aG (bo (cT (aj rfl aT (aj rfl v4 (aj rfl v5 az)))))) bG) (aG (bi (aW B.eq (B.ak v7 ao) aT) (aG (B.bI 2 rfl Lq rfl (iN v2 ao))) (aG (bi (aW B.eq (B.ak v7 ao) aT) (aG (k8 (B.ak v7 ao) (B.kW v3 (B.ak v7 ao)))) (aG (bi (aW B.eq (B.ak v7 ao) aT) (aG (k8 (dJ rfl rfl afu aeY afD (mQ (iR B.room)) mP mR v3 (aj rfl (B.ak v7 ao) (aj rfl ao az))) (B.kW v3 (B.ak v7 ao)))) (aG (bi (aW B.eq (B.ak v7 ao) aT) (aG (k8 (bt rfl nofun (R7 T) bp (B.room.mono (by decide)) (B.gl _ KA) T.DD T.ou.kp T.mn (aj rfl (B.ak v7 ao) (aj rfl (dJ rfl rfl afu aeY afD (mQ (iR B.room)) mP mR v3 (aj rfl (B.ak v7 ao) (aj rfl ao az))) (aj rfl (dJ rfl rfl afu aeY afD (mQ (iR B.room)) mP mR v3 (aj rfl (B.ak v7 ao) (aj rfl ao az))) az)))) (B.kW v3 (B.ak v7 ao)))) (aG (bi (aW B.eq (B.ak v7 ao) aT) (aK (k8 (B.ak (cb (jY v1 (iI v5) (iI (cb v5 ao))) (du (aj rfl ao az))) ao) (B.kW v3 (B.ak v7 ao))) (aG (B.bI 5 rfl Cg rfl (cb v5 ao)))) (aG (bi (aW B.eq (B.ak v7 ao) aT) (aG (gV rfl (dJ rfl rfl aeX afc afd ji jt jN v4 (aj rfl (dJ rfl rfl afu aeY afD (mQ (iR B.room)) mP mR v3 (aj rfl (B.ak v7 ao) (aj rfl ao az))) az)))) (aG (bi (aW B.eq (B.ak v7 ao) aT) (aG (B.bI 6 rfl td rfl (B.ak v7 ao))) (aG (bi (aW B.ne (dJ rfl rfl afu aeY afD (mQ (iR B.room)) mP mR v3 (aj rfl (B.ak v7 ao) (aj rfl ao az))) ao) (aG (B.bI 6 rfl td rfl (B.ak v7 ao))) bG))))))))))))))))))))) (aG (bo (cT (aj rfl aT (aj rfl v4 (aj rfl v5 az)))))))))))
theorem Ny(T:Tx K mg):bF P w K mg base (bE P w) 3 T.a_law_first_run T.tN ["_law_rows","_law_inputs","_law_turns"] (bP K mg 3 (fM lT 8 3)):=cv rfl rfl T.n4 Nx fun{X} h1 h2 h3 h4 h5 B hF aF=>by subst h3 h4;exact Mt T B hF aF
theorem Q5:b8 ["_law_found"] ["_law_found"] (ah gP):=⟨rfl,rfl,rfl,nofun,rfl,nofun,nofun⟩
theorem Pe(T:Tx X.K X.mg)(B:Bd X ["_law_found"] (ah gP) 0)(hF:bY X)(aF:X.env.scope=ah gP):JB X (aZ gP) kI:=
 have v0 {p:Pos}:JE X (.Name "_law_found" p) (ae 0):=B.jv 0 rfl Oj CY
 (aG (bo (qX (gY Ek ahz nofun nofun rfl (B.gl _ Cb) T.gn (B.gl _ Nj) T.wG v0) (oT (aax (gY DS aix nofun nofun rfl (B.gl _ Cb) T.gn (B.gl _ MR) T.z8 v0))))))
theorem C0(T:Tx K mg):bF P w K mg base (bE P w) 1 T.a_law_whole T.uo ["_law_found"] (bP K mg 1 (fM kI 1 1)):=cv rfl rfl T.l9 Q5 fun{X} h1 h2 h3 h4 h5 B hF aF=>by subst h3 h4;exact Pe T B hF aF
theorem aa1:b8 ["_law_script","_law_names","_law_many","_law_rows","_law_front","_law_cell","_law_inputs","_law_turns","_law_handed","_law_found","_law_due"] ["_law_script"] (ah bK):=⟨rfl,rfl,rfl,nofun,rfl,nofun,nofun⟩
theorem WO(T:Tx X.K X.mg)(B:Bd X ["_law_script","_law_names","_law_many","_law_rows","_law_front","_law_cell","_law_inputs","_law_turns","_law_handed","_law_found","_law_due"] (ah bK) 6)(hF:bY X)(aF:X.env.scope=ah bK):JB X (aZ bK) pw:=
 have v0 {p:Pos}:JE X (.Name "_law_script" p) (ae 0):=B.jv 0 rfl U8 qq;have v1 {p:Pos}:JE X (.Name "_law_names" p) (ae 1):=B.jv 1 rfl U9 uc;have v2 {p:Pos}:JE X (.Name "_law_many" p) (ae 2):=B.jv 2 rfl Vb qz;have v3 {p:Pos}:JE X (.Name "_law_rows" p) (ae 3):=B.jv 3 rfl Vc qA;have v4 {p:Pos}:JE X (.Name "_law_front" p) (ae 4):=B.jv 4 rfl Vd CZ;have v5 {p:Pos}:JE X (.Name "_law_cell" p) (ae 5):=B.jv 5 rfl Vf yG;have v6 {p:Pos}:JE X (.Name "_law_inputs" p) (ae 6):=B.jv 6 rfl Vh CO;have v7 {p:Pos}:JE X (.Name "_law_turns" p) (ae 7):=B.jv 7 rfl Vi qv;have v8 {p:Pos}:JE X (.Name "_law_handed" p) (ae 8):=B.jv 8 rfl Vj Qa;have v9 {p:Pos}:JE X (.Name "_law_found" p) (ae 9):=B.jv 9 rfl Vl CY;have sH {p:Pos}:JE X (.Name "_law_due" p) (ae 10):=B.jv 10 rfl Te Tb
 (aK (B.bI 1 rfl Va rfl (bt rfl nofun (Om T) bp (B.room.mono (by decide)) (B.gl _ LA) T.CD T.n5.kp T.lV (aj rfl (bt rfl nofun (iF T) bp (B.room.mono (by decide)) (B.gl _ kD) T.hX T.fk.kp T.eQ (aj rfl v0 (aj rfl ao az))) (aj rfl (cb ao (bQ (bt rfl nofun (iF T) bp (B.room.mono (by decide)) (B.gl _ kD) T.hX T.fk.kp T.eQ (aj rfl v0 (aj rfl ao az))) ao)) az)))) (aK (B.bI 2 rfl za rfl (bQ (cj (bt rfl nofun (iF T) bp (B.room.mono (by decide)) (B.gl _ kD) T.hX T.fk.kp T.eQ (aj rfl v0 (aj rfl ao az))) ao) ao)) (aK (bi (aW B.eq (bQ (cj (bt rfl nofun (iF T) bp (B.room.mono (by decide)) (B.gl _ kD) T.hX T.fk.kp T.eQ (aj rfl v0 (aj rfl ao az))) ao) ao) ao) (aG (B.bI 2 rfl za rfl (cb ao (bQ (cj (bt rfl nofun (iF T) bp (B.room.mono (by decide)) (B.gl _ kD) T.hX T.fk.kp T.eQ (aj rfl v0 (aj rfl ao az))) ao) ao)))) bG) (aK (B.bI 3 rfl zb rfl (bt rfl nofun (O8 T) bp (B.room.mono (by decide)) (B.gl _ Mp) T.CM T.n8.kp T.lY (aj rfl v0 (aj rfl ao (aj rfl v2 (aj rfl v1 az)))))) (aK (bi (ej (k7 (aW B.eq (bQ (bt rfl nofun (iF T) bp (B.room.mono (by decide)) (B.gl _ kD) T.hX T.fk.kp T.eQ (aj rfl v0 (aj rfl ao az))) ao) ao) (d7 (aW iS v2 ao)))) (aK (B.bI 4 rfl Ve rfl (ia (du (aj rfl (cT (aj rfl aT (aj rfl (B.ak v1 ao) az))) (aj rfl (cT (aj rfl aT (aj rfl (B.ak v1 ao) az))) az))) (cb ao (bQ (cj (bt rfl nofun (iF T) bp (B.room.mono (by decide)) (B.gl _ kD) T.hX T.fk.kp T.eQ (aj rfl v0 (aj rfl ao az))) ao) ao)))) (aK (B.bI 3 rfl zb rfl (cb v4 (kU B.calm (N':=["_law_row","_law_front"]) (Bd.cap B.hN aF nofun) (qR v3) (iX B T nofun nofun fun{X} B T=>(B.d9 0 rfl (.inl rfl))) (iY B T nofun nofun fun{X} B T=>jR) (iZ B T nofun nofun fun{X} B T=>(bt rfl nofun (Pa T) bp (B.room.mono (by decide)) (B.gl _ rfl) T.CN T.n9.kp T.lZ (aj rfl (B.jv 0 rfl (.inl rfl) yQ) (aj rfl (dw rfl nofun nofun eA eE (B.gl _ rfl) T.eh aeZ (aj rfl (B.jv 1 rfl (.inr (.inr rfl)) CZ) az)) az))))))) (aG (B.bI 2 rfl za rfl (dw rfl nofun nofun eA eE (B.gl _ DE) T.eh aeZ (aj rfl v3 az)))))) bG) (aK (B.bI 5 rfl Vg rfl (bt rfl nofun (iF T) bp (B.room.mono (by decide)) (B.gl _ kD) T.hX T.fk.kp T.eQ (aj rfl v0 (aj rfl ao az)))) (aK (zH (i:=6) (by rw[B.hN];exact B.nd) (by rw[B.hN];rfl) (B.fn _ D7).2 (by rw[aF];decide +kernel) B.calm (N':=["_law_k","_law_script"]) (Bd.cap B.hN aF nofun) (ms (B.gl _ yB) T.kY rfl (aj rfl (B.ak (du (aj rfl ao (aj rfl ao (aj rfl ao (aj rfl ao (aj rfl ao (aj rfl ao (aj rfl ao (aj rfl ao (aj rfl ao az)))))))))) (bQ v5 ao)) az)) (iX B T nofun nofun fun{X} B T=>(B.d9 0 rfl (.inl rfl))) (iY B T nofun nofun fun{X} B T=>jR) (iZ B T nofun nofun fun{X} B T=>(bt rfl nofun (yp T) bp (B.room.mono (by decide)) (B.gl _ rfl) T.tJ T.kF.kp T.jK (aj rfl (bt rfl nofun (iF T) bp (B.room.mono (by decide)) (B.gl _ rfl) T.hX T.fk.kp T.eQ (aj rfl (B.jv 1 rfl (.inr (.inr rfl)) qq) (aj rfl (cb ao (B.jv 0 rfl (.inl rfl) mJ)) az))) az))) (yV (by rw[aF];rfl) (by rw[aF];decide +kernel) rfl nofun)) (aK (B.bI 7 rfl uT rfl (bQ (cj v5 ao) ao)) (aK (bi (aW B.eq (bQ (cj v5 ao) ao) ao) (aG (B.bI 7 rfl uT rfl (cb ao (bQ (cj v5 ao) ao)))) bG) (aK (bi (aW B.eq (kU B.calm (N':=["_law_place","_law_rows"]) (Bd.cap B.hN aF nofun) (ms (B.gl _ yB) T.kY rfl (aj rfl v2 az)) (iX B T nofun nofun fun{X} B T=>(B.d9 0 rfl (.inl rfl))) (iY B T nofun nofun fun{X} B T=>(FV (ej (k7 (aW (B.adF (by with_unfolding_all rfl)) (B.ak (B.ak (B.jv 1 rfl (.inr (.inr rfl)) qA) (B.jv 0 rfl (.inl rfl) kG)) ao) (cT (aj rfl aT (aj rfl aT az)))) (d7 (aW jX (B.ak (B.ak (B.jv 1 rfl (.inr (.inr rfl)) qA) (B.jv 0 rfl (.inl rfl) kG)) (jo ao)) (B.jv 0 rfl (.inl rfl) kG))))))) (iZ B T nofun nofun fun{X} B T=>(B.jv 0 rfl (.inl rfl) kG))) (du az)) (aG (B.bI 7 rfl uT rfl (B.ak (du (aj rfl v7 (aj rfl ao az))) (bQ (cj v5 ao) ao)))) bG) (aK (bi (aW B.eq (bQ (cj v5 ao) ao) ao) (aK (B.bI 3 rfl zb rfl (du (aj rfl (cT (aj rfl aT az)) (aj rfl (cT (aj rfl aT (aj rfl (B.ak v1 (jo ao)) az))) (aj rfl (cT (aj rfl aT (aj rfl (B.ak v1 ao) (aj rfl aT (aj rfl (B.ak v1 ao) (aj rfl (B.ak v1 (jo ao)) az)))))) (aj rfl (cT (aj rfl aT (aj rfl (B.ak v1 ao) az))) az)))))) (aK (gV rfl (dJ rfl rfl aeX afc afd ji jt jN v3 (aj rfl (cT (aj rfl aT (aj rfl ao az))) az))) (aK (B.bI 7 rfl uT rfl (cb ao (bQ (cj v5 ao) ao))) (aG (B.bI 6 rfl D7 rfl (cb v6 (kU B.calm (N':=["_law_k","_law_script"]) (Bd.cap B.hN aF nofun) (ms (B.gl _ yB) T.kY rfl (aj rfl ao az)) (iX B T nofun nofun fun{X} B T=>(B.d9 0 rfl (.inl rfl))) (iY B T nofun nofun fun{X} B T=>jR) (iZ B T nofun nofun fun{X} B T=>(bt rfl nofun (yp T) bp (B.room.mono (by decide)) (B.gl _ rfl) T.tJ T.kF.kp T.jK (aj rfl (cb (bt rfl nofun (iF T) bp (B.room.mono (by decide)) (B.gl _ rfl) T.hX T.fk.kp T.eQ (aj rfl (B.jv 1 rfl (.inr (.inr rfl)) qq) (aj rfl (cb ao (bQ (B.jv 0 rfl (.inl rfl) mJ) ao)) az))) (ia (ia ao (B.jv 0 rfl (.inl rfl) mJ)) (B.jv 0 rfl (.inl rfl) mJ))) az)))))))))) bG) (aK (B.bI 8 rfl Vk rfl (du (aj rfl (qY rfl nofun nofun (uz B.calm) vj (B.gl _ yJ) T.lc afx (aj rfl v3 az)) (aj rfl (qY rfl nofun nofun (uz B.calm) vj (B.gl _ yJ) T.lc afx (aj rfl v6 az)) az)))) (aK (B.bI 9 rfl Vm rfl (bt rfl nofun (Q3 T) bp (B.room.mono (by decide)) (B.gl _ Nk) T.Dd T.oi.kp T.l7 (aj rfl (B.ak v8 ao) (aj rfl (B.ak v8 ao) (aj rfl v7 az))))) (aK (B.bI 10 rfl Tf rfl (bt rfl nofun (Ny T) bp (B.room.mono (by decide)) (B.gl _ La) T.Cy T.n4.kp T.lT (aj rfl v3 (aj rfl v6 (aj rfl v7 az))))) (aK (bi (ej (fQ (fN (fO rfl (gY Dw aim nofun nofun rfl (B.gl _ yo) T.gn (B.gl _ QU) T.zO v9))) (fQ (aW B.ne (dw rfl nofun nofun eA eE (B.gl _ DE) T.eh aeZ (aj rfl v9 az)) ao) (fQ (aW B.ne v9 sH) (d7 (aW B.ne v8 (du (aj rfl v3 (aj rfl v6 az))))))))) (aG (bo jW)) bG) (aK (bi (ej (fQ (fN (fO rfl (gY u0 agS nofun nofun rfl (B.gl _ yo) T.gn (B.gl _ Tg) T.rK (B.ak v9 ao)))) (fQ (fN (fO rfl (gY yU afx nofun nofun rfl (B.gl _ yo) T.gn (B.gl _ yJ) T.lc (B.ak v9 ao)))) (d7 (fN (fO rfl (bt rfl nofun (C0 T) bp (B.room.mono (by decide)) (B.gl _ Nl) T.yC T.l9.kp T.kI (aj rfl (B.ak v9 ao) az)))))))) (aG (bo jW)) bG) (aG (bo (dw rfl nofun nofun (uy B.calm) vJ (B.gl _ Th) T.rJ agT (aj rfl (kU B.calm (N':=["_law_one"]) (Bd.cap B.hN aF nofun) (qR (B.ak v9 ao)) (iX B T nofun nofun fun{X} B T=>(B.d9 0 rfl (.inl rfl))) (iY B T nofun nofun fun{X} B T=>jR) (iZ B T nofun nofun fun{X} B T=>(bt rfl nofun (C0 T) bp (B.room.mono (by decide)) (B.gl _ rfl) T.yC T.l9.kp T.kI (aj rfl (B.jv 0 rfl (.inl rfl) yP) az)))) az))))))))))))))))))))
theorem aa2(T:Tx K mg):bF P w K mg base (bE P w) 7 T.a_law T.wD ["_law_script"] (bP K mg 1 (fM pw 11 1)):=cv rfl rfl T.rG aa1 fun{X} h1 h2 h3 h4 h5 B hF aF=>by subst h3 h4;exact WO T B hF aF
end
theorem all_mk{l:aiK}{w:World}{K:acs}{h:Heap}{mg:Str->Option Value}{fa:Addr}(KX:K.In h)(G:h.Ns ael mg)(hfa:mg "law"=some (.ref fa))
  {tW:Addr} {Pf Ph:Option Addr} {Pj:Array (Option Value)} {Pk Pl Pm Pn CI Pp:Value}
  {tP:Addr} {Ou Ov:Option Addr} {Ow:Array (Option Value)} {Ox Oy Oz OA CA OB:Value}
  {tu:Addr} {Nz NA:Option Addr} {NB:Array (Option Value)} {NC ND NE NF Cs NG:Value}
  {tX:Addr} {Pq Pr:Option Addr} {Pt:Array (Option Value)} {Pu Pw Px Py CJ Pz:Value}
  {t9:Addr} {Qv Qw:Option Addr} {Qx:Array (Option Value)} {Qy Qz QA QB CP QC:Value}
  {tY:Addr} {PB PC:Option Addr} {PD:Array (Option Value)} {PJ PM PN PP CK PQ:Value}
  {tZ:Addr} {PU PV:Option Addr} {PX:Array (Option Value)} {PY PZ P4 P5 CL P6:Value}
  {uH:Addr} {Tv Tw:Option Addr} {Tz:Array (Option Value)} {TB TC TF TH DG TJ:Value}
  {ue:Addr} {Q6 Q7:Option Addr} {Q8:Array (Option Value)} {Q9 Ra Rb Rc C1 Rf:Value}
  {uI:Addr} {TK TN:Option Addr} {TQ:Array (Option Value)} {TR TU TV TX DH TY:Value}
  {ur:Addr} {R8 R9:Option Addr} {Sa:Array (Option Value)} {Sb Sd Se Sf Dk Sg:Value}
  {uJ:Addr} {TZ T1:Option Addr} {T2:Array (Option Value)} {T3 T4 T5 T6 DI T7:Value}
  {uU:Addr} {Vu Vv:Option Addr} {Vw:Array (Option Value)} {Vx Vy Vz VA D8 VB:Value}
  {tw:Addr} {NH NI:Option Addr} {NJ:Array (Option Value)} {NK NL NM NN Ct NO:Value}
  {tf:Addr} {LD LF:Option Addr} {LG:Array (Option Value)} {LH LI LJ LK Ci LL:Value}
  {tD:Addr} {NP NQ:Option Addr} {NR:Array (Option Value)} {NT NU NV NW Cu NX:Value}
  {tQ:Addr} {OC OD:Option Addr} {OE:Array (Option Value)} {OF OG OH OI CB OJ:Value}
  {ut:Addr} {Sh Si:Option Addr} {Sj:Array (Option Value)} {Sk Sl Sm Sn Dm So:Value}
  {qB:Addr} {Sq Sr:Option Addr} {Ss:Array (Option Value)} {Su Sv Sw Sx Do Sy:Value}
  {vD:Addr} {YA YB:Option Addr} {YC:Array (Option Value)} {YD YE YF YG FD YH:Value}
  {vT:Addr} {aa3 aa4:Option Addr} {aa5:Array (Option Value)} {aa6 aa7 aa8 aa9 Gw aba:Value}
  {uV:Addr} {VC VD:Option Addr} {VE:Array (Option Value)} {VF VG VH VI D9 VJ:Value}
  {uv:Addr} {Sz SA:Option Addr} {SD:Array (Option Value)} {SE SF SG SH Dp SI:Value}
  {vd:Addr} {WP WQ:Option Addr} {WR:Array (Option Value)} {WS WT WU WV EL WW:Value}
  {uf:Addr} {Rg Rh:Option Addr} {Ri:Array (Option Value)} {Rj Rk Rl Rm C3 Rn:Value}
  {uW:Addr} {VL VM:Option Addr} {VN:Array (Option Value)} {VO VP VQ VR Ea VS:Value}
  {uK:Addr} {T8 T9:Option Addr} {Ua:Array (Option Value)} {Ub Uc Ud Ue DJ Ug:Value}
  {ug:Addr} {Ro Rp:Option Addr} {Rq:Array (Option Value)} {Rr Rt Ru Rv C4 Rw:Value}
  {uL:Addr} {Uh Ui:Option Addr} {Uj:Array (Option Value)} {Uk Ul Um Uo DK Up:Value}
  {uw:Addr} {SJ SK:Option Addr} {SN:Array (Option Value)} {SO SQ SR SS Dq SU:Value}
  {tE:Addr} {NY NZ:Option Addr} {N0:Array (Option Value)} {N1 N2 N3 N5 Cv N6:Value}
  {uh:Addr} {Rx Ry:Option Addr} {Rz:Array (Option Value)} {RA RB RC RD C5 RE:Value}
  {z9:Addr} {abb Gx:Option Addr} {abc:Array (Option Value)} {abd Gy Gz GA Aa GB:Value}
  {mH:Addr}
  {rf:Tok}
  {qH:Tok}
  {qm:Tok}
  {qr:Tok}
  {qy:Tok}
  {qu:Tok}
  {mI:Addr}
  {zw:Addr}
  {fu:Addr}
  {mr:Addr}
  (a_law_cell_at:aeo K ael "_law_cell_at"=some (some (.ref tW)))
  (l_law_cell_at:K.lookup tW=some ⟨Pk,Pf,.func (aeE "_law_cell_at" "_law_cell_at" (b0 hW) (aZ hW) (ah hW) .none Pl Pm Pn Ph CI Pp),Pj⟩)
  (c_law_cell_at:aez K CI "_law_cell_at"=true)
  (k_law_cell_at:aeu K (.ref tW)=true)
  (a_law_names_by:aeo K ael "_law_names_by"=some (some (.ref tP)))
  (l_law_names_by:K.lookup tP=some ⟨Ox,Ou,.func (aeE "_law_names_by" "_law_names_by" (b0 cN) (aZ cN) (ah cN) .none Oy Oz OA Ov CA OB),Ow⟩)
  (c_law_names_by:aez K CA "_law_names_by"=true)
  (k_law_names_by:aeu K (.ref tP)=true)
  (a_law_number_by:aeo K ael "_law_number_by"=some (some (.ref tu)))
  (l_law_number_by:K.lookup tu=some ⟨NC,Nz,.func (aeE "_law_number_by" "_law_number_by" (b0 jd) (aZ jd) (ah jd) .none ND NE NF NA Cs NG),NB⟩)
  (c_law_number_by:aez K Cs "_law_number_by"=true)
  (k_law_number_by:aeu K (.ref tu)=true)
  (a_law_jump_by:aeo K ael "_law_jump_by"=some (some (.ref tX)))
  (l_law_jump_by:K.lookup tX=some ⟨Pu,Pq,.func (aeE "_law_jump_by" "_law_jump_by" (b0 gj) (aZ gj) (ah gj) .none Pw Px Py Pr CJ Pz),Pt⟩)
  (c_law_jump_by:aez K CJ "_law_jump_by"=true)
  (k_law_jump_by:aeu K (.ref tX)=true)
  (a_law_row_by:aeo K ael "_law_row_by"=some (some (.ref t9)))
  (l_law_row_by:K.lookup t9=some ⟨Qy,Qv,.func (aeE "_law_row_by" "_law_row_by" (b0 cE) (aZ cE) (ah cE) .none Qz QA QB Qw CP QC),Qx⟩)
  (c_law_row_by:aez K CP "_law_row_by"=true)
  (k_law_row_by:aeu K (.ref t9)=true)
  (a_law_rows_by:aeo K ael "_law_rows_by"=some (some (.ref tY)))
  (l_law_rows_by:K.lookup tY=some ⟨PJ,PB,.func (aeE "_law_rows_by" "_law_rows_by" (b0 dr) (aZ dr) (ah dr) .none PM PN PP PC CK PQ),PD⟩)
  (c_law_rows_by:aez K CK "_law_rows_by"=true)
  (k_law_rows_by:aeu K (.ref tY)=true)
  (a_law_shifted:aeo K ael "_law_shifted"=some (some (.ref tZ)))
  (l_law_shifted:K.lookup tZ=some ⟨PY,PU,.func (aeE "_law_shifted" "_law_shifted" (b0 iG) (aZ iG) (ah iG) .none PZ P4 P5 PV CL P6),PX⟩)
  (c_law_shifted:aez K CL "_law_shifted"=true)
  (k_law_shifted:aeu K (.ref tZ)=true)
  (a_is_name:aeo K ael "is_name"=some (some (.ref uH)))
  (l_is_name:K.lookup uH=some ⟨TB,Tv,.func (aeE "is_name" "is_name" (b0 fK) (aZ fK) (ah fK) .none TC TF TH Tw DG TJ),Tz⟩)
  (c_is_name:aez K DG "is_name"=true)
  (k_is_name:aeu K (.ref uH)=true)
  (a_is_number:aeo K ael "is_number"=some (some (.ref ue)))
  (l_is_number:K.lookup ue=some ⟨Q9,Q6,.func (aeE "is_number" "is_number" (b0 gp) (aZ gp) (ah gp) .none Ra Rb Rc Q7 C1 Rf),Q8⟩)
  (c_is_number:aez K C1 "is_number"=true)
  (k_is_number:aeu K (.ref ue)=true)
  (a_is_word:aeo K ael "is_word"=some (some (.ref uI)))
  (l_is_word:K.lookup uI=some ⟨TR,TK,.func (aeE "is_word" "is_word" (b0 gS) (aZ gS) (ah gS) .none TU TV TX TN DH TY),TQ⟩)
  (c_is_word:aez K DH "is_word"=true)
  (k_is_word:aeu K (.ref uI)=true)
  (a_is_place:aeo K ael "is_place"=some (some (.ref ur)))
  (l_is_place:K.lookup ur=some ⟨Sb,R8,.func (aeE "is_place" "is_place" (b0 h9) (aZ h9) (ah h9) .none Sd Se Sf R9 Dk Sg),Sa⟩)
  (c_is_place:aez K Dk "is_place"=true)
  (k_is_place:aeu K (.ref ur)=true)
  (a_is_part:aeo K ael "is_part"=some (some (.ref uJ)))
  (l_is_part:K.lookup uJ=some ⟨T3,TZ,.func (aeE "is_part" "is_part" (b0 fq) (aZ fq) (ah fq) .none T4 T5 T6 T1 DI T7),T2⟩)
  (c_is_part:aez K DI "is_part"=true)
  (k_is_part:aeu K (.ref uJ)=true)
  (a_is_row:aeo K ael "is_row"=some (some (.ref uU)))
  (l_is_row:K.lookup uU=some ⟨Vx,Vu,.func (aeE "is_row" "is_row" (b0 d5) (aZ d5) (ah d5) .none Vy Vz VA Vv D8 VB),Vw⟩)
  (c_is_row:aez K D8 "is_row"=true)
  (k_is_row:aeu K (.ref uU)=true)
  (a_parts_of_kind:aeo K ael "parts_of_kind"=some (some (.ref tw)))
  (l_parts_of_kind:K.lookup tw=some ⟨NK,NH,.func (aeE "parts_of_kind" "parts_of_kind" (b0 hV) (aZ hV) (ah hV) .none NL NM NN NI Ct NO),NJ⟩)
  (c_parts_of_kind:aez K Ct "parts_of_kind"=true)
  (k_parts_of_kind:aeu K (.ref tw)=true)
  (a_jumps_back_badly:aeo K ael "jumps_back_badly"=some (some (.ref tf)))
  (l_jumps_back_badly:K.lookup tf=some ⟨LH,LD,.func (aeE "jumps_back_badly" "jumps_back_badly" (b0 gg) (aZ gg) (ah gg) .none LI LJ LK LF Ci LL),LG⟩)
  (c_jumps_back_badly:aez K Ci "jumps_back_badly"=true)
  (k_jumps_back_badly:aeu K (.ref tf)=true)
  (a_with_names_of:aeo K ael "with_names_of"=some (some (.ref tD)))
  (l_with_names_of:K.lookup tD=some ⟨NT,NP,.func (aeE "with_names_of" "with_names_of" (b0 eP) (aZ eP) (ah eP) .none NU NV NW NQ Cu NX),NR⟩)
  (c_with_names_of:aez K Cu "with_names_of"=true)
  (k_with_names_of:aeu K (.ref tD)=true)
  (a_need_program:aeo K ael "need_program"=some (some (.ref tQ)))
  (l_need_program:K.lookup tQ=some ⟨OF,OC,.func (aeE "need_program" "need_program" (b0 cW) (aZ cW) (ah cW) .none OG OH OI OD CB OJ),OE⟩)
  (c_need_program:aez K CB "need_program"=true)
  (k_need_program:aeu K (.ref tQ)=true)
  (a_need_run:aeo K ael "need_run"=some (some (.ref ut)))
  (l_need_run:K.lookup ut=some ⟨Sk,Sh,.func (aeE "need_run" "need_run" (b0 eR) (aZ eR) (ah eR) .none Sl Sm Sn Si Dm So),Sj⟩)
  (c_need_run:aez K Dm "need_run"=true)
  (k_need_run:aeu K (.ref ut)=true)
  (a_Run_init:aff K (.ref fu) "__init__"=some (some (.ref qB)))
  (i_Run_init:PySem.W.isFn K (.ref qB)=true)
  (l_Run_init:K.lookup qB=some ⟨Su,Sq,.func (aeE "__init__" "Run.__init__" (b0 gQ) (aZ gQ) (ah gQ) .none Sv Sw Sx Sr Do Sy),Ss⟩)
  (c_Run_init:aez K Do "Run.__init__"=true)
  (k_Run_init:aeu K (.ref qB)=true)
  (a_held:aeo K ael "held"=some (some (.ref vD)))
  (l_held:K.lookup vD=some ⟨YD,YA,.func (aeE "held" "held" (b0 iO) (aZ iO) (ah iO) .none YE YF YG YB FD YH),YC⟩)
  (c_held:aez K FD "held"=true)
  (k_held:aeu K (.ref vD)=true)
  (a_fit:aeo K ael "fit"=some (some (.ref vT)))
  (l_fit:K.lookup vT=some ⟨aa6,aa3,.func (aeE "fit" "fit" (b0 iU) (aZ iU) (ah iU) .none aa7 aa8 aa9 aa4 Gw aba),aa5⟩)
  (c_fit:aez K Gw "fit"=true)
  (k_fit:aeu K (.ref vT)=true)
  (a_parted:aeo K ael "parted"=some (some (.ref uV)))
  (l_parted:K.lookup uV=some ⟨VF,VC,.func (aeE "parted" "parted" (b0 gU) (aZ gU) (ah gU) .none VG VH VI VD D9 VJ),VE⟩)
  (c_parted:aez K D9 "parted"=true)
  (k_parted:aeu K (.ref uV)=true)
  (a_reckoned:aeo K ael "reckoned"=some (some (.ref uv)))
  (l_reckoned:K.lookup uv=some ⟨SE,Sz,.func (aeE "reckoned" "reckoned" (b0 gq) (aZ gq) (ah gq) .none SF SG SH SA Dp SI),SD⟩)
  (c_reckoned:aez K Dp "reckoned"=true)
  (k_reckoned:aeu K (.ref uv)=true)
  (a_taken:aeo K ael "taken"=some (some (.ref vd)))
  (l_taken:K.lookup vd=some ⟨WS,WP,.func (aeE "taken" "taken" (b0 iK) (aZ iK) (ah iK) .none WT WU WV WQ EL WW),WR⟩)
  (c_taken:aez K EL "taken"=true)
  (k_taken:aeu K (.ref vd)=true)
  (a_make_turn:aeo K ael "make_turn"=some (some (.ref uf)))
  (l_make_turn:K.lookup uf=some ⟨Rj,Rg,.func (aeE "make_turn" "make_turn" (b0 jg) (aZ jg) (ah jg) .none Rk Rl Rm Rh C3 Rn),Ri⟩)
  (c_make_turn:aez K C3 "make_turn"=true)
  (k_make_turn:aeu K (.ref uf)=true)
  (a_do_row:aeo K ael "do_row"=some (some (.ref uW)))
  (l_do_row:K.lookup uW=some ⟨VO,VL,.func (aeE "do_row" "do_row" (b0 fL) (aZ fL) (ah fL) .none VP VQ VR VM Ea VS),VN⟩)
  (c_do_row:aez K Ea "do_row"=true)
  (k_do_row:aeu K (.ref uW)=true)
  (a_outcome:aeo K ael "outcome"=some (some (.ref uK)))
  (l_outcome:K.lookup uK=some ⟨Ub,T8,.func (aeE "outcome" "outcome" (b0 d0) (aZ d0) (ah d0) .none Uc Ud Ue T9 DJ Ug),Ua⟩)
  (c_outcome:aez K DJ "outcome"=true)
  (k_outcome:aeu K (.ref uK)=true)
  (a_first_run:aeo K ael "first_run"=some (some (.ref ug)))
  (l_first_run:K.lookup ug=some ⟨Rr,Ro,.func (aeE "first_run" "first_run" (b0 fJ) (aZ fJ) (ah fJ) .none Rt Ru Rv Rp C4 Rw),Rq⟩)
  (c_first_run:aez K C4 "first_run"=true)
  (k_first_run:aeu K (.ref ug)=true)
  (a_law_fit:aeo K ael "_law_fit"=some (some (.ref uL)))
  (l_law_fit:K.lookup uL=some ⟨Uk,Uh,.func (aeE "_law_fit" "_law_fit" (b0 jj) (aZ jj) (ah jj) .none Ul Um Uo Ui DK Up),Uj⟩)
  (c_law_fit:aez K DK "_law_fit"=true)
  (k_law_fit:aeu K (.ref uL)=true)
  (a_law_deed:aeo K ael "_law_deed"=some (some (.ref uw)))
  (l_law_deed:K.lookup uw=some ⟨SO,SJ,.func (aeE "_law_deed" "_law_deed" (b0 gu) (aZ gu) (ah gu) .none SQ SR SS SK Dq SU),SN⟩)
  (c_law_deed:aez K Dq "_law_deed"=true)
  (k_law_deed:aeu K (.ref uw)=true)
  (a_law_first_run:aeo K ael "_law_first_run"=some (some (.ref tE)))
  (l_law_first_run:K.lookup tE=some ⟨N1,NY,.func (aeE "_law_first_run" "_law_first_run" (b0 cV) (aZ cV) (ah cV) .none N2 N3 N5 NZ Cv N6),N0⟩)
  (c_law_first_run:aez K Cv "_law_first_run"=true)
  (k_law_first_run:aeu K (.ref tE)=true)
  (a_law_whole:aeo K ael "_law_whole"=some (some (.ref uh)))
  (l_law_whole:K.lookup uh=some ⟨RA,Rx,.func (aeE "_law_whole" "_law_whole" (b0 gP) (aZ gP) (ah gP) .none RB RC RD Ry C5 RE),Rz⟩)
  (c_law_whole:aez K C5 "_law_whole"=true)
  (k_law_whole:aeu K (.ref uh)=true)
  (a_law:aeo K ael "law"=some (some (.ref z9)))
  (l_law:K.lookup z9=some ⟨abd,abb,.func (aeE "law" "law" (b0 bK) (aZ bK) (ah bK) .none Gy Gz GA Gx Aa GB),abc⟩)
  (c_law:aez K Aa "law"=true)
  (k_law:aeu K (.ref z9)=true)
  (z_all:aeo K ael "all"=some none)
  (z_bool:aeo K ael "bool"=some none)
  (z_enumerate:aeo K ael "enumerate"=some none)
  (z_int:aeo K ael "int"=some none)
  (z_isinstance:aeo K ael "isinstance"=some none)
  (z_len:aeo K ael "len"=some none)
  (z_list:aeo K ael "list"=some none)
  (z_range:aeo K ael "range"=some none)
  (z_str:aeo K ael "str"=some none)
  (z_tuple:aeo K ael "tuple"=some none)
  (z_zip:aeo K ael "zip"=some none)
  (g_FORMS:aeo K ael "FORMS"=some (some (.ref mH)))
  (gk_FORMS:PyProof.Rows.KTD.tabLook (qc K) (fun b=>K.lookup b) mH di=true)
  (g_HALF:aeo K ael "HALF"=some (some (.int (2147483648) rf)))
  (g_LETTERS:aeo K ael "LETTERS"=some (some (.str "abcdefghijklmnopqrstuvwxyz" qH)))
  (g_MOST_LETTERS:aeo K ael "MOST_LETTERS"=some (some (.int (6) qm)))
  (g_MOST_NAMES:aeo K ael "MOST_NAMES"=some (some (.int (12) qr)))
  (g_MOST_ROWS:aeo K ael "MOST_ROWS"=some (some (.int (60) qy)))
  (g_MOST_TURNS:aeo K ael "MOST_TURNS"=some (some (.int (10000) qu)))
  (g_WORDS:aeo K ael "WORDS"=some (some (.ref mI)))
  (gk_WORDS:qc K kX (.ref mI)=true)
  (x_BadRun:aeo K ael "BadRun"=some (some (.ref zw)))
  (xi_BadRun:agC K zw pd "ValueError.__new__"=true)
  (x_Run:aeo K ael "Run"=some (some (.ref fu)))
  (pg_Run:ahA K fu Str.empty=true) (hd_Run:ahq K fu=true) (po_Run:ahZ K fu=true) (sa_Run:aff K (.ref fu) "__setattr__"=some (some (.builtin "object.__setattr__")))
  (mk_Run:aiD K fu=true) (kc_Run:aeu K (.ref fu)=true)
  (na_at_Run:aff K (.ref fu) "at"=some none)
  (na_holds_Run:aff K (.ref fu) "holds"=some none)
  (na_inputs_Run:aff K (.ref fu) "inputs"=some none)
  (na_takes_Run:aff K (.ref fu) "takes"=some none)
  (na_told_Run:aff K (.ref fu) "told"=some none)
  (na_turns_left_Run:aff K (.ref fu) "turns_left"=some none)
  (na_word_Run:aff K (.ref fu) "word"=some none)
  (x_ByNought:aeo K ael "ByNought"=some (some (.ref mr)))
  (xk_ByNought:AX K mr=true)
  (xi_ByNought:agC K mr pd "ValueError.__new__"=true)
  (xt_ByNought:ahu K (.ref mr)=some (.type "type"))
  (y_su_ByNought_ByNought:ahE K (.ref mr) (.ref mr)=some true)
  : ∃fd:aeT,(∀(s:aem) (v:Value),BindsTo s fd ⟨[v],[]⟩ [("_law_script",v)])/\∀base:Heap,K.In base->base.Ns ael mg->bF l.prog w K mg base (bE l.prog w) 7 fa fd ["_law_script"] (bP K mg 1 rE):=by
 have e:=hfa.symm.trans (aet KX G a_law);cases e;have fk:=cw (st:=hW) l_law_cell_at c_law_cell_at k_law_cell_at;have n5:=cw (st:=cN) l_law_names_by c_law_names_by k_law_names_by;have kF:=cw (st:=jd) l_law_number_by c_law_number_by k_law_number_by;have l3:=cw (st:=gj) l_law_jump_by c_law_jump_by k_law_jump_by;have oa:=cw (st:=cE) l_law_row_by c_law_row_by k_law_row_by;have n8:=cw (st:=dr) l_law_rows_by c_law_rows_by k_law_rows_by;have n9:=cw (st:=iG) l_law_shifted c_law_shifted k_law_shifted;have ox:=cw (st:=fK) l_is_name c_is_name k_is_name;have jM:=cw (st:=gp) l_is_number c_is_number k_is_number;have oy:=cw (st:=gS) l_is_word c_is_word k_is_word;have oo:=cw (st:=h9) l_is_place c_is_place k_is_place;have oz:=cw (st:=fq) l_is_part c_is_part k_is_part;have oG:=cw (st:=d5) l_is_row c_is_row k_is_row;have lU:=cw (st:=hV) l_parts_of_kind c_parts_of_kind k_parts_of_kind;have nY:=cw (st:=gg) l_jumps_back_badly c_jumps_back_badly k_jumps_back_badly;have n0:=cw (st:=eP) l_with_names_of c_with_names_of k_with_names_of;have n6:=cw (st:=cW) l_need_program c_need_program k_need_program;have oq:=cw (st:=eR) l_need_run c_need_run k_need_run;have qD:=cw (st:=gQ) l_Run_init c_Run_init k_Run_init;have jq:=cw (st:=iO) l_held c_held k_held;have jZ:=cw (st:=iU) l_fit c_fit k_fit;have oH:=cw (st:=gU) l_parted c_parted k_parted;have ot:=cw (st:=gq) l_reckoned c_reckoned k_reckoned;have oM:=cw (st:=iK) l_taken c_taken k_taken;have oh:=cw (st:=jg) l_make_turn c_make_turn k_make_turn;have oI:=cw (st:=fL) l_do_row c_do_row k_do_row;have oA:=cw (st:=d0) l_outcome c_outcome k_outcome;have oi:=cw (st:=fJ) l_first_run c_first_run k_first_run;have mD:=cw (st:=jj) l_law_fit c_law_fit k_law_fit;have ou:=cw (st:=gu) l_law_deed c_law_deed k_law_deed;have n4:=cw (st:=cV) l_law_first_run c_law_first_run k_law_first_run;have l9:=cw (st:=gP) l_law_whole c_law_whole k_law_whole;have rG:=cw (st:=bK) l_law c_law k_law
 let T:Tx K mg:={
  a_law_cell_at:=tW,t4:=_,fk:=fk,hX:=aet KX G a_law_cell_at,eQ:=fk.binds (ps:=["_law_script","_law_k"]) (fun _ _ _ _ _ _ us hl=>by obtain⟨_,_,rfl⟩:=g7 us hl;rfl),
  a_law_names_by:=tP,tU:=_,n5:=n5,CD:=aet KX G a_law_names_by,lV:=n5.binds (ps:=["_law_n","_law_many"]) (fun _ _ _ _ _ _ us hl=>by obtain⟨_,_,rfl⟩:=g7 us hl;rfl),
  a_law_number_by:=tu,tH:=_,kF:=kF,tJ:=aet KX G a_law_number_by,jK:=kF.binds (ps:=["_law_cell"]) (fun _ _ _ _ _ _ us hl=>by obtain⟨_,rfl⟩:=iz us hl;rfl),
  a_law_jump_by:=tX,t5:=_,l3:=l3,yw:=aet KX G a_law_jump_by,jL:=l3.binds (ps:=["_law_more","_law_place","_law_many","_law_turns"]) (fun _ _ _ _ _ _ us hl=>by obtain⟨_,_,_,_,rfl⟩:=A4 us hl;rfl),
  a_law_row_by:=t9,ub:=_,oa:=oa,CT:=aet KX G a_law_row_by,l4:=oa.binds (ps:=["_law_cell","_law_place","_law_many","_law_names","_law_turns"]) (fun _ _ _ _ _ _ us hl=>by obtain⟨_,_,_,_,_,rfl⟩:=adM us hl;rfl),
  a_law_rows_by:=tY,t6:=_,n8:=n8,CM:=aet KX G a_law_rows_by,lY:=n8.binds (ps:=["_law_script","_law_first","_law_many","_law_names"]) (fun _ _ _ _ _ _ us hl=>by obtain⟨_,_,_,_,rfl⟩:=A4 us hl;rfl),
  a_law_shifted:=tZ,t7:=_,n9:=n9,CN:=aet KX G a_law_shifted,lZ:=n9.binds (ps:=["_law_row","_law_more"]) (fun _ _ _ _ _ _ us hl=>by obtain⟨_,_,rfl⟩:=g7 us hl;rfl),
  a_is_name:=uH,uN:=_,ox:=ox,D1:=aet KX G a_is_name,mz:=ox.binds (ps:=["thing"]) (fun _ _ _ _ _ _ us hl=>by obtain⟨_,rfl⟩:=iz us hl;rfl),
  a_is_number:=ue,uk:=_,jM:=jM,qw:=aet KX G a_is_number,jh:=jM.binds (ps:=["thing"]) (fun _ _ _ _ _ _ us hl=>by obtain⟨_,rfl⟩:=iz us hl;rfl),
  a_is_word:=uI,uO:=_,oy:=oy,D2:=aet KX G a_is_word,mB:=oy.binds (ps:=["thing"]) (fun _ _ _ _ _ _ us hl=>by obtain⟨_,rfl⟩:=iz us hl;rfl),
  a_is_place:=ur,uC:=_,oo:=oo,DA:=aet KX G a_is_place,mf:=oo.binds (ps:=["thing","last_place"]) (fun _ _ _ _ _ _ us hl=>by obtain⟨_,_,rfl⟩:=g7 us hl;rfl),
  a_is_part:=uJ,uP:=_,oz:=oz,D4:=aet KX G a_is_part,jk:=oz.binds (ps:=["kind","thing","last_place"]) (fun _ _ _ _ _ _ us hl=>by obtain⟨_,_,_,rfl⟩:=lA us hl;rfl),
  a_is_row:=uU,u5:=_,oG:=oG,EF:=aet KX G a_is_row,mF:=oG.binds (ps:=["row","last_place"]) (fun _ _ _ _ _ _ us hl=>by obtain⟨_,_,rfl⟩:=g7 us hl;rfl),
  a_parts_of_kind:=tw,tK:=_,lU:=lU,yr:=aet KX G a_parts_of_kind,kE:=lU.binds (ps:=["row","wanted"]) (fun _ _ _ _ _ _ us hl=>by obtain⟨_,_,rfl⟩:=g7 us hl;rfl),
  a_jumps_back_badly:=tf,tj:=_,nY:=nY,Cj:=aet KX G a_jumps_back_badly,lR:=nY.binds (ps:=["rows","at"]) (fun _ _ _ _ _ _ us hl=>by obtain⟨_,_,rfl⟩:=g7 us hl;rfl),
  a_with_names_of:=tD,tL:=_,n0:=n0,Cw:=aet KX G a_with_names_of,lS:=n0.binds (ps:=["row","names"]) (fun _ _ _ _ _ _ us hl=>by obtain⟨_,_,rfl⟩:=g7 us hl;rfl),
  a_need_program:=tQ,tV:=_,n6:=n6,CF:=aet KX G a_need_program,lW:=n6.binds (ps:=["rows"]) (fun _ _ _ _ _ _ us hl=>by obtain⟨_,rfl⟩:=iz us hl;rfl),
  a_need_run:=ut,uD:=_,oq:=oq,DB:=aet KX G a_need_run,mj:=oq.binds (ps:=["inputs","turns"]) (fun _ _ _ _ _ _ us hl=>by obtain⟨_,_,rfl⟩:=g7 us hl;rfl),
  a_Run_init:=qB,uE:=_,qD:=qD,mm:=qD.binds (ps:=["self","inputs","turns"]) (fun _ _ _ _ _ _ us hl=>by obtain⟨_,_,_,rfl⟩:=lA us hl;rfl),
  a_held:=vD,vR:=_,jq:=jq,oX:=aet KX G a_held,iP:=jq.binds (ps:=["run","name"]) (fun _ _ _ _ _ _ us hl=>by obtain⟨_,_,rfl⟩:=g7 us hl;rfl),
  a_fit:=vT,wC:=_,jZ:=jZ,rF:=aet KX G a_fit,jx:=jZ.binds (ps:=["number"]) (fun _ _ _ _ _ _ us hl=>by obtain⟨_,rfl⟩:=iz us hl;rfl),
  a_parted:=uV,u6:=_,oH:=oH,EG:=aet KX G a_parted,kS:=oH.binds (ps:=["one","other"]) (fun _ _ _ _ _ _ us hl=>by obtain⟨_,_,rfl⟩:=g7 us hl;rfl),
  a_reckoned:=uv,uF:=_,ot:=ot,DC:=aet KX G a_reckoned,kJ:=ot.binds (ps:=["word","one","other"]) (fun _ _ _ _ _ _ us hl=>by obtain⟨_,_,_,rfl⟩:=lA us hl;rfl),
  a_taken:=vd,vA:=_,oM:=oM,Fz:=aet KX G a_taken,mL:=oM.binds (ps:=["run"]) (fun _ _ _ _ _ _ us hl=>by obtain⟨_,rfl⟩:=iz us hl;rfl),
  a_make_turn:=uf,ul:=_,oh:=oh,Dc:=aet KX G a_make_turn,l6:=oh.binds (ps:=["run"]) (fun _ _ _ _ _ _ us hl=>by obtain⟨_,rfl⟩:=iz us hl;rfl),
  a_do_row:=uW,u7:=_,oI:=oI,EH:=aet KX G a_do_row,mG:=oI.binds (ps:=["run","row"]) (fun _ _ _ _ _ _ us hl=>by obtain⟨_,_,rfl⟩:=g7 us hl;rfl),
  a_outcome:=uK,uQ:=_,oA:=oA,D5:=aet KX G a_outcome,mC:=oA.binds (ps:=["rows","inputs","turns"]) (fun _ _ _ _ _ _ us hl=>by obtain⟨_,_,_,rfl⟩:=lA us hl;rfl),
  a_first_run:=ug,um:=_,oi:=oi,Dd:=aet KX G a_first_run,l7:=oi.binds (ps:=["rows","inputs","turns"]) (fun _ _ _ _ _ _ us hl=>by obtain⟨_,_,_,rfl⟩:=lA us hl;rfl),
  a_law_fit:=uL,uR:=_,mD:=mD,y6:=aet KX G a_law_fit,kM:=mD.binds (ps:=["_law_number"]) (fun _ _ _ _ _ _ us hl=>by obtain⟨_,rfl⟩:=iz us hl;rfl),
  a_law_deed:=uw,uG:=_,ou:=ou,DD:=aet KX G a_law_deed,mn:=ou.binds (ps:=["_law_word","_law_one","_law_other"]) (fun _ _ _ _ _ _ us hl=>by obtain⟨_,_,_,rfl⟩:=lA us hl;rfl),
  a_law_first_run:=tE,tN:=_,n4:=n4,Cy:=aet KX G a_law_first_run,lT:=n4.binds (ps:=["_law_rows","_law_inputs","_law_turns"]) (fun _ _ _ _ _ _ us hl=>by obtain⟨_,_,_,rfl⟩:=lA us hl;rfl),
  a_law_whole:=uh,uo:=_,l9:=l9,yC:=aet KX G a_law_whole,kI:=l9.binds (ps:=["_law_found"]) (fun _ _ _ _ _ _ us hl=>by obtain⟨_,rfl⟩:=iz us hl;rfl),
  a_law:=fa,wD:=_,rG:=rG,acJ:=aet KX G a_law,pw:=rG.binds (ps:=["_law_script"]) (fun _ _ _ _ _ _ us hl=>by obtain⟨_,rfl⟩:=iz us hl;rfl),
  rJ:=afk KX G z_all,
  z8:=afk KX G z_bool,
  De:=afk KX G z_enumerate,
  wG:=afk KX G z_int,
  gn:=afk KX G z_isinstance,
  eh:=afk KX G z_len,
  lc:=afk KX G z_list,
  kY:=afk KX G z_range,
  rK:=afk KX G z_str,
  zO:=afk KX G z_tuple,
  AF:=afk KX G z_zip,
  mH:=mH,vB:=aet KX G g_FORMS,di:=Ys gk_FORMS,
  rf:=rf,oY:=aet KX G g_HALF,
  qH:=qH,D6:=aet KX G g_LETTERS,
  qm:=qm,CG:=aet KX G g_MOST_LETTERS,
  qr:=qr,CU:=aet KX G g_MOST_NAMES,
  qy:=qy,Df:=aet KX G g_MOST_ROWS,
  qu:=qu,CV:=aet KX G g_MOST_TURNS,
  mI:=mI,FA:=aet KX G g_WORDS,kX:=Fw gk_WORDS,
  u9:=zw,U3:=x_BadRun,y8:=aet KX G x_BadRun,
  y9:=xi_BadRun,
  ip:=fu,ce:=x_Run,Gu:=aet KX G x_Run,
  cm:=⟨pg_Run,hd_Run,po_Run,sa_Run⟩,
  mk_Run:=⟨mk_Run,a_Run_init,i_Run_init,kc_Run⟩,
  kN:=na_at_Run,
  l5:=na_holds_Run,
  t8:=na_inputs_Run,
  og:=na_takes_Run,
  uq:=na_told_Run,
  tm:=na_turns_left_Run,
  me:=na_word_Run,
  kK:=mr,Dg:=x_ByNought,yD:=aet KX G x_ByNought,
  Dh:=.of xk_ByNought,
  Di:=xi_ByNought,
  Dj:=xt_ByNought,
  Cc:=y_su_ByNought_ByNought }
 exact⟨aeE "law" "law" (b0 bK) (aZ bK) (ah bK) .none Gy Gz GA Gx Aa GB,fun s v=>.of_eq rfl,fun base _ _=>aa2 T⟩
theorem WX{l:aiK}{q:afm}{loose:List Str}{XP:(Str->Option Value)->Heap->Prop}{YP:World->Heap->Prop}{d:DefRec}{K:Params->acs}(good:∀ns:List Int,ns.length<=63->∃ph',rE [.fl (ns.map W.int)] []=.ok (.bl true) ph')(hn:l.most=some 63)(sG:d.params.defaults=[])
  (hY:∀(w:World) (h:Heap),YP w h->(K w.params).In h) (hK:∀w:World,aiZ (K w.params)=true) (hT:∀(w:World) (h:Heap),YP w h->∀p∈jl (K w.params),ahV h p.2.1 p.2.2/\h.get? p.2.2=some (agF #[]))
  (F:∀(w:World) (mg:Str->Option Value) (fa:Addr) (h:Heap),(K w.params).In h->h.Ns ael mg->mg d.name=some (.ref fa)->∃fd:aeT,(∀(s:aem) (u:Value),BindsTo s fd ⟨[u],[]⟩ [("_law_script",u)])/\∀base:Heap,(K w.params).In base->base.Ns ael mg->bF l.prog w (K w.params) mg base (bE l.prog w) 7 fa fd ["_law_script"] (bP (K w.params) mg 1 rE)) :
  PySem.W.WalkO q loose XP YP l.row.toRowW d [] (fun f vs=>PySem.call f vs):=X5 7 good hn sG ⟨rfl,by decide,by decide⟩ hY hK hT F
open PySem L2
variable{α β:Type}{ph:PH}
theorem av{m:Mo α}{f:α->Mo β}{ph':PH}{a:α}{r:Out β}(h:m ph=.ok a ph')(k:f a ph'=r):aw m f ph=r:=by
 unfold aw;rw[h];exact k
variable{j:Nat}
theorem pz{l:List α}(h:j<l.length):∃x,l[j]? =some x:=⟨l[j],afj h⟩
theorem mU{a b:Int}(h1: -(2 ^ 64)<b)(h2:b<2 ^ 64):mulC a b=true:=by
 unfold mulC;rw[decide_eq_true h1,decide_eq_true h2];simp
theorem vU{a b:Int}(h1: -(2 ^ 64)<a)(h2:a<2 ^ 64):mulC a b=true:=by
 unfold mulC;rw[decide_eq_true h1,decide_eq_true h2];simp
theorem Ex.set{a b:PH}(h:Ex a b){i:Nat}(hi:a.length<=i)(o:PO):Ex a (b.set i o):=by
 obtain⟨m,rfl⟩:=h;exact⟨m.set (i-a.length) o,by rw[agO _ _ hi]⟩
variable{i:Nat}
theorem fP{o:PO}(h:i≠j):(ph.set i o)[j]? =ph[j]? :=agq h
theorem jr{o o':PO}(h:ph[i]? =some o):(ph.set i o')[i]? =some o':=agG (aen.mp h).1
theorem acK{o:PO}(h:ph[i]? =some o):i<ph.length:=(aen.mp h).1
variable{im:IM}{σ:aP}{ph1:PH}
theorem qU{b:SM}{items:List W}{chk:PH->Bool}{r:Out Fl}(h:im σ ph=.ok (items,chk) ph1)(h2:dS chk g b items σ ph1=r):iu im g b σ ph=r:=by
 unfold iu;refine av h ?_;exact h2
variable{σ1:aP}
theorem adN{a b:SM}{k:Fl->Mo W}{P:Out W->Prop}(h:a σ ph=.ok (.nx σ1) ph1)(h2:P (aw (b σ1) k ph1)):P (aw (aD a b σ) k ph):=by
 have e:aw (aD a b σ) k ph=aw (b σ1) k ph1:=by
  rw[oJ,iH,ck h]
 rw[e];exact h2
noncomputable def iw(l:List Nat):List W:=l.map fun x:Nat=>W.int x
theorem Ac(l:List Nat):(iw l).length=l.length:=by simp[iw]
theorem abe(l m:List Nat):iw (l++m)=iw l++iw m:=by simp[iw]
variable{l:List Nat}
theorem abf{w:W}(h:(iw l)[j]? =some w):∃x,l[j]? =some x/\w=.int x:=by
 unfold iw at h;rw[aeA] at h;obtain⟨x,e,rfl⟩:=aeC.mp h;exact⟨x,e,rfl⟩
theorem acL{x:Nat}(h:l[j]? =some x):cy (iw l) (j:Int)=some (.int x):=by
 have:=(aen.mp h).1;rw[gw _ _ (by rw[Ac];exact this)];unfold iw;rw[aeA,h];rfl
theorem YI(ns:List Int)(k:Nat)(ph:PH):cB [.fl (ns.map W.int),.int k] ph=.ok (.int (ns.getD k 0)) ph:=by
 unfold cB eQ
 push_cast [adG]
 by_cases h:k<ns.length
 ·have e:cy (ns.map W.int) (k:Int)=some (.int (ns.getD k 0)):=by
   rw[gw _ _ (by simpa using h)];simp[h]
  rw[ixF e];simp[h,aB,ei,aw]
 ·have e:ns.getD k 0=0:=by simp[Nat.le_of_not_lt h]
  simp[h,aB,ei,aw,e]
theorem acM(ns:List Int)(k:Nat):cB [.fl (ns.map W.int),.int k]=aB (.int (ns.getD k 0)):=funext fun ph=>YI ns k ph
theorem sq{a b:SM}{r:Out Fl}(h:a σ ph=.ok (.nx σ1) ph1)(h2:b σ1 ph1=r):aD a b σ ph=r:=by
 rw[oJ,ck h];exact h2
theorem bq{a b:SM}{k:Fl->Mo W}{r:Out W}(h:a σ ph=.ok (.nx σ1) ph1)(h2:aw (b σ1) k ph1=r):aw (aD a b σ) k ph=r:=adN (P:=fun q=>q=r) h h2
theorem br{e:EM}{w:W}(h:e σ ph=.ok w ph1):aw (bc e σ) ei ph=.ok w ph1:=by
 rw[vk,iH,ck h];rfl
theorem asg{e:EM}{w:W}(h:e σ ph=.ok w ph1):aO e (gN i) σ ph=.ok (.nx (σ.set i (some w))) ph1:=by
 rw[vm,ck h];rfl
theorem bA{a b:SM}{r:Out Fl}(h:t σ ph=.ok true ph1)(h2:a σ ph1=r):aX t a b σ ph=r:=by
 rw[vK,ck h];exact h2
theorem ax{a b:SM}{r:Out Fl}(h:t σ ph=.ok false ph1)(h2:b σ ph1=r):aX t a b σ ph=r:=by
 rw[vK,ck h];exact h2
theorem retS{e:EM}{w:W}(h:e σ ph=.ok w ph1):bc e σ ph=.ok (.rt w) ph1:=by
 rw[vk,ck h];rfl
variable{o:EM}{ws:List W}
theorem sP{e:EM}{w:W}(ho:o σ=aB (.ref i))(hi0:∃xD,ph[i]? =some (.lst xD))(he:e σ ph=.ok w ph1)(hi:ph1[i]? =some (.lst ws))(hz:ws.length<1000000):dm (bS cM dg o (ag e ai)) σ ph=.ok (.nx σ) (ph1.set i (.lst (ws++[w]))):=by
 obtain⟨xD,h0⟩:=hi0;rw[qM,kR,ho];rw[iH,qS,iH,ck (vp h0),iH,zo,iH,ck he];rw[zL,qS,qS,ck (uB hi (aeB hz (by decide)) w)];rfl
theorem df{a b:SM}{w:W}(h:a σ ph=.ok (.rt w) ph1):aw (aD a b σ) ei ph=.ok w ph1:=by
 rw[oJ,iH,ck h];rfl
inductive Wd where
 | sum | less | times | part | below | alike
variable{ph2:PH}
theorem aq{e:EM}{r:AM}{w:W}(h:e σ ph=.ok w ph1)(h2:r σ ph1=.ok ws ph2):ag e r σ ph=.ok (w::ws) ph2:=av h (av h2 rfl)
variable{y:String}{c:Bool}
theorem wq(x:String)(h:ae i σ=aB (.tup (.str x::ws)))(hc:decide (x=y)=c):eT (af aS (af ak (ae i) (eC (.int 0))) (eC (.str y))) σ ph=.ok c ph:=by
 rw[m8,jT,jT,h,<- hc];ac_nf
theorem tF{a b:TM}(h:a σ ph=.ok false ph1):c8 a b σ ph=.ok false ph1:=av h rfl
theorem tT{a b:TM}{r:Out Bool}(h:a σ ph=.ok true ph1)(h2:b σ ph1=r):c8 a b σ ph=r:=av h h2
noncomputable def b9(v:Int):Prop:= -2147483648<=v/\v<=2147483647
noncomputable def Wd.s:Wd->String
 | .sum=>"sum"
 | .less=>"less"
 | .times=>"times"
 | .part=>"part"
 | .below=>"below"
 | .alike=>"alike"
theorem wv(x:String)(h:ae i σ=aB (.str x))(hc:decide (x=y)=c):eT (af aS (ae i) (eC (.str y))) σ ph=.ok c ph:=by
 rw[m8,jT,h,<- hc];ac_nf
theorem J0{a b:SM}{w:W}(h:a σ ph=.ok (.rt w) ph1):aD a b σ ph=.ok (.rt w) ph1:=by
 rw[oJ,ck h];rfl
theorem eS(x:String){e:EM}(h:e σ=aB (.str x))(hc:decide (x=y)=c):eT (af aS e (eC (.str y))) σ ph=.ok c ph:=by
 rw[m8,jT,h,<- hc];ac_nf
variable{z:Int}
theorem eI{g:Int}{e:EM}(h:e σ ph=.ok (.int g) ph1)(hc:decide (g=z)=c):eT (af aS e (eC (.int z))) σ ph=.ok c ph1:=by
 rw[m8,jT,iH,ck h,<- hc];ac_nf
variable{a b:EM}
theorem op{f:W->W->Po W}{x y:W}{r:Out W}(ha:a σ ph=.ok x ph1)(hb:b σ ph1=.ok y ph2)(hf:lift (f x y) ph2=r):af f a b σ ph=r:=av ha (av hb hf)
theorem md{i j:Int}(ha:a σ ph=.ok (.int i) ph1)(hb:b σ ph1=.ok (.int j) ph2)(h:j≠0):af aR a b σ ph=.ok (.int (i.fmod j)) ph2:=op ha hb (congrFun (acC h) ph2)
theorem dv{i j:Int}(ha:a σ ph=.ok (.int i) ph1)(hb:b σ ph1=.ok (.int j) ph2)(h:j≠0)(h':j.natAbs<2 ^ 64):af bg a b σ ph=.ok (.int (i.fdiv j)) ph2:=op ha hb (congrFun (As h h') ph2)
theorem ad{i j:Int}(ha:a σ ph=.ok (.int i) ph1)(hb:b σ ph1=.ok (.int j) ph2):af addW a b σ ph=.ok (.int (i+j)) ph2:=op ha hb rfl
theorem sb{i j:Int}(ha:a σ ph=.ok (.int i) ph1)(hb:b σ ph1=.ok (.int j) ph2):af fv a b σ ph=.ok (.int (i-j)) ph2:=op ha hb rfl
theorem ml{i j:Int}(ha:a σ ph=.ok (.int i) ph1)(hb:b σ ph1=.ok (.int j) ph2)(h:mulC i j=true):af cC a b σ ph=.ok (.int (i*j)) ph2:=op ha hb (by rw[z7];exact congrFun (Ar h) ph2)
theorem ltI{i:Int}{e:EM}(h:e σ ph=.ok (.int i) ph1)(hc:decide (i<z)=c):eT (af eN e (eC (.int z))) σ ph=.ok c ph1:=by
 rw[m8,jT,iH,ck h,<- hc];rfl
theorem mV{w:W}{m:AM}{e:EM}{i:Int}(hm:m σ ph=.ok ws ph1)(hz:ws.length<=1000000)(he:e σ (ph1++[.lst ws])=.ok (.int i) (ph1++[.lst ws]))(hi:cy ws i=some w):af ak (bT m) e σ ph=.ok w (ph1++[.lst ws]):=by
 refine op (x:=.ref ph1.length) (ph1:=ph1++[.lst ws]) ?_ he (eV (bW _ _) hi);rw[vn];exact av hm (k9 ws ph1 (small hz))
theorem dz{a n:Int}(hn:0<n):∃m:Nat,(m:Int)<n/\a.fmod n=(m:Int):=by
 have q:=oj a n hn;exact⟨(a.fmod n).toNat,by omega,by omega⟩
variable{v:Int}
theorem vV(h1: -2147483648<=v)(h2:v<=2147483647):b9 v:=⟨by omega,by omega⟩
theorem Ho(c:Int)(ph:PH):∃v ph',je [.int c] ph=.ok (.int v) ph'/\Ex ph ph'/\b9 v:=by
 unfold je jK;rw[iy];have m4:∀{σ:aP} {H:PH},ae 0 σ=aB (.int c)->af aR (ae 0) (eC (.int (4))) σ H=.ok (.int (c.fmod 4)) H:=fun{σ H} h=>md (by rw[h];rfl) rfl (by decide)
 have d4:∀{σ:aP} {H:PH},ae 0 σ=aB (.int c)->af bg (ae 0) (eC (.int (4))) σ H=.ok (.int (c.fdiv 4)) H:=fun{σ H} h=>dv (by rw[h];rfl) rfl (by decide) (by decide)
 by_cases h3:c.fmod 4=3
 ·obtain⟨m,hm,em⟩:=dz (a:=c.fdiv 4) (n:=8) (by decide);obtain⟨v,hv,sv⟩:∃v,[(2147483647:Int),-2147483648,65536,-1,46341,-65537,1,0][m]? =some v/\b9 v:=by
   have:m=0\/m=1\/m=2\/m=3\/m=4\/m=5\/m=6\/m=7:=by omega
   rcases this with rfl | rfl | rfl | rfl | rfl | rfl | rfl | rfl <;> exact⟨_,rfl,vV (by decide) (by decide)⟩
  refine⟨v,_,df (bA (eI (m4 rfl) (decide_eq_true h3)) (retS (mV (ws:=[(2147483647:Int),-2147483648,65536,-1,46341,-65537,1,0].map W.int) (i:=(m:Int)) (ph1:=ph) rfl (aey rfl) ?_ ?_))),Ex.one _ _,sv⟩
  ·rw[<- em];exact md (d4 rfl) rfl (by decide)
  ·rw[gw _ _ (by simp;omega),aeA,hv];rfl
 ·by_cases h2:c.fmod 4=2
  ·refine⟨_,ph,bq (ax (eI (m4 rfl) (decide_eq_false h3)) rfl) (df (bA (eI (m4 rfl) (decide_eq_true h2)) (retS (sb (md (ml (d4 rfl) rfl (mU (by decide) (by decide))) rfl (by decide)) rfl)))),Ex.refl _,?_⟩;have q:=oj (c.fdiv 4*48271) 4294967296 (by decide);exact vV (by omega) (by omega)
  ·by_cases h1:c.fmod 4=1
   ·refine⟨_,ph,bq (ax (eI (m4 rfl) (decide_eq_false h3)) rfl) (bq (ax (eI (m4 rfl) (decide_eq_false h2)) rfl) (df (bA (eI (m4 rfl) (decide_eq_true h1)) (retS (sb (md (d4 rfl) rfl (by decide)) rfl))))),Ex.refl _,?_⟩;have q:=oj (c.fdiv 4) 100003 (by decide);exact vV (by omega) (by omega)
   ·refine⟨_,ph,bq (ax (eI (m4 rfl) (decide_eq_false h3)) rfl) (bq (ax (eI (m4 rfl) (decide_eq_false h2)) rfl) (bq (ax (eI (m4 rfl) (decide_eq_false h1)) rfl) (br (sb (md (d4 rfl) rfl (by decide)) rfl)))),Ex.refl _,?_⟩;have q:=oj (c.fdiv 4) 19 (by decide);exact vV (by omega) (by omega)
theorem tB{e:EM}(h:e σ ph=.ok (.bl c) ph1):eT e σ ph=.ok c ph1:=av h rfl
theorem rN{a b:TM}{x y:Bool}(ha:a σ ph=.ok x ph)(hb:b σ ph=.ok y ph):c8 a b σ ph=.ok (x&&y) ph:=by
 rw[zl];refine av ha ?_;cases x
 ·rfl
 ·exact hb
theorem xb(b:SM)(n:Nat)(x y z u v:W):fM b n 5 [x,y,z,u,v]=aw (b (some x::some y::some z::some u::some v::aeF (n-5) none)) ei:=(rfl)
variable{H:PH}
theorem acN{x:Nat}(h:H[i]? =some (.lst (iw l)))(hk:l[k]? =some x):lift (ak (.ref i) (.int k)) H=.ok (.int x) H:=eV h (acL hk)
theorem acO(ph:PH)(s:String):dat ph 40 (.str (aei s))=some (.str (aei s)):=by
 unfold dat;rw[if_pos (so s)]
theorem ic(H:PH)(n:Nat)(s:String):dat H n (.str (aei s))=some (.str (aei s)):=by
 have:=acO H s;cases n <;> exact this
variable{n:Nat}
theorem iL{ds:List agJ}(h:bB (dat H n) ws=some ds):dat H (n+1) (.tup ws)=some (.tuple ds):=by
 show(bB (dat H n) ws).map PyData.tuple=_;rw[h];rfl
theorem kZ{ds:List agJ}(hi:H[i]? =some (.lst ws))(h:bB (dat H n) ws=some ds):dat H (n+1) (.ref i)=some (.list ds):=by
 unfold dat;simp only[hi,h];rfl
theorem mc{f:α->Option β}{a:α}{l:List α}{b:β}{m:List β}(h:f a=some b)(h2:bB f l=some m):bB f (a::l)=some (b::m):=by
 unfold bB;rw[h,h2]
theorem acP(ns:List Int)(i:Int)(h:0<=i):cB [.fl (ns.map W.int),.int i]=aB (.int (ns.getD i.toNat 0)):=by
 have:=acM ns i.toNat;rw[Int.toNat_of_nonneg h] at this;exact this
theorem cl{ns:List Int}{i:Int}(ha:a σ ph=.ok (.fl (ns.map W.int)) ph1)(hb:b σ ph1=.ok (.int i) ph2)(h:0<=i):aJ cB (ag a (ag b ai)) σ ph=.ok (.int (ns.getD i.toNat 0)) ph2:=av (aq ha (aq hb rfl)) (congrFun (acP ns i h) ph2)
theorem uX(h:ph[i]? =some (.lst ws)):lift (il [.ref i]) ph=.ok (.ref ph.length) (ph++[.lst ws]):=by
 have e:il [.ref i] ph=pb [.ref i] ph:=by
  unfold il;simp only[AB h]
 have:=WA h;unfold lift at this ⊢;rw[e];exact this
theorem GC{l:List α}{x y:α}(h:(l++[x])[i]? =some y):(i<l.length/\l[i]? =some y)\/(i=l.length/\y=x):=by
 by_cases hi:i<l.length
 ·rw[afq hi] at h;exact .inl ⟨hi,h⟩
 ·have:=(aen.mp h).1;simp at this;have:i=l.length:=by omega
  subst this;rw[agU] at h;cases h;exact .inr ⟨rfl,rfl⟩
theorem vE(n:Nat):gZ 0 n=(afr n).map fun i:Nat=>W.int i:=by
 unfold gZ;apply ajh;intro i _;simp
theorem FE(as:List α)(h:α->W){cap:List (Option Nat)}{e:EM}{ph0:PH}{chk:PH->Bool}(i8:im σ ph0=.ok (as.map h,chk) ph)(BI:∀ph',Ex ph ph'->chk ph'=true)(hz:as.length<=1000)
  (P:Nat->W->PH->Prop) (hP:∀j w H H',P j w H->(∀r o,r≠ph.length->H[r]? =some o->H'[r]? =some o)->P j w H') (S:aP->Prop) (h0:S (gD cap σ))
  (step:∀j x,as[j]? =some x->∀σ H,S σ->Ex ph H->ph.length<H.length->∃σ1,g (h x) σ H=.ok σ1 H/\S σ1/\∃w H2,e σ1 H=.ok w H2/\Ex H H2/\P j w H2) :
  ∃ph' ws,cJ im cap g cY e σ ph0=.ok (.ref ph.length) ph'/\Ex ph ph'/\ph'[ph.length]? =some (.lst ws)/\ws.length=as.length/\∀j w,ws[j]? =some w->P j w ph':=by
 rw[EB,ck i8];obtain⟨r9,ay,ph',ec,hS,x1,x2,x3,x4⟩:=yW (chk:=chk) (g:=g) (c:=cY) (e:=e) ph.length
  (fun k acc σ H=>S σ/\Ex ph H/\H[ph.length]? =some (.lst acc)/\acc.length=k/\∀(j:Nat) w,acc[j]? =some w->P j w H)
  (as.map h) 0 [] (gD cap σ) (ph++[.lst []]) (fun j acc σ H hI=>BI _ hI.2.1)
  (fun j y acc σ H hj hI=>by
   rw[ahy] at hI ⊢;obtain⟨hS,x1,x2,x3,x4⟩:=hI;rw[aeA] at hj;obtain⟨x,hx,rfl⟩:=aeC.mp hj;have IV:=(aen.mp hx).1;obtain⟨σ1,e1,km,w,H2,e2,y1,y2⟩:=step j x hx σ H hS x1 (acK x2);have keep:∀r o,r≠ph.length->H2[r]? =some o->(H2.set ph.length (.lst (acc++[w])))[r]? =some o:=fun r o hr ho=>(fP (ahH hr)).trans ho
   refine⟨σ1,H,e1,true,H,rfl,.inr ⟨rfl,w,H2,e2,y1.get x2,aeB (by omega:acc.length<1001) (by decide),km,Ex.set (x1.trans y1) (aeq _) _,jr (y1.get x2),by simp[x3],fun i w' hw'=>?_⟩⟩
   rcases GC hw' with⟨_,z⟩ | ⟨z0,z⟩
   ·exact hP i w' H _ (x4 i w' z) fun r o hr ho=>keep r o hr (y1.get ho)
   ·rw[z,z0,x3];exact hP j w H2 _ y2 keep)
  ⟨h0,Ex.one _ _,bW _ _,rfl,fun j w z=>by simp at z⟩
 rw[ahy,aep] at x3;exact⟨ph',r9,ck ec,x1,x2,x3,x4⟩
theorem EN{ws:List β}{f:α->β}{Q:Nat->α->Prop}(h:∀(j:Nat) w,ws[j]? =some w->∃d,w=f d/\Q j d):∃D:List α,ws=D.map f/\∀(j:Nat) d,D[j]? =some d->Q j d:=by
 induction ws generalizing Q with
 | nil=>exact⟨[],rfl,fun j d z=>by simp at z⟩
 | cons w ws ih=>
  obtain⟨d,e,q⟩:=h 0 w rfl;obtain⟨D,e2,q2⟩:=ih (Q:=fun j=>Q (j+1)) fun j w hw=>h (j+1) w (by simpa using hw)
  refine⟨d::D,by rw[e,e2];rfl,fun j d' hd=>?_⟩;cases j with
  | zero=>cases hd;exact q
  | succ j=>exact q2 j d' (by simpa using hd)
noncomputable def sg(c:Nat):Str:=⟨#[c]⟩
noncomputable def tx(cs:List Nat):Str:=⟨cs.toArray⟩
noncomputable def c6(c:Nat):W:=.str (sg c)
noncomputable def Ab(c:Nat):Prop:=97<=c/\c<123
structure dX(cs:List Nat):Prop where
 lo:1<=cs.length
 hi:cs.length<=6
 ab:∀c∈cs,Ab c
theorem GD(a b:List Nat):tx a++tx b=tx (a++b):=by
 show Str.append _ _=_;unfold Str.append tx;simp
theorem YJ:∀cs:List Nat,ajM (aei "") (cs.map sg)=tx cs:=by
 intro cs;rw[Txt.join_eq]
 induction cs with
 | nil=>rfl
 | cons c cs ih=>
  cases cs with
  | nil=>rfl
  | cons d cs=>
   have e:Str.join (aei "") ((c::d::cs).map sg)=sg c++aei ""++Str.join (aei "") ((d::cs).map sg):=rfl;rw[e,ih];have e2:sg c++aei ""=tx [c]:=rfl;rw[e2,GD];rfl
variable{cs:List Nat}
theorem abg(h:H[i]? =some (.lst (cs.map c6)))(hl:cs.length<=6):lift (gz (.str "") [.ref i]) H=.ok (.str (tx cs)) H:=by
 have e:bB strOf (cs.map c6)=some (cs.map sg):=jP strOf c6 sg (fun _=>rfl) cs;have e2:gz (.str "") [.ref i] H=some (.str (tx cs),H):=by
  unfold gz;simp only[h,e];rw[if_pos,YJ];refine⟨by rw[aep];omega,fun y hy=>?_,nofun⟩;obtain⟨c,_,rfl⟩:=ahi.mp hy;show(1:Nat)<=10;omega
 unfold lift;rw[e2]
theorem jn{e:EM}(he:e σ ph=.ok (.ref i) ph1)(h:ph1[i]? =some (.lst (cs.map c6)))(hl:cs.length<=6):bS iW gz (eC (.str "")) (ag e ai) σ ph=.ok (.str (tx cs)) ph1:=by
 rw[kR];exact av rfl (av rfl (av (aq he rfl) (abg h hl)))
theorem acQ:(aei "abcdefghijklmnopqrstuvwxyz").cps.toList=(afr 26).map (97+ ·):=nofun
variable{m:Nat}
theorem abh(h:m<26)(H:PH):lift (ak (.str "abcdefghijklmnopqrstuvwxyz") (.int m)) H=.ok (c6 (97+m)) H:=by
 have e:dH (.str (aei "abcdefghijklmnopqrstuvwxyz")) (.int m) H=some (c6 (97+m),H):=by
  unfold dH;simp only[];rw[if_pos nofun,acQ,gw _ _ (by simpa using h)];rw[aeA,aje h];rfl
 rw[Az];unfold lift;rw[e]
theorem AG{i:Int}(ha:a σ ph=.ok (.str "abcdefghijklmnopqrstuvwxyz") ph)(hb:b σ ph=.ok (.int i) ph):∃c,Ab c/\af ak a (af aR b (eC (.int 26))) σ ph=.ok (c6 c) ph:=by
 obtain⟨m,hm,em⟩:=dz (a:=i) (n:=26) (by decide);refine⟨97+m,⟨by omega,by omega⟩,op ha (md hb rfl (by decide)) ?_⟩;rw[em];exact abh (by omega) ph
theorem GF{cap:List (Option Nat)}{e:EM}(S:aP->Prop)(h0:S (gD cap σ))
  (step:∀(j:Nat) σ H,S σ->∃σ1,gN 0 (.int j) σ H=.ok σ1 H/\S σ1/\∃c,Ab c/\e σ1 H=.ok (c6 c) H) :
  ∃(cs:List Nat) (ph':PH),cJ (dG (ag (eC (.int (6))) ai)) cap (gN 0) cY e σ ph=.ok (.ref ph.length) ph'/\Ex ph ph'/\ph'[ph.length]? =some (.lst (cs.map c6))/\cs.length=6/\∀c∈cs,Ab c:=by
 obtain⟨ph',ws,e1,x1,h1,h2,h3⟩:=FE (afr 6) (fun j:Nat=>W.int j) (im:=dG (ag (eC (.int (6))) ai)) (cap:=cap) (g:=gN 0) (e:=e) (σ:=σ) (ph:=ph) (ph0:=ph) (chk:=fun _=>true) (by rw[<- vE];exact oV (j:=6) rfl (by decide) (by decide)) (fun _ _=>rfl) (by simp)
  (fun _ w _=>∃c,w=c6 c/\Ab c) (fun _ _ _ _ h _=>h) S h0 (fun j x _ σ H hS _ _=>by
   obtain⟨σ1,q1,q2,c,hc,q3⟩:=step x σ H hS;exact⟨σ1,q1,q2,_,H,q3,Ex.refl _,c,rfl,hc⟩)
 obtain⟨cs,rfl,hq⟩:=EN (f:=c6) (Q:=fun _ c=>Ab c) h3;refine⟨cs,ph',e1,x1,h1,by simpa using h2,fun c hc=>?_⟩;obtain⟨j,hj,rfl⟩:=ajf hc;exact hq j _ (afj hj)
theorem abi(h:ph[i]? =some (.lst ws))(a b:Nat)(BS:a<=b)(hb:b<=ws.length):lift (hG (.ref i) (some (a:Int)) (some (b:Int))) ph=.ok (.ref ph.length) (ph++[.lst ((ws.drop a).take (b-a))]):=by
 have:fU ws (some (a:Int)) (some (b:Int))=(ws.drop a).take (b-a):=by
  unfold fU HT.bj;simp only[show ¬((a:Int)<0) by omega,show ¬((b:Int)<0) by omega,if_false,agz,aho hb,aho (aeW BS hb)]
 unfold lift hG;simp only[h,this]
theorem BU{m:EM}(hm:m σ ph=.ok (.ref i) ph)(hi:ph[i]? =some (.lst ws))(ho:o σ ph=.ok (.int k) ph):c5 m d8 (cK o) σ ph=.ok (.ref ph.length) (ph++[.lst (ws.take k)]):=by
 rw[q0];exact av hm (av rfl (av (av ho rfl) (aaJ hi k)))
theorem slD{m:EM}(hm:m σ ph=.ok (.ref i) ph)(hi:ph[i]? =some (.lst ws))(ho:o σ ph=.ok (.int k) ph):c5 m (cK o) d8 σ ph=.ok (.ref ph.length) (ph++[.lst (ws.drop k)]):=by
 rw[q0];exact av hm (av (av ho rfl) (av rfl (Yj hi k)))
theorem slM{m p:EM}{a b:Nat}(hm:m σ ph=.ok (.ref i) ph)(hi:ph[i]? =some (.lst ws))(ho:o σ ph=.ok (.int a) ph)(hp:p σ ph=.ok (.int b) ph)(BS:a<=b)(hb:b<=ws.length):c5 m (cK o) (cK p) σ ph=.ok (.ref ph.length) (ph++[.lst ((ws.drop a).take (b-a))]):=by
 rw[q0];exact av hm (av (av ho rfl) (av (av hp rfl) (abi hi a b BS hb)))
theorem GG{x y:List Nat}(ha:a σ ph=.ok (.str (tx x)) ph1)(hb:b σ ph1=.ok (.str (tx y)) ph2)(hl:x.length+y.length<=100):af addW a b σ ph=.ok (.str (tx (x++y))) ph2:=by
 refine op ha hb ?_;have e:addW (.str (tx x)) (.str (tx y)) ph2=some (.str (tx x++tx y),ph2):=by
  unfold addW;simp only[];rw[if_pos];show(x.toArray).size+(y.toArray).size<=aeD;simp only[aew];exact aeW hl (by decide)
 unfold lift;rw[e,GD]
noncomputable def aM(cs:List Nat):W:=.str (tx cs)
theorem YK(n:Int)(many:Nat)(hm:many<=12)(ph:PH):∃(NS:List (List Nat)) (H':PH),tR [.int n,.int many] ph=.ok (.ref ph.length) H'/\Ex ph H'/\H'[ph.length]? =some (.lst (NS.map aM))/\NS.length=many/\∀cs∈NS,dX cs:=by
 obtain⟨z,hz,ez⟩:=dz (a:=n.fdiv 3) (n:=6) (by decide);obtain⟨at_,ky,eat⟩:=dz (a:=n.fdiv 18) (n:=1+(z:Int)) (by omega);obtain⟨st,cQ⟩:∃st:W->Option W->Option W->Option W->Option W->aP,st=fun nl o6 o7 o8 o9=>[some (.int n),some (.int many),some (.str "abcdefghijklmnopqrstuvwxyz"),some (.int (1+(z:Int))),some (.int at_),some nl,o6,o7,o8,o9]:=⟨_,rfl⟩
 have key:=qN (chk:=fun _=>true) (g:=gN 6) (b:=yl) (fun k σ H=>∃(NS:List (List Nat)) (o6 o7 o8 o9:Option W),σ=st (.ref ph.length) o6 o7 o8 o9/\Ex ph H/\H[ph.length]? =some (.lst (NS.map aM))/\NS.length=k/\k<=many/\∀cs∈NS,dX cs)
  (gZ 0 many) (st (.ref ph.length) none none none none) (ph++[.lst []]) (fun _ _ _ _=>rfl) (fun j x σ H hj hI=>by
   obtain⟨NS,o6,o7,o8,o9,rfl,xH,hN,hl,hk,ok⟩:=hI;obtain⟨hjm,rfl⟩:=EC hj;rw[Int.zero_add];refine⟨st (.ref ph.length) (some (.int j)) o7 o8 o9,H,by rw[cQ];rfl,?_⟩;obtain⟨cs,H1,e1,x1,g1,l1,a1⟩:=GF (ph:=H) (σ:=st (.ref ph.length) (some (.int j)) o7 o8 o9) (cap:=[none,some 2,some 6,some 0]) (e:=(af ak (ae 1) (af aR (af addW (af addW (af bg (ae 3) (eC (.int (18)))) (af cC (eC (.int (5))) (ae 0))) (af bg (ae 2) (eC (.int (6))))) (eC (.int (26))))))
    (fun σ=>∃o,σ=[o,some (.str "abcdefghijklmnopqrstuvwxyz"),some (.int j),some (.int n)]) ⟨none,by rw[cQ];rfl⟩ (fun i σ H2 hS=>by
     obtain⟨o,rfl⟩:=hS;refine⟨_,rfl,⟨_,rfl⟩,AG rfl (ad (ad (dv rfl rfl (by decide) (by decide)) (ml rfl rfl (vU (by decide) (by decide)))) (dv rfl rfl (by decide) (by decide)))⟩)
   obtain⟨σ1,cH⟩:∃σ1,σ1=st (.ref ph.length) (some (.int j)) (some (.ref H.length)) o8 o9:=⟨_,rfl⟩
   have a7:aO (cJ (dG (ag (eC (.int (6))) ai)) [none,some 2,some 6,some 0] (gN 0) cY (af ak (ae 1) (af aR (af addW (af addW (af bg (ae 3) (eC (.int (18)))) (af cC (eC (.int (5))) (ae 0))) (af bg (ae 2) (eC (.int (6))))) (eC (.int (26)))))) (gN 7) (st (.ref ph.length) (some (.int j)) o7 o8 o9) H=.ok (.nx σ1) H1:=by
    rw[cH,asg e1,cQ];rfl
   have fin:∀{e:EM} {bM:aP} {H2 H3:PH} {cs:List Nat} {p7 p8 p9:Option W},bM=st (.ref ph.length) (some (.int j)) p7 p8 p9->Ex H H2->e bM H2=.ok (aM cs) H3->Ex H2 H3->dX cs->dm (bS cM dg (ae 5) (ag e ai)) bM H2=.ok (.nx bM) (H3.set ph.length (.lst (NS.map aM++[aM cs]))) /\
     ∃(BV:List (List Nat)) (o6 o7 o8 o9:Option W),bM=st (.ref ph.length) o6 o7 o8 o9/\Ex ph (H3.set ph.length (.lst (NS.map aM++[aM cs])))/\(H3.set ph.length (.lst (NS.map aM++[aM cs])))[ph.length]? =some (.lst (BV.map aM))/\BV.length=j+1/\j+1<=many/\∀cs∈BV,dX cs:=by
    intro e bM H2 H3 cs p7 p8 p9 h2 y2 he y3 hc;have g3:=y3.get (y2.get hN);refine⟨sP (by rw[h2,cQ];rfl) ⟨_,y2.get hN⟩ he g3 (by rw[aep];omega),NS++[cs],_,_,_,_,h2,Ex.set ((xH.trans y2).trans y3) (aeq _) _,?_,by simp;omega,by omega,fun c lE=>?_⟩
    ·rw[jr g3];simp
    ·rcases afs.mp lE with q | q
     ·exact ok c q
     ·rw[aeJ.mp q];exact hc
   have m3:∀{H2:PH},af aR (ae 0) (eC (.int (3))) σ1 H2=.ok (.int (n.fmod 3)) H2:=fun{H2}=>by rw[cH,cQ];exact md rfl rfl (by decide)
   unfold yl;by_cases h0:n.fmod 3=0
   ·obtain⟨q,hq,eq⟩:=dz (a:=n.fdiv 3+(j:Int)) (n:=6) (by decide);obtain⟨f1,f2⟩:=fin (cs:=cs.take (1+q)) (e:=bS iW gz (eC (.str "")) (ag (c5 (ae 7) d8 (cK (af addW (eC (.int (1))) (af aR (af addW (af bg (ae 0) (eC (.int (3)))) (ae 6)) (eC (.int (6))))))) ai)) cH x1 (H3:=H1++[.lst ((cs.take (1+q)).map c6)])
     (jn (i:=H1.length) (by
      rw[ain];refine BU (i:=H.length) (by rw[cH,cQ];rfl) g1 ?_;have:=ad (a:=eC (.int (1))) (b:=af aR (af addW (af bg (ae 0) (eC (.int (3)))) (ae 6)) (eC (.int (6)))) (σ:=σ1) (ph:=H1) (ph1:=H1) (ph2:=H1) (i:=1) rfl (md (ad (dv (by rw[cH,cQ];rfl) rfl (by decide) (by decide)) (by rw[cH,cQ];rfl)) rfl (by decide));rw[this,eq];rfl) (bW _ _) (by rw[afI];omega)) (Ex.one _ _) ⟨by rw[afI];omega,by rw[afI];omega,fun c hc=>a1 c (agZ hc)⟩
    exact⟨_,_,sq a7 (bA (eI m3 (decide_eq_true h0)) f1),_,.inl rfl,f2⟩
   ·by_cases h1:n.fmod 3=1
    ·obtain⟨ds,H2,e2,x2,g2,l2,a2⟩:=GF (ph:=H1) (σ:=σ1) (cap:=[none,some 2,some 0]) (e:=(af ak (ae 1) (af aR (af addW (af bg (ae 2) (eC (.int (18)))) (af cC (eC (.int (5))) (ae 0))) (eC (.int (26))))))
      (fun σ=>∃o,σ=[o,some (.str "abcdefghijklmnopqrstuvwxyz"),some (.int n)]) ⟨none,by rw[cH,cQ];rfl⟩ (fun i σ H2 hS=>by
       obtain⟨o,rfl⟩:=hS;refine⟨_,rfl,⟨_,rfl⟩,AG rfl (ad (dv rfl rfl (by decide) (by decide)) (ml rfl rfl (vU (by decide) (by decide))))⟩)
     obtain⟨bM,sQ⟩:∃bM,bM=st (.ref ph.length) (some (.int j)) (some (.ref H1.length)) o8 o9:=⟨_,rfl⟩
     obtain⟨c,hc,ec⟩:=AG (a:=ae 2) (b:=af addW (af bg (ae 0) (eC (.int (108)))) (ae 6)) (σ:=bM) (ph:=H2) (by rw[sQ,cQ];rfl) (ad (dv (by rw[sQ,cQ];rfl) rfl (by decide) (by decide)) (by rw[sQ,cQ];rfl));obtain⟨fi,sR⟩:∃fi,fi=st (.ref ph.length) (some (.int j)) (some (.ref H1.length)) (some (c6 c)) o9:=⟨_,rfl⟩
     obtain⟨bk,BW⟩:∃bk,bk=(ds.drop (at_+1)).take (1+z-(at_+1)):=⟨_,rfl⟩
     have lbk:bk.length=z-at_:=by rw[BW,afI,aio];omega
     obtain⟨H3,e3⟩:∃H3,H3=H2++[PO.lst (bk.map c6)]:=⟨_,rfl⟩
     obtain⟨gO,qd⟩:∃gO,gO=st (.ref ph.length) (some (.int j)) (some (.ref H1.length)) (some (c6 c)) (some (aM bk)):=⟨_,rfl⟩
     obtain⟨H4,e4⟩:∃H4,H4=H3++[PO.lst ((ds.take at_).map c6)]:=⟨_,rfl⟩
     have x3:Ex H2 H3:=e3▸Ex.one _ _;have x4:Ex H3 H4:=e4▸Ex.one _ _;have b1:aO (bS iW gz (eC (.str "")) (ag (c5 (ae 7) (cK (af addW (ae 4) (eC (.int (1))))) (cK (ae 3))) ai)) (gN 9) fi H2=.ok (.nx gO) H3:=by
      refine(asg (w:=aM bk) (ph1:=H3) (jn (i:=H2.length) ?_ (by rw[e3];exact bW _ _) (by omega))).trans (by rw[sR,qd,cQ];rfl);have:=slM (m:=ae 7) (o:=af addW (ae 4) (eC (.int (1)))) (p:=ae 3) (σ:=fi) (ph:=H2) (i:=H1.length) (a:=at_+1) (b:=1+z) (by rw[sR,cQ];rfl) g2 (by rw[sR,cQ];rfl) (by rw[sR,cQ];rfl) (by omega) (by rw[aep];omega);rw[this,e3,BW,ain,List.map_drop]
     obtain⟨f1,f2⟩:=fin (cs:=ds.take at_++[c]++bk) (e:=af addW (af addW (bS iW gz (eC (.str "")) (ag (c5 (ae 7) d8 (cK (ae 4))) ai)) (ae 8)) (ae 9)) qd ((x1.trans x2).trans x3) (H3:=H4)
      (GG (x:=ds.take at_++[c]) (y:=bk) (ph1:=H4) (GG (x:=ds.take at_) (y:=[c]) (ph1:=H4) (jn (i:=H3.length) (by
       rw[e4,ain];exact BU (i:=H1.length) (by rw[qd,cQ];rfl) (x3.get g2) (by rw[qd,cQ];rfl)) (by rw[e4];exact bW _ _) (by rw[afI];omega)) (by rw[qd,cQ];rfl) (by simp;omega)) (by rw[qd,cQ];rfl) (by simp;omega)) x4
      ⟨by simp;omega,by simp;omega,fun d hd=>by
       rcases afs.mp hd with q | q
       ·rcases afs.mp q with q | q
        ·exact a2 d (agZ q)
        ·rw[aeJ.mp q];exact hc
       ·rw[BW] at q;exact a2 d (aiT (agZ q))⟩
     refine⟨_,_,sq a7 (ax (eI m3 (decide_eq_false h0)) (bA (eI m3 (decide_eq_true h1)) (sq (σ1:=bM) (ph1:=H2) ?_ (sq (σ1:=fi) (ph1:=H2) ?_ (sq b1 f1))))),_,.inl rfl,f2⟩
     ·rw[asg e2,cH,sQ,cQ];rfl
     ·rw[asg ec,sQ,sR,cQ];rfl
    ·obtain⟨q,hq,eq⟩:=dz (a:=(j:Int)) (n:=6) (by decide);have mq:∀{H2:PH},af aR (ae 6) (eC (.int (6))) σ1 H2=.ok (.int q) H2:=fun{H2}=>by
      rw[<- eq,cH,cQ];exact md rfl rfl (by decide)
     obtain⟨H2,e2⟩:∃H2,H2=H1++[PO.lst ((cs.drop q).map c6)]:=⟨_,rfl⟩
     obtain⟨H3,e3⟩:∃H3,H3=H2++[PO.lst ((cs.take q).map c6)]:=⟨_,rfl⟩
     obtain⟨H4,e4⟩:∃H4,H4=H3++[PO.lst ((cs.drop q++cs.take q).map c6)]:=⟨_,rfl⟩
     have x2:Ex H1 H2:=e2▸Ex.one _ _;have x3:Ex H2 H3:=e3▸Ex.one _ _;have x4:Ex H3 H4:=e4▸Ex.one _ _;have g2:H2[H1.length]? =some (PO.lst ((cs.drop q).map c6)):=by rw[e2];exact bW _ _
     have g3:H3[H2.length]? =some (PO.lst ((cs.take q).map c6)):=by rw[e3];exact bW _ _
     obtain⟨f1,f2⟩:=fin (cs:=cs.drop q++cs.take q) (e:=bS iW gz (eC (.str "")) (ag (af addW (c5 (ae 7) (cK (af aR (ae 6) (eC (.int (6))))) d8) (c5 (ae 7) d8 (cK (af aR (ae 6) (eC (.int (6))))))) ai)) cH x1 (H3:=H4)
      (jn (i:=H3.length) (op (x:=.ref H1.length) (ph1:=H2) (y:=.ref H2.length) (ph2:=H3) (by
       rw[e2,List.map_drop];exact slD (i:=H.length) (by rw[cH,cQ];rfl) g1 mq) (by
       rw[e3,ain];exact BU (i:=H.length) (by rw[cH,cQ];rfl) (x2.get g1) mq) (by
       rw[vq (x3.get g2) g3 (small (by simp;omega)),e4,age])) (by rw[e4];exact bW _ _) (by simp;omega)) ((x2.trans x3).trans x4)
      ⟨by simp;omega,by simp;omega,fun d hd=>by
       rcases afs.mp hd with r | r
       ·exact a1 d (aiT r)
       ·exact a1 d (agZ r)⟩
     exact⟨_,_,sq a7 (ax (eI m3 (decide_eq_false h0)) (ax (eI m3 (decide_eq_false h1)) f1)),_,.inl rfl,f2⟩)
  ⟨[],none,none,none,none,rfl,Ex.one _ _,bW _ _,rfl,by omega,fun _ h=>nomatch h⟩
 obtain⟨ay,H',e,NS,o6,o7,o8,o9,rfl,xH,hN,hl,_,ok⟩:=key;rw[ED] at hl;refine⟨NS,H',?_,xH,hN,hl,ok⟩;unfold tR lV;rw[gF];have hir:dG (ag (ae 1) ai) (st (.ref ph.length) none none none none) (ph++[.lst []])=.ok (gZ 0 many,fun _=>true) (ph++[.lst []]):=oV (j:=(many:Int)) (by rw[cQ];rfl) (by omega) (by omega);refine bq (σ1:=[some (.int n),some (.int many),some (.str "abcdefghijklmnopqrstuvwxyz"),none,none,none,none,none,none,none]) rfl (bq (ph1:=ph) (σ1:=[some (.int n),some (.int many),some (.str "abcdefghijklmnopqrstuvwxyz"),some (.int (1+(z:Int))),none,none,none,none,none,none]) ?_ (bq (ph1:=ph) (σ1:=[some (.int n),some (.int many),some (.str "abcdefghijklmnopqrstuvwxyz"),some (.int (1+(z:Int))),some (.int at_),none,none,none,none,none]) ?_ (bq (ph1:=ph++[.lst []]) (σ1:=st (.ref ph.length) none none none none) ?_ (bq (qU hir e) (br ?_)))))
 ·rw[<- ez];exact asg (ad rfl (md (dv rfl rfl (by decide) (by decide)) rfl (by decide)))
 ·rw[<- eat];exact asg (md (dv rfl rfl (by decide) (by decide)) rfl (by omega))
 ·rw[cQ];exact asg rfl
 ·rw[cQ];rfl
abbrev Nm:=List Nat
inductive Row where
 | set (a:Nm) (n:Int)
 | copy (a b:Nm)
 | c9 (a:Nm) (w:Wd) (b c:Nm)
 | take (a:Nm)
 | tell (a:Nm)
 | turn
 | iff (a:Nm) (p:Nat)
 | go (p:Nat)
 | fin
noncomputable def Row.w:Row->W
 | .set a n=>.tup [.str "set",aM a,.int n]
 | .copy a b=>.tup [.str "copy",aM a,aM b]
 | .c9 a w b c=>.tup [.str "do",aM a,.str w.s,aM b,aM c]
 | .take a=>.tup [.str "take",aM a]
 | .tell a=>.tup [.str "tell",aM a]
 | .turn=>.tup [.str "turn"]
 | .iff a p=>.tup [.str "if",aM a,.int p]
 | .go p=>.tup [.str "go",.int p]
 | .fin=>.tup [.str "end"]
noncomputable def Row.to:Row->List Nat
 | .iff _ p=>[p]
 | .go p=>[p]
 | _=>[]
noncomputable def Row.nm:Row->List Nm
 | .set a _=>[a]
 | .copy a b=>[a,b]
 | .c9 a _ b c=>[a,b,c]
 | .take a=>[a]
 | .tell a=>[a]
 | .iff a _=>[a]
 | _=>[]
noncomputable def gA(NS:List Nm)(r:Row):Prop:=(∀a∈r.nm,a∈NS)/\∀a n,r=.set a n->b9 n
noncomputable def Gl(n p:Nat)(TL:List Nat)(g:Nat):Prop:=(p<g/\g<=n)\/g∈TL
variable{p:Nat}{TL:List Nat}
theorem abj{ti:Nat}(mo:Int)(ht:ph[ti]? =some (.lst (iw TL)))(hp:p<n):∃g H',lX [.int mo,.int p,.int n,.ref ti] ph=.ok (.int ((g:Nat):Int)) H'/\Ex ph H'/\Gl n p TL g:=by
 obtain⟨H1,e1⟩:∃H1,H1=ph++[PO.lst []]:=⟨_,rfl⟩
 have x1:Ex ph H1:=e1▸Ex.one _ _;have g1:=x1.get ht;have et:eT (af cz (ae 3) (bT ai)) [some (.int mo),some (.int p),some (.int n),some (.ref ti)] ph=.ok (!(iw TL).isEmpty) H1:=tB (op (x:=.ref ti) (y:=.ref ph.length) (ph2:=H1) rfl (by rw[e1];rfl) (AE (eq_nil g1 (by rw[e1];exact bW _ _) (jP (dat _ 39) (fun x:Nat=>W.int x) (fun x:Nat=>ahs (x:Int)) (fun x=>li _ 39 x) TL))));have m2:eT (af aS (af aR (ae 0) (eC (.int (2)))) (eC (.int (1)))) [some (.int mo),some (.int p),some (.int n),some (.ref ti)] H1=.ok (decide (mo.fmod 2=1)) H1:=eI (md rfl rfl (by decide)) rfl;have d2:af bg (ae 0) (eC (.int (2))) [some (.int mo),some (.int p),some (.int n),some (.ref ti)] H1=.ok (.int (mo.fdiv 2)) H1:=dv rfl rfl (by decide) (by decide);have away:∀{H2:PH},c8 (eT (af cz (ae 3) (bT ai))) (eT (af aS (af aR (ae 0) (eC (.int (2)))) (eC (.int (1))))) [some (.int mo),some (.int p),some (.int n),some (.ref ti)] ph=.ok false H1->∃g H',lX [.int mo,.int p,.int n,.ref ti] ph=.ok (.int ((g:Nat):Int)) H'/\Ex ph H'/\Gl n p TL g:=fun{H2} t=>by
  obtain⟨m,hm,em⟩:=dz (a:=mo.fdiv 2) (n:=(n:Int)-(p:Int)) (by omega);refine⟨p+1+m,H1,?_,x1,.inl ⟨by omega,by omega⟩⟩;unfold lX jL;rw[rY];rw[show((p+1+m:Nat):Int)=(p:Int)+1+(m:Int) by omega,<- em];exact bq (ax t rfl) (br (ad (ad rfl rfl) (md d2 (sb rfl rfl) (by omega))))
 cases TL with
 | nil=>exact away (H2:=ph) (tF et)
 | cons a TL=>
  by_cases h1:mo.fmod 2=1
  ·rw[decide_eq_true h1] at m2;obtain⟨m,hm,em⟩:=dz (a:=mo.fdiv 2) (n:=((a::TL).length:Int)) (by simp);obtain⟨g,hg⟩:∃g,(a::TL)[m]? =some g:=pz (by omega);refine⟨g,H1,?_,x1,.inr (aeV hg)⟩;unfold lX jL;rw[rY];refine df (bA (tT et m2) (retS (op (y:=.int m) rfl ?_ (acN g1 hg))));rw[<- em];exact md d2 (av (aq rfl rfl) ((iJ g1).trans (by rw[Ac]))) (by simp;omega)
  ·rw[decide_eq_false h1] at m2;exact away (H2:=ph) (tT et m2)
theorem tp{m:AM}(h:m σ ph=.ok ws ph1)(hn:lift (jA ws) ph1=.ok (.tup ws) ph1):bH m σ ph=.ok (.tup ws) ph1:=av h hn
variable{ni:Nat}{NS:List Nm}
theorem AH{e:EM}{i:Int}(hN:H[ni]? =some (.lst (NS.map aM)))(h0:NS≠[])(hv:∀{K:PH},ae 3 σ K=.ok (.ref ni) K)(he:e σ H=.ok (.int i) H):∃a,a∈NS/\af ak (ae 3) (af aR e (bv bU (ag (ae 3) ai))) σ H=.ok (aM a) H:=by
 have hp:0<NS.length:=List.length_pos_iff.mpr h0;obtain⟨m,hm,em⟩:=dz (a:=i) (n:=(NS.length:Int)) (by omega);obtain⟨a,ha⟩:∃a,NS[m]? =some a:=pz (by omega);refine⟨a,aeV ha,op hv (md (j:=(NS.length:Int)) he (av (aq hv rfl) ((iJ hN).trans (by rw[aep]))) (by omega)) ?_⟩;rw[em];exact eV hN (by rw[gw _ _ (by rw[aep];omega),aeA,ha];rfl)
theorem abk{ti:Nat}(c:Int)(hN:H[ni]? =some (.lst (NS.map aM)))(h0:NS≠[])(ht:H[ti]? =some (.lst (iw TL)))(hp:p<n) :
  ∃r H',ua [.int c,.int p,.int n,.ref ni,.ref ti] H=.ok (Row.w r) H'/\Ex H H'/\gA NS r/\∀k∈r.to,Gl n p TL k:=by
 obtain⟨d,hd⟩:∃d,d=(c*48271).fmod 2147483647:=⟨_,rfl⟩
 obtain⟨mo,hmo⟩:∃mo,mo=d.fdiv 16:=⟨_,rfl⟩
 obtain⟨s1,xU⟩:∃s1:aP,s1=[some (.int d),some (.int p),some (.int n),some (.ref ni),some (.ref ti),some (.int mo),none,none,none,none,none]:=⟨_,rfl⟩
 obtain⟨a,ha,ea⟩:=AH (e:=ae 5) (σ:=s1) (i:=mo) hN h0 (by rw[xU];intro K;rfl) (by rw[xU];rfl);obtain⟨s2,xV⟩:∃s2:aP,s2=[some (.int d),some (.int p),some (.int n),some (.ref ni),some (.ref ti),some (.int mo),some (aM a),none,none,none,none]:=⟨_,rfl⟩
 obtain⟨b,hb,eb⟩:=AH (e:=af bg (ae 5) (eC (.int (6)))) (σ:=s2) (i:=mo.fdiv 6) hN h0 (by rw[xV];intro K;rfl) (dv (by rw[xV];rfl) rfl (by decide) (by decide));obtain⟨s3,sS⟩:∃s3:aP,s3=[some (.int d),some (.int p),some (.int n),some (.ref ni),some (.ref ti),some (.int mo),some (aM a),some (aM b),none,none,none]:=⟨_,rfl⟩
 obtain⟨e,he,ee⟩:=AH (e:=af bg (ae 5) (eC (.int (36)))) (σ:=s3) (i:=mo.fdiv 36) hN h0 (by rw[sS];intro K;rfl) (dv (by rw[sS];rfl) rfl (by decide) (by decide));obtain⟨σ,cH⟩:∃σ:aP,σ=[some (.int d),some (.int p),some (.int n),some (.ref ni),some (.ref ti),some (.int mo),some (aM a),some (aM b),some (aM e),some (.int (d.fmod 16)),none]:=⟨_,rfl⟩
 have pre:∀{q:SM} {r:Out W},aw (q σ) ei H=r->aw (aD (aO (af aR (af cC (ae 0) (eC (.int (48271)))) (eC (.int (2147483647)))) (gN 0)) (aD (aO (af bg (ae 0) (eC (.int (16)))) (gN 5)) (aD (aO (af ak (ae 3) (af aR (ae 5) (bv bU (ag (ae 3) ai)))) (gN 6)) (aD (aO (af ak (ae 3) (af aR (af bg (ae 5) (eC (.int (6)))) (bv bU (ag (ae 3) ai)))) (gN 7)) (aD (aO (af ak (ae 3) (af aR (af bg (ae 5) (eC (.int (36)))) (bv bU (ag (ae 3) ai)))) (gN 8)) (aD (aO (af aR (ae 0) (eC (.int (16)))) (gN 9)) q))))) [some (.int c),some (.int p),some (.int n),some (.ref ni),some (.ref ti),none,none,none,none,none,none]) ei H=r:=fun{q r} h=>by
  refine bq (ph1:=H) (σ1:=[some (.int d),some (.int p),some (.int n),some (.ref ni),some (.ref ti),none,none,none,none,none,none]) (by rw[hd];exact asg (md (ml rfl rfl (mU (by decide) (by decide))) rfl (by decide))) (bq (ph1:=H) (σ1:=s1) (by rw[xU,hmo];exact asg (dv rfl rfl (by decide) (by decide))) (bq (ph1:=H) (σ1:=s2) ((asg ea).trans (by rw[xU,xV];rfl)) (bq (ph1:=H) (σ1:=s3) ((asg eb).trans (by rw[xV,sS];rfl)) (bq (ph1:=H) (σ1:=s3.set 8 (some (aM e))) (asg ee) (bq (ph1:=H) (σ1:=σ) ?_ h)))));refine(asg (w:=.int (d.fmod 16)) (ph1:=H) (md (i:=d) (by rw[sS];rfl) rfl (by decide))).trans ?_;rw[sS,cH];rfl
 have v1:∀{K:PH},ae 1 σ K=.ok (.int p) K:=by rw[cH];intro K;rfl
 have v2:∀{K:PH},ae 2 σ K=.ok (.int n) K:=by rw[cH];intro K;rfl
 have v4:∀{K:PH},ae 4 σ K=.ok (.ref ti) K:=by rw[cH];intro K;rfl
 have v5:∀{K:PH},ae 5 σ K=.ok (.int mo) K:=by rw[cH];intro K;rfl
 have v6:∀{K:PH},ae 6 σ K=.ok (aM a) K:=by rw[cH];intro K;rfl
 have v7:∀{K:PH},ae 7 σ K=.ok (aM b) K:=by rw[cH];intro K;rfl
 have v8:∀{K:PH},ae 8 σ K=.ok (aM e) K:=by rw[cH];intro K;rfl
 have v9:∀{K:PH},ae 9 σ K=.ok (.int (d.fmod 16)) K:=by rw[cH];intro K;rfl
 have d6:∀{K:PH},af bg (ae 5) (eC (.int (6))) σ K=.ok (.int (mo.fdiv 6)) K:=dv v5 rfl (by decide) (by decide);have qk:=oj d 16 (by decide);have na:∀{x:Nm},x∈[a]->x∈NS:=fun h=>by rw[aeJ.mp h];exact ha
 have J1:∀{K:PH},K[ti]? =some (.lst (iw TL))->∃(g:Nat) (K':PH),aJ lX (ag (af bg (ae 5) (eC (.int (6)))) (ag (ae 1) (ag (ae 2) (ag (ae 4) ai)))) σ K=.ok (.int g) K'/\Ex K K'/\Gl n p TL g:=fun{K} hK=>by
  obtain⟨g,K',e1,x1,hg⟩:=abj (mo.fdiv 6) hK hp;exact⟨g,K',av (aq d6 (aq v1 (aq v2 (aq v4 rfl)))) e1,x1,hg⟩
 unfold ua l4;rw[xb];by_cases h3:d.fmod 16<3
 ·obtain⟨m,em⟩:∃m:Nat,d.fmod 16=(m:Int):=⟨(d.fmod 16).toNat,by omega⟩
  obtain⟨v,H1,e1,x1,sv⟩:=Ho (mo.fdiv 6) H;obtain⟨r,hr,ok,to⟩:∃r:Row,[(Row.set a v).w,(Row.copy a b).w,(Row.tell a).w][m]? =some r.w/\gA NS r/\r.to=[]:=by
   have:m=0\/m=1\/m=2:=by omega
   rcases this with rfl | rfl | rfl
   ·exact⟨.set a v,rfl,⟨fun x h=>na h,fun _ _ z=>by cases z;exact sv⟩,rfl⟩
   ·refine⟨.copy a b,rfl,⟨fun x h=>?_,fun _ _ z=>by cases z⟩,rfl⟩
    rcases aeG.mp h with z | z
    ·rw[z];exact ha
    ·rw[aeJ.mp z];exact hb
   ·exact⟨.tell a,rfl,⟨fun x h=>na h,fun _ _ z=>by cases z⟩,rfl⟩
  refine⟨r,H1++[.lst [(Row.set a v).w,(Row.copy a b).w,(Row.tell a).w]],pre (df (bA (ltI v9 (decide_eq_true h3)) (retS (mV (ph1:=H1) (i:=(m:Int)) (aq (w:=(Row.set a v).w) (ph1:=H1) (tp (aq rfl (aq v6 (aq (av (aq d6 rfl) e1) rfl))) rfl) (aq (w:=(Row.copy a b).w) (ph1:=H1) (tp (aq rfl (aq v6 (aq v7 rfl))) rfl) (aq (w:=(Row.tell a).w) (ph1:=H1) (tp (aq rfl (aq v6 rfl)) rfl) rfl))) (aey rfl) (by rw[<- em];exact v9) ?_)))),x1.trans (Ex.one _ _),ok,fun k hk=>by rw[to] at hk;cases hk⟩;rw[gw _ _ (by simp;omega)];exact hr
 by_cases h8:d.fmod 16<8
 ·obtain⟨m,hm,em⟩:=dz (a:=mo.fdiv 216) (n:=6) (by decide);obtain⟨wd,hw⟩:∃wd:Wd,[(.str "sum":W),.str "less",.str "times",.str "part",.str "below",.str "alike"][m]? =some (.str wd.s):=by
   have:m=0\/m=1\/m=2\/m=3\/m=4\/m=5:=by omega
   rcases this with rfl | rfl | rfl | rfl | rfl | rfl
   ·exact⟨.sum,rfl⟩
   ·exact⟨.less,rfl⟩
   ·exact⟨.times,rfl⟩
   ·exact⟨.part,rfl⟩
   ·exact⟨.below,rfl⟩
   ·exact⟨.alike,rfl⟩
  refine⟨.c9 a wd b e,H++[PO.lst [.str "sum",.str "less",.str "times",.str "part",.str "below",.str "alike"]],pre (bq (ax (ltI v9 (decide_eq_false h3)) rfl) (df (bA (ltI v9 (decide_eq_true h8)) (sq (asg (mV (ws:=[.str "sum",.str "less",.str "times",.str "part",.str "below",.str "alike"]) (w:=.str wd.s) (i:=(m:Int)) (ph1:=H) rfl (aey rfl) ?_ ?_)) (retS ?_))))),Ex.one _ _,⟨fun x h=>?_,fun _ _ z=>by cases z⟩,fun k hk=>nomatch hk⟩
  ·rw[<- em];exact md (dv v5 rfl (by decide) (by decide)) rfl (by decide)
  ·rw[gw _ _ (by simp;omega)];exact hw
  ·rw[cH];exact av (aq rfl (aq rfl (aq rfl (aq rfl (aq rfl rfl))))) rfl
  ·rcases aeG.mp h with z | h
   ·rw[z];exact ha
   rcases aeG.mp h with z | h
   ·rw[z];exact hb
   ·rw[aeJ.mp h];exact he
 by_cases xW:d.fmod 16<10
 ·obtain⟨m,em⟩:∃m:Nat,d.fmod 16-8=(m:Int):=⟨(d.fmod 16-8).toNat,by omega⟩
  obtain⟨r,hr,ok,to⟩:∃r:Row,[(Row.take a).w,Row.turn.w][m]? =some r.w/\gA NS r/\r.to=[]:=by
   have:m=0\/m=1:=by omega
   rcases this with rfl | rfl
   ·exact⟨.take a,rfl,⟨fun x h=>na h,fun _ _ z=>by cases z⟩,rfl⟩
   ·exact⟨.turn,rfl,⟨(fun x h=>nomatch h),fun _ _ z=>by cases z⟩,rfl⟩
  refine⟨r,H++[.lst [(Row.take a).w,Row.turn.w]],pre (bq (ax (ltI v9 (decide_eq_false h3)) rfl) (bq (ax (ltI v9 (decide_eq_false h8)) rfl) (df (bA (ltI v9 (decide_eq_true xW)) (retS (mV (ph1:=H) (i:=(m:Int)) (aq (w:=(Row.take a).w) (ph1:=H) (tp (aq rfl (aq v6 rfl)) rfl) (aq (w:=Row.turn.w) (ph1:=H) rfl rfl)) (aey rfl) (by rw[<- em];exact sb v9 rfl) ?_)))))),Ex.one _ _,ok,fun k hk=>by rw[to] at hk;cases hk⟩;rw[gw _ _ (by simp;omega)];exact hr
 by_cases BX:d.fmod 16<14
 ·obtain⟨g,H1,e1,x1,hg⟩:=J1 ht;exact⟨.iff a g,H1,pre (bq (ax (ltI v9 (decide_eq_false h3)) rfl) (bq (ax (ltI v9 (decide_eq_false h8)) rfl) (bq (ax (ltI v9 (decide_eq_false xW)) rfl) (df (bA (ltI v9 (decide_eq_true BX)) (retS (tp (aq rfl (aq v6 (aq e1 rfl))) rfl))))))),x1,⟨fun x h=>na h,fun _ _ z=>by cases z⟩,fun k hk=>by cases aeJ.mp hk;exact hg⟩
 by_cases J2:d.fmod 16=14
 ·obtain⟨g,H1,e1,x1,hg⟩:=J1 ht;exact⟨.go g,H1,pre (bq (ax (ltI v9 (decide_eq_false h3)) rfl) (bq (ax (ltI v9 (decide_eq_false h8)) rfl) (bq (ax (ltI v9 (decide_eq_false xW)) rfl) (bq (ax (ltI v9 (decide_eq_false BX)) rfl) (df (bA (eI v9 (decide_eq_true J2)) (retS (tp (aq rfl (aq e1 rfl)) rfl)))))))),x1,⟨(fun x h=>nomatch h),fun _ _ z=>by cases z⟩,fun k hk=>by cases aeJ.mp hk;exact hg⟩
 ·obtain⟨m,hm,em⟩:=dz (a:=mo.fdiv 6) (n:=3) (by decide);obtain⟨r,hr,ok,to⟩:∃r:Row,[Row.fin.w,(Row.tell a).w,Row.turn.w][m]? =some r.w/\gA NS r/\r.to=[]:=by
   have:m=0\/m=1\/m=2:=by omega
   rcases this with rfl | rfl | rfl
   ·exact⟨.fin,rfl,⟨(fun x h=>nomatch h),fun _ _ z=>by cases z⟩,rfl⟩
   ·exact⟨.tell a,rfl,⟨fun x h=>na h,fun _ _ z=>by cases z⟩,rfl⟩
   ·exact⟨.turn,rfl,⟨(fun x h=>nomatch h),fun _ _ z=>by cases z⟩,rfl⟩
  refine⟨r,H++[.lst [Row.fin.w,(Row.tell a).w,Row.turn.w]],pre (bq (ax (ltI v9 (decide_eq_false h3)) rfl) (bq (ax (ltI v9 (decide_eq_false h8)) rfl) (bq (ax (ltI v9 (decide_eq_false xW)) rfl) (bq (ax (ltI v9 (decide_eq_false BX)) rfl) (bq (ax (eI v9 (decide_eq_false J2)) rfl) (br (mV (ph1:=H) (i:=(m:Int)) (aq (w:=Row.fin.w) (ph1:=H) rfl (aq (w:=(Row.tell a).w) (ph1:=H) (tp (aq rfl (aq v6 rfl)) rfl) (aq (w:=Row.turn.w) (ph1:=H) rfl rfl))) (aey rfl) (by rw[<- em];exact md d6 rfl (by decide)) ?_))))))),Ex.one _ _,ok,fun k hk=>by rw[to] at hk;cases hk⟩;rw[gw _ _ (by simp;omega)];exact hr
theorem acR(h:dX cs):agl (tx cs)=true:=by
 unfold agl tx;rw[air,afz];intro c hc;have:=(h.ab c hc).2;exact decide_eq_true (by omega)
theorem iQ(h:dX cs)(H:PH)(n:Nat):dat H n (aM cs)=some (.str (tx cs)):=by
 have:(if agl (tx cs)=true then some (aiP (tx cs)) else none)=some (.str (tx cs)):=if_pos (acR h);cases n <;> exact this
noncomputable def Row.d:Row->agJ
 | .set a n=>.tuple [.str (aei "set"),.str (tx a),.int n]
 | .copy a b=>.tuple [.str (aei "copy"),.str (tx a),.str (tx b)]
 | .c9 a w b c=>.tuple [.str (aei "do"),.str (tx a),.str (aei w.s),.str (tx b),.str (tx c)]
 | .take a=>.tuple [.str (aei "take"),.str (tx a)]
 | .tell a=>.tuple [.str (aei "tell"),.str (tx a)]
 | .turn=>.tuple [.str (aei "turn")]
 | .iff a p=>.tuple [.str (aei "if"),.str (tx a),.int p]
 | .go p=>.tuple [.str (aei "go"),.int p]
 | .fin=>.tuple [.str (aei "end")]
variable{r:Row}
theorem zQ(H:PH)(n:Nat)(h:∀a∈r.nm,dX a):dat H (n+1) r.w=some r.d:=by
 cases r with
 | set a m=>exact iL (mc (ic H n "set") (mc (iQ (h a (by simp[Row.nm])) H n) (mc (li ..) rfl)))
 | copy a b=>exact iL (mc (ic H n "copy") (mc (iQ (h a (by simp[Row.nm])) H n) (mc (iQ (h b (by simp[Row.nm])) H n) rfl)))
 | c9 a w b c=>exact iL (mc (ic H n "do") (mc (iQ (h a (by simp[Row.nm])) H n) (mc (ic H n w.s) (mc (iQ (h b (by simp[Row.nm])) H n) (mc (iQ (h c (by simp[Row.nm])) H n) rfl)))))
 | take a=>exact iL (mc (ic H n "take") (mc (iQ (h a (by simp[Row.nm])) H n) rfl))
 | tell a=>exact iL (mc (ic H n "tell") (mc (iQ (h a (by simp[Row.nm])) H n) rfl))
 | turn=>exact iL (mc (ic H n "turn") rfl)
 | iff a p=>exact iL (mc (ic H n "if") (mc (iQ (h a (by simp[Row.nm])) H n) (mc (li ..) rfl)))
 | go p=>exact iL (mc (ic H n "go") (mc (li ..) rfl))
 | fin=>exact iL (mc (ic H n "end") rfl)
noncomputable def Row.fI:Row->Bool
 | .turn=>true
 | _=>false
theorem WY(r:Row):afb r.d Row.turn.d=r.fI:=by
 cases r <;> simp only[Row.d,Row.fI,afb,agY,Bool.and_false] <;> decide +kernel
theorem GH(h:r.fI=true):r=.turn:=by cases r <;> first | rfl | cases h
structure GI(ph H:PH)(NS:List Nm)(n j:Nat)(R:List Row)(TL:List Nat):Prop where
 ex:Ex ph H
 r:H[ph.length]? =some (.lst (R.map Row.w))
 t:H[ph.length+1]? =some (.lst (iw TL))
 len:R.length=j
 tl:TL.length<=j
 sT:∀t∈TL,R[t]? =some .turn
 ok:∀r∈R,gA NS r
 jm:∀(p:Nat) y,R[p]? =some y->∀k∈y.to,(p<k/\k<=n)\/R[k]? =some .turn
abbrev sr(ns:List Int)(n ni p:Nat)(o:Option W):aP:=[some (.fl (ns.map W.int)),some (.int 3),some (.int n),some (.ref ni),some (.ref p),some (.ref (p+1)),o]
variable{R:List Row}
theorem abl(ns:List Int)(hN:ph[ni]? =some (.lst (NS.map aM)))(h0:NS≠[])(nk:∀a∈NS,dX a)(G:GI ph H NS n j R TL)(hj:j<n)(hn:n<=60) :
  ∃H' R' BY,tq (sr ns n ni ph.length (some (.int j))) H=.ok (.nx (sr ns n ni ph.length (some (.int j)))) H'/\GI ph H' NS n (j+1) R' BY:=by
 have hl:=G.len;have htl:=G.tl;obtain⟨m,hm,em⟩:=dz (a:=(j:Int)) (n:=24) (by decide);obtain⟨r,H1,e1,x1,ok,jm⟩:=abk (ns.getD (3+(m:Int)).toNat 0+7919*(j:Int)) (G.ex.get hN) h0 G.t hj;obtain⟨H2,xX⟩:∃H2,H2=H1.set ph.length (.lst (R.map Row.w++[r.w])):=⟨_,rfl⟩
 have gr:=x1.get G.r;have gt:=x1.get G.t;have a1:dm (bS cM dg (ae 4) (ag (aJ ua (ag (af addW (aJ cB (ag (ae 0) (ag (af addW (ae 1) (af aR (ae 6) (eC (.int (24))))) ai))) (af cC (eC (.int (7919))) (ae 6))) (ag (ae 6) (ag (ae 2) (ag (ae 3) (ag (ae 5) ai)))))) ai)) (sr ns n ni ph.length (some (.int j))) H=.ok (.nx (sr ns n ni ph.length (some (.int j)))) H2:=by
  rw[xX];refine sP rfl ⟨_,G.r⟩ (av (aq (ad (cl rfl (ad rfl (md rfl rfl (by decide))) (by rw[em];omega)) (ml rfl rfl (vU (by decide) (by decide)))) (aq rfl (aq rfl (aq rfl (aq rfl rfl))))) ?_) gr (by rw[aep];omega);rw[em];exact e1
 have g4:H2[ph.length]? =some (.lst ((R++[r]).map Row.w)):=by rw[xX,jr gr,age];rfl
 have g5:H2[ph.length+1]? =some (.lst (iw TL)):=by rw[xX];exact(fP (by omega)).trans gt
 have nr:∀a∈r.nm,dX a:=fun a ha=>nk a (ok.1 a ha)
 have kA:eT (af aS (af ak (ae 4) (da cZ (eC (.int (1))))) (bH (ag (eC (.str "turn")) ai))) (sr ns n ni ph.length (some (.int j))) H2=.ok r.fI H2:=by
  refine tB (op (x:=r.w) (y:=Row.turn.w) (op (x:=.ref ph.length) (y:=.int (-1)) rfl rfl (eV g4 ?_)) rfl (Hk ?_))
  ·unfold cy fY;rw[if_neg (by omega),if_pos (by simp;omega)];have:((-1:Int)+(((R++[r]).map Row.w).length:Nat)).toNat=R.length:=by simp;omega
   simp only[afy,this];rw[aeA,agU];rfl
  ·unfold ff;rw[zQ H2 39 nr,zQ H2 39 (r:=.turn) (fun a ha=>nomatch ha)];simp only[WY]
 have Ik:Ex ph H2:=by rw[xX];exact Ex.set (G.ex.trans x1) (aeq _) _
 have sT:∀t∈TL,(R++[r])[t]? =some .turn:=fun t ht=>by
  have:=G.sT t ht;rw[afq (aen.mp this).1];exact this
 have J3:∀y∈R++[r],gA NS y:=fun y hy=>by
  rcases afs.mp hy with z | z
  ·exact G.ok y z
  ·rw[aeJ.mp z];exact ok
 have J4:∀(p:Nat) y,(R++[r])[p]? =some y->∀k∈y.to,(p<k/\k<=n)\/(R++[r])[k]? =some .turn:=fun p y hy k hk=>by
  rcases GC hy with⟨hp,z⟩ | ⟨z0,z⟩
  ·rcases G.jm p y z k hk with q | q
   ·exact .inl q
   ·refine .inr ?_;rw[afq (aen.mp q).1];exact q
  ·subst z
   rcases jm k hk with q | q
   ·exact .inl ⟨by omega,q.2⟩
   ·exact .inr (sT k q)
 unfold tq;cases ht:r.fI with
 | false=>
  rw[ht] at kA;exact⟨H2,R++[r],TL,sq a1 (ax kA rfl),Ik,g4,g5,by rw[aeI,hl];rfl,by omega,sT,J3,J4⟩
 | true=>
  rw[ht] at kA;refine⟨H2.set (ph.length+1) (.lst (iw TL++[.int j])),R++[r],TL++[j],sq a1 (bA kA (sP rfl ⟨_,g5⟩ rfl g5 (by rw[Ac];omega))),Ex.set Ik (by omega) _,(fP (by omega)).trans g4,(jr g5).trans (by rw[abe];rfl),by rw[aeI,hl];rfl,by simp;omega,fun t h=>?_,J3,J4⟩
  rcases afs.mp h with z | z
  ·exact sT t z
  ·rw[aeJ.mp z,<- hl,agU,GH ht]
structure e9(NS:List Nm)(R:List Row):Prop where
 ok:∀r∈R,gA NS r
 jm:∀(p:Nat) y,R[p]? =some y->∀k∈y.to,k<=R.length/\(k<=p->R[k]? =some .turn)
theorem abm(ns:List Int)(hN:ph[ni]? =some (.lst (NS.map aM)))(h0:NS≠[])(nk:∀a∈NS,dX a)(hn:n<=60) :
  ∃R H',yv [.fl (ns.map W.int),.int 3,.int n,.ref ni] ph=.ok (.ref ph.length) H'/\Ex ph H'/\H'[ph.length]? =some (.lst (R.map Row.w))/\R.length=n/\e9 NS R:=by
 obtain⟨H0,eH⟩:∃H0,H0=ph++[PO.lst []]++[PO.lst []]:=⟨_,rfl⟩
 have G0:GI ph H0 NS n 0 [] []:=by
  subst eH;refine⟨(Ex.one _ _).trans (Ex.one _ _),(Ex.one _ _).get (bW _ _),?_,rfl,aeq _,fun _ h=>(nomatch h),fun _ h=>(nomatch h),fun p y h=>by simp at h⟩;have:=bW (ph++[PO.lst []]) (PO.lst []);rw[aeI] at this;exact this
 obtain⟨ay,H',e,R,TL,⟨o,rfl⟩,G⟩:=qN (chk:=fun _=>true) (g:=gN 6) (b:=tq) (fun j σ H=>∃R TL,(∃o,σ=sr ns n ni ph.length o)/\GI ph H NS n j R TL)
  (gZ 0 n) (sr ns n ni ph.length none) H0 (fun _ _ _ _=>rfl) (fun j x σ H hj hI=>by
   obtain⟨R,TL,⟨o,rfl⟩,G⟩:=hI;obtain⟨hjn,rfl⟩:=EC hj;rw[Int.zero_add];obtain⟨H',R',BY,e1,G'⟩:=abl ns hN h0 nk G hjn hn;exact⟨_,_,rfl,_,_,e1,_,.inl rfl,R',BY,⟨_,rfl⟩,G'⟩) ⟨[],[],⟨none,rfl⟩,G0⟩
 rw[ED] at G;refine⟨R,H',?_,G.ex,G.r,G.len,G.ok,fun p y hy k hk=>?_⟩
 ·unfold yv lY;rw[rY];refine bq (ph1:=ph++[.lst []]) (σ1:=[some (.fl (ns.map W.int)),some (.int 3),some (.int n),some (.ref ni),some (.ref ph.length),none,none]) rfl (bq (ph1:=H0) (σ1:=sr ns n ni ph.length none) ?_ (bq (qU (oV (j:=(n:Int)) rfl (by omega) (by omega)) e) (br rfl)));refine(asg (w:=.ref (ph.length+1)) (ph1:=H0) ?_).trans rfl;rw[eH];show Out.ok (W.ref (ph++[PO.lst []]).length) _=_;rw[aeI];rfl
 ·have hl:=G.len
  rcases G.jm p y hy k hk with q | q
  ·exact⟨by omega,fun z=>by omega⟩
  ·exact⟨aiz (aen.mp q).1,fun _=>q⟩
theorem abn:∀m:Fin 26,(!(afS (aei "abcdefghijklmnopqrstuvwxyz") (sg (97+m.1)) 0 (aei "abcdefghijklmnopqrstuvwxyz").length 1).isEmpty)=true:=nofun
theorem abo{c:Nat}(h:Ab c)(H:PH):lift (pS (c6 c) (.str "abcdefghijklmnopqrstuvwxyz")) H=.ok (.bl true) H:=by
 have:=abn ⟨c-97,by have:=h.1;have:=h.2;omega⟩;rw[show 97+(c-97)=c by have:=h.1;omega] at this;show Out.ok (W.bl (!(afS _ (sg c) 0 _ 1).isEmpty)) H=_;rw[this]
theorem gb{a:TM}(h:a σ ph=.ok c ph1):dj a σ ph=.ok (!c) ph1:=av h rfl
theorem eB{e:EM}(h:e σ ph=.ok (.bl c) ph1):dq e σ ph=.ok c ph1:=av h rfl
theorem oF{a b:TM}{r:Out Bool}(h:a σ ph=.ok false ph1)(h2:b σ ph1=r):cU a b σ ph=r:=av h h2
theorem wH{l:List α}(h:H[i]? =some (.lst (l.map fun _=>W.bl true))):lift (jB [.ref i]) H=.ok (.bl true) H:=by
 have e:(l.map fun _=>W.bl true)=(l.map fun _=>true).map W.bl:=by rw[ahS];rfl
 rw[e] at h;rw[Yg h]
 congr 2
 rw[afz];intro x hx;obtain⟨_,_,rfl⟩:=ahi.mp hx;rfl
theorem vF{f f':W->W->Po W}{c:EM}{x y u:W}{k:Bool}(ha:a σ ph=.ok x ph)(hb:b σ ph=.ok y ph)(h1:lift (f x y) ph=.ok (.bl true) ph)(hc:c σ ph=.ok u ph)(h2:lift (f' y u) ph=.ok (.bl k) ph):iM f f' a b c σ ph=.ok (.bl k) ph:=
 av ha (av hb (av h1 (av hc h2)))
theorem VT(h:dX cs)(H:PH):∃H',yY [aM cs] H=.ok (.bl true) H'/\Ex H H':=by
 have hlo:=h.lo;have hhi:=h.hi;have hsz:(tx cs).length=cs.length:=by show cs.toArray.size=_;simp
 have b6:lift (bU [aM cs]) H=.ok (.int cs.length) H:=by
  have e:bU [aM cs] H=some (.int cs.length,H):=by
   unfold bU aM;simp only[];rw[hsz,if_pos (aeW hhi (by decide))]
  unfold lift;rw[e]
 have adO:(tx cs).cps.all (· <128)=true:=by
  unfold tx;rw[air,afz];intro c hc;have:=(h.ab c hc).2;exact decide_eq_true (by omega)
 have i8:sd (ae 0) [some (aM cs)] H=.ok (cs.map c6,fun _=>true) H:=by
  refine av (a:=aM cs) (ph':=H) rfl ?_;have e:xh (aM cs) H=some ((cs.map c6,fun _=>true),H):=by
   unfold xh aM;simp only[];rw[if_pos adO];unfold xg tx;simp only[];rfl
  unfold lift;rw[e]
 obtain⟨H1,e1,x1⟩:=mE cs c6 (im:=sd (ae 0)) (cap:=[none]) (g:=gN 0) (c:=cY) (e:=af pS (ae 0) (eC (.str "abcdefghijklmnopqrstuvwxyz"))) i8 (fun _ _=>rfl) (small (by omega)) (fun _=>some (.bl true)) (fun σ=>∃o,σ=[o]) ⟨none,rfl⟩
  (fun c hc σ K hS _=>by
   obtain⟨o,rfl⟩:=hS;exact⟨_,rfl,⟨_,rfl⟩,true,K,rfl,Ex.refl _,.inr ⟨rfl,_,K,op rfl rfl (abo (h.ab c hc) K),Ex.refl _,rfl⟩⟩)
 rw[oK] at x1;refine⟨H1,?_,(Ex.one _ _).trans x1⟩;unfold yY mz;rw[iy];refine bq (ph1:=H) (ax (oF (gb (eB (c:=true) (av (a:=aM cs) (ph':=H) rfl rfl))) (gb (c:=true) (tB ?_))) rfl) (br (av (aq e1 rfl) (wH (x1.get (bW _ _)))));refine vF rfl (av (aq (w:=aM cs) rfl rfl) b6) ?_ rfl ?_
 ·show Out.ok (W.bl (decide ((1:Int)<=(cs.length:Int)))) H=_;rw[decide_eq_true (by omega)]
 ·show Out.ok (W.bl (decide ((cs.length:Int)<=6))) H=_;rw[decide_eq_true (by omega)]
theorem ve{n:Int}(h:b9 n)(H:PH):kH [.int n] H=.ok (.bl true) H:=by
 obtain⟨h1,h2⟩:=h;unfold kH jh;rw[iy];refine bq (ph1:=H) (ax (oF (gb (eB (c:=true) rfl)) (eB (c:=false) rfl)) rfl) (br (vF rfl rfl ?_ rfl ?_))
 ·show Out.ok (W.bl (decide (-2147483648<=n))) H=_;rw[decide_eq_true h1]
 ·show Out.ok (W.bl (decide (n<2147483648))) H=_;rw[decide_eq_true (by omega)]
theorem BZ{r:Out W}(ha:a σ ph=.ok (.bl true) ph)(hb:b σ ph=r):j6 a b σ ph=r:=av ha (av rfl hb)
theorem VU(w:Wd)(H:PH):yZ [.str w.s] H=.ok (.bl true) H:=by
 unfold yZ mB;rw[iy];refine br (BZ rfl (op rfl rfl ?_));have e:pR (.str w.s) (.kt (kX.map W.str)) H=some (.bl true,H):=by
  unfold pR;simp only[jP strOf W.str id (fun _=>rfl),List.map_id_fun,id,afa];rw[decide_eq_true];cases w <;> unfold kX Wd.s <;> decide +kernel
 unfold lift;rw[e]
theorem Uq(h:k<=n)(hn:n<=60)(H:PH):yM [.int k,.int n] H=.ok (.bl true) H:=by
 unfold yM mf;rw[gF];refine br (BZ (av (aq rfl rfl) (ve ⟨by omega,by omega⟩ H)) (vF rfl rfl ?_ rfl ?_))
 ·show Out.ok (W.bl (decide ((0:Int)<=(k:Int)))) H=_;rw[decide_eq_true (by omega)]
 ·show Out.ok (W.bl (decide ((k:Int)<=(n:Int)))) H=_;rw[decide_eq_true (by omega)]
noncomputable def Row.ks:Row->List (String×W)
 | .set a n=>[("name",aM a),("number",.int n)]
 | .copy a b=>[("name",aM a),("name",aM b)]
 | .c9 a w b c=>[("name",aM a),("word",.str w.s),("name",aM b),("name",aM c)]
 | .take a=>[("name",aM a)]
 | .tell a=>[("name",aM a)]
 | .turn=>[]
 | .iff a p=>[("name",aM a),("place",.int p)]
 | .go p=>[("place",.int p)]
 | .fin=>[]
noncomputable def Row.x:Row->String
 | .set _ _=>"set"
 | .copy _ _=>"copy"
 | .c9 _ _ _ _=>"do"
 | .take _=>"take"
 | .tell _=>"tell"
 | .turn=>"turn"
 | .iff _ _=>"if"
 | .go _=>"go"
 | .fin=>"end"
theorem wI(r:Row):r.w=.tup (.str r.x::r.ks.map (·.2)):=by cases r <;> rfl
theorem WZ:ed "set" di=some (["name","number"]:List Str):=nofun
theorem VV:ed "copy" di=some (["name","name"]:List Str):=nofun
theorem YL:ed "do" di=some (["name","word","name","name"]:List Str):=nofun
theorem VW:ed "take" di=some (["name"]:List Str):=nofun
theorem VX:ed "tell" di=some (["name"]:List Str):=nofun
theorem VY:ed "turn" di=some []:=nofun
theorem YM:ed "if" di=some (["name","place"]:List Str):=nofun
theorem YN:ed "go" di=some (["place"]:List Str):=nofun
theorem W0:ed "end" di=some []:=nofun
theorem EO(r:Row):ed (aei r.x) di=some (r.ks.map fun p=>aei p.1):=by
 cases r with
 | set a n=>exact WZ
 | copy a b=>exact VV
 | c9 a w b c=>exact YL
 | take a=>exact VW
 | tell a=>exact VX
 | turn=>exact VY
 | iff a p=>exact YM
 | go p=>exact YN
 | fin=>exact W0
theorem EQ(r:Row){e:EM}(h:e σ H=.ok (.str r.x) H):wB di e σ H=.ok (.kt (r.ks.map fun p=>W.str (aei p.1))) H:=by
 refine av h ?_;have e:wA di (.str r.x) H=some (.kt (r.ks.map fun p=>W.str (aei p.1)),H):=by
  unfold wA;simp only[EO,afa,ahS];rfl
 unfold lift;rw[e]
theorem vH{e:EM}{a:W}{l:List W}(h:e σ H=.ok (.tup (a::l)) H):c5 e (cK (eC (.int (1)))) d8 σ H=.ok (.tup l) H:=by
 rw[q0];refine av h (av (a:=some 1) (ph':=H) rfl (av (a:=none) (ph':=H) rfl ?_));have e:hG (.tup (a::l)) (some 1) none H=some (.tup l,H):=by
  unfold hG;have c1:HT.bj (a::l).length 0 (some 1)=1:=by
   unfold HT.bj;simp
  have c2:fU (a::l) (some 1) none=l:=by
   unfold fU;rw[c1];unfold HT.bj;simp
  simp only[c1,c2];rw[if_neg (fun z=>absurd z.1 (by decide))]
 unfold lift;rw[e]
noncomputable def sU(p:String×W):W:=.tup [.str p.1,p.2]
theorem abp(l:List (String×W)):nB (l.map fun p=>W.str (aei p.1)) (l.map (·.2))=l.map sU:=by
 induction l with
 | nil=>rfl
 | cons p l ih=>
  unfold nB at ih ⊢;rw[aeP,aeP,List.zip_cons_cons,aeP,ih];rfl
theorem FF(r:Row)(ha:a σ H=.ok (.kt (r.ks.map fun p=>W.str (aei p.1))) H)(hb:b σ H=.ok (.tup (r.ks.map (·.2))) H):rC (ag a (ag b ai)) σ H=.ok (r.ks.map sU,fun _=>true) H:=by
 refine av (aq ha (aq hb rfl)) ?_;have e:wz [.kt (r.ks.map fun p=>W.str (aei p.1)),.tup (r.ks.map (·.2))] H=some ((r.ks.map sU,fun _=>true),H):=by
  unfold wz;simp only[wu,abp]
 unfold lift;rw[e]
theorem abq(nk:∀a∈NS,dX a)(ok:gA NS r)(hp:∀k∈r.to,k<=n)(hn:n<=60){p:String×W}(h:p∈r.ks)(H:PH):∃H',jO [.str p.1,p.2,.int n] H=.ok (.bl true) H'/\Ex H H':=by
 have nm:∀{a:Nm},a∈r.nm->∃H',jO [.str "name",aM a,.int n] H=.ok (.bl true) H'/\Ex H H':=fun{a} ha=>by
  obtain⟨H',e,x⟩:=VT (nk a (ok.1 a ha)) H;refine⟨H',?_,x⟩;unfold jO jk;rw[g6];exact df (bA (wv "name" rfl rfl) (retS (av (aq rfl rfl) e)))
 have pl:∀{k:Nat},k∈r.to->∃H',jO [.str "place",.int k,.int n] H=.ok (.bl true) H'/\Ex H H':=fun{k} hk=>by
  refine⟨H,?_,Ex.refl _⟩;unfold jO jk;rw[g6];exact bq (ax (wv "place" rfl rfl) rfl) (bq (ax (wv "place" rfl rfl) rfl) (bq (ax (wv "place" rfl rfl) rfl) (br (av (aq rfl (aq rfl rfl)) (Uq (hp k hk) hn H)))))
 cases r with
 | set a m=>
  rcases aeG.mp h with rfl | h
  ·exact nm (by simp[Row.nm])
  ·cases aeJ.mp h;refine⟨H,?_,Ex.refl _⟩;unfold jO jk;rw[g6];exact bq (ax (wv "number" rfl rfl) rfl) (df (bA (wv "number" rfl rfl) (retS (av (aq rfl rfl) (ve (ok.2 a m rfl) H)))))
 | copy a b=>
  rcases aeG.mp h with rfl | h
  ·exact nm (by simp[Row.nm])
  ·cases aeJ.mp h;exact nm (by simp[Row.nm])
 | c9 a w b c=>
  rcases aeG.mp h with rfl | h
  ·exact nm (by simp[Row.nm])
  rcases aeG.mp h with rfl | h
  ·refine⟨H,?_,Ex.refl _⟩;unfold jO jk;rw[g6];exact bq (ax (wv "word" rfl rfl) rfl) (bq (ax (wv "word" rfl rfl) rfl) (df (bA (wv "word" rfl rfl) (retS (av (aq rfl rfl) (VU w H))))))
  rcases aeG.mp h with rfl | h
  ·exact nm (by simp[Row.nm])
  ·cases aeJ.mp h;exact nm (by simp[Row.nm])
 | take a=>
  cases aeJ.mp h;exact nm (by simp[Row.nm])
 | tell a=>
  cases aeJ.mp h;exact nm (by simp[Row.nm])
 | turn=>cases h
 | iff a p=>
  rcases aeG.mp h with rfl | h
  ·exact nm (by simp[Row.nm])
  ·cases aeJ.mp h;exact pl (by simp[Row.to])
 | go p=>
  cases aeJ.mp h;exact pl (by simp[Row.to])
 | fin=>cases h
theorem rL{e:EM}(h:e σ H=.ok r.w H):af ak e (eC (.int (0))) σ H=.ok (.str r.x) H:=by
 rw[wI] at h;exact op h rfl (by rw[Ay,Aw];rfl)
theorem GJ(r:Row):r.ks.length<=4:=by cases r <;> exact aey rfl
theorem W2(nk:∀a∈NS,dX a)(ok:gA NS r)(hp:∀k∈r.to,k<=n)(hn:n<=60)(H:PH):∃H',zt [r.w,.int n] H=.ok (.bl true) H'/\Ex H H':=by
 have hk:=GJ r;obtain⟨σ,cH⟩:∃σ:aP,σ=[some r.w,some (.int n),some (.kt (r.ks.map fun p=>W.str (aei p.1)))]:=⟨_,rfl⟩
 have hs:c5 (ae 0) (cK (eC (.int (1)))) d8 σ H=.ok (.tup (r.ks.map (·.2))) H:=vH (a:=.str r.x) (by rw[cH,<- wI];rfl);obtain⟨H1,e1,x1⟩:=mE r.ks sU (cap:=[none,none,some 1]) (g:=j8 2 [(gN 0),(gN 1)]) (c:=cY) (e:=aJ jO (ag (ae 0) (ag (ae 1) (ag (ae 2) ai)))) (FF r (a:=ae 2) (b:=c5 (ae 0) (cK (eC (.int (1)))) d8) (σ:=σ) (by rw[cH];rfl) hs) (fun _ _=>rfl) (small (by omega)) (fun _=>some (.bl true)) (fun σ=>∃o o',σ=[o,o',some (.int n)]) ⟨none,none,by rw[cH];rfl⟩
  (fun p xE σ K hS _=>by
   obtain⟨o,o',rfl⟩:=hS;obtain⟨K',e2,x2⟩:=abq nk ok hp hn xE K;exact⟨_,rfl,⟨_,_,rfl⟩,true,K,rfl,Ex.refl _,.inr ⟨rfl,_,K',av (aq rfl (aq rfl (aq rfl rfl))) e2,x2,rfl⟩⟩)
 rw[oK] at x1;refine⟨H1,?_,(Ex.one _ _).trans x1⟩;have hw:=wI r;have l0:bv bU (ag (ae 0) ai) [some r.w,some (.int n),none] H=.ok (.int ((r.ks.length+1:Nat):Int)) H:=by
  rw[hw];refine av (aq rfl rfl) ?_;show Out.ok (W.int (((W.str r.x::r.ks.map (·.2)).length:Nat):Int)) H=_;rw[aeO,aep]
 have l1:bv bU (ag (ae 0) ai) σ H=.ok (.int ((r.ks.length+1:Nat):Int)) H:=by
  rw[cH,hw];refine av (aq rfl rfl) ?_;show Out.ok (W.int (((W.str r.x::r.ks.map (·.2)).length:Nat):Int)) H=_;rw[aeO,aep]
 have r0:af ak (ae 0) (eC (.int (0))) [some r.w,some (.int n),none] H=.ok (.str r.x) H:=rL rfl;unfold zt mF;rw[gF];refine bq (ph1:=H) (ax (oF (gb (eB (c:=true) ?_)) (eI l0 (decide_eq_false (by omega)))) rfl) (bq (ph1:=H) (ax (oF (gb (eB (c:=true) (av r0 rfl))) (tB (av r0 ?_))) rfl) (bq (ph1:=H) (σ1:=σ) ((asg (EQ r r0)).trans (by rw[cH];rfl)) (bq (ph1:=H) (ax (tB (op (f:=cz) (ph2:=H) l1 (ad (i:=(r.ks.length:Int)) (j:=1) ?_ rfl) ?_)) rfl) (br (av (aq e1 rfl) (wH (x1.get (bW _ _))))))))
 ·rw[hw];rfl
 ·have e:pQ (fun b=> !b) di (.str r.x) H=some (.bl false,H):=by
   unfold pQ;simp only[EO];rfl
  unfold lift;rw[e]
 ·rw[cH];refine av (aq rfl rfl) ?_;show Out.ok (W.int (((r.ks.map fun p=>W.str (aei p.1)).length:Nat):Int)) H=_;rw[aep]
 ·rw[rA,decide_eq_true (by omega)];rfl
theorem Eb{α β:Type}(c:α->Bool)(f:α->β):∀l:List α,l.filterMap (fun a=>if c a=true then some (f a) else none)=(l.filter c).map f
 | []=>rfl
 | a::l=>by
  rw[afZ,List.filter_cons,Eb c f l];cases c a <;> rfl
theorem FG(r:Row)(k:String)(H:PH):∃H',nZ [r.w,.str k] H=.ok (.ref H.length) H'/\Ex (H++[.lst ((r.ks.filter fun p=>decide (p.1=k)).map (·.2))]) H':=by
 have hk:=GJ r;have r0:af ak (ae 0) (eC (.int (0))) [some r.w,some (.str k)] H=.ok (.str r.x) H:=rL rfl;have hs:c5 (ae 0) (cK (eC (.int (1)))) d8 [some r.w,some (.str k)] H=.ok (.tup (r.ks.map (·.2))) H:=vH (a:=.str r.x) (by rw[<- wI];rfl);obtain⟨H1,e1,x1⟩:=mE r.ks sU (cap:=[none,none,some 1]) (g:=j8 2 [(gN 0),(gN 1)]) (c:=eT (af aS (ae 0) (ae 2))) (e:=ae 1) (FF r (EQ r r0) hs) (fun _ _=>rfl) (small (by omega)) (fun p=>if decide (p.1=k)=true then some p.2 else none) (fun σ=>∃o o',σ=[o,o',some (.str k)]) ⟨none,none,rfl⟩
  (fun p xE σ K hS _=>by
   obtain⟨o,o',rfl⟩:=hS;refine⟨_,rfl,⟨_,_,rfl⟩,decide (p.1=k),K,tB (op (x:=.str p.1) (y:=.str k) rfl rfl (by rw[Av];rfl)),Ex.refl _,?_⟩;cases decide (p.1=k) with
   | false=>exact .inl ⟨rfl,rfl⟩
   | true=>exact .inr ⟨rfl,_,K,rfl,Ex.refl _,rfl⟩)
 rw[Eb (fun p:String×W=>decide (p.1=k))] at x1;refine⟨H1,?_,x1⟩;unfold nZ kE;rw[gF];exact br e1
theorem W3(r:Row):(r.ks.filter fun p=>decide (p.1="place")).map (·.2)=iw r.to:=by cases r <;> simp[Row.ks,Row.to,iw]
theorem YO(r:Row):(r.ks.filter fun p=>decide (p.1="name")).map (·.2)=r.nm.map aM:=by cases r <;> simp[Row.ks,Row.nm]
theorem YQ(r:Row){e:EM}(h:e σ H=.ok r.w H):∃H',fR (aJ nZ (ag e (ag (eC (.str "place")) ai))) σ H=.ok (iw r.to,fun p=>decide (p[H.length]? =some (.lst (iw r.to)))) H'/\Ex H H'/\H'[H.length]? =some (.lst (iw r.to)):=by
 obtain⟨H',e1,x1⟩:=FG r "place" H;rw[W3] at x1;have g:=x1.get (bW _ _);exact⟨H',qF (av (aq h (aq rfl rfl)) e1) g,(Ex.one _ _).trans x1,g⟩
theorem abr(r:Row){e:EM}(h:e σ H=.ok r.w H):∃H',fR (aJ nZ (ag e (ag (eC (.str "name")) ai))) σ H=.ok (r.nm.map aM,fun p=>decide (p[H.length]? =some (.lst (r.nm.map aM)))) H'/\Ex H H'/\H'[H.length]? =some (.lst (r.nm.map aM)):=by
 obtain⟨H',e1,x1⟩:=FG r "name" H;rw[YO] at x1;have g:=x1.get (bW _ _);exact⟨H',qF (av (aq h (aq rfl rfl)) e1) g,(Ex.one _ _).trans x1,g⟩
theorem pA(h:R[k]? =some r):cy (R.map Row.w) (k:Int)=some r.w:=by
 rw[gw _ _ (by rw[aep];exact(aen.mp h).1),aeA,h];rfl
variable{ri:Nat}
theorem YR(hR:H[ri]? =some (.lst (R.map Row.w)))(hp:R[p]? =some r)(jm:∀k∈r.to,k<=R.length/\(k<=p->R[k]? =some .turn)):∃H',yj [.ref ri,.int p] H=.ok (.bl false) H'/\Ex H H':=by
 obtain⟨H1,e1,x1,g1⟩:=YQ r (e:=af ak (ae 0) (ae 1)) (σ:=[some (.ref ri),some (.int p),none]) (H:=H) (op rfl rfl (eV hR (pA hp)));obtain⟨ay,H2,e2,⟨o,rfl⟩,x2⟩:=qN (chk:=fun p=>decide (p[H.length]? =some (.lst (iw r.to)))) (g:=gN 2) (b:=ye) (fun _ σ K=>(∃o,σ=[some (.ref ri),some (.int p),o])/\Ex H1 K) (iw r.to) [some (.ref ri),some (.int p),none] H1
  (fun _ _ _ h=>decide_eq_true (h.2.get g1)) (fun j x σ K hj hI=>by
   obtain⟨⟨o,rfl⟩,y⟩:=hI;obtain⟨k,hk,rfl⟩:=abf hj;obtain⟨k1,k2⟩:=jm k (aeV hk);refine⟨_,_,rfl,?_⟩;unfold ye;refine⟨_,K,ax ?_ rfl,_,.inl rfl,⟨_,rfl⟩,y⟩;by_cases h:k<=p
   ·have hw:af ak (ae 0) (ae 2) [some (.ref ri),some (.int p),some (.int k)] K=.ok Row.turn.w K:=op rfl rfl (eV (y.get (x1.get hR)) (pA (k2 h)));refine tT (tB (op rfl rfl ?_)) (tB (op (rL hw) rfl ?_))
    ·rw[nA,decide_eq_true (by omega)];rfl
    ·show lift (cz (.str (aei "turn")) (.str (aei "turn"))) K=_;rw[wk];rfl
   ·refine tF (tB (op rfl rfl ?_));rw[nA,decide_eq_false (by omega)];rfl) ⟨⟨none,rfl⟩,Ex.refl _⟩
 refine⟨H2,?_,x1.trans x2⟩;unfold yj lR;rw[gF];exact bq (qU e1 e2) (br rfl)
theorem Ad{a b:List Nat}(h:tx a=tx b):a=b:=by
 unfold tx at h;injection h with h
 simpa using h
theorem abt{MS:List Nm}{a:Nm}(h:H[i]? =some (.lst (MS.map aM)))(nk:∀b∈MS,dX b)(na:dX a):lift (kb (aM a) (.ref i)) H=.ok (.bl (!decide (a∈MS))) H:=by
 have e:bB (dat H 40) (MS.map aM)=some (MS.map fun b=>aiP (tx b)):=by
  clear h
  induction MS with
  | nil=>rfl
  | cons b MS ih=>exact mc (iQ (nk b (by simp)) H 40) (ih fun c hc=>nk c (aeR _ hc))
 rw[WB h e (iQ na H 40),ajJ]
 congr 3
 rw[Bool.eq_iff_iff,aip,decide_eq_true_eq];constructor
 ·rintro⟨b,hb,q⟩;simp only[ajs,wm,decide_eq_true_eq] at q;exact Ad q▸hb
 ·intro hk;exact⟨a,hk,by simp only[ajs,wm,decide_true]⟩
theorem Ae{α:Type}[DecidableEq α]:∀{M N:List α},M.Nodup->(∀a∈M,a∈N)->M.length<=N.length
 | [],_,_,_=>afR _
 | a::M,N,nd,h=>by
  have ha:=h a afw;have qe:=agM.mp nd;have:=Ae (N:=N.erase a) qe.2 fun b hb=>(List.mem_erase_of_ne (fun z:b=a=>qe.1 (z▸hb))).mpr (h b (aeR _ hb))
  rw[List.length_erase_of_mem ha] at this;have:0<N.length:=List.length_pos_of_mem ha;rw[aeO];omega
theorem abu{MS:List Nm}(hM:H[ni]? =some (.lst (MS.map aM)))(nd:MS.Nodup)(sb:∀a∈MS,a∈NS)(nk:∀a∈NS,dX a)(hN:NS.length<=12)(ok:gA NS r) :
  ∃(fh:List Nm) (i:Nat) (H':PH),yq [r.w,.ref ni] H=.ok (.ref i) H'/\Ex H H'/\H'[i]? =some (.lst (fh.map aM))/\fh.Nodup/\∀a∈fh,a∈NS:=by
 obtain⟨H1,lQ⟩:∃H1,H1=H++[PO.lst (MS.map aM)]:=⟨_,rfl⟩
 have x1:Ex H H1:=lQ▸Ex.one _ _;have g1:H1[H.length]? =some (.lst (MS.map aM)):=by rw[lQ];exact bW _ _
 obtain⟨H2,e2,x2,g2⟩:=abr r (e:=ae 0) (σ:=[some r.w,some (.ref ni),some (.ref H.length),none]) (H:=H1) rfl;have hO:H1.length=H.length+1:=by rw[lQ];simp
 obtain⟨ay,H3,e3,fh,⟨o,rfl⟩,x3,g3,xY,xZ,_⟩:=qN (chk:=fun p=>decide (p[H1.length]? =some (.lst (r.nm.map aM)))) (g:=gN 3) (b:=yk) (fun _ σ K=>∃fh:List Nm,(∃o,σ=[some r.w,some (.ref ni),some (.ref H.length),o])/\Ex H K/\K[H.length]? =some (.lst (fh.map aM))/\fh.Nodup/\(∀a∈fh,a∈NS)/\K[H1.length]? =some (.lst (r.nm.map aM))) (r.nm.map aM) [some r.w,some (.ref ni),some (.ref H.length),none] H2
  (fun _ _ _ h=>by obtain⟨_,_,_,_,_,_,q⟩:=h;exact decide_eq_true q) (fun j x σ K hj hI=>by
   obtain⟨fh,⟨o,rfl⟩,y,gm,qe,x8,gk⟩:=hI;rw[aeA] at hj;obtain⟨a,ha,rfl⟩:=aeC.mp hj;have J7:=ok.1 a (aeV ha);have hl:=Ae qe x8;refine⟨_,_,rfl,?_⟩;unfold yk;have kA:eT (af kb (ae 3) (ae 2)) [some r.w,some (.ref ni),some (.ref H.length),some (aM a)] K=.ok (!decide (a∈fh)) K:=tB (op rfl rfl (abt gm (fun b hb=>nk b (x8 b hb)) (nk a J7)));by_cases h:a∈fh
   ·rw[decide_eq_true h] at kA;exact⟨_,K,ax kA rfl,_,.inl rfl,fh,⟨_,rfl⟩,y,gm,qe,x8,gk⟩
   ·rw[decide_eq_false h] at kA;refine⟨_,_,bA kA (sP rfl ⟨_,gm⟩ rfl gm (by rw[aep];omega)),_,.inl rfl,fh++[a],⟨_,rfl⟩,Ex.set y (aeq _) _,(jr gm).trans (by rw[age];rfl),?_,fun b hb=>?_,(fP (by omega)).trans gk⟩
    ·rw[List.nodup_append];refine⟨qe,agM.mpr ⟨fun z=>(nomatch z),ahW⟩,fun b hb c hc z=>?_⟩;rw[aeJ] at hc;exact h (hc▸z▸hb)
    ·rcases afs.mp hb with z | z
     ·exact x8 b z
     ·rw[aeJ.mp z];exact J7) ⟨MS,⟨none,rfl⟩,x1.trans x2,x2.get g1,nd,sb,g2⟩
 refine⟨fh,H.length,H3,?_,x3,g3,xY,xZ⟩;unfold yq lS;rw[gF];refine bq (ph1:=H1) (σ1:=[some r.w,some (.ref ni),some (.ref H.length),none]) ?_ (bq (qU e2 e3) (br rfl));rw[lQ];exact asg (av (aq rfl rfl) (uX hM))
theorem enW(R:List Row):∀{j:Nat} {w:W},(iT (R.map Row.w))[j]? =some w->∃r,R[j]? =some r/\w=.tup [.int j,r.w]:=by
 intro j w h;obtain⟨x,h1,h2⟩:=Yf h;rw[aeA] at h1;obtain⟨r,hr,rfl⟩:=aeC.mp h1;exact⟨r,hr,h2⟩
theorem abv(hR:H[ri]? =some (.lst (R.map Row.w)))(nk:∀a∈NS,dX a)(hN:NS.length<=12)(ok:e9 NS R)(hn:R.length<=60):∃w H',yu [.ref ri] H=.ok w H'/\Ex H H':=by
 obtain⟨H1,lQ⟩:∃H1,H1=H++[PO.lst []]:=⟨_,rfl⟩
 have x1:Ex H H1:=lQ▸Ex.one _ _;have g1:H1[H.length]? =some (.lst (([]:List Nm).map aM)):=by rw[lQ];exact bW _ _
 have en:pe (ag (ae 0) ai) [some (.ref ri),some (.ref H.length),none,none] H1=.ok (iT (R.map Row.w),fun p=>decide (p[ri]? =some (.lst (R.map Row.w)))) H1:=UY rfl (x1.get hR);obtain⟨ay,H2,e2,MS,ni,o2,o3,rfl,x2,g2,nd,sb⟩:=qN (chk:=fun p=>decide (p[ri]? =some (.lst (R.map Row.w)))) (g:=j8 2 [(gN 2),(gN 3)]) (b:=ym) (fun _ σ K=>∃(MS:List Nm) (ni:Nat) (o2 o3:Option W),σ=[some (.ref ri),some (.ref ni),o2,o3]/\Ex H K/\K[ni]? =some (.lst (MS.map aM))/\MS.Nodup/\∀a∈MS,a∈NS) (iT (R.map Row.w)) [some (.ref ri),some (.ref H.length),none,none] H1
  (fun _ _ _ h=>by obtain⟨_,_,_,_,_,q,_⟩:=h;exact decide_eq_true (q.get hR)) (fun j x σ K hj hI=>by
   obtain⟨MS,ni,o2,o3,rfl,y,gm,nd,sb⟩:=hI;obtain⟨r,hr,rfl⟩:=enW R hj;have J9:=ok.ok r (aeV hr);refine⟨[some (.ref ri),some (.ref ni),some (.int j),some r.w],K,rfl,?_⟩;obtain⟨K1,f1,z1⟩:=W2 nk J9 (fun k hk=>(ok.jm j r hr k hk).1) hn K;obtain⟨K2,f2,z2⟩:=YR (H:=K1) (z1.get (y.get hR)) hr (ok.jm j r hr);obtain⟨fh,i,K3,f3,z3,g3,xY,xZ⟩:=abu (H:=K2) (z2.get (z1.get gm)) nd sb nk hN J9;have hl:=Ae xY xZ;have len:bv bU (ag (ae 0) ai) [some (.ref ri),some (.ref ni),some (.int j),some r.w] K=.ok (.int R.length) K:=av (aq rfl rfl) ((iJ (y.get hR)).trans (by rw[aep]));unfold ym;refine⟨_,K3,sq (ax (oF (gb (c:=true) (eB (av (aq rfl (aq len rfl)) f1))) (eB (av (aq rfl (aq rfl rfl)) f2))) rfl) (sq (asg (av (aq rfl (aq rfl rfl)) f3)) (ax (tB (op (x:=.int fh.length) (y:=.int 12) (av (aq (w:=.ref i) rfl rfl) ((iJ g3).trans (by rw[aep]))) rfl ?_)) rfl)),_,.inl rfl,fh,i,_,_,rfl,((y.trans z1).trans z2).trans z3,g3,xY,xZ⟩;rw[xa,decide_eq_false (by omega)];rfl) ⟨[],H.length,none,none,rfl,x1,g1,ahW,fun _ h=>nomatch h⟩
 refine⟨.ref ni,H2,?_,x2⟩;unfold yu lW;rw[iy];refine bq (ph1:=H) (ax (oF (gb (c:=true) (eB (av rfl (z6 hR)))) (tB (op (x:=.int R.length) (y:=.int 60) (av (aq rfl rfl) ((iJ hR).trans (by rw[aep]))) rfl ?_))) rfl) (bq (ph1:=H1) (σ1:=[some (.ref ri),some (.ref H.length),none,none]) (by rw[lQ];exact asg rfl) (bq (qU en e2) (br rfl)));rw[xa,decide_eq_false (by omega)];rfl
noncomputable def i3(n:Int):Int:=n-(n+2147483648).fdiv 4294967296*4294967296
noncomputable def dd:Wd->Int->Int->Int
 | .sum,a,b=>i3 (a+b)
 | .less,a,b=>i3 (a-b)
 | .times,a,b=>i3 (a*b)
 | .part,a,b=>i3 (a.fdiv b)
 | .below,a,b=>if a<b then 1 else 0
 | .alike,a,b=>if a=b then 1 else 0
theorem YS(n:Int):b9 (i3 n):=by
 have q:=oj (n+2147483648) 4294967296 (by decide);have:=aiM (n+2147483648) 4294967296;unfold i3 b9;omega
theorem GK(w:Wd)(a b:Int):b9 (dd w a b):=by
 cases w
 case below=>
  show b9 (if a<b then 1 else 0);by_cases h:a<b
  ·rw[if_pos h];exact⟨by decide,by decide⟩
  ·rw[if_neg h];exact⟨by decide,by decide⟩
 case alike=>
  show b9 (if a=b then 1 else 0);by_cases h:a=b
  ·rw[if_pos h];exact⟨by decide,by decide⟩
  ·rw[if_neg h];exact⟨by decide,by decide⟩
 all_goals exact YS _
theorem Hq(n:Int):qG [.int n]=aB (.int (i3 n)):=by
 unfold qG kM
 push_cast [As (show(4294967296:Int)≠0 by decide) (by decide),Ar (mU (a:=(n+2147483648).fdiv 4294967296) (b:=4294967296) (by decide) (by decide))]
 rfl
theorem abw(w:Wd){a b:Int}(ha:b9 a)(hb:b9 b)(h0:w=.part->b≠0)(H:PH):∃H',yO [.str w.s,.int a,.int b] H=.ok (.int (dd w a b)) H'/\Ex H H':=by
 obtain⟨ha1,ha2⟩:=ha;obtain⟨xO,BH⟩:=hb;have o1:∀(x:String) {y z:String} {c:Bool} {σ:aP},ae 0 σ=aB (.str x)->(decide (x=y)||decide (x=z))=c->cU (eT (af aS (ae 0) (eC (.str y)))) (eT (af aS (ae 0) (eC (.str z)))) σ H=.ok c H:=fun x {y z c σ} h hc=>by
  rw[zK,ck (wv x h rfl),<- hc];cases decide (x=y)
  ·exact wv x h rfl
  ·rfl
 have lst:∀(x:String) (j:Nat) (v:Int),["sum","less","times"].findIdx? (fun s=>decide (s=x))=some j->[a+b,a-b,a*b][j]? =some v->∃H',aJ qG (ag (af ak (bT (ag (af addW (ae 1) (ae 2)) (ag (af fv (ae 1) (ae 2)) (ag (af cC (ae 1) (ae 2)) ai)))) (bS cM oU (bT (ag (eC (.str "sum")) (ag (eC (.str "less")) (ag (eC (.str "times")) ai)))) (ag (ae 0) ai))) ai) [some (.str x),some (.int a),some (.int b)] H=.ok (.int (i3 v)) H'/\Ex H H':=fun x j v hj hv=>by
  obtain⟨H1,e1⟩:∃H1,H1=H++[PO.lst ([a+b,a-b,a*b].map W.int)]:=⟨_,rfl⟩
  obtain⟨H2,e2⟩:∃H2,H2=H1++[PO.lst (["sum","less","times"].map fun s=>.str (aei s))]:=⟨_,rfl⟩
  have g1:H2[H.length]? =some (PO.lst ([a+b,a-b,a*b].map W.int)):=by
   rw[e2];exact(Ex.one _ _).get (by rw[e1];exact bW _ _)
  have g2:H2[H1.length]? =some (PO.lst (["sum","less","times"].map fun s=>.str (aei s))):=by rw[e2];exact bW _ _
  have ky:cy ([a+b,a-b,a*b].map W.int) (j:Int)=some (.int v):=by
   have:=(aen.mp hv).1;rw[gw _ _ (by rw[aep];exact this),aeA,hv];rfl
  refine⟨H2,?_,by rw[e2,e1];exact(Ex.one _ _).trans (Ex.one _ _)⟩;rw[zm];refine av (aq (w:=.int v) (ph1:=H2) ?_ rfl) (by rw[Hq];rfl);rw[jT];refine av (ph':=H1) (a:=.ref H.length) ?_ (av (ph':=H2) (a:=.int j) ?_ (eV g1 ky))
  ·rw[vn];refine av (aq (ph1:=H) (w:=.int (a+b)) rfl (aq (ph1:=H) (w:=.int (a-b)) rfl (aq (ph1:=H) (w:=.int (a*b)) ?_ rfl))) (by rw[e1];exact k9 [.int (a+b),.int (a-b),.int (a*b)] H (small (by simp)))
   push_cast [Ar (mU (a:=a) (b:=b) (by omega) (by omega))]
  ·rw[kR];refine av (ph':=H2) (a:=.ref H1.length) (by rw[e2];rfl) (av (vp g2) (av (aq rfl rfl) (S9 x ["sum","less","times"] g2 hj)))
 unfold yO mn;rw[g6];cases w with
 | below=>exact⟨H,df (bA (o1 "below" rfl rfl) (retS (by unfold dd Wd.s;ac_nf;by_cases h:a<b <;> simp[h] <;> rfl))),Ex.refl _⟩
 | alike=>exact⟨H,df (bA (o1 "alike" rfl rfl) (retS (by unfold dd Wd.s;ac_nf;by_cases h:a=b <;> by_cases h2:a<b <;> simp[h,h2] <;> rfl))),Ex.refl _⟩
 | part=>
  refine⟨H,bq (ax (o1 "part" rfl rfl) rfl) (df (bA (wv "part" rfl rfl) (retS ?_))),Ex.refl _⟩
  push_cast [As (h0 rfl) (show b.natAbs<2 ^ 64 by omega),Hq]
  rfl
 | sum=>
  obtain⟨H',e,x⟩:=lst "sum" 0 _ (by decide) rfl;exact⟨H',bq (ax (o1 "sum" rfl rfl) rfl) (bq (ax (wv "sum" rfl rfl) rfl) (br e)),x⟩
 | less=>
  obtain⟨H',e,x⟩:=lst "less" 1 _ (by decide) rfl;exact⟨H',bq (ax (o1 "less" rfl rfl) rfl) (bq (ax (wv "less" rfl rfl) rfl) (br e)),x⟩
 | times=>
  obtain⟨H',e,x⟩:=lst "times" 2 _ (by decide) rfl;exact⟨H',bq (ax (o1 "times" rfl rfl) rfl) (bq (ax (wv "times" rfl rfl) rfl) (br e)),x⟩
theorem kB{m:Mo α}{f:α->Mo β}{ph':PH}{x:XC}(h:m ph=.ex x ph'):aw m f ph=.ex x ph':=by
 unfold aw;rw[h]
variable{f:Str}
theorem fl{fs:List (Str×W)}{w:W}(h:H[p]? =some (.obj "Run" fs))(ho:o σ H=.ok (.ref p) H)(hl:fs.lookup f=some w):cc "Run" f o σ H=.ok w H:=av ho (Ft h hl)
variable{H1:PH}
theorem fw{v:EM}{fs:List (Str×W)}{w:W}(hv:v σ H=.ok w H1)(ho:o σ H1=.ok (.ref p) H1)(h:H1[p]? =some (.obj "Run" fs))(hz:fs.length<1000):dR "Run" f o v σ H=.ok (.nx σ) (H1.set p (.obj "Run" (jw f w fs))):=av hv (av ho (av (Fu h hz) rfl))
theorem fa{g:W->W->Po W}{v:EM}{fs:List (Str×W)}{y z u:W}(ho:o σ H=.ok (.ref p) H)(h:H[p]? =some (.obj "Run" fs))(hl:fs.lookup f=some y)(hv:v σ H=.ok z H)(hg:lift (g y z) H=.ok u H)(hz:fs.length<1000):lj g "Run" f o v σ H=.ok (.nx σ) (H.set p (.obj "Run" (jw f u fs))):=
 av ho (av (Ft h hl) (av hv (av hg (av (Fu h hz) rfl))))
theorem xj(n:Int)(H:PH):pv [.int n] H=.ok (.int (i3 n)) H:=by
 have e:(n+2147483648).fmod 4294967296-2147483648=i3 n:=by
  have:=aiM (n+2147483648) 4294967296;unfold i3;omega
 rw[<- e];unfold pv jx;rw[iy];exact br (sb (md (j:=4294967296) (ad rfl rfl) (ml (i:=2) (j:=2147483648) rfl rfl (mU (by decide) (by decide))) (by decide)) rfl)
theorem xk{w:W}(h:t σ H=.ok c H)(h2:(if c then a else b) σ H=.ok w H):jF t a b σ H=.ok w H:=by
 refine av h ?_;cases c <;> exact h2
theorem abx(w:Wd){a b:Int}(hb:b9 b)(h0:w=.part->b≠0)(H:PH):om [.str w.s,.int a,.int b] H=.ok (.int (dd w a b)) H:=by
 obtain⟨xO,BH⟩:=hb;unfold om kJ;rw[g6];cases w with
 | sum=>exact df (bA (wv "sum" rfl rfl) (retS (av (aq (ad rfl rfl) rfl) (xj _ _))))
 | less=>exact bq (ax (wv "less" rfl rfl) rfl) (df (bA (wv "less" rfl rfl) (retS (av (aq (sb rfl rfl) rfl) (xj _ _)))))
 | times=>exact bq (ax (wv "times" rfl rfl) rfl) (bq (ax (wv "times" rfl rfl) rfl) (df (bA (wv "times" rfl rfl) (retS (av (aq (ml rfl rfl (mU (by omega) (by omega))) rfl) (xj _ _))))))
 | part=>
  refine bq (ax (wv "part" rfl rfl) rfl) (bq (ax (wv "part" rfl rfl) rfl) (bq (ax (wv "part" rfl rfl) rfl) (df (bA (wv "part" rfl rfl) (retS (av (aq rfl (aq rfl rfl)) ?_))))));unfold zu kS;rw[gF];exact bq (ax (eI rfl (decide_eq_false (h0 rfl))) rfl) (br (av (aq (dv rfl rfl (h0 rfl) (by omega)) rfl) (xj _ _)))
 | below=>
  refine bq (ax (wv "below" rfl rfl) rfl) (bq (ax (wv "below" rfl rfl) rfl) (bq (ax (wv "below" rfl rfl) rfl) (bq (ax (wv "below" rfl rfl) rfl) (df (bA (wv "below" rfl rfl) (retS (xk (c:=decide (a<b)) rfl ?_)))))));by_cases h:a<b
  ·rw[decide_eq_true h,show dd .below a b=1 from if_pos h];rfl
  ·rw[decide_eq_false h,show dd .below a b=0 from if_neg h];rfl
 | alike=>
  refine bq (ax (wv "alike" rfl rfl) rfl) (bq (ax (wv "alike" rfl rfl) rfl) (bq (ax (wv "alike" rfl rfl) rfl) (bq (ax (wv "alike" rfl rfl) rfl) (bq (ax (wv "alike" rfl rfl) rfl) (br (xk (c:=decide (a=b)) (tB (op rfl rfl (by rw[Au];rfl))) ?_))))));by_cases h:a=b
  ·rw[decide_eq_true h,show dd .alike a b=1 from if_pos h];rfl
  ·rw[decide_eq_false h,show dd .alike a b=0 from if_neg h];rfl
theorem aby(a:Int)(H:PH):om [.str "part",.int a,.int 0] H=.ex ⟨"ByNought",[]⟩ H:=by
 unfold om kJ;rw[g6];refine bq (ax (wv "part" rfl rfl) rfl) (bq (ax (wv "part" rfl rfl) rfl) (bq (ax (wv "part" rfl rfl) rfl) (kB (kB (bA (wv "part" rfl rfl) (kB (av (aq rfl (aq rfl rfl)) ?_)))))));unfold zu kS;rw[gF];exact kB (kB (bA (eI rfl rfl) rfl))
theorem x9{b:SM}(hn:(cG t b n σ ph).pI=false):eD t b σ ph=cG t b n σ ph:=by
 have he:∃n,(cG t b n σ ph).pI=false:=⟨n,hn⟩
 unfold eD;rw[dif_pos he];have hc:=he.choose_spec;by_cases B0:n<=he.choose
 ·rw[Gq B0 hn]
 ·rw[<- Gq (Nat.le_of_not_le B0) hc]
abbrev Dn:=List (Nm×Int)
noncomputable def gt(l:Dn)(k:Nm):Int:=((l.find? fun p=>decide (p.1=k)).map (·.2)).getD 0
noncomputable def pt(l:Dn)(k:Nm)(v:Int):Dn:=if l.any (fun p=>decide (p.1=k)) then l.map (fun p=>if p.1=k then(p.1,v) else p) else l++[(k,v)]
structure S where
 st:Dn
 told:List Int
 tk:Nat
 tn:Int
abbrev Rs:=String×List Int×Nat
noncomputable def S.by(s:S)(x:String):Rs:=(x,s.told,s.tk)
noncomputable def Wd.dI:Wd->Bool
 | .part=>true
 | _=>false
noncomputable def dY(I:List Int)(p:Nat)(s:S):Row->Sum String (Nat×S)
 | .turn=>if s.tn=0 then .inl "dry" else .inr (p+1,{ s with tn:=s.tn-1 })
 | .c9 a w b c=>if w.dI=true/\gt s.st c=0 then .inl "nought" else .inr (p+1,{ s with st:=pt s.st a (dd w (gt s.st b) (gt s.st c)) })
 | .set a n=>.inr (p+1,{ s with st:=pt s.st a n })
 | .copy a b=>.inr (p+1,{ s with st:=pt s.st a (gt s.st b) })
 | .take a=>.inr (p+1,{ s with st:=pt s.st a (I.getD s.tk 0),tk:=s.tk+1 })
 | .tell a=>.inr (p+1,{ s with told:=s.told++[gt s.st a] })
 | .iff a k=>.inr (if gt s.st a=0 then p+1 else k,s)
 | .go k=>.inr (k,s)
 | .fin=>.inl "done"
noncomputable def dB(I:List Int)(R:List Row):Nat->Nat->S->Rs
 | 0,_,s=>s.by "long"
 | f+1,p,s=>match dY I p s (R.getD p .fin) with
  | .inl x=>s.by x
  | .inr q=>dB I R f q.1 q.2
noncomputable def ke(r:Rs):Prop:=r.1≠"long"
noncomputable def pT(R:List Row)(p:Nat):Bool:=(R.getD p .fin).fI
theorem vG{I:List Int}{NS:List Nm}{R:List Row}(ok:e9 NS R):∀(f p T:Nat) (s:S),p<=R.length->s.tn=(T:Int)->T*(R.length+2)+(if pT R p=true then 0 else R.length+1-p)<f->ke (dB I R f p s)
 | 0,_,_,_,_,_,h=>absurd h (Nat.not_lt_zero _)
 | f+1,p,T,s,hp,hT,h=>by
  have aw:∀k,T*(R.length+2)+(if pT R k=true then 0 else R.length+1-k)<=T*(R.length+2)+(R.length+1-k):=fun k=>by split <;> omega
  unfold dB;by_cases hl:p<R.length
  ·obtain⟨y,hy⟩:∃y,R[p]? =some y:=pz hl;have hg:R.getD p .fin=y:=by rw[aeL,hy];rfl
   unfold pT at h;rw[hg] at h ⊢;have Il:y≠.turn->¬y.fI=true:=fun hn z=>hn (GH z)
   have nx:y≠.turn->∀{s':S},s'.tn=s.tn->ke (dB I R f (p+1) s'):=fun hn {s'} hs=>by
    refine vG ok f (p+1) T s' (by omega) (hs.trans hT) ?_;rw[if_neg (Il hn)] at h;have:=aw (p+1);omega
   have jm:y≠.turn->∀{k:Nat},k∈y.to->∀{s':S},s'.tn=s.tn->ke (dB I R f k s'):=fun hn {k} hk {s'} hs=>by
    obtain⟨k1,k2⟩:=ok.jm p y hy k hk;refine vG ok f k T s' k1 (hs.trans hT) ?_;rw[if_neg (Il hn)] at h;by_cases nR:k<=p
    ·rw[if_pos (show pT R k=true by unfold pT;rw[aeL,k2 nR];rfl)];omega
    ·have:=aw k;omega
   cases y with
   | turn=>
    rw[if_pos (show Row.turn.fI=true from rfl)] at h;by_cases h0:s.tn=0
    ·simp only[dY,if_pos h0];exact fun z=>absurd (show("dry":String)="long" from z) (by decide)
    ·simp only[dY,if_neg h0];obtain⟨U,rfl⟩:∃U,T=U+1:=⟨T-1,by omega⟩
     refine vG ok f (p+1) U _ (by omega) (by show s.tn-1=(U:Int);omega) ?_;have e:(U+1)*(R.length+2)=U*(R.length+2)+(R.length+2):=by rw[Nat.succ_mul]
     have:U*(R.length+2)+(if pT R (p+1)=true then 0 else R.length+1-(p+1))<=U*(R.length+2)+(R.length+1):=by split <;> omega
     omega
   | c9 a w b c=>
    by_cases h0:w.dI=true/\gt s.st c=0
    ·simp only[dY,if_pos h0];exact fun z=>absurd (show("nought":String)="long" from z) (by decide)
    ·simp only[dY,if_neg h0];exact nx (fun z=>nomatch z) rfl
   | set a n=>exact nx (fun z=>nomatch z) rfl
   | copy a b=>exact nx (fun z=>nomatch z) rfl
   | take a=>exact nx (fun z=>nomatch z) rfl
   | tell a=>exact nx (fun z=>nomatch z) rfl
   | iff a k=>
    simp only[dY];by_cases h0:gt s.st a=0
    ·rw[if_pos h0];exact nx (fun z=>nomatch z) rfl
    ·rw[if_neg h0];exact jm (fun z=>nomatch z) (by simp[Row.to]) rfl
   | go k=>exact jm (fun z=>nomatch z) (by simp[Row.to]) rfl
   | fin=>exact fun z=>absurd (show("done":String)="long" from z) (by decide)
  ·have hg:R.getD p .fin=.fin:=by rw[aeL,afP (by omega)];rfl
   rw[hg];show(s.by "done").1≠"long";exact fun z=>absurd (show("done":String)="long" from z) (by decide)
noncomputable def dN(l:Dn):List (W×W):=l.map fun p=>(aM p.1,W.int p.2)
theorem Hr(a k:Nm):decide (aM a=aM k)=decide (a=k):=decide_eq_decide.mpr ⟨fun z=>Ad (W.str.inj z),fun z=>z▸rfl⟩
theorem okN(l:Dn)(k:Nm):gy (dN l) (aM k)=true:=by
 unfold gy;have:(dN l).all (fun p=> !fI p.1)=true:=by
  rw[afz];intro p hp;obtain⟨x,_,rfl⟩:=ahi.mp hp;rfl
 rw[this];rfl
theorem abz(l:Dn)(k:Nm):(gx (dN l) (aM k)).getD (.int 0)=.int (gt l k):=by
 unfold gx dN gt;rw[List.find?_map,Option.map_map];have:((fun p:W×W=>decide (p.1=aM k))∘fun p:Nm×Int=>(aM p.1,W.int p.2))=fun p:Nm×Int=>decide (p.1=k):=by
  funext p
  exact Hr p.1 k
 rw[this];cases l.find? fun p=>decide (p.1=k) <;> rfl
theorem abA(l:Dn)(k:Nm)(v:Int):ij (dN l) (aM k) (.int v)=dN (pt l k v):=by
 unfold ij pt;have e:((dN l).any fun p=>decide (p.1=aM k))=l.any fun p=>decide (p.1=k):=by
  unfold dN;rw[ajJ]
  congr 1
  funext p
  exact Hr p.1 k
 rw[e];split
 ·unfold dN;rw[ahS,ahS];apply ajh;intro p _;simp only[ajs];by_cases h:p.1=k
  ·rw[if_pos (by rw[h]),if_pos h]
  ·rw[if_neg (fun z:aM p.1=aM k=>h (Ad (W.str.inj z))),if_neg h]
 ·unfold dN;rw[age];rfl
noncomputable def nW(l:Dn):Prop:=∀p∈l,b9 p.2
theorem nW.gt{l:Dn}(h:nW l)(k:Nm):b9 (gt l k):=by
 unfold K03.gt;cases e:l.find? fun p=>decide (p.1=k) with
 | none=>exact⟨by decide,by decide⟩
 | some p=>exact h p (List.mem_of_find?_eq_some e)
theorem nW.pt{l:Dn}(h:nW l){k:Nm}{v:Int}(hv:b9 v):nW (pt l k v):=fun p hp=>by
 unfold K03.pt at hp;split at hp
 ·obtain⟨q,hq,rfl⟩:=ahi.mp hp;split
  ·exact hv
  ·exact h q hq
 ·rcases afs.mp hp with z | z
  ·exact h p z
  ·rw[aeJ.mp z];exact hv
theorem GL(l:Dn)(k:Nm)(v:Int):(pt l k v).length<=l.length+1:=by
 unfold pt;split
 ·rw[aep];omega
 ·simp
theorem Ka{d:Nat}{l:Dn}{k:Nm}{e:EM}(hd:H[d]? =some (.bO (dN l)))(ho:o σ H=.ok (.ref d) H)(he:e σ H=.ok (aM k) H):bS fV fW o (ag e (ag (eC (.int 0)) ai)) σ H=.ok (.int (gt l k)) H:=by
 rw[kR];refine av ho (av (Yh hd) (av (aq he rfl) ?_));rw[Yi hd (okN l k),abz]
theorem sV{d:Nat}{l:Dn}{k:Nm}{i e:EM}(he:e σ H=.ok (.int v) H1)(hd:H1[d]? =some (.bO (dN l)))(hl:l.length<1000000)(ho:o σ H1=.ok (.ref d) H1)(hi:i σ H1=.ok (aM k) H1):aO e (ik o i) σ H=.ok (.nx σ) (H1.set d (.bO (dN (pt l k v)))):=by
 rw[vm];refine av he ?_;rw[zp];refine av (av ho (av hi (av (WC hd (okN l k) (by unfold dN;rw[aep];exact aeB hl (by decide)) _) rfl))) ?_;rw[abA];rfl
noncomputable def oR(p q:Nat)(tn:Int)(tk:Nat)(wd:W):List (Str×W):=[("inputs",.ref (p+1)),("turns_left",.int tn),("at",.int q),("holds",.ref (p+2)),("told",.ref (p+3)),("takes",.int tk),("word",wd)]
structure PR(ph H:PH)(I:List Int)(m q:Nat)(s:S)(wd:W):Prop where
 ex:Ex ph H
 o:H[ph.length]? =some (.obj "Run" (oR ph.length q s.tn s.tk wd))
 i:H[ph.length+1]? =some (.lst (I.map W.int))
 h:H[ph.length+2]? =some (.bO (dN s.st))
 hl:s.st.length<=m
 t:H[ph.length+3]? =some (.lst (s.told.map W.int))
 nt:s.told.length<=m
 vb:nW s.st
variable{I:List Int}{q:Nat}{wd:W}
theorem PR.up{s:S}(R:PR ph H I m q s wd)(h:m<=n):PR ph H I n q s wd:=⟨R.ex,R.o,R.i,R.h,aeW R.hl h,R.t,aeW R.nt h,R.vb⟩
theorem PR.ob{s:S}(R:PR ph H I m q s wd)(q' tk:Nat)(tn:Int)(Kb:W):PR ph (H.set ph.length (.obj "Run" (oR ph.length q' tn tk Kb))) I m q' { s with tn:=tn,tk:=tk } Kb:=
 ⟨Ex.set R.ex (aeq _) _,jr R.o,(fP (by omega)).trans R.i,(fP (by omega)).trans R.h,R.hl,(fP (by omega)).trans R.t,R.nt,R.vb⟩
theorem abB{s:S}(R:PR ph H I m q s wd)(n:Nm):gW [.ref ph.length,aM n] H=.ok (.int (gt s.st n)) H:=by
 unfold gW iP;rw[gF];exact br (Ka R.h (fl R.o rfl rfl) rfl)
theorem vW{s:S}{e i:EM}{n:Nm}(R:PR ph H1 I m q s wd)(hm:m<1000000)(h0:ae 0 σ=aB (.ref ph.length))(he:e σ H=.ok (.int v) H1)(hi:i σ=aB (aM n))(hv:b9 v) :
  ∃H',aO e (ik (cc "Run" "holds" (ae 0)) i) σ H=.ok (.nx σ) H'/\PR ph H' I (m+1) q { s with st:=pt s.st n v } wd:=by
 have h1:=R.hl;have h2:=GL s.st n v;exact⟨_,sV he R.h (by omega) (fl R.o (by rw[h0];rfl) rfl) (by rw[hi];rfl),Ex.set R.ex (by omega) _,(fP (by omega)).trans R.o,(fP (by omega)).trans R.i,jr R.h,by simp only;omega,(fP (by omega)).trans R.t,aht R.nt,R.vb.pt hv⟩
section
variable{ph H:PH}{I:List Int}{m q:Nat}{s:S}{wd:W}
theorem YT(R:PR ph H I m q s wd):∃H',vw [.ref ph.length] H=.ok (.int (I.getD s.tk 0)) H'/\PR ph H' I m q { s with tk:=s.tk+1 } wd:=by
 have R1:=R.ob q (s.tk+1) s.tn wd;refine⟨_,?_,R1⟩;obtain⟨H1,e1⟩:∃H1,H1=H.set ph.length (.obj "Run" (oR ph.length q s.tn (s.tk+1) wd)):=⟨_,rfl⟩
 rw[<- e1] at R1 ⊢;have a1:lj pP "Run" "takes" (ae 0) (eC (.int (1))) [some (.ref ph.length)] H=.ok (.nx [some (.ref ph.length)]) H1:=by
  rw[e1];exact fa rfl R.o rfl rfl rfl (aey rfl)
 have tk:cc "Run" "takes" (ae 0) [some (.ref ph.length)] H1=.ok (.int ((s.tk+1:Nat):Int)) H1:=fl R1.o rfl rfl;have ln:bv bU (ag (cc "Run" "inputs" (ae 0)) ai) [some (.ref ph.length)] H1=.ok (.int I.length) H1:=av (aq (fl R1.o rfl rfl) rfl) ((iJ R1.i).trans (by rw[aep]));have tt:eT (af pZ (cc "Run" "takes" (ae 0)) (bv bU (ag (cc "Run" "inputs" (ae 0)) ai))) [some (.ref ph.length)] H1=.ok (decide ((I.length:Int)<((s.tk+1:Nat):Int))) H1:=tB (op tk ln rfl);unfold vw mL;rw[iy];by_cases h:s.tk<I.length
 ·rw[decide_eq_false (by omega)] at tt;refine bq a1 (bq (ax tt rfl) (br (op (fl R1.o rfl rfl) (sb tk rfl) (eV R1.i ?_))));rw[show((s.tk+1:Nat):Int)-1=(s.tk:Int) by omega,gw _ _ (by rw[aep];exact h),aeA,aeL,afj h];rfl
 ·rw[decide_eq_true (by omega)] at tt;rw[aeL,afP (by omega)];exact bq a1 (df (bA tt (retS rfl)))
theorem abC(R:PR ph H I m q s .aE):∃H',ui [.ref ph.length] H=.ok .aE H'/\PR ph H' I m q { s with tn:=s.tn-1 } (if s.tn=0 then .str "dry" else .aE):=by
 have t1:eT (af aS (cc "Run" "turns_left" (ae 0)) (eC (.int (0)))) [some (.ref ph.length)] H=.ok (decide (s.tn=0)) H:=eI (fl R.o rfl rfl) rfl;unfold ui l6;rw[iy];by_cases h:s.tn=0
 ·rw[decide_eq_true h] at t1;have R1:=R.ob q s.tk s.tn (.str "dry");rw[if_pos h];exact⟨_,bq (bA t1 (fw rfl rfl R.o (aey rfl))) (av (fa rfl R1.o rfl rfl rfl (aey rfl)) rfl),R1.ob q s.tk (s.tn-1) (.str "dry")⟩
 ·rw[decide_eq_false h] at t1;rw[if_neg h];exact⟨_,bq (ax t1 rfl) (av (fa rfl R.o rfl rfl rfl (aey rfl)) rfl),R.ob q s.tk (s.tn-1) .aE⟩
noncomputable def Kc(ph H:PH)(I:List Int)(m q:Nat)(s:S)(y:Row):Prop:=
 (∃x H' q' s',dY I q s y=.inl x/\x≠"nought"/\oE [.ref ph.length,y.w] H=.ok .aE H'/\PR ph H' I m q' s' (.str (aei x))/\s'.told=s.told/\s'.tk=s.tk) \/
 (∃H' q',dY I q s y=.inl "nought"/\oE [.ref ph.length,y.w] H=.ex ⟨"ByNought",[]⟩ H'/\PR ph H' I m q' s .aE) \/
 (∃H' q' s',dY I q s y=.inr (q',s')/\oE [.ref ph.length,y.w] H=.ok .aE H'/\PR ph H' I (m+1) q' s' .aE)
theorem adP(R:PR ph H I m q s .aE)(y:Row)(ok:∀a n,y=.set a n->b9 n)(hm:m<950000)(hI:∀x∈I,b9 x):Kc ph H I m q s y:=by
 have R1:=R.ob (q+1) s.tk s.tn .aE;obtain⟨H1,e1⟩:∃H1,H1=H.set ph.length (.obj "Run" (oR ph.length (q+1) s.tn s.tk .aE)):=⟨_,rfl⟩
 rw[<- e1] at R1;have R1:PR ph H1 I m (q+1) s .aE:=R1;have a1:∀{w:W},lj pP "Run" "at" (ae 0) (eC (.int (1))) [some (.ref ph.length),some w] H=.ok (.nx [some (.ref ph.length),some w]) H1:=fun{w}=>by
  rw[e1];exact fa rfl R.o rfl rfl rfl (aey rfl)
 have gI:∀k,b9 (I.getD k 0):=fun k=>by
  rw[aeL];cases e:I[k]? with
  | none=>exact⟨by decide,by decide⟩
  | some x=>exact hI x (aeV e)
 have fin:∀{a:SM} {σ ay:aP} {H H':PH},a σ H=.ok (.nx ay) H'->aw (a σ) ei H=.ok .aE H':=fun h=>av h rfl
 have hd:∀(n:Nm) {e:EM} {w:W},e [some (.ref ph.length),some w]=aB (aM n)->aJ gW (ag (ae 0) (ag e ai)) [some (.ref ph.length),some w] H1=.ok (.int (gt s.st n)) H1:=fun n {e w} he=>av (aq rfl (aq (by rw[he];rfl) rfl)) (abB R1 n)
 unfold Kc oE mG;simp only[gF];cases y with
 | fin=>
  exact .inl ⟨"done",_,_,_,rfl,by decide,bq a1 (fin (ax (wq "end" rfl rfl) (ax (wq "end" rfl rfl) (ax (wq "end" rfl rfl) (ax (wq "end" rfl rfl) (ax (wq "end" rfl rfl) (ax (wq "end" rfl rfl) (ax (wq "end" rfl rfl) (ax (wq "end" rfl rfl) (fw rfl rfl R1.o (aey rfl))))))))))),R1.ob (q+1) s.tk s.tn (.str "done"),rfl,rfl⟩
 | go k=>
  exact .inr (.inr ⟨_,k,s,rfl,bq a1 (fin (ax (wq "go" rfl rfl) (ax (wq "go" rfl rfl) (ax (wq "go" rfl rfl) (ax (wq "go" rfl rfl) (ax (wq "go" rfl rfl) (ax (wq "go" rfl rfl) (ax (wq "go" rfl rfl) (bA (wq "go" rfl rfl) (fw rfl rfl R1.o (aey rfl))))))))))),(R1.ob k s.tk s.tn .aE).up (afM _)⟩)
 | iff v k=>
  have t1:eT (af cz (aJ gW (ag (ae 0) (ag (af ak (ae 1) (eC (.int (1)))) ai))) (eC (.int (0)))) [some (.ref ph.length),some (Row.iff v k).w] H1=.ok (!decide (gt s.st v=0)) H1:=tB (op (hd v rfl) rfl (by rw[rA];rfl));have e2:jF (eT (af cz (aJ gW (ag (ae 0) (ag (af ak (ae 1) (eC (.int (1)))) ai))) (eC (.int (0))))) (af ak (ae 1) (eC (.int (2)))) (cc "Run" "at" (ae 0)) [some (.ref ph.length),some (Row.iff v k).w] H1=.ok (.int ((if gt s.st v=0 then q+1 else k:Nat):Int)) H1:=by
   refine xk t1 ?_;by_cases h:gt s.st v=0
   ·rw[decide_eq_true h,if_pos h];exact fl R1.o rfl rfl
   ·rw[decide_eq_false h,if_neg h];rfl
  exact .inr (.inr ⟨_,(if gt s.st v=0 then q+1 else k),s,rfl,bq a1 (fin (ax (wq "if" rfl rfl) (ax (wq "if" rfl rfl) (ax (wq "if" rfl rfl) (ax (wq "if" rfl rfl) (ax (wq "if" rfl rfl) (ax (wq "if" rfl rfl) (bA (wq "if" rfl rfl) (fw e2 rfl R1.o (aey rfl)))))))))),(R1.ob (if gt s.st v=0 then q+1 else k) s.tk s.tn .aE).up (afM _)⟩)
 | set a n=>
  obtain⟨H2,h2,R2⟩:=vW (n:=a) (v:=n) (e:=af ak (ae 1) (eC (.int (2)))) (i:=af ak (ae 1) (eC (.int (1)))) (σ:=[some (.ref ph.length),some (Row.set a n).w]) (H:=H1) R1 (by omega) rfl rfl rfl (ok _ _ rfl);exact .inr (.inr ⟨H2,q+1,_,rfl,bq a1 (fin (bA (wq "set" rfl rfl) h2)),R2⟩)
 | copy a b=>
  obtain⟨H2,h2,R2⟩:=vW (n:=a) (i:=af ak (ae 1) (eC (.int (1)))) (σ:=[some (.ref ph.length),some (Row.copy a b).w]) R1 (by omega) rfl (hd b (e:=af ak (ae 1) (eC (.int (2)))) rfl) rfl (R1.vb.gt _);exact .inr (.inr ⟨H2,q+1,_,rfl,bq a1 (fin (ax (wq "copy" rfl rfl) (bA (wq "copy" rfl rfl) h2))),R2⟩)
 | c9 a w b c=>
  by_cases h0:w.dI=true/\gt s.st c=0
  ·refine .inr (.inl ⟨H1,q+1,if_pos h0,?_,R1⟩);obtain⟨hw,h0⟩:=h0;obtain rfl:w=.part:=by cases w <;> first | rfl | cases hw
   refine bq a1 (kB (ax (wq "do" rfl rfl) (ax (wq "do" rfl rfl) (bA (wq "do" rfl rfl) (kB (av (aq rfl (aq (hd b rfl) (aq (hd c rfl) rfl))) ?_))))));rw[h0];exact aby _ _
  ·obtain⟨H2,h2,R2⟩:=vW (n:=a) (e:=aJ om (ag (af ak (ae 1) (eC (.int (2)))) (ag (aJ gW (ag (ae 0) (ag (af ak (ae 1) (eC (.int (3)))) ai))) (ag (aJ gW (ag (ae 0) (ag (af ak (ae 1) (eC (.int (4)))) ai))) ai)))) (H:=H1) (v:=dd w (gt s.st b) (gt s.st c)) (i:=af ak (ae 1) (eC (.int (1)))) (σ:=[some (.ref ph.length),some (Row.c9 a w b c).w]) R1 (by omega) rfl (av (aq rfl (aq (hd b rfl) (aq (hd c rfl) rfl))) (abx w (R1.vb.gt c) (fun z e=>h0 ⟨by rw[z];rfl,e⟩) H1)) rfl (GK _ _ _);exact .inr (.inr ⟨H2,q+1,_,if_neg h0,bq a1 (fin (ax (wq "do" rfl rfl) (ax (wq "do" rfl rfl) (bA (wq "do" rfl rfl) h2)))),R2⟩)
 | take a=>
  obtain⟨H2,h2,R2⟩:=YT R1;obtain⟨H3,h3,R3⟩:=vW (n:=a) (e:=aJ vw (ag (ae 0) ai)) (H:=H1) (v:=I.getD s.tk 0) (i:=af ak (ae 1) (eC (.int (1)))) (σ:=[some (.ref ph.length),some (Row.take a).w]) R2 (by omega) rfl (av (aq rfl rfl) h2) rfl (gI _);exact .inr (.inr ⟨H3,q+1,_,rfl,bq a1 (fin (ax (wq "take" rfl rfl) (ax (wq "take" rfl rfl) (ax (wq "take" rfl rfl) (bA (wq "take" rfl rfl) h3))))),R3⟩)
 | tell a=>
  have n1:=R1.nt;have ap:dm (bS cM dg (cc "Run" "told" (ae 0)) (ag (aJ gW (ag (ae 0) (ag (af ak (ae 1) (eC (.int (1)))) ai))) ai)) [some (.ref ph.length),some (Row.tell a).w] H1=.ok (.nx [some (.ref ph.length),some (Row.tell a).w]) (H1.set (ph.length+3) (.lst (s.told.map W.int++[.int (gt s.st a)]))):=by
   rw[qM,kR];exact av (av (fl R1.o rfl rfl) (av (vp R1.t) (av (aq (hd a rfl) rfl) (uB R1.t (aeB (show _<1000000 by rw[aep];omega) (by decide)) _)))) rfl
  refine .inr (.inr ⟨_,q+1,{ s with told:=s.told++[gt s.st a] },rfl,bq a1 (fin (ax (wq "tell" rfl rfl) (ax (wq "tell" rfl rfl) (ax (wq "tell" rfl rfl) (ax (wq "tell" rfl rfl) (bA (wq "tell" rfl rfl) ap)))))),?_⟩);refine⟨Ex.set R1.ex (by omega) _,(fP (by omega)).trans R1.o,(fP (by omega)).trans R1.i,(fP (by omega)).trans R1.h,aht R1.hl,(jr R1.t).trans (by rw[age];rfl),?_,R1.vb⟩;show(s.told++[gt s.st a]).length<=m+1;rw[aeI];exact Nat.succ_le_succ n1
 | turn=>
  obtain⟨H2,h2,R2⟩:=abC R1;have b2:dm (aJ ui (ag (ae 0) ai)) [some (.ref ph.length),some Row.turn.w] H1=.ok (.nx [some (.ref ph.length),some Row.turn.w]) H2:=av (av (aq rfl rfl) h2) rfl;have whole:oE [.ref ph.length,Row.turn.w] H=.ok .aE H2:=bq a1 (fin (ax (wq "turn" rfl rfl) (ax (wq "turn" rfl rfl) (ax (wq "turn" rfl rfl) (ax (wq "turn" rfl rfl) (ax (wq "turn" rfl rfl) (bA (wq "turn" rfl rfl) b2)))))));by_cases h:s.tn=0
  ·rw[if_pos h] at R2;exact .inl ⟨"dry",H2,q+1,_,if_pos h,by decide,whole,R2,rfl,rfl⟩
  ·rw[if_neg h] at R2;exact .inr (.inr ⟨H2,q+1,_,if_neg h,whole,R2.up (afM _)⟩)
end
abbrev jI:TM:=eT (af nv (cc "Run" "word" (ae 3)) (eC .aE))
abbrev so(ri ii:Nat)(tn:Int)(p:Nat):aP:=[some (.ref ri),some (.ref ii),some (.int tn),some (.ref p)]
section
variable{ph:PH}{ri ii:Nat}{tn:Int}{I:List Int}{R:List Row}{NS:List Nm}
theorem A5(hR:ph[ri]? =some (.lst (R.map Row.w))){H:PH}{m q:Nat}{s:S}{wd:W}(P:PR ph H I m q s wd):ag (ae 3) (ag (jF (eT (af eN (cc "Run" "at" (ae 3)) (bv bU (ag (ae 0) ai)))) (af ak (ae 0) (cc "Run" "at" (ae 3))) (bH (ag (eC (.str "end")) ai))) ai) (so ri ii tn ph.length) H=.ok [.ref ph.length,(R.getD q .fin).w] H:=by
 have g:=P.ex.get hR;have Kd:cc "Run" "at" (ae 3) (so ri ii tn ph.length) H=.ok (.int q) H:=fl P.o rfl rfl;have ln:bv bU (ag (ae 0) ai) (so ri ii tn ph.length) H=.ok (.int R.length) H:=av (aq rfl rfl) ((iJ g).trans (by rw[aep]));refine aq rfl (aq (xk (c:=decide ((q:Int)<(R.length:Int))) (tB (op Kd ln rfl)) ?_) rfl);by_cases hq:q<R.length
 ·obtain⟨y,hy⟩:∃y,R[q]? =some y:=pz hq;rw[decide_eq_true (by omega),aeL,hy];exact op rfl Kd (eV g (pA hy))
 ·rw[decide_eq_false (by omega),aeL,afP (by omega)];rfl
theorem FH(ok:e9 NS R)(q:Nat):∀a n,R.getD q .fin=.set a n->b9 n:=fun a n h=>by
 rw[aeL] at h;cases e:R[q]? with
 | none=>rw[e] at h;cases h
 | some y=>rw[e] at h;exact(ok.ok y (aeV e)).2 a n h
theorem Im(hR:ph[ri]? =some (.lst (R.map Row.w)))(ok:e9 NS R)(hI:∀x∈I,b9 x):∀(f m q:Nat) (s:S) (H:PH),PR ph H I m q s .aE->m+f<=900000->ke (dB I R f q s) →
  ∃(n:Nat) (H':PH) (x:String) (m' q':Nat) (s' s2:S),dB I R f q s=s'.by x/\s2.told=s'.told/\s2.tk=s'.tk/\((cG jI hZ n (so ri ii tn ph.length) H=.ok (.nx (so ri ii tn ph.length)) H'/\PR ph H' I m' q' s2 (.str (aei x)))\/(x="nought"/\cG jI hZ n (so ri ii tn ph.length) H=.ex ⟨"ByNought",[]⟩ H'/\PR ph H' I m' q' s2 .aE))
 | 0,m,q,s,H,P,hm,hF=>absurd rfl hF
 | f+1,m,q,s,H,P,hm,hF=>by
  have t1:jI (so ri ii tn ph.length) H=.ok true H:=tB (op (fl P.o rfl rfl) rfl rfl);unfold dB at hF ⊢
  rcases adP P (R.getD q .fin) (FH ok q) (by omega) hI with⟨x,H',q',s',h1,_,h2,P',e1,e2⟩ | ⟨H',q',h1,h2,P'⟩ | ⟨H',q',s',h1,h2,P'⟩
  ·have t2:jI (so ri ii tn ph.length) H'=.ok false H':=tB (op (fl P'.o rfl rfl) rfl rfl);have l1:hZ (so ri ii tn ph.length) H=.ok (.nx (so ri ii tn ph.length)) H':=av (av (A5 hR P) h2) rfl;exact⟨2,H',x,m,q',s,s',by rw[h1],e1,e2,.inl ⟨av t1 (av l1 (av t2 rfl)),P'⟩⟩
  ·have l1:hZ (so ri ii tn ph.length) H=.ex ⟨"ByNought",[]⟩ H':=kB (av (A5 hR P) h2);exact⟨1,H',"nought",m,q',s,s,by rw[h1],rfl,rfl,.inr ⟨rfl,av t1 (kB l1),P'⟩⟩
  ·have l1:hZ (so ri ii tn ph.length) H=.ok (.nx (so ri ii tn ph.length)) H':=av (av (A5 hR P) h2) rfl;rw[h1] at hF ⊢;obtain⟨n,H2,x,m',q2,s2,s3,g1,g2,g3,g4⟩:=Im hR ok hI f (m+1) q' s' H' P' (by omega) hF;refine⟨n+1,H2,x,m',q2,s2,s3,g1,g2,g3,?_⟩
   rcases g4 with⟨z,P2⟩ | ⟨zx,z,P2⟩
   ·exact .inl ⟨av t1 (av l1 z),P2⟩
   ·exact .inr ⟨zx,av t1 (av l1 z),P2⟩
theorem nX{f:Str}{v:EM}{a b:Option W}{fs:List (Str×W)}{l l':List PO}{w:W}(hv:v [some (.ref ph.length),a,b] (ph++.obj "Run" fs::l)=.ok w (ph++.obj "Run" fs::l'))(hz:fs.length<1000):dR "Run" f (ae 0) v [some (.ref ph.length),a,b] (ph++.obj "Run" fs::l)=.ok (.nx [some (.ref ph.length),a,b]) (ph++.obj "Run" (jw f w fs)::l'):=by
 have h:(ph++PO.obj "Run" fs::l')[ph.length]? =some (.obj "Run" fs):=by simp
 refine(fw hv rfl h hz).trans ?_
 congr 1
 rw[agO _ _ (aeq _),ajK];rfl
theorem abD(hi:ph[ii]? =some (.lst (I.map W.int))):∃H,rB "Run" qC (ag (ae 1) (ag (ae 2) ai)) [some (.ref ri),some (.ref ii),some (.int tn),none] ph=.ok (.ref ph.length) H/\PR ph H I 0 0 ⟨[],[],0,tn⟩ .aE:=by
 refine⟨ph++.obj "Run" (oR ph.length 0 tn 0 .aE)::[.lst (I.map W.int),.bO [],.lst []],?_,?_⟩
 ·have key:qC [.ref ph.length,.ref ii,.int tn] (ph++[.obj "Run" []])=.ok .aE (ph++.obj "Run" (oR ph.length 0 tn 0 .aE)::[.lst (I.map W.int),.bO [],.lst []]):=by
   unfold qC mm;rw[g6];have c1:∀{l:List PO} (o:PO),(ph++o::l).length=ph.length+1+l.length:=fun{l} o=>by rw[aeI,aeO];omega
   have lv:bv il (ag (ae 1) ai) [some (.ref ph.length),some (.ref ii),some (.int tn)] (ph++.obj "Run" []::[])=.ok (.ref (ph.length+1)) (ph++.obj "Run" []::[.lst (I.map W.int)]):=by
    refine(av (aq rfl rfl) (uX ((Ex.one _ _).get hi))).trans ?_;rw[c1,agX];rfl
   have dv:∀{fs:List (Str×W)},rW [some (.ref ph.length),some (.ref ii),some (.int tn)] (ph++.obj "Run" fs::[.lst (I.map W.int)])=.ok (.ref (ph.length+2)) (ph++.obj "Run" fs::[.lst (I.map W.int),.bO []]):=fun{fs}=>by
    show Out.ok (W.ref (ph++PO.obj "Run" fs::[PO.lst (I.map W.int)]).length) _=_;rw[c1,agX];rfl
   have tv:∀{fs:List (Str×W)},bT ai [some (.ref ph.length),some (.ref ii),some (.int tn)] (ph++.obj "Run" fs::[.lst (I.map W.int),.bO []])=.ok (.ref (ph.length+3)) (ph++.obj "Run" fs::[.lst (I.map W.int),.bO [],.lst []]):=fun{fs}=>by
    show Out.ok (W.ref (ph++PO.obj "Run" fs::[PO.lst (I.map W.int),.bO []]).length) _=_;rw[c1,agX];rfl
   exact bq (nX lv (aey rfl)) (bq (nX rfl (aey rfl)) (bq (nX rfl (aey rfl)) (bq (nX dv (aey rfl)) (bq (nX tv (aey rfl)) (bq (nX rfl (aey rfl)) (av (nX rfl (aey rfl)) rfl))))))
  have k2:fA (qC [.ref ph.length,.ref ii,.int tn]) (ph++[.obj "Run" []])=.ok .aE (ph++.obj "Run" (oR ph.length 0 tn 0 .aE)::[.lst (I.map W.int),.bO [],.lst []]):=by
   unfold fA;rw[key]
  exact av (aq rfl (aq rfl rfl)) (av k2 rfl)
 ·have ya:∀(k:Nat) (o:PO),(PO.obj "Run" (oR ph.length 0 tn 0 .aE)::[PO.lst (I.map W.int),.bO [],.lst []])[k]? =some o->(ph++PO.obj "Run" (oR ph.length 0 tn 0 .aE)::[PO.lst (I.map W.int),.bO [],.lst []])[ph.length+k]? =some o:=fun k o h=>by
   rw[agg (by omega),show ph.length+k-ph.length=k by omega];exact h
  exact⟨⟨_,rfl⟩,ya 0 _ rfl,ya 1 _ rfl,ya 2 _ rfl,aeq _,ya 3 _ rfl,aeq _,fun p hp=>(nomatch hp)⟩
theorem acS(hR:ph[ri]? =some (.lst (R.map Row.w)))(ok:e9 NS R)(hi:ph[ii]? =some (.lst (I.map W.int)))(hI:∀x∈I,b9 x){f:Nat}(hf:f<=900000)(hF:ke (dB I R f 0 ⟨[],[],0,tn⟩)) :
  ∃(H':PH) (x:String) (s':S),y4 [.ref ri,.ref ii,.int tn] ph=.ok (.tup [.str (aei x),.ref (ph.length+3),.int s'.tk]) H'/\Ex ph H'/\H'[ph.length+3]? =some (.lst (s'.told.map W.int))/\dB I R f 0 ⟨[],[],0,tn⟩=s'.by x:=by
 obtain⟨H0,i0,P0⟩:=abD (ri:=ri) (tn:=tn) hi;obtain⟨n,H1,x,m',q',s',s2,g1,g2,g3,g4⟩:=Im (ii:=ii) (tn:=tn) hR ok hI f 0 0 _ H0 P0 (by omega) hF;have st:∀{σ:aP} {H:PH} {m q:Nat},ae 3 σ=aB (.ref ph.length)->PR ph H I m q s2 (.str (aei x))->bc (bH (ag (cc "Run" "word" (ae 3)) (ag (cc "Run" "told" (ae 3)) (ag (cc "Run" "takes" (ae 3)) ai)))) σ H=.ok (.rt (.tup [.str (aei x),.ref (ph.length+3),.int s'.tk])) H:=fun{σ H m q} h P=>by
  have h':ae 3 σ H=.ok (.ref ph.length) H:=by rw[h];rfl
  rw[<- g3];exact retS (av (aq (fl P.o h' rfl) (aq (fl P.o h' rfl) (aq (fl P.o h' rfl) rfl))) rfl)
 unfold y4 mC;rw[g6]
 rcases g4 with⟨z,P⟩ | ⟨zx,z,P⟩
 ·have hw:eD jI hZ (so ri ii tn ph.length) H0=.ok (.nx (so ri ii tn ph.length)) H1:=by rw[x9 (by rw[z];rfl),z]
  have tr:pk [("ByNought",true)] 3 (eD jI hZ) (dR "Run" "word" (ae 3) (eC (.str "nought"))) (so ri ii tn ph.length) H0=.ok (.nx (so ri ii tn ph.length)) H1:=by
   show(match eD jI hZ (so ri ii tn ph.length) H0 with
    | .ex x ph'=>_
    | .ok f ph'=>Out.ok f ph'
    | .no=>.no)=_
   rw[hw]
  exact⟨H1,x,s',bq (asg i0) (bq tr (av (st rfl P) rfl)),P.ex,g2▸P.t,g1⟩
 ·subst zx;have hw:eD jI hZ (so ri ii tn ph.length) H0=.ex ⟨"ByNought",[]⟩ H1:=by rw[x9 (by rw[z];rfl),z]
  have P2:=P.ob q' s2.tk s2.tn (.str "nought");obtain⟨H2,e2⟩:∃H2,H2=H1.set ph.length (.obj "Run" (oR ph.length q' s2.tn s2.tk (.str "nought"))):=⟨_,rfl⟩
  rw[<- e2] at P2;have wr:dR "Run" "word" (ae 3) (eC (.str "nought")) [none,none,none,some (.ref ph.length)] H1=.ok (.nx [none,none,none,some (.ref ph.length)]) H2:=by
   rw[e2];exact fw rfl rfl P.o (aey rfl)
  have tr:pk [("ByNought",true)] 3 (eD jI hZ) (dR "Run" "word" (ae 3) (eC (.str "nought"))) (so ri ii tn ph.length) H0=.ok (.nx [none,none,none,some (.ref ph.length)]) H2:=by
   show(match eD jI hZ (so ri ii tn ph.length) H0 with
    | .ex x ph'=>if([("ByNought",true)]:List (Str×Bool)).lookup x.cls=some true/\x.fs.isEmpty=true then xJ (dR "Run" "word" (ae 3) (eC (.str "nought")) [none,none,none,some (.ref ph.length)]) ph' else .no
    | .ok f ph'=>Out.ok f ph'
    | .no=>.no)=_
   rw[hw];simp only;rw[if_pos ⟨rfl,rfl⟩];unfold xJ;rw[wr]
  exact⟨H2,"nought",s',bq (asg i0) (bq tr (av (st rfl P2) rfl)),P2.ex,g2▸P2.t,g1⟩
theorem YU{H:PH}{ii T:Nat}(hi:H[ii]? =some (.lst (I.map W.int)))(hI:∀x∈I,b9 x)(hl:I.length<=1000)(hT:T<=10000):∃H',yN [.ref ii,.int T] H=.ok .aE H'/\Ex H H':=by
 obtain⟨H1,e1,x1⟩:=mE I W.int (cap:=[none]) (g:=gN 0) (c:=cY) (e:=aJ kH (ag (ae 0) ai)) (σ:=[some (.ref ii),some (.int T)]) (qF (m:=ae 0) (ph:=H) (ph':=H) rfl hi) (fun p y=>decide_eq_true (y.get hi)) (small (by omega)) (fun _=>some (.bl true)) (fun σ=>∃o,σ=[o]) ⟨none,rfl⟩
  (fun x hx σ K hS _=>by
   obtain⟨o,rfl⟩:=hS;exact⟨_,rfl,⟨_,rfl⟩,true,K,rfl,Ex.refl _,.inr ⟨rfl,_,K,av (aq rfl rfl) (ve (hI x hx) K),Ex.refl _,rfl⟩⟩)
 rw[oK] at x1;have nT:kH [.int T] H1=.ok (.bl true) H1:=ve ⟨by omega,by omega⟩ H1;refine⟨H1,?_,(Ex.one _ _).trans x1⟩;unfold yN mj;rw[gF];refine bq (ph1:=H1) (ax (IL.K03.oF (gb (c:=true) (eB (av rfl (z6 hi)))) (gb (c:=true) (eB (av (aq e1 rfl) (wH (x1.get (bW _ _))))))) rfl) (av (ax (IL.K03.oF (gb (c:=true) (eB (av (aq rfl rfl) nT))) (gb (c:=true) (tB (vF rfl rfl ?_ rfl ?_)))) rfl) rfl)
 ·rw[nA,decide_eq_true (by omega)];rfl
 ·rw[nA,decide_eq_true (by omega)];rfl
end
abbrev i9:TM:=c8 (eT (af eN (ae 6) (bv bU (ag (ae 0) ai)))) (eT (af cz (af ak (af ak (ae 0) (ae 6)) (eC (.int (0)))) (eC (.str "end"))))
abbrev sl(ri ii:Nat)(tn:Int)(p tk q:Nat)(o:Option W):aP:=[some (.ref ri),some (.ref ii),some (.int tn),some (.ref p),some (.ref (p+1)),some (.int tk),some (.int q),o]
structure PL(ph H:PH)(m:Nat)(s:S):Prop where
 ex:Ex ph H
 h:H[ph.length]? =some (.bO (dN s.st))
 hl:s.st.length<=m
 t:H[ph.length+1]? =some (.lst (s.told.map W.int))
 nt:s.told.length<=m
 vb:nW s.st
variable{s':S}
theorem PL.up{s:S}(P:PL ph H m s)(h:m<=n)(e1:s'.st=s.st)(e2:s'.told=s.told):PL ph H n s':=⟨P.ex,e1▸P.h,e1▸aeW P.hl h,e2▸P.t,e2▸aeW P.nt h,e1▸P.vb⟩
theorem PL.grow{K:PH}{s:S}(P:PL ph H m s)(x:Ex H K):PL ph K m s:=⟨P.ex.trans x,x.get P.h,P.hl,x.get P.t,P.nt,P.vb⟩
theorem PL.put{s:S}(P:PL ph H m s){n:Nm}(hv:b9 v)(e1:s'.st=pt s.st n v)(e2:s'.told=s.told):PL ph (H.set ph.length (.bO (dN (pt s.st n v)))) (m+1) s':=by
 have h1:=P.hl;have h2:=GL s.st n v;exact⟨Ex.set P.ex (aeq _) _,(jr P.h).trans (by rw[e1]),by rw[e1];omega,(fP (by omega)).trans (by rw[e2];exact P.t),by rw[e2];exact aht P.nt,by rw[e1];exact P.vb.pt hv⟩
theorem abE(h:ph[i]? =some (.lst ws))(a:Nat):lift (hG (.ref i) (some (a:Int)) (some ((a:Int)+1))) ph=.ok (.ref ph.length) (ph++[.lst ((ws.drop a).take 1)]):=by
 have:fU ws (some (a:Int)) (some ((a:Int)+1))=(ws.drop a).take 1:=by
  unfold fU HT.bj;simp only[show ¬((a:Int)<0) by omega,show ¬((a:Int)+1<0) by omega,if_false,agz,show((a:Int)+1).toNat=a+1 by omega];by_cases ha:a<ws.length
  ·rw[aho (by omega),aho (by omega),show a+1-a=1 by omega]
  ·rw[ais (by omega),ais (by omega),ajK,agf (aeq _),agf (by omega)];rfl
 unfold lift hG;simp only[h,this]
theorem YV(I:List Int)(k:Nat):cy (((I.map W.int).drop k).take 1++[.int 0]) 0=some (.int (I.getD k 0)):=by
 have e:=gw (((I.map W.int).drop k).take 1++[.int 0]) 0 (by simp);refine Eq.trans e ?_;rw[aeL];by_cases h:k<I.length
 ·rw[List.drop_eq_getElem_cons (by rw[aep];exact h),afj (l:=I) h];simp
 ·rw[agf (by rw[aep];omega),afP (l:=I) (by omega)];rfl
theorem neS(x:String){e:EM}(h:e σ ph=.ok (.str x) ph)(hc:decide (x=y)=c):eT (af cz e (eC (.str y))) σ ph=.ok (!c) ph:=by
 refine tB (op h rfl ?_);rw[wk,hc];rfl
theorem B1{g:Int}{e:EM}(h:e σ ph=.ok (.int g) ph1)(hc:decide (g=z)=c):eT (af cz e (eC (.int z))) σ ph=.ok (!c) ph1:=by
 refine tB (op h rfl ?_);rw[rA,<- hc];by_cases k:g=z
 ·subst k;simp;rfl
 ·simp[k];rfl
section
variable{ph:PH}{ri ii:Nat}{I:List Int}{R:List Row}{NS:List Nm}
variable{H:PH}{q:Nat}{y:Row}{tn:Int}
theorem adQ(hR:H[ri]? =some (.lst (R.map Row.w)))(hy:R[q]? =some y){p tk:Nat}{o:Option W}:i9 (sl ri ii tn p tk q o) H=.ok (!decide (y.x="end")) H:=by
 have hq:q<R.length:=(aen.mp hy).1;refine tT (tB (op rfl (av (aq rfl rfl) (iJ hR)) ?_)) (neS y.x (rL (op rfl rfl (eV hR (pA hy)))) rfl);rw[rZ,aep,decide_eq_true (by omega)];rfl
theorem adR(hR:H[ri]? =some (.lst (R.map Row.w)))(hq:¬q<R.length){p tk:Nat}{o:Option W}:i9 (sl ri ii tn p tk q o) H=.ok false H:=by
 refine tF (tB (op rfl (av (aq rfl rfl) (iJ hR)) ?_));rw[rZ,aep,decide_eq_false (by omega)];rfl
noncomputable def Dl(ph H:PH)(ri ii:Nat)(I:List Int)(m q:Nat)(s:S)(y:Row)(o:Option W):Prop:=
 (∃x:String,dY I q s y=.inl x/\iE (sl ri ii s.tn ph.length s.tk q o) H=.ok (.rt (.tup [.str (aei x),.ref (ph.length+1),.int s.tk])) H) \/
 (∃H' q' s',dY I q s y=.inr (q',s')/\iE (sl ri ii s.tn ph.length s.tk q o) H=.ok (.nx (sl ri ii s'.tn ph.length s'.tk q' (some y.w))) H'/\PL ph H' (m+1) s')
theorem adS{m:Nat}{s:S}(P:PL ph H m s)(hR:ph[ri]? =some (.lst (R.map Row.w)))(hi:ph[ii]? =some (.lst (I.map W.int)))(hy:R[q]? =some y)(hf:y≠.fin)(ok:∀a n,y=.set a n->b9 n)(hm:m<950000)(hI:∀x∈I,b9 x)(o:Option W):Dl ph H ri ii I m q s y o:=by
 have a1:aO (af ak (ae 0) (ae 6)) (gN 7) (sl ri ii s.tn ph.length s.tk q o) H=.ok (.nx (sl ri ii s.tn ph.length s.tk q (some y.w))) H:=asg (op rfl rfl (eV (P.ex.get hR) (pA hy)));have a2:aO (af addW (ae 6) (eC (.int (1)))) (gN 6) (sl ri ii s.tn ph.length s.tk q (some y.w)) H=.ok (.nx (sl ri ii s.tn ph.length s.tk (q+1) (some y.w))) H:=asg (op rfl rfl rfl);have gI:∀k,b9 (I.getD k 0):=fun k=>by
  rw[aeL];cases e:I[k]? with
  | none=>exact⟨by decide,by decide⟩
  | some x=>exact hI x (aeV e)
 have hl:=P.hl;have nt:=P.nt;have gd:∀(n:Nm) {K:PH} {e:EM},PL ph K m s->e (sl ri ii s.tn ph.length s.tk (q+1) (some y.w))=aB (aM n)->bS fV fW (ae 3) (ag e (ag (eC (.int 0)) ai)) (sl ri ii s.tn ph.length s.tk (q+1) (some y.w)) K=.ok (.int (gt s.st n)) K:=fun n {K e} PK he=>Ka PK.h rfl (by rw[he];rfl)
 unfold Dl iE;cases y with
 | fin=>exact absurd rfl hf
 | turn=>
  by_cases h:s.tn=0
  ·exact .inl ⟨"dry",if_pos h,sq a1 (sq a2 (J0 (bA (tT (wq "turn" rfl rfl) (eI rfl (decide_eq_true h))) (retS (tp (aq rfl (aq rfl (aq rfl rfl))) rfl)))))⟩
  ·refine .inr ⟨H,q+1,{ s with tn:=s.tn-1 },if_neg h,sq a1 (sq a2 (sq (ax (tT (wq "turn" rfl rfl) (eI rfl (decide_eq_false h))) rfl) (sq (ax (tF (wq "turn" rfl rfl)) rfl) (bA (wq "turn" rfl rfl) (asg (op rfl rfl rfl)))))),P.up (afM _) rfl rfl⟩
 | set a n=>exact .inr ⟨_,q+1,{ s with st:=pt s.st a n },rfl,sq a1 (sq a2 (sq (ax (tF (wq "set" rfl rfl)) rfl) (sq (ax (tF (wq "set" rfl rfl)) rfl) (ax (wq "set" rfl rfl) (bA (wq "set" rfl rfl) (sV rfl P.h (by omega) rfl rfl)))))),P.put (ok a n rfl) rfl rfl⟩
 | copy a b=>exact .inr ⟨_,q+1,{ s with st:=pt s.st a (gt s.st b) },rfl,sq a1 (sq a2 (sq (ax (tF (wq "copy" rfl rfl)) rfl) (sq (ax (tF (wq "copy" rfl rfl)) rfl) (ax (wq "copy" rfl rfl) (ax (wq "copy" rfl rfl) (bA (wq "copy" rfl rfl) (sV (gd b P rfl) P.h (by omega) rfl rfl))))))),P.put (P.vb.gt b) rfl rfl⟩
 | take a=>
  obtain⟨H1,e1⟩:∃H1,H1=H++[PO.lst (((I.map W.int).drop s.tk).take 1)]:=⟨_,rfl⟩
  obtain⟨H2,e2⟩:∃H2,H2=H1++[PO.lst [.int 0]]:=⟨_,rfl⟩
  obtain⟨H3,e3⟩:∃H3,H3=H2++[PO.lst (((I.map W.int).drop s.tk).take 1++[.int 0])]:=⟨_,rfl⟩
  have x1:Ex H H1:=e1▸Ex.one _ _;have x2:Ex H1 H2:=e2▸Ex.one _ _;have x3:Ex H2 H3:=e3▸Ex.one _ _;have g1:H1[H.length]? =some (.lst (((I.map W.int).drop s.tk).take 1)):=by rw[e1];exact bW _ _
  have g2:H2[H1.length]? =some (.lst [.int 0]):=by rw[e2];exact bW _ _
  have g3:H3[H2.length]? =some (.lst (((I.map W.int).drop s.tk).take 1++[.int 0])):=by rw[e3];exact bW _ _
  have P3:=P.grow ((x1.trans x2).trans x3);have he:af ak (af addW (c5 (ae 1) (cK (ae 5)) (cK (af addW (ae 5) (eC (.int (1)))))) (bT (ag (eC (.int (0))) ai))) (eC (.int (0))) (sl ri ii s.tn ph.length s.tk (q+1) (some (Row.take a).w)) H=.ok (.int (I.getD s.tk 0)) H3:=by
   refine op (x:=.ref H2.length) (ph1:=H3) (op (x:=.ref H.length) (ph1:=H1) (y:=.ref H1.length) (ph2:=H2) ?_ ?_ ?_) rfl (eV g3 (YV I s.tk))
   ·rw[e1,q0];exact av rfl (av (av rfl rfl) (av (av rfl rfl) (abE (P.ex.get hi) s.tk)))
   ·rw[e2];exact av (aq rfl rfl) (k9 _ H1 (by decide))
   ·rw[e3];exact vq (x2.get g1) g2 (small (by rw[afI];show _+1<=_;omega))
  exact .inr ⟨_,q+1,{ s with st:=pt s.st a (I.getD s.tk 0),tk:=s.tk+1 },rfl,sq a1 (sq a2 (sq (ax (tF (wq "take" rfl rfl)) rfl) (sq (ax (tF (wq "take" rfl rfl)) rfl) (ax (wq "take" rfl rfl) (ax (wq "take" rfl rfl) (ax (wq "take" rfl rfl) (ax (wq "take" rfl rfl) (bA (wq "take" rfl rfl) (sq (sV he P3.h (by omega) rfl rfl) (asg (op rfl rfl rfl))))))))))),P3.put (gI _) rfl rfl⟩
 | tell a=>
  have ap:dm (bS cM dg (ae 4) (ag (bS fV fW (ae 3) (ag (af ak (ae 7) (eC (.int (1)))) (ag (eC (.int (0))) ai))) ai)) (sl ri ii s.tn ph.length s.tk (q+1) (some (Row.tell a).w)) H=.ok (.nx (sl ri ii s.tn ph.length s.tk (q+1) (some (Row.tell a).w))) (H.set (ph.length+1) (.lst (s.told.map W.int++[.int (gt s.st a)]))):=by
   rw[qM,kR];exact av (av rfl (av (vp P.t) (av (aq (gd a P rfl) rfl) (uB P.t (aeB (show _<1000000 by rw[aep];omega) (by decide)) _)))) rfl
  refine .inr ⟨_,q+1,{ s with told:=s.told++[gt s.st a] },rfl,sq a1 (sq a2 (sq (ax (tF (wq "tell" rfl rfl)) rfl) (sq (ax (tF (wq "tell" rfl rfl)) rfl) (ax (wq "tell" rfl rfl) (ax (wq "tell" rfl rfl) (ax (wq "tell" rfl rfl) (ax (wq "tell" rfl rfl) (ax (wq "tell" rfl rfl) (bA (wq "tell" rfl rfl) ap))))))))),?_⟩;refine⟨Ex.set P.ex (by omega) _,(fP (by omega)).trans P.h,aht P.hl,(jr P.t).trans (by rw[age];rfl),?_,P.vb⟩;show(s.told++[gt s.st a]).length<=m+1;rw[aeI];exact Nat.succ_le_succ nt
 | go k=>exact .inr ⟨H,k,s,rfl,sq a1 (sq a2 (sq (ax (tF (wq "go" rfl rfl)) rfl) (sq (ax (tF (wq "go" rfl rfl)) rfl) (ax (wq "go" rfl rfl) (ax (wq "go" rfl rfl) (ax (wq "go" rfl rfl) (ax (wq "go" rfl rfl) (ax (wq "go" rfl rfl) (ax (wq "go" rfl rfl) (bA (wq "go" rfl rfl) (asg rfl))))))))))),P.up (afM _) rfl rfl⟩
 | iff a k=>
  by_cases h:gt s.st a=0
  ·exact .inr ⟨H,q+1,s,by simp only[dY,if_pos h],sq a1 (sq a2 (sq (ax (tF (wq "if" rfl rfl)) rfl) (sq (ax (tF (wq "if" rfl rfl)) rfl) (ax (wq "if" rfl rfl) (ax (wq "if" rfl rfl) (ax (wq "if" rfl rfl) (ax (wq "if" rfl rfl) (ax (wq "if" rfl rfl) (ax (wq "if" rfl rfl) (ax (wq "if" rfl rfl) (ax (B1 (c:=true) (gd a P rfl) (decide_eq_true h)) rfl))))))))))),P.up (afM _) rfl rfl⟩
  ·exact .inr ⟨H,k,s,by simp only[dY,if_neg h],sq a1 (sq a2 (sq (ax (tF (wq "if" rfl rfl)) rfl) (sq (ax (tF (wq "if" rfl rfl)) rfl) (ax (wq "if" rfl rfl) (ax (wq "if" rfl rfl) (ax (wq "if" rfl rfl) (ax (wq "if" rfl rfl) (ax (wq "if" rfl rfl) (ax (wq "if" rfl rfl) (ax (wq "if" rfl rfl) (bA (B1 (c:=false) (gd a P rfl) (decide_eq_false h)) (asg rfl)))))))))))),P.up (afM _) rfl rfl⟩
 | c9 a w b c=>
  have hp:decide (w.s="part")=w.dI:=by cases w <;> rfl
  have t2:eT (af aS (af ak (ae 7) (eC (.int (2)))) (eC (.str "part"))) (sl ri ii s.tn ph.length s.tk (q+1) (some (Row.c9 a w b c).w)) H=.ok w.dI H:=eS w.s rfl hp;have t3:eT (af aS (bS fV fW (ae 3) (ag (af ak (ae 7) (eC (.int (4)))) (ag (eC (.int (0))) ai))) (eC (.int (0)))) (sl ri ii s.tn ph.length s.tk (q+1) (some (Row.c9 a w b c).w)) H=.ok (decide (gt s.st c=0)) H:=eI (gd c P rfl) rfl;have tt:=tT (a:=eT (af aS (af ak (ae 7) (eC (.int (0)))) (eC (.str "do")))) (wq "do" (i:=7) (σ:=sl ri ii s.tn ph.length s.tk (q+1) (some (Row.c9 a w b c).w)) (ph:=H) (y:="do") (c:=true) rfl rfl) (rN t2 t3);by_cases h:w.dI=true/\gt s.st c=0
  ·rw[h.1,decide_eq_true h.2] at tt;exact .inl ⟨"nought",if_pos h,sq a1 (sq a2 (sq (ax (tF (wq "do" rfl rfl)) rfl) (J0 (bA tt (retS (tp (aq rfl (aq rfl (aq rfl rfl))) rfl))))))⟩
  ·have e:(w.dI&&decide (gt s.st c=0))=false:=by
    cases hw:w.dI with
    | false=>rfl
    | true=>rw[decide_eq_false (fun z=>h ⟨hw,z⟩)];rfl
   rw[e] at tt;obtain⟨H1,d1,x1⟩:=abw w (P.vb.gt b) (P.vb.gt c) (fun z e=>h ⟨by rw[z];rfl,e⟩) H;have P1:=P.grow x1;exact .inr ⟨_,q+1,{ s with st:=pt s.st a (dd w (gt s.st b) (gt s.st c)) },if_neg h,sq a1 (sq a2 (sq (ax (tF (wq "do" rfl rfl)) rfl) (sq (ax tt rfl) (ax (wq "do" rfl rfl) (ax (wq "do" rfl rfl) (ax (wq "do" rfl rfl) (bA (wq "do" rfl rfl) (sV (av (aq rfl (aq (gd b P rfl) (aq (gd c P rfl) rfl))) d1) P1.h (by omega) rfl rfl)))))))),P1.put (GK _ _ _) rfl rfl⟩
theorem acT(h:y≠.fin):decide (y.x="end")=false:=by cases y <;> first | rfl | exact absurd rfl h
theorem Io(hR:ph[ri]? =some (.lst (R.map Row.w)))(ok:e9 NS R)(hi:ph[ii]? =some (.lst (I.map W.int)))(hI:∀x∈I,b9 x):∀(f m q:Nat) (s:S) (o:Option W) (H:PH),PL ph H m s->m+f<=900000->ke (dB I R f q s) →
  ∃(n:Nat) (H':PH) (x:String) (m':Nat) (s':S),dB I R f q s=s'.by x/\PL ph H' m' s'/\((x="done"/\∃q' o',cG i9 iE n (sl ri ii s.tn ph.length s.tk q o) H=.ok (.nx (sl ri ii s'.tn ph.length s'.tk q' o')) H')\/cG i9 iE n (sl ri ii s.tn ph.length s.tk q o) H=.ok (.rt (.tup [.str (aei x),.ref (ph.length+1),.int s'.tk])) H')
 | 0,m,q,s,o,H,P,hm,hF=>absurd rfl hF
 | f+1,m,q,s,o,H,P,hm,hF=>by
  have g:=P.ex.get hR;unfold dB at hF ⊢;have fin:R.getD q .fin=.fin->i9 (sl ri ii s.tn ph.length s.tk q o) H=.ok false H->∃(n:Nat) (H':PH) (x:String) (m':Nat) (s':S),(match dY I q s (R.getD q .fin) with | .inl x=>s.by x | .inr q=>dB I R f q.1 q.2)=s'.by x/\PL ph H' m' s'/\((x="done"/\∃q' o',cG i9 iE n (sl ri ii s.tn ph.length s.tk q o) H=.ok (.nx (sl ri ii s'.tn ph.length s'.tk q' o')) H')\/cG i9 iE n (sl ri ii s.tn ph.length s.tk q o) H=.ok (.rt (.tup [.str (aei x),.ref (ph.length+1),.int s'.tk])) H'):=fun e t=>by
   rw[e];exact⟨1,H,"done",m,s,rfl,P,.inl ⟨rfl,q,o,av t rfl⟩⟩
  by_cases hq:q<R.length
  ·obtain⟨y,hy⟩:∃y,R[q]? =some y:=pz hq;have hg:R.getD q .fin=y:=by rw[aeL,hy];rfl
   have t:=adQ (ii:=ii) g hy (tn:=s.tn) (p:=ph.length) (tk:=s.tk) (o:=o);by_cases hf:y=.fin
   ·subst hf;exact fin hg t
   ·rw[acT hf] at t;have t:i9 (sl ri ii s.tn ph.length s.tk q o) H=.ok true H:=t;rw[hg] at hF ⊢
    rcases adS P hR hi hy hf (by have:=FH ok q;rw[hg] at this;exact this) (by omega) hI o with⟨x,h1,h2⟩ | ⟨H',q',s',h1,h2,P'⟩
    ·rw[h1];exact⟨1,H,x,m,s,rfl,P,.inr (av t (av h2 rfl))⟩
    ·rw[h1] at hF ⊢;obtain⟨n,H2,x,m',s2,g1,g2,g3⟩:=Io hR ok hi hI f (m+1) q' s' _ H' P' (by omega) hF;refine⟨n+1,H2,x,m',s2,g1,g2,?_⟩
     rcases g3 with⟨z,q2,o2,z2⟩ | z
     ·exact .inl ⟨z,q2,o2,av t (av h2 z2)⟩
     ·exact .inr (av t (av h2 z))
  ·have hg:R.getD q .fin=.fin:=by rw[aeL,afP (by omega)];rfl
   exact fin hg (adR g hq)
theorem acU(hR:ph[ri]? =some (.lst (R.map Row.w)))(ok:e9 NS R)(hi:ph[ii]? =some (.lst (I.map W.int)))(hI:∀x∈I,b9 x){f:Nat}(hf:f<=900000)(hF:ke (dB I R f 0 ⟨[],[],0,tn⟩)) :
  ∃(H':PH) (x:String) (s':S),qj [.ref ri,.ref ii,.int tn] ph=.ok (.tup [.str (aei x),.ref (ph.length+1),.int s'.tk]) H'/\Ex ph H'/\H'[ph.length+1]? =some (.lst (s'.told.map W.int))/\dB I R f 0 ⟨[],[],0,tn⟩=s'.by x:=by
 obtain⟨H0,e0⟩:∃H0,H0=ph++[PO.bO []]++[PO.lst []]:=⟨_,rfl⟩
 have P0:PL ph H0 0 ⟨[],[],0,tn⟩:=by
  subst e0;refine⟨(Ex.one _ _).trans (Ex.one _ _),(Ex.one _ _).get (bW _ _),aeq _,?_,aeq _,fun p hp=>(nomatch hp)⟩;have:=bW (ph++[PO.bO []]) (PO.lst []);rw[aeI] at this;exact this
 obtain⟨n,H1,x,m',s',g1,g2,g3⟩:=Io (ii:=ii) hR ok hi hI f 0 0 _ none H0 P0 (by omega) hF;have b:∀{r:Out W},aw (aD (eD i9 iE) (bc (bH (ag (eC (.str "done")) (ag (ae 4) (ag (ae 5) ai))))) (sl ri ii tn ph.length 0 0 none)) ei H0=r->qj [.ref ri,.ref ii,.int tn] ph=r:=fun{r} h=>by
  unfold qj lT;rw[g6];have l1:aO (bT ai) (gN 4) [some (.ref ri),some (.ref ii),some (.int tn),some (.ref ph.length),none,none,none,none] (ph++[PO.bO []])=.ok (.nx [some (.ref ri),some (.ref ii),some (.int tn),some (.ref ph.length),some (.ref (ph.length+1)),none,none,none]) H0:=by
   subst e0;refine(asg (av rfl (k9 [] _ (by decide)))).trans ?_;rw[aeI];rfl
  exact bq (ph1:=ph++[PO.bO []]) (asg rfl) (bq l1 (bq (asg rfl) (bq (asg rfl) h)))
 refine⟨H1,x,s',b ?_,g2.ex,g2.t,g1⟩
 rcases g3 with⟨z,q',o',z2⟩ | z
 ·subst z;have hw:eD i9 iE (sl ri ii tn ph.length 0 0 none) H0=.ok (.nx (sl ri ii s'.tn ph.length s'.tk q' o')) H1:=by rw[x9 (by rw[z2];rfl),z2]
  exact bq hw (br (tp (aq rfl (aq rfl (aq rfl rfl))) rfl))
 ·have hw:eD i9 iE (sl ri ii tn ph.length 0 0 none) H0=.ok (.rt (.tup [.str (aei x),.ref (ph.length+1),.int s'.tk])) H1:=by rw[x9 (by rw[z];rfl),z]
  exact df hw
end
abbrev bV(ns:List Int)(o1 o2 o3 o4 o5 o6 o7 o8 o9 o10:Option W):aP:=[some (.fl (ns.map W.int)),o1,o2,o3,o4,o5,o6,o7,o8,o9,o10]
noncomputable abbrev gJ:SM:=(aX (eT (af aS (af aR (af bg (aJ cB (ag (ae 0) (ag (eC (.int (1))) ai))) (eC (.int (300)))) (eC (.int (8)))) (eC (.int (1))))) (aO (af addW (eC (.int (25))) (af aR (af bg (aJ cB (ag (ae 0) (ag (eC (.int (1))) ai))) (eC (.int (2400)))) (eC (.int (36))))) (gN 2)) bu)
noncomputable abbrev st4:SM:=(aX (c8 (eT (af aS (af aR (aJ cB (ag (ae 0) (ag (eC (.int (2))) ai))) (eC (.int (3)))) (eC (.int (1))))) (eT (af eN (ae 2) (eC (.int (50)))))) (aD (aO (af cC (bT (ag (bH (ag (eC (.str "take")) (ag (af ak (ae 1) (eC (.int (0)))) ai))) (ag (bH (ag (eC (.str "tell")) (ag (af ak (ae 1) (eC (.int (0)))) ai))) ai))) (af addW (eC (.int (1))) (af aR (af bg (aJ cB (ag (ae 0) (ag (eC (.int (2))) ai))) (eC (.int (3)))) (eC (.int (4)))))) (gN 4)) (aD (aO (af addW (ae 4) (cJ (fR (ae 3)) [none,some 4] (gN 0) cY (aJ qp (ag (ae 0) (ag (bv bU (ag (ae 1) ai)) ai))))) (gN 3)) (aO (bv bU (ag (ae 3) ai)) (gN 2)))) bu)
noncomputable abbrev xP:SM:=(aO (cJ (dG (ag (af ak (bT (ag (eC (.int (0))) (ag (eC (.int (1))) (ag (eC (.int (1))) (ag (eC (.int (1))) (ag (eC (.int (2))) (ag (eC (.int (2))) (ag (eC (.int (3))) (ag (eC (.int (5))) (ag (eC (.int (8))) ai)))))))))) (af aR (ae 5) (eC (.int (9))))) ai)) [none,some 0] (gN 0) cY (aJ je (ag (aJ cB (ag (ae 1) (ag (af addW (eC (.int (27))) (ae 0)) ai))) ai))) (gN 6))
noncomputable abbrev Ke:SM:=(aX (eT (af aS (af aR (af bg (ae 5) (eC (.int (90)))) (eC (.int (9)))) (eC (.int (1))))) (aO (af addW (eC (.int (10))) (af aR (af bg (ae 5) (eC (.int (810)))) (eC (.int (31))))) (gN 7)) bu)
noncomputable abbrev Kf:SM:=(aX (eT (af aS (cJ (dG (ag (ae 2) ai)) [none,some 3] (gN 0) (c8 (eT (af eL (af ak (af ak (ae 1) (ae 0)) (eC (.int (0)))) (bH (ag (eC (.str "if")) (ag (eC (.str "go")) ai))))) (eT (af fe (af ak (af ak (ae 1) (ae 0)) (da cZ (eC (.int (1))))) (ae 0)))) (ae 0)) (bT ai))) (aO (af ak (bT (ag (ae 7) (ag (eC (.int (10000))) ai))) (af aR (af bg (ae 5) (eC (.int (90)))) (eC (.int (2))))) (gN 7)) bu)
noncomputable abbrev adT:SM:=(aX (eT (af aS (af aR (af bg (ae 5) (eC (.int (90)))) (eC (.int (9)))) (eC (.int (2))))) (aD (aO (bT (ag (bH (ag (eC (.str "turn")) ai)) (ag (bH (ag (eC (.str "take")) (ag (af ak (ae 1) (da cZ (eC (.int (1))))) ai))) (ag (bH (ag (eC (.str "do")) (ag (af ak (ae 1) (eC (.int (0)))) (ag (eC (.str "sum")) (ag (af ak (ae 1) (eC (.int (0)))) (ag (af ak (ae 1) (da cZ (eC (.int (1))))) ai)))))) (ag (bH (ag (eC (.str "tell")) (ag (af ak (ae 1) (eC (.int (0)))) ai))) ai))))) (gN 3)) (aD (dm (bS cM dg (ae 3) (ag (bH (ag (eC (.str "go")) (ag (eC (.int (0))) ai))) ai))) (aD (aO (af addW (eC (.int (41))) (af aR (af bg (ae 5) (eC (.int (810)))) (eC (.int (460))))) (gN 7)) (aO (af addW (ae 6) (cJ (dG (ag (eC (.int (60))) ai)) [none,some 0] (gN 0) cY (aJ je (ag (af addW (aJ cB (ag (ae 1) (ag (af addW (eC (.int (27))) (af aR (ae 0) (eC (.int (8))))) ai))) (af cC (af cC (eC (.int (7919))) (ae 0)) (ae 0))) ai)))) (gN 6))))) bu)
noncomputable def Row.sh(k:Nat):Row->Row
 | .iff a p=>.iff a (p+k)
 | .go p=>.go (p+k)
 | r=>r
theorem YW(r:Row)(k:Nat)(H:PH):qp [r.w,.int k] H=.ok (r.sh k).w H:=by
 unfold qp lZ;rw[gF];cases r with
 | iff a p=>exact df (bA (av (wq "if" rfl rfl) rfl) (retS (op rfl rfl rfl)))
 | go p=>exact df (bA (IL.K03.oF (wq "go" rfl rfl) (wq "go" rfl rfl)) (retS (op rfl rfl rfl)))
 | set a n=>exact bq (ax (IL.K03.oF (wq "set" rfl rfl) (wq "set" rfl rfl)) rfl) (br rfl)
 | copy a b=>exact bq (ax (IL.K03.oF (wq "copy" rfl rfl) (wq "copy" rfl rfl)) rfl) (br rfl)
 | c9 a w b c=>exact bq (ax (IL.K03.oF (wq "do" rfl rfl) (wq "do" rfl rfl)) rfl) (br rfl)
 | take a=>exact bq (ax (IL.K03.oF (wq "take" rfl rfl) (wq "take" rfl rfl)) rfl) (br rfl)
 | tell a=>exact bq (ax (IL.K03.oF (wq "tell" rfl rfl) (wq "tell" rfl rfl)) rfl) (br rfl)
 | turn=>exact bq (ax (IL.K03.oF (wq "turn" rfl rfl) (wq "turn" rfl rfl)) rfl) (br rfl)
 | fin=>exact bq (ax (IL.K03.oF (wq "end" rfl rfl) (wq "end" rfl rfl)) rfl) (br rfl)
theorem acV{x:Nat}(h:x∈(r.sh k).to):∃y∈r.to,x=y+k:=by
 cases r <;> simp[Row.sh,Row.to] at h ⊢ <;> exact h
theorem acW(h:gA NS r):gA NS (r.sh k):=by
 cases r with
 | iff a p=>exact⟨h.1,fun _ _ z=>nomatch z⟩
 | go p=>exact⟨h.1,fun _ _ z=>nomatch z⟩
 | _=>exact h
theorem Ur{F:List Row}(ok:e9 NS R)(hF:∀r∈F,gA NS r/\r.to=[]):e9 NS (F++R.map (Row.sh F.length)):=by
 refine⟨fun r hr=>?_,fun p y hy k hk=>?_⟩
 ·rcases afs.mp hr with z | z
  ·exact(hF r z).1
  ·obtain⟨x,hx,rfl⟩:=ahi.mp z;exact acW (ok.ok x hx)
 ·by_cases hp:p<F.length
  ·rw[afq hp] at hy;rw[(hF y (aeV hy)).2] at hk;cases hk
  ·rw[agg (by omega),aeA] at hy;obtain⟨x,hx,rfl⟩:=aeC.mp hy;obtain⟨k0,h0,rfl⟩:=acV hk;obtain⟨j1,j2⟩:=ok.jm _ x hx k0 h0;refine⟨by rw[aeI,aep];omega,fun B0=>?_⟩;rw[agg (by omega),show k0+F.length-F.length=k0 by omega,aeA,j2 (by omega)];rfl
structure Dr(H K:PH)(NS:List Nm)(R:List Row)(ri:Nat):Prop where
 ex:Ex H K
 g:K[ri]? =some (.lst (R.map Row.w))
 ok:e9 NS R
 le:R.length<=60
theorem rM{a:Nm}(hN:H[ni]? =some (.lst ((a::NS).map aM))){e:EM}(he:e σ H=.ok (.ref ni) H):af ak e (eC (.int (0))) σ H=.ok (aM a) H:=op he rfl (eV hN (by simpa using gw ((a::NS).map aM) 0 (by simp)))
theorem YX(ns:List Int){a:Nm}(hN:H[ni]? =some (.lst ((a::NS).map aM)))(hR:H[ri]? =some (.lst (R.map Row.w)))(ok:e9 (a::NS) R)(hn:R.length<=60) :
  ∃R' qf o4 K,st4 (bV ns (some (.ref ni)) (some (.int R.length)) (some (.ref ri)) none none none none none none none) H=.ok (.nx (bV ns (some (.ref ni)) (some (.int ((R':List Row).length:Int))) (some (.ref qf)) o4 none none none none none none)) K/\Dr H K (a::NS) R' qf:=by
 have c2:∀{K:PH} {o3 o4:Option W},aJ cB (ag (ae 0) (ag (eC (.int (2))) ai)) (bV ns (some (.ref ni)) (some (.int R.length)) o3 o4 none none none none none none) K=.ok (.int (ns.getD 2 0)) K:=fun{K o3 o4}=>cl (i:=2) rfl rfl (by decide)
 have t:c8 (eT (af aS (af aR (aJ cB (ag (ae 0) (ag (eC (.int (2))) ai))) (eC (.int (3)))) (eC (.int (1))))) (eT (af eN (ae 2) (eC (.int (50))))) (bV ns (some (.ref ni)) (some (.int R.length)) (some (.ref ri)) none none none none none none none) H=.ok (decide ((ns.getD 2 0).fmod 3=1)&&decide ((R.length:Int)<50)) H:=rN (eI (md c2 rfl (by decide)) rfl) (tB (op rfl rfl (congrFun (rZ ..) H)));by_cases h:(ns.getD 2 0).fmod 3=1/\(R.length:Int)<50
 ·rw[decide_eq_true h.1,decide_eq_true h.2] at t;obtain⟨m,hm,em⟩:=dz (a:=(ns.getD 2 0).fdiv 3) (n:=4) (by decide);obtain⟨F,eF⟩:∃F,F=(aeF (1+m) [Row.take a,Row.tell a]).flatten:=⟨_,rfl⟩
  have lF:F.length=(1+m)*2:=by rw[eF,List.length_flatten,List.map_replicate];simp
  have wF:F.map Row.w=(aeF (1+m) [(Row.take a).w,(Row.tell a).w]).flatten:=by rw[eF,List.map_flatten,List.map_replicate];rfl
  have oF':∀r∈F,gA (a::NS) r/\r.to=[]:=fun r hr=>by
   rw[eF] at hr;obtain⟨l,hl,hr⟩:=List.mem_flatten.mp hr;rw[List.eq_of_mem_replicate hl] at hr
   rcases aeG.mp hr with z | z
   ·subst z;exact⟨⟨fun x hx=>by simp[Row.nm] at hx;simp[hx],fun _ _ z=>nomatch z⟩,rfl⟩
   ·rw[aeJ] at z;subst z;exact⟨⟨fun x hx=>by simp[Row.nm] at hx;simp[hx],fun _ _ z=>nomatch z⟩,rfl⟩
  obtain⟨H1,e1⟩:∃H1,H1=H++[PO.lst [(Row.take a).w,(Row.tell a).w]]:=⟨_,rfl⟩
  obtain⟨H2,e2⟩:∃H2,H2=H1++[PO.lst (F.map Row.w)]:=⟨_,rfl⟩
  have x1:Ex H H1:=e1▸Ex.one _ _;have x2:Ex H1 H2:=e2▸Ex.one _ _;have g1:H1[H.length]? =some (.lst [(Row.take a).w,(Row.tell a).w]):=by rw[e1];exact bW _ _
  have g2:H2[H1.length]? =some (.lst (F.map Row.w)):=by rw[e2];exact bW _ _
  have gR:=x2.get (x1.get hR);obtain⟨H3,e3,x3⟩:=mE R Row.w (cap:=[none,some 4]) (g:=gN 0) (c:=cY) (e:=aJ qp (ag (ae 0) (ag (bv bU (ag (ae 1) ai)) ai))) (σ:=bV ns (some (.ref ni)) (some (.int R.length)) (some (.ref ri)) (some (.ref H1.length)) none none none none none none) (qF (m:=ae 3) (ph:=H2) (ph':=H2) rfl gR) (fun p y=>decide_eq_true (y.get gR)) (small (by omega)) (fun r=>some (r.sh F.length).w) (fun σ=>∃o,σ=[o,some (.ref H1.length)]) ⟨none,rfl⟩
   (fun x hx σ K hS y=>by
    obtain⟨o,rfl⟩:=hS;exact⟨_,rfl,⟨_,rfl⟩,true,K,rfl,Ex.refl _,.inr ⟨rfl,_,K,av (aq rfl (aq (av (aq rfl rfl) ((iJ (y.get g2)).trans (by rw[aep]))) rfl)) (YW x F.length K),Ex.refl _,rfl⟩⟩)
  rw[oK] at x3;have gc:H3[H2.length]? =some (.lst (R.map fun r=>(r.sh F.length).w)):=x3.get (bW _ _);have Kg:Ex H2 H3:=(Ex.one _ _).trans x3;obtain⟨H4,e4⟩:∃H4,H4=H3++[PO.lst ((F++R.map (Row.sh F.length)).map Row.w)]:=⟨_,rfl⟩
  have x4:Ex H3 H4:=e4▸Ex.one _ _;have g4:H4[H3.length]? =some (.lst ((F++R.map (Row.sh F.length)).map Row.w)):=by rw[e4];exact bW _ _
  refine⟨F++R.map (Row.sh F.length),H3.length,some (.ref H1.length),H4,bA t (sq (ph1:=H2) (σ1:=bV ns (some (.ref ni)) (some (.int R.length)) (some (.ref ri)) (some (.ref H1.length)) none none none none none none) (asg (op (x:=.ref H.length) (ph1:=H1) (y:=.int ((1+m:Nat):Int)) (ph2:=H1) ?_ ?_ ?_)) (sq (ph1:=H4) (σ1:=bV ns (some (.ref ni)) (some (.int R.length)) (some (.ref H3.length)) (some (.ref H1.length)) none none none none none none) (asg (op (x:=.ref H1.length) (ph1:=H2) rfl e3 ?_)) (asg (w:=.int ((F++R.map (Row.sh F.length)).length:Int)) (av (aq rfl rfl) ((iJ g4).trans (by rw[aep])))))),(x1.trans x2).trans (Kg.trans x4),g4,Ur ok oF',?_⟩
  ·rw[e1];exact av (aq (tp (aq rfl (aq (rM hN rfl) rfl)) rfl) (aq (tp (aq rfl (aq (rM hN rfl) rfl)) rfl) rfl)) (k9 _ H (small (by show 2<=1000000;decide)))
  ·rw[show((1+m:Nat):Int)=1+(m:Int) by omega,<- em];exact ad rfl (md (dv c2 rfl (by decide) (by decide)) rfl (by decide))
  ·rw[WD g1 (by omega) (by omega) (small (by show 2*_<=_;omega)),e2,wF];rfl
  ·rw[vq (Kg.get g2) gc (small (by rw[aep,aep];omega)),e4,age,ahS];rfl
  ·rw[aeI,aep];omega
 ·have e:(decide ((ns.getD 2 0).fmod 3=1)&&decide ((R.length:Int)<50))=false:=by
   rw[Bool.and_eq_false_iff];by_cases h1:(ns.getD 2 0).fmod 3=1
   ·exact .inr (decide_eq_false fun z=>h ⟨h1,z⟩)
   ·exact .inl (decide_eq_false h1)
  rw[e] at t;exact⟨R,ri,none,H,ax t rfl,Ex.refl _,hR,ok,hn⟩
theorem nine(m:Nat)(h:(m:Int)<9):∃k:Nat,k<=8/\cy [W.int 0,.int 1,.int 1,.int 1,.int 2,.int 2,.int 3,.int 5,.int 8] (m:Int)=some (.int k):=by
 have h:m<9:=by omega
 match m,h with
 | 0,_=>exact⟨0,by decide,rfl⟩
 | 1,_=>exact⟨1,by decide,rfl⟩
 | 2,_=>exact⟨1,by decide,rfl⟩
 | 3,_=>exact⟨1,by decide,rfl⟩
 | 4,_=>exact⟨2,by decide,rfl⟩
 | 5,_=>exact⟨2,by decide,rfl⟩
 | 6,_=>exact⟨3,by decide,rfl⟩
 | 7,_=>exact⟨5,by decide,rfl⟩
 | 8,_=>exact⟨8,by decide,rfl⟩
 | n+9,h=>exact absurd h (by omega)
structure In(H K:PH)(I:List Int)(ii:Nat)(n:Nat):Prop where
 ex:Ex H K
 g:K[ii]? =some (.lst (I.map W.int))
 sm:∀x∈I,b9 x
 le:I.length<=n
theorem GN{ns:List Int}{K:PH}{e:EM}(i8:im σ H=.ok ((afr k).map (fun i:Nat=>W.int i),fun _=>true) K)(hx:Ex H K)(hk:k<=60)(hc:gD [none,some 0] σ=[none,some (.fl (ns.map W.int))])
  (he:∀(j:Nat) (L:PH),j<k->∃c:Int,e [some (.int j),some (.fl (ns.map W.int))] L=je [.int c] L):∃I L,cJ im [none,some 0] (gN 0) cY e σ H=.ok (.ref K.length) L/\In H L I K.length k:=by
 obtain⟨L,ws,e1,x1,g1,l1,q1⟩:=FE (afr k) (fun i:Nat=>W.int i) (im:=im) (cap:=[none,some 0]) (g:=gN 0) (e:=e) (σ:=σ) i8 (fun _ _=>rfl) (by rw[agy];omega)
  (fun _ w _=>∃v,w=.int v/\b9 v) (fun _ _ _ _ h _=>h) (fun σ=>∃o,σ=[o,some (.fl (ns.map W.int))]) ⟨none,hc⟩ (fun j x hx σ L hS y _=>by
   obtain⟨o,rfl⟩:=hS;have hxk:x<k:=aha.mp (aeV hx);obtain⟨c,ec⟩:=he x L hxk;obtain⟨v,L',h1,h2,h3⟩:=Ho c L;exact⟨_,rfl,⟨_,rfl⟩,.int v,L',ec.trans h1,h2,v,rfl,h3⟩)
 obtain⟨I,rfl,hI⟩:=EN (f:=W.int) (Q:=fun _ v=>b9 v) q1;rw[aep,agy] at l1;refine⟨I,L,e1,hx.trans x1,g1,fun x hx=>?_,by omega⟩;obtain⟨j,hj⟩:=List.getElem?_of_mem hx;exact hI j x hj
variable{o4:Option W}
theorem adU(ns:List Int){c:Int}{o1 o2 o3:Option W}:∃I ii K,xP (bV ns o1 o2 o3 o4 (some (.int c)) none none none none none) H=.ok (.nx (bV ns o1 o2 o3 o4 (some (.int c)) (some (.ref ii)) none none none none)) K/\In H K I ii 8:=by
 obtain⟨m,hm,em⟩:=dz (a:=c) (n:=9) (by decide);obtain⟨k,hk,ek⟩:=nine m hm;obtain⟨H1,e1⟩:∃H1,H1=H++[PO.lst [W.int 0,.int 1,.int 1,.int 1,.int 2,.int 2,.int 3,.int 5,.int 8]]:=⟨_,rfl⟩
 have i8:dG (ag (af ak (bT (ag (eC (.int (0))) (ag (eC (.int (1))) (ag (eC (.int (1))) (ag (eC (.int (1))) (ag (eC (.int (2))) (ag (eC (.int (2))) (ag (eC (.int (3))) (ag (eC (.int (5))) (ag (eC (.int (8))) ai)))))))))) (af aR (ae 5) (eC (.int (9))))) ai) (bV ns o1 o2 o3 o4 (some (.int c)) none none none none none) H=.ok ((afr k).map (fun i:Nat=>W.int i),fun _=>true) H1:=by
  refine(oV (j:=(k:Int)) (aq (ph1:=H1) (by rw[e1];exact mV (aq rfl (aq rfl (aq rfl (aq rfl (aq rfl (aq rfl (aq rfl (aq rfl (aq rfl rfl))))))))) (by decide) (by rw[<- em];exact md rfl rfl (by decide)) ek) rfl) (by omega) (by omega)).trans ?_;rw[agz,vE]
 obtain⟨I,L,h1,h2⟩:=GN (ns:=ns) (k:=k) (e:=aJ je (ag (aJ cB (ag (ae 1) (ag (af addW (eC (.int (27))) (ae 0)) ai))) ai)) i8 (e1▸Ex.one _ _) (by omega) rfl (fun j L _=>⟨ns.getD ((27:Int)+(j:Int)).toNat 0,av (aq (cl (i:=27+(j:Int)) rfl (ad rfl rfl) (by omega)) rfl) rfl⟩);exact⟨I,H1.length,L,asg h1,h2.ex,h2.g,h2.sm,aeW h2.le hk⟩
theorem YY(ns:List Int){c:Int}{ii:Nat}{o1:Option W}(hR:H[ri]? =some (.lst (R.map Row.w)))(hn:R.length<=60):∃(T:Nat) (K:PH),T<=10000/\Ex H K/\∀{a:SM} {k:Fl->Mo W} {r:Out W},
  aw (a (bV ns o1 (some (.int R.length)) (some (.ref ri)) o4 (some (.int c)) (some (.ref ii)) (some (.int T)) none none none)) k K=r →
  aw (aD (aO (af aR (af bg (ae 5) (eC (.int (9)))) (eC (.int (10)))) (gN 7)) (aD Ke (aD Kf a)) (bV ns o1 (some (.int R.length)) (some (.ref ri)) o4 (some (.int c)) (some (.ref ii)) none none none none)) k H=r:=by
 obtain⟨m,hm,em⟩:=dz (a:=c.fdiv 9) (n:=10) (by decide);obtain⟨m2,hm2,em2⟩:=dz (a:=c.fdiv 810) (n:=31) (by decide);obtain⟨m3,Kh,em3⟩:=dz (a:=c.fdiv 90) (n:=2) (by decide);have Ki:∀{o7:Option W} {K:PH},af bg (ae 5) (eC (.int (90))) (bV ns o1 (some (.int R.length)) (some (.ref ri)) o4 (some (.int c)) (some (.ref ii)) o7 none none none) K=.ok (.int (c.fdiv 90)) K:=fun{o7 K}=>dv rfl rfl (by decide) (by decide)
 have a7:aO (af aR (af bg (ae 5) (eC (.int (9)))) (eC (.int (10)))) (gN 7) (bV ns o1 (some (.int R.length)) (some (.ref ri)) o4 (some (.int c)) (some (.ref ii)) none none none none) H=.ok (.nx (bV ns o1 (some (.int R.length)) (some (.ref ri)) o4 (some (.int c)) (some (.ref ii)) (some (.int m)) none none none)) H:=by
  rw[<- em];exact asg (md (dv rfl rfl (by decide) (by decide)) rfl (by decide))
 obtain⟨t,ht,a8⟩:∃t:Nat,t<=40/\Ke (bV ns o1 (some (.int R.length)) (some (.ref ri)) o4 (some (.int c)) (some (.ref ii)) (some (.int m)) none none none) H=.ok (.nx (bV ns o1 (some (.int R.length)) (some (.ref ri)) o4 (some (.int c)) (some (.ref ii)) (some (.int t)) none none none)) H:=by
  by_cases h:(c.fdiv 90).fmod 9=1
  ·refine⟨10+m2,by omega,bA (eI (md Ki rfl (by decide)) (decide_eq_true h)) ?_⟩;rw[show((10+m2:Nat):Int)=10+(m2:Int) by omega,<- em2];exact asg (ad rfl (md (dv rfl rfl (by decide) (by decide)) rfl (by decide)))
  ·exact⟨m,by omega,ax (eI (md Ki rfl (by decide)) (decide_eq_false h)) rfl⟩
 obtain⟨bad,hb⟩:∃bad:Nat->Bool,∀q y,R[q]? =some y->bad q=(match y with | .iff _ p=>decide ((p:Int)<=(q:Int)) | .go p=>decide ((p:Int)<=(q:Int)) | _=>false):=⟨fun q=>match R[q]? with | some (.iff _ p)=>decide ((p:Int)<=(q:Int)) | some (.go p)=>decide ((p:Int)<=(q:Int)) | _=>false,fun q y hy=>by simp only[hy];cases y <;> rfl⟩
 obtain⟨H1,e1,x1⟩:=mE (afr R.length) (fun i:Nat=>W.int i) (im:=dG (ag (ae 2) ai)) (cap:=[none,some 3]) (g:=gN 0) (c:=c8 (eT (af eL (af ak (af ak (ae 1) (ae 0)) (eC (.int (0)))) (bH (ag (eC (.str "if")) (ag (eC (.str "go")) ai))))) (eT (af fe (af ak (af ak (ae 1) (ae 0)) (da cZ (eC (.int (1))))) (ae 0)))) (e:=ae 0) (σ:=bV ns o1 (some (.int R.length)) (some (.ref ri)) o4 (some (.int c)) (some (.ref ii)) (some (.int t)) none none none) (ph:=H) (ph0:=H) (chk:=fun _=>true)
  (by refine(oV (j:=(R.length:Int)) (aq rfl rfl) (by omega) (by omega)).trans ?_;rw[agz,vE]) (fun _ _=>rfl) (small (by rw[agy];omega)) (fun q=>if bad q=true then some (.int q) else none) (fun σ=>∃o,σ=[o,some (.ref ri)]) ⟨none,rfl⟩
  (fun q hq σ K hS y=>by
   obtain⟨o,rfl⟩:=hS;obtain⟨r,hr⟩:∃r,R[q]? =some r:=pz (aha.mp hq);have kC:=hb q r hr;have B2:af ak (ae 1) (ae 0) [some (.int q),some (.ref ri)] K=.ok r.w K:=op rfl rfl (eV (y.get hR) (pA hr));have t1:eT (af eL (af ak (af ak (ae 1) (ae 0)) (eC (.int (0)))) (bH (ag (eC (.str "if")) (ag (eC (.str "go")) ai)))) [some (.int q),some (.ref ri)] K=.ok (decide ("if"=r.x)||decide ("go"=r.x)) K:=by
    refine tB (op (rL B2) rfl ?_);show lift (eL (.str (aei r.x)) (.tup [.str (aei "if"),.str (aei "go")])) K=_;rw[AA,Ax];rfl
   refine⟨[some (.int q),some (.ref ri)],rfl,⟨_,rfl⟩,?_⟩;have no:(decide ("if"=r.x)||decide ("go"=r.x))=false->bad q=false->∃t H1,c8 (eT (af eL (af ak (af ak (ae 1) (ae 0)) (eC (.int (0)))) (bH (ag (eC (.str "if")) (ag (eC (.str "go")) ai))))) (eT (af fe (af ak (af ak (ae 1) (ae 0)) (da cZ (eC (.int (1))))) (ae 0))) [some (.int q),some (.ref ri)] K=.ok t H1/\Ex K H1/\((t=false/\(if bad q=true then some (W.int q) else none)=none)\/(t=true/\∃w H2,ae 0 [some (.int q),some (.ref ri)] H1=.ok w H2/\Ex H1 H2/\(if bad q=true then some (W.int q) else none)=some w)):=fun h1 h2=>by
    rw[h1] at t1;exact⟨false,K,tF t1,Ex.refl _,.inl ⟨rfl,by rw[h2];rfl⟩⟩
   have yes:∀p:Nat,(decide ("if"=r.x)||decide ("go"=r.x))=true->bad q=decide ((p:Int)<=(q:Int))->af ak (af ak (ae 1) (ae 0)) (da cZ (eC (.int (1)))) [some (.int q),some (.ref ri)] K=.ok (.int p) K->∃t H1,c8 (eT (af eL (af ak (af ak (ae 1) (ae 0)) (eC (.int (0)))) (bH (ag (eC (.str "if")) (ag (eC (.str "go")) ai))))) (eT (af fe (af ak (af ak (ae 1) (ae 0)) (da cZ (eC (.int (1))))) (ae 0))) [some (.int q),some (.ref ri)] K=.ok t H1/\Ex K H1/\((t=false/\(if bad q=true then some (W.int q) else none)=none)\/(t=true/\∃w H2,ae 0 [some (.int q),some (.ref ri)] H1=.ok w H2/\Ex H1 H2/\(if bad q=true then some (W.int q) else none)=some w)):=fun p h1 h2 h3=>by
    rw[h1] at t1;have t2:eT (af fe (af ak (af ak (ae 1) (ae 0)) (da cZ (eC (.int (1))))) (ae 0)) [some (.int q),some (.ref ri)] K=.ok (bad q) K:=by
     refine tB (op h3 rfl ?_);rw[nA,h2];rfl
    refine⟨bad q,K,tT t1 t2,Ex.refl _,?_⟩;cases bad q with
    | false=>exact .inl ⟨rfl,rfl⟩
    | true=>exact .inr ⟨rfl,_,K,rfl,Ex.refl _,rfl⟩
   cases r with
   | iff a p=>exact yes p rfl kC (op B2 rfl rfl)
   | go p=>exact yes p rfl kC (op B2 rfl rfl)
   | set a n=>exact no rfl kC
   | copy a b=>exact no rfl kC
   | c9 a w b c=>exact no rfl kC
   | take a=>exact no rfl kC
   | tell a=>exact no rfl kC
   | turn=>exact no rfl kC
   | fin=>exact no rfl kC)
 obtain⟨ws,Kj⟩:∃ws,ws=(afr R.length).filterMap fun q=>if bad q=true then some (W.int q) else none:=⟨_,rfl⟩
 rw[<- Kj] at x1;have g1:H1[H.length]? =some (.lst ws):=x1.get (bW _ _);have sN:Ex H H1:=(Ex.one _ _).trans x1;have hd:∃ds,bB (dat (H1++[PO.lst []]) 39) ws=some ds:=by
  have:∃l:List Nat,ws=l.map fun q:Nat=>W.int q:=by
   rw[Kj];refine⟨(afr R.length).filter fun q=>bad q,?_⟩;generalize afr R.length=l
   induction l with
   | nil=>rfl
   | cons x l ih=>
    rw[afZ,List.filter_cons,ih];cases bad x <;> rfl
  obtain⟨l,rfl⟩:=this;exact⟨_,jP (dat _ 39) (fun x:Nat=>W.int x) (fun x:Nat=>ahs (x:Int)) (fun x=>li _ 39 x) l⟩
 obtain⟨ds,hd⟩:=hd;obtain⟨H2,e2⟩:∃H2,H2=H1++[PO.lst []]:=⟨_,rfl⟩
 have x2:Ex H1 H2:=e2▸Ex.one _ _;have tt:eT (af aS (cJ (dG (ag (ae 2) ai)) [none,some 3] (gN 0) (c8 (eT (af eL (af ak (af ak (ae 1) (ae 0)) (eC (.int (0)))) (bH (ag (eC (.str "if")) (ag (eC (.str "go")) ai))))) (eT (af fe (af ak (af ak (ae 1) (ae 0)) (da cZ (eC (.int (1))))) (ae 0)))) (ae 0)) (bT ai)) (bV ns o1 (some (.int R.length)) (some (.ref ri)) o4 (some (.int c)) (some (.ref ii)) (some (.int t)) none none none) H=.ok ws.isEmpty H2:=by
  refine tB (op (y:=.ref H1.length) (ph2:=H2) e1 (by rw[e2];rfl) (Hk ?_));rw[e2];exact eq_nil ((Ex.one _ _).get g1) (bW _ _) hd
 obtain⟨T,hT,K,xK,a9⟩:∃T:Nat,T<=10000/\∃K,Ex H K/\Kf (bV ns o1 (some (.int R.length)) (some (.ref ri)) o4 (some (.int c)) (some (.ref ii)) (some (.int t)) none none none) H=.ok (.nx (bV ns o1 (some (.int R.length)) (some (.ref ri)) o4 (some (.int c)) (some (.ref ii)) (some (.int T)) none none none)) K:=by
  cases hw:ws.isEmpty with
  | false=>
   rw[hw] at tt;exact⟨t,by omega,H2,sN.trans x2,ax tt rfl⟩
  | true=>
   rw[hw] at tt;have Kh:m3<2:=by omega
   have ix:∃T:Nat,T<=10000/\cy [W.int t,.int 10000] (m3:Int)=some (.int T):=by
    match m3,Kh with
    | 0,_=>exact⟨t,by omega,rfl⟩
    | 1,_=>exact⟨10000,by omega,rfl⟩
   obtain⟨T,hT,ix⟩:=ix;refine⟨T,hT,H2++[PO.lst [W.int t,.int 10000]],(sN.trans x2).trans (Ex.one _ _),bA tt (asg (mV (aq rfl (aq rfl rfl)) (by show 2<=1000000;decide) (by rw[<- em3];exact md (dv rfl rfl (by decide) (by decide)) rfl (by decide)) ix))⟩
 exact⟨T,K,hT,xK,fun h=>bq a7 (bq a8 (bq a9 h))⟩
theorem YZ{a:Nm}(hN:H[ni]? =some (.lst ((a::NS).map aM))):∃b∈a::NS,∀{e:EM} {σ:aP},e σ H=.ok (.ref ni) H->af ak e (da cZ (eC (.int (1)))) σ H=.ok (aM b) H:=by
 obtain⟨b,hb⟩:∃b,(a::NS)[NS.length]? =some b:=⟨_,afj (by simp)⟩
 refine⟨b,aeV hb,fun{e σ} he=>op he rfl (eV hN ?_)⟩;unfold cy fY;rw[if_neg (by decide),if_pos (by rw[aep];simp;omega),aep,aeO,show(-1+((NS.length+1:Nat):Int)).toNat=NS.length by omega];show((a::NS).map aM)[NS.length]? =_;rw[aeA,hb];rfl
noncomputable def sj(a b:Nm):List Row:=[.turn,.take b,.c9 a .sum a b,.tell a,.go 0]
theorem Y0{a b:Nm}(ha:a∈NS)(hb:b∈NS):e9 NS (sj a b):=by
 have no:∀{r:Row},(∀a n,r≠.set a n)->∀a n,r=.set a n->b9 n:=fun h a n z=>absurd z (h a n)
 refine⟨fun r hr=>?_,fun p y hy k hk=>?_⟩
 ·simp only[sj,aeG,List.not_mem_nil,or_false] at hr
  rcases hr with rfl | rfl | rfl | rfl | rfl
  ·exact⟨fun x hx=>by simp[Row.nm] at hx,no fun _ _ z=>nomatch z⟩
  ·exact⟨fun x hx=>by simp[Row.nm] at hx;rw[hx];exact hb,no fun _ _ z=>nomatch z⟩
  ·refine⟨fun x hx=>?_,no fun _ _ z=>nomatch z⟩;simp only[Row.nm,aeG,List.not_mem_nil,or_false] at hx
   rcases hx with rfl | rfl | rfl
   ·exact ha
   ·exact ha
   ·exact hb
  ·exact⟨fun x hx=>by simp[Row.nm] at hx;rw[hx];exact ha,no fun _ _ z=>nomatch z⟩
  ·exact⟨fun x hx=>by simp[Row.nm] at hx,no fun _ _ z=>nomatch z⟩
 ·have hp:p<5:=(aen.mp hy).1;have:k=0:=by
   match p,hp with
   | 0,_=>cases hy;cases hk
   | 1,_=>cases hy;cases hk
   | 2,_=>cases hy;cases hk
   | 3,_=>cases hy;cases hk
   | 4,_=>cases hy;simpa[Row.to] using hk
  subst this;exact⟨afR _,fun _=>rfl⟩
theorem abF(ns:List Int){c:Int}{a:Nm}{ii T:Nat}{o2:Option W}(hN:H[ni]? =some (.lst ((a::NS).map aM)))(hR:H[ri]? =some (.lst (R.map Row.w)))(ok:e9 (a::NS) R)(hn:R.length<=60)(hi:H[ii]? =some (.lst (I.map W.int)))(hI:∀x∈I,b9 x)(hl:I.length<=8)(hT:T<=10000) :
  ∃R' qf I' B3 T' K,adT (bV ns (some (.ref ni)) o2 (some (.ref ri)) o4 (some (.int c)) (some (.ref ii)) (some (.int T)) none none none) H=.ok (.nx (bV ns (some (.ref ni)) o2 (some (.ref qf)) o4 (some (.int c)) (some (.ref B3)) (some (.int ((T':Nat):Int))) none none none)) K/\Dr H K (a::NS) R' qf/\In H K I' B3 68/\T'<=10000:=by
 have t:∀{K:PH},eT (af aS (af aR (af bg (ae 5) (eC (.int (90)))) (eC (.int (9)))) (eC (.int (2)))) (bV ns (some (.ref ni)) o2 (some (.ref ri)) o4 (some (.int c)) (some (.ref ii)) (some (.int T)) none none none) K=.ok (decide ((c.fdiv 90).fmod 9=2)) K:=fun{K}=>eI (md (dv rfl rfl (by decide) (by decide)) rfl (by decide)) rfl
 by_cases h:(c.fdiv 90).fmod 9=2
 ·rw[decide_eq_true h] at t;obtain⟨m,hm,em⟩:=dz (a:=c.fdiv 810) (n:=460) (by decide);obtain⟨b,hb,lb⟩:=YZ hN;obtain⟨H1,e1⟩:∃H1,H1=H++[PO.lst [Row.turn.w,(Row.take b).w,(Row.c9 a .sum a b).w,(Row.tell a).w]]:=⟨_,rfl⟩
  obtain⟨H2,e2⟩:∃H2,H2=H++[PO.lst ((sj a b).map Row.w)]:=⟨_,rfl⟩
  have g1:H1[H.length]? =some (.lst [Row.turn.w,(Row.take b).w,(Row.c9 a .sum a b).w,(Row.tell a).w]):=by rw[e1];exact bW _ _
  have e12:H1.set H.length (.lst ([Row.turn.w,(Row.take b).w,(Row.c9 a .sum a b).w,(Row.tell a).w]++[(Row.go 0).w]))=H2:=by
   rw[e1,e2,agO _ _ (aeq _),ajK];rfl
  have x2:Ex H H2:=e2▸Ex.one _ _;have g2:H2[H.length]? =some (.lst ((sj a b).map Row.w)):=by rw[e2];exact bW _ _
  have i8:dG (ag (eC (.int (60))) ai) (bV ns (some (.ref ni)) o2 (some (.ref H.length)) o4 (some (.int c)) (some (.ref ii)) (some (.int ((41+m:Nat):Int))) none none none) H2=.ok ((afr 60).map (fun i:Nat=>W.int i),fun _=>true) H2:=by
   refine(oV (j:=60) (aq rfl rfl) (by decide) (by decide)).trans ?_;rw[<- vE];rfl
  obtain⟨J,L,h1,h2⟩:=GN (ns:=ns) (k:=60) (e:=aJ je (ag (af addW (aJ cB (ag (ae 1) (ag (af addW (eC (.int (27))) (af aR (ae 0) (eC (.int (8))))) ai))) (af cC (af cC (eC (.int (7919))) (ae 0)) (ae 0))) ai)) i8 (Ex.refl _) (by decide) rfl (fun j L hj=>by
   obtain⟨r,hr,er⟩:=dz (a:=(j:Int)) (n:=8) (by decide);exact⟨ns.getD ((27:Int)+(r:Int)).toNat 0+7919*(j:Int)*(j:Int),av (aq (ad (cl (i:=27+(r:Int)) rfl (ad rfl (by rw[<- er];exact md rfl rfl (by decide))) (by omega)) (ml (ml rfl rfl (vU (by decide) (by decide))) rfl (mU (by omega) (by omega)))) rfl) rfl⟩)
  have gi:=h2.ex.get (x2.get hi);obtain⟨K,eK⟩:∃K,K=L++[PO.lst ((I++J).map W.int)]:=⟨_,rfl⟩
  have xK:Ex L K:=eK▸Ex.one _ _;refine⟨sj a b,H.length,I++J,L.length,41+m,K,bA t (sq (ph1:=H1) (σ1:=bV ns (some (.ref ni)) o2 (some (.ref H.length)) o4 (some (.int c)) (some (.ref ii)) (some (.int T)) none none none) (asg ?_) (sq (ph1:=H2) (σ1:=bV ns (some (.ref ni)) o2 (some (.ref H.length)) o4 (some (.int c)) (some (.ref ii)) (some (.int T)) none none none) ?_ (sq (ph1:=H2) (σ1:=bV ns (some (.ref ni)) o2 (some (.ref H.length)) o4 (some (.int c)) (some (.ref ii)) (some (.int ((41+m:Nat):Int))) none none none) ?_ (asg (op (x:=.ref ii) (ph1:=H2) rfl h1 ?_))))),⟨(x2.trans h2.ex).trans xK,xK.get (h2.ex.get g2),Y0 afw hb,by show 5<=60;decide⟩,⟨(x2.trans h2.ex).trans xK,by rw[eK];exact bW _ _,fun x hx=>?_,?_⟩,by omega⟩
  ·rw[e1];exact av (aq (tp (aq rfl rfl) rfl) (aq (tp (aq rfl (aq (lb rfl) rfl)) rfl) (aq (tp (aq rfl (aq (rM hN rfl) (aq rfl (aq (rM hN rfl) (aq (lb rfl) rfl))))) rfl) (aq (tp (aq rfl (aq (rM hN rfl) rfl)) rfl) rfl)))) (k9 _ H (small (by show 4<=1000000;decide)))
  ·rw[<- e12];exact sP rfl ⟨_,g1⟩ (tp (aq rfl (aq rfl rfl)) rfl) g1 (by show 4<1000000;decide)
  ·rw[show((41+m:Nat):Int)=41+(m:Int) by omega,<- em];exact asg (ad rfl (md (dv rfl rfl (by decide) (by decide)) rfl (by decide)))
  ·have:=h2.le;rw[vq gi h2.g (small (by rw[aep,aep];omega)),eK,age]
  ·rcases afs.mp hx with z | z
   ·exact hI x z
   ·exact h2.sm x z
  ·have:=h2.le;rw[aeI];omega
 ·rw[decide_eq_false h] at t;exact⟨R,ri,I,ii,T,H,ax t rfl,⟨Ex.refl _,hR,ok,hn⟩,⟨Ex.refl _,hi,hI,by omega⟩,hT⟩
theorem FI{α β:Type}{f:α->Option β}:∀{l:List α} {D:List β},l.length=D.length->(∀(j:Nat) a d,l[j]? =some a->D[j]? =some d->f a=some d)->bB f l=some D
 | [],[],_,_=>rfl
 | [],_::_,h,_=>by simp at h
 | _::_,[],h,_=>by simp at h
 | a::l,d::D,h,k=>mc (k 0 a d rfl rfl) (FI (by simpa using h) fun j x y hx hy=>k (j+1) x y (by simpa using hx) (by simpa using hy))
theorem ER(nk:∀a∈NS,dX a)(ok:e9 NS R)(H:PH)(n:Nat):bB (dat H (n+1)) (R.map Row.w)=some (R.map Row.d):=by
 refine FI (by simp) fun j a d ha hd=>?_
 rw[aeA] at ha hd;obtain⟨r,hr,rfl⟩:=aeC.mp ha;rw[hr] at hd;cases hd;exact zQ H n fun a ha=>nk a ((ok.ok r (aeV hr)).1 a ha)
theorem FJ(v:Int)(H:PH):l8 [.int v] H=.ok (.bl true) H:=by
 unfold l8 kI;rw[iy];exact br (BZ rfl rfl)
theorem vf(I:List Int)(H:PH)(n:Nat):bB (dat H n) (I.map W.int)=some (I.map ahs):=jP (dat H n) W.int ahs (fun x=>li H n x) I
theorem W4{s:S}{y:Row}(h:dY I p s y=.inr (q,s')):s'.told.length<=s.told.length+1:=by
 cases y with
 | turn=>
  by_cases h0:s.tn=0
  ·simp only[dY,if_pos h0] at h;cases h
  ·simp only[dY,if_neg h0] at h;cases h;exact afM _
 | c9 a w b c=>
  by_cases h0:w.dI=true/\gt s.st c=0
  ·simp only[dY,if_pos h0] at h;cases h
  ·simp only[dY,if_neg h0] at h;cases h;exact afM _
 | tell a=>cases h;show(s.told++[gt s.st a]).length<=_;rw[aeI];exact aeq _
 | fin=>cases h
 | _=>cases h;exact afM _
theorem ES{I:List Int}{R:List Row}:∀(f q:Nat) (s:S),(dB I R f q s).2.1.length<=s.told.length+f
 | 0,_,s=>aeq _
 | f+1,q,s=>by
  unfold dB;cases e:dY I q s (R.getD q .fin) with
  | inl x=>exact Nat.le_add_right _ _
  | inr p=>
   have h1:=W4 (q:=p.1) (s':=p.2) e;have h2:=ES (I:=I) (R:=R) f p.1 p.2;show(dB I R f p.1 p.2).2.1.length<=_;omega
section
variable{NS:List Nm}{R:List Row}{I:List Int}{H:PH}{ri ii T:Nat}
theorem Y1(hR:H[ri]? =some (.lst (R.map Row.w)))(nk:∀a∈NS,dX a)(hN:NS.length<=12)(ok:e9 NS R)(hn:R.length<=60)(hi:H[ii]? =some (.lst (I.map W.int)))(hI:∀x∈I,b9 x)(hl:I.length<=68)(hT:T<=10000){f:Nat}(hf:f<=900000)(hF:ke (dB I R f 0 ⟨[],[],0,(T:Int)⟩)) :
  ∃(K:PH) (x:String) (s':S) (ti:Nat),uj [.ref ri,.ref ii,.int T] H=.ok (.tup [.str (aei x),.ref ti,.int s'.tk]) K/\Ex H K/\K[ti]? =some (.lst (s'.told.map W.int))/\dB I R f 0 ⟨[],[],0,(T:Int)⟩=s'.by x:=by
 obtain⟨w,H1,e1,x1⟩:=abv hR nk hN ok hn;obtain⟨H2,e2,x2⟩:=YU (x1.get hi) hI (by omega) hT;obtain⟨K,x,s',e3,x3,g3,q3⟩:=acS (x2.get (x1.get hR)) ok (x2.get (x1.get hi)) hI hf hF;refine⟨K,x,s',_,?_,(x1.trans x2).trans x3,g3,q3⟩;unfold uj l7;rw[g6];exact bq (av (av (aq rfl rfl) e1) rfl) (bq (av (av (aq rfl (aq rfl rfl)) e2) rfl) (br (av (aq rfl (aq rfl (aq rfl rfl))) e3)))
theorem abG(ns:List Int){o1 o2 o4 o5:Option W}(hR:H[ri]? =some (.lst (R.map Row.w)))(nk:∀a∈NS,dX a)(hN:NS.length<=12)(ok:e9 NS R)(hn:R.length<=60)(hi:H[ii]? =some (.lst (I.map W.int)))(hI:∀x∈I,b9 x)(hl:I.length<=68)(hT:T<=10000) :
  ∃ph',aw (aD (aO (bT (ag (bv il (ag (ae 3) ai)) (ag (bv il (ag (ae 6) ai)) ai))) (gN 8)) (aD (aO (aJ uj (ag (af ak (ae 8) (eC (.int (0)))) (ag (af ak (ae 8) (eC (.int (1)))) (ag (ae 7) ai)))) (gN 9)) (aD (aO (aJ qj (ag (ae 3) (ag (ae 6) (ag (ae 7) ai)))) (gN 10)) (aD (aX (cU (dj (dq (el "tuple" (ae 9)))) (cU (eT (af cz (bv bU (ag (ae 9) ai)) (eC (.int (3))))) (cU (eT (af cz (ae 9) (ae 10))) (eT (af cz (ae 8) (bT (ag (ae 3) (ag (ae 6) ai)))))))) (bc (eC (.bl false))) bu) (aD (aX (cU (dj (dq (el "str" (af ak (ae 9) (eC (.int (0))))))) (cU (dj (dq (el "list" (af ak (ae 9) (eC (.int (1))))))) (dj (dq (aJ l8 (ag (af ak (ae 9) (eC (.int (2)))) ai)))))) (bc (eC (.bl false))) bu) (bc (bv jB (ag (cJ (fR (af ak (ae 9) (eC (.int (1))))) [none] (gN 0) cY (aJ l8 (ag (ae 0) ai))) ai))))))) (bV ns o1 o2 (some (.ref ri)) o4 o5 (some (.ref ii)) (some (.int T)) none none none)) ei H=.ok (.bl true) ph':=by
 have hF:ke (dB I R (T*(R.length+2)+(R.length+2)) 0 ⟨[],[],0,(T:Int)⟩):=vG ok _ 0 T _ (afR _) rfl (by split <;> omega);have hf:T*(R.length+2)+(R.length+2)<=900000:=by
  have:T*(R.length+2)<=10000*62:=Nat.mul_le_mul hT (by omega);omega
 obtain⟨H1,e1⟩:∃H1,H1=H++[PO.lst (R.map Row.w)]:=⟨_,rfl⟩
 obtain⟨H2,e2⟩:∃H2,H2=H1++[PO.lst (I.map W.int)]:=⟨_,rfl⟩
 obtain⟨H3,e3⟩:∃H3,H3=H2++[PO.lst [.ref H.length,.ref H1.length]]:=⟨_,rfl⟩
 have x1:Ex H H1:=e1▸Ex.one _ _;have x2:Ex H1 H2:=e2▸Ex.one _ _;have x3:Ex H2 H3:=e3▸Ex.one _ _;have g1:H3[H.length]? =some (.lst (R.map Row.w)):=x3.get (x2.get (by rw[e1];exact bW _ _));have g2:H3[H1.length]? =some (.lst (I.map W.int)):=x3.get (by rw[e2];exact bW _ _);have g3:H3[H2.length]? =some (.lst [.ref H.length,.ref H1.length]):=by rw[e3];exact bW _ _
 have yb:=(x1.trans x2).trans x3;obtain⟨H4,x,s,ti,f1,x4,g4,q4⟩:=Y1 g1 nk hN ok hn g2 hI hl hT hf hF;obtain⟨H5,y,s2,f2,x5,g5,q5⟩:=acU (x4.get (yb.get hR)) ok (x4.get (yb.get hi)) hI hf hF;rw[q4] at q5;have qx:x=y:=congrArg (·.1) q5;have qt:s.told=s2.told:=congrArg (·.2.1) q5;have qk:s.tk=s2.tk:=congrArg (·.2.2) q5;subst qx;rw[<- qt] at g5;rw[<- qk] at f2;have tl:s.told.length<=1000000:=by
  have:=ES (I:=I) (R:=R) (T*(R.length+2)+(R.length+2)) 0 ⟨[],[],0,(T:Int)⟩;rw[q4] at this;exact aeW this (by show 0+_<=_;omega)
 obtain⟨H6,e6⟩:∃H6,H6=H5++[PO.lst [.ref ri,.ref ii]]:=⟨_,rfl⟩
 have x6:Ex H5 H6:=e6▸Ex.one _ _;have sW:Ex H3 H6:=(x4.trans x5).trans x6;have B4:=x6.get (x5.get g4);obtain⟨H7,e7,x7⟩:=mE s.told W.int (cap:=[none]) (g:=gN 0) (c:=cY) (e:=aJ l8 (ag (ae 0) ai)) (σ:=bV ns o1 o2 (some (.ref ri)) o4 o5 (some (.ref ii)) (some (.int T)) (some (.ref H2.length)) (some (.tup [.str (aei x),.ref ti,.int s.tk])) (some (.tup [.str (aei x),.ref (H4.length+1),.int s.tk]))) (ph:=H6) (ph0:=H6) (im:=fR (af ak (ae 9) (eC (.int (1))))) (qF rfl B4) (fun p y=>decide_eq_true (y.get B4)) (small tl) (fun _=>some (.bl true)) (fun σ=>∃o,σ=[o]) ⟨none,rfl⟩
  (fun v _ σ K hS _=>by
   obtain⟨o,rfl⟩:=hS;exact⟨_,rfl,⟨_,rfl⟩,true,K,rfl,Ex.refl _,.inr ⟨rfl,_,K,av (aq rfl rfl) (FJ v K),Ex.refl _,rfl⟩⟩)
 rw[oK] at x7;have d1:dat H5 40 (.tup [.str (aei x),.ref ti,.int s.tk])=some (.tuple [.str (aei x),.list (s.told.map ahs),.int s.tk]):=iL (mc (ic H5 39 x) (mc (kZ (x5.get g4) (vf _ _ _)) (mc (li ..) rfl)));have d2:dat H5 40 (.tup [.str (aei x),.ref (H4.length+1),.int s.tk])=some (.tuple [.str (aei x),.list (s.told.map ahs),.int s.tk]):=iL (mc (ic H5 39 x) (mc (kZ g5 (vf _ _ _)) (mc (li ..) rfl)));have d3:dat H6 40 (.ref H2.length)=some (.list [.list (R.map Row.d),.list (I.map ahs)]):=kZ (sW.get g3) (mc (kZ (sW.get g1) (ER nk ok H6 37)) (mc (kZ (sW.get g2) (vf _ _ _)) rfl));have d4:dat H6 40 (.ref H5.length)=some (.list [.list (R.map Row.d),.list (I.map ahs)]):=kZ (by rw[e6];exact bW _ _) (mc (kZ (sW.get (yb.get hR)) (ER nk ok H6 37)) (mc (kZ (sW.get (yb.get hi)) (vf _ _ _)) rfl));refine⟨H7,?_⟩;refine bq (ph1:=H3) (σ1:=bV ns o1 o2 (some (.ref ri)) o4 o5 (some (.ref ii)) (some (.int T)) (some (.ref H2.length)) none none) (asg ?_) (bq (ph1:=H4) (σ1:=bV ns o1 o2 (some (.ref ri)) o4 o5 (some (.ref ii)) (some (.int T)) (some (.ref H2.length)) (some (.tup [.str (aei x),.ref ti,.int s.tk])) none) (asg (av (aq (w:=.ref H.length) (ph1:=H3) (op rfl rfl (eV g3 rfl)) (aq (w:=.ref H1.length) (ph1:=H3) (op rfl rfl (eV g3 rfl)) (aq rfl rfl))) f1)) (bq (ph1:=H5) (σ1:=bV ns o1 o2 (some (.ref ri)) o4 o5 (some (.ref ii)) (some (.int T)) (some (.ref H2.length)) (some (.tup [.str (aei x),.ref ti,.int s.tk])) (some (.tup [.str (aei x),.ref (H4.length+1),.int s.tk]))) (asg (av (aq rfl (aq rfl (aq rfl rfl))) f2)) (bq (ph1:=H6) (ax (IL.K03.oF (gb (c:=true) (eB rfl)) (IL.K03.oF (B1 (c:=true) (g:=3) rfl rfl) (IL.K03.oF (tB (op rfl rfl (AE (Gr d1 d2)))) (tB (op (ph1:=H5) (x:=.ref H2.length) (y:=.ref H5.length) (ph2:=H6) rfl ?_ (AE (Gr d3 d4))))))) rfl) (bq (ph1:=H6) (ax (IL.K03.oF (gb (c:=true) (eB rfl)) (IL.K03.oF (gb (c:=true) (eB (av rfl (z6 B4)))) (gb (c:=true) (eB (av (aq rfl rfl) (FJ _ _)))))) rfl) (br (av (aq e7 rfl) (wH (x7.get (bW _ _)))))))))
 ·rw[e3];refine av (aq (w:=.ref H.length) (ph1:=H1) (by rw[e1];exact av (aq rfl rfl) (uX hR)) (aq (w:=.ref H1.length) (ph1:=H2) (by rw[e2];exact av (aq rfl rfl) (uX (x1.get hi))) rfl)) (k9 _ H2 (small (by show 2<=1000000;decide)))
 ·rw[e6];exact av (aq rfl (aq rfl rfl)) (k9 _ H5 (small (by show 2<=1000000;decide)))
end
theorem good(ns:List Int)(bD:ns.length<=63):∃ph',rE [.fl (ns.map W.int)] []=.ok (.bl true) ph':=by
 obtain⟨m,hm,em⟩:=dz (a:=ns.getD 1 0) (n:=12) (by decide);obtain⟨NS,H1,e1,x1,g1,l1,nk⟩:=YK (ns.getD 0 0) (m+1) (by omega) [];cases NS with
 | nil=>simp at l1
 | cons a NS=>
 have adV:(a::NS).length<=12:=by omega
 obtain⟨q,hq,eq⟩:=dz (a:=(ns.getD 1 0).fdiv 12) (n:=25) (by decide);obtain⟨q2,hq2,eq2⟩:=dz (a:=(ns.getD 1 0).fdiv 2400) (n:=36) (by decide);obtain⟨n,hn,h3⟩:∃n:Nat,n<=60/\gJ (bV ns (some (.ref 0)) (some (.int q)) none none none none none none none none) H1=.ok (.nx (bV ns (some (.ref 0)) (some (.int n)) none none none none none none none none)) H1:=by
  have c1:∀{o:Option W},aJ cB (ag (ae 0) (ag (eC (.int (1))) ai)) (bV ns (some (.ref 0)) o none none none none none none none none) H1=.ok (.int (ns.getD 1 0)) H1:=fun{o}=>cl (i:=1) rfl rfl (by decide)
  by_cases h:((ns.getD 1 0).fdiv 300).fmod 8=1
  ·refine⟨25+q2,by omega,bA (eI (md (dv c1 rfl (by decide) (by decide)) rfl (by decide)) (decide_eq_true h)) ?_⟩;rw[show((25+q2:Nat):Int)=25+(q2:Int) by omega,<- eq2];exact asg (ad rfl (md (dv c1 rfl (by decide) (by decide)) rfl (by decide)))
  ·exact⟨q,by omega,ax (eI (md (dv c1 rfl (by decide) (by decide)) rfl (by decide)) (decide_eq_false h)) rfl⟩
 obtain⟨R,H2,e2,x2,g2,l2,ok⟩:=abm ns (ni:=0) (n:=n) g1 (fun z=>nomatch z) nk hn;obtain⟨R1,r1,o4,H3,e3,D3⟩:=YX ns (x2.get g1) g2 ok (by omega);obtain⟨I,ii,H4,e4,N4⟩:=adU ns (H:=H3) (c:=ns.getD 2 0) (o1:=some (.ref 0)) (o2:=some (.int R1.length)) (o3:=some (.ref r1)) (o4:=o4);have gn4:=N4.ex.get (D3.ex.get (x2.get g1));subst l2;have s1:aO (aJ tR (ag (aJ cB (ag (ae 0) (ag (eC (.int (0))) ai))) (ag (af addW (eC (.int (1))) (af aR (aJ cB (ag (ae 0) (ag (eC (.int (1))) ai))) (eC (.int (12))))) ai))) (gN 1) (bV ns none none none none none none none none none none) []=.ok (.nx (bV ns (some (.ref 0)) none none none none none none none none none)) H1:=by
  refine asg (av (aq (cl (i:=0) rfl rfl (by decide)) (aq (w:=.int ((m+1:Nat):Int)) ?_ rfl)) e1);rw[show((m+1:Nat):Int)=1+(m:Int) by omega,<- em];exact ad rfl (md (cl (i:=1) rfl rfl (by decide)) rfl (by decide))
 have s2:aO (af aR (af bg (aJ cB (ag (ae 0) (ag (eC (.int (1))) ai))) (eC (.int (12)))) (eC (.int (25)))) (gN 2) (bV ns (some (.ref 0)) none none none none none none none none none) H1=.ok (.nx (bV ns (some (.ref 0)) (some (.int q)) none none none none none none none none)) H1:=by
  rw[<- eq];exact asg (md (dv (cl (i:=1) rfl rfl (by decide)) rfl (by decide) (by decide)) rfl (by decide))
 obtain⟨T,K,hT,xK,h7⟩:=YY ns (c:=ns.getD 2 0) (ii:=ii) (o1:=some (.ref 0)) (o4:=o4) (N4.ex.get D3.g) D3.le;obtain⟨R',qf,I',B3,T',K',e10,B5,B6,hT'⟩:=abF ns (c:=ns.getD 2 0) (o2:=some (.int R1.length)) (o4:=o4) (T:=T) (xK.get gn4) (xK.get (N4.ex.get D3.g)) D3.ok D3.le (xK.get N4.g) N4.sm N4.le hT;obtain⟨ph',h⟩:=abG ns (o1:=some (.ref 0)) (o2:=some (.int R1.length)) (o4:=o4) (o5:=some (.int (ns.getD 2 0))) B5.g nk adV B5.ok B5.le B6.g B6.sm B6.le hT';refine⟨ph',?_⟩;unfold rE pw;rw[iy];exact bq s1 (bq s2 (bq h3 (bq (ph1:=H2) (σ1:=bV ns (some (.ref 0)) (some (.int R.length)) (some (.ref H1.length)) none none none none none none none) (asg (av (aq rfl (aq rfl (aq rfl (aq rfl rfl)))) e2)) (bq e3 (bq (ph1:=H3) (σ1:=bV ns (some (.ref 0)) (some (.int R1.length)) (some (.ref r1)) o4 (some (.int (ns.getD 2 0))) none none none none none) (asg (cl (i:=2) rfl rfl (by decide))) (bq e4 (h7 (bq e10 h))))))))
end IL.K03
open PySem PySem.W PyProof.Rows
noncomputable def PySem.W.Fast.tw9693922248985609163:Nat:=0
theorem PySem.W.Fast.te9693922248985609163:True:=agD
noncomputable def PySem.W.Fast.tw7921287863464283536:PySem.Program:=aej
theorem PySem.W.Fast.te7921287863464283536:aej=PySem.W.Fast.tw7921287863464283536:=rfl
noncomputable def PySem.W.Fast.tw4637217195267637382:PySem.Program:={ aej with main:={ aej.main with body:=(aej.main.body.drop 1).take 4++(aej.main.body.drop 6).take 6++(aej.main.body.drop 13).take 14++(aej.main.body.drop 28).take 9++aej.main.body.drop 38 } }
theorem PySem.W.Fast.te4637217195267637382:PySem.W.Fast.tw4637217195267637382=PySem.W.Fast.tw4637217195267637382:=rfl
noncomputable def PySem.W.Fast.tw12128007323475564013:List PySem.Stmt:=(aej.main.body.drop 33).take 13
theorem PySem.W.Fast.te12128007323475564013:PySem.W.Fast.tw12128007323475564013=PySem.W.Fast.tw12128007323475564013:=rfl
noncomputable def PySem.W.Fast.tw13663543785219498422:List PySem.Stmt:=aej.main.body.drop 46
theorem PySem.W.Fast.te13663543785219498422:PySem.W.Fast.tw13663543785219498422=PySem.W.Fast.tw13663543785219498422:=rfl
noncomputable def PySem.W.Fast.tw4345716211632351425:List PySem.Stmt:=(aej.main.body.drop 4).take 11
theorem PySem.W.Fast.te4345716211632351425:PySem.W.Fast.tw4345716211632351425=PySem.W.Fast.tw4345716211632351425:=rfl
noncomputable def PySem.W.Fast.tw17859900696855558940:List PySem.Stmt:=(aej.main.body.drop 3).take 1
theorem PySem.W.Fast.te17859900696855558940:PySem.W.Fast.tw17859900696855558940=PySem.W.Fast.tw17859900696855558940:=rfl
noncomputable def PySem.W.Fast.tw4004661605486394459:List PySem.Stmt:=(aej.main.body.drop 2).take 1
theorem PySem.W.Fast.te4004661605486394459:PySem.W.Fast.tw4004661605486394459=PySem.W.Fast.tw4004661605486394459:=rfl
noncomputable def PySem.W.Fast.tw14370379711577976735:List PySem.Stmt:=(aej.main.body.drop 15).take 10
theorem PySem.W.Fast.te14370379711577976735:PySem.W.Fast.tw14370379711577976735=PySem.W.Fast.tw14370379711577976735:=rfl
noncomputable def PySem.W.Fast.tw9716068474160423650:List PySem.Stmt:=aej.main.body.take 2
theorem PySem.W.Fast.te9716068474160423650:PySem.W.Fast.tw9716068474160423650=PySem.W.Fast.tw9716068474160423650:=rfl
noncomputable def PySem.W.Fast.tw3745916937136838999:List PySem.Stmt:=(aej.main.body.drop 25).take 8
theorem PySem.W.Fast.te3745916937136838999:PySem.W.Fast.tw3745916937136838999=PySem.W.Fast.tw3745916937136838999:=rfl
noncomputable def qg(i:Nat):PySem.Stmt:=aej.main.body.getD i (.Pass ⟨0,0,0,0⟩)
noncomputable def cA(n:PySem.Str)(i:Nat)(_:PySem.Params):PySem.Obj:=⟨.none,none,.func ⟨n,n,L2.b0 (qg i),.stmts (L2.aZ (qg i)),L2.ah (qg i),0,[],.none,.none,.none,.none,none,.none,.none,0⟩,#[]⟩
noncomputable def yc(m:PySem.Str)(t:Nat)(n:PySem.Str)(i c:Nat)(_:PySem.Params):PySem.Obj:=⟨.type "function",none,.func ⟨n,n,L2.b0 (qg i),.stmts (L2.aZ (qg i)),L2.ah (qg i),3,[],.none,.none,.none,.str m t,none,.ref c,.none,0⟩,#[]⟩
noncomputable def nC:=yc "boxwright.firstrun" 419
noncomputable def kf:=yc "boxwright.programs" 306
noncomputable def iA:=yc "law_boxwright_k03_first_runs" 514
noncomputable def xl:=yc "boxwright.deeds" 264
namespace PySem.W.Fast
def tw9024196777224817495:=cA "_law_whole" 48
def te9024196777224817495:=aeQ tw9024196777224817495
def tw13413172294141570300:=cA "is_place" 20
def te13413172294141570300:=aeQ tw13413172294141570300
def tw6925092796820102852:=nC "outcome" 34 222
def te6925092796820102852:=aeQ tw6925092796820102852
def tw17105731637413622463:=nC "do_row" 33 215
def te17105731637413622463:=aeQ tw17105731637413622463
def tw2130857906439950016:=cA "jumps_back_badly" 24
def te2130857906439950016:=aeQ tw2130857906439950016
def tw16702052002604288450:=kf "jumps_back_badly" 24 152
def te16702052002604288450:=aeQ tw16702052002604288450
def tw4830925849830723792:=kf "parts_of_kind" 23 145
def te4830925849830723792:=aeQ tw4830925849830723792
def tw740937902430728497:=iA "_law_names_by" 39 246
def te740937902430728497:=aeQ tw740937902430728497
def tw13144674598862527201:=cA "need_program" 26
def te13144674598862527201:=aeQ tw13144674598862527201
def tw2854184039782636279:=iA "_law_row_by" 42 267
def te2854184039782636279:=aeQ tw2854184039782636279
def tw4698898903710092133:=cA "is_part" 21
def te4698898903710092133:=aeQ tw4698898903710092133
def tw13785101617807388242:=kf "is_place" 20 128
def te13785101617807388242:=aeQ tw13785101617807388242
def tw4141914327252950431:=iA "_law_number_by" 40 253
def te4141914327252950431:=aeQ tw4141914327252950431
def tw1637845928811540676:=xl "fit" 9 85
def te1637845928811540676:=aeQ tw1637845928811540676
def tw11549619185089727831:=cA "_law_fit" 44
def te11549619185089727831:=aeQ tw11549619185089727831
def tw4443458089568170029:=cA "law" 49
def te4443458089568170029:=aeQ tw4443458089568170029
def tw3797375366508056180:=cA "do_row" 33
def te3797375366508056180:=aeQ tw3797375366508056180
def tw1980266708235475840:=cA "_law_jump_by" 41
def te1980266708235475840:=aeQ tw1980266708235475840
def tw73858453524333629:=cA "_law_number_by" 40
def te73858453524333629:=aeQ tw73858453524333629
def tw6711457933105982459:=nC "need_run" 35 227
def te6711457933105982459:=aeQ tw6711457933105982459
def tw4570688944065192973:=cA "parts_of_kind" 23
def te4570688944065192973:=aeQ tw4570688944065192973
def tw16608844003124644559:=cA "_law_cell_at" 38
def te16608844003124644559:=aeQ tw16608844003124644559
def tw10182324017065036769:=cA "is_row" 22
def te10182324017065036769:=aeQ tw10182324017065036769
def tw5314782632117648791:=cA "held" 30
def te5314782632117648791:=aeQ tw5314782632117648791
def tw15211212433628747998:=iA "_law_rows_by" 43 274
def te15211212433628747998:=aeQ tw15211212433628747998
def tw13011662857223735350:=cA "make_turn" 32
def te13011662857223735350:=aeQ tw13011662857223735350
def tw12182585332020833421:=nC "taken" 31 201
def te12182585332020833421:=aeQ tw12182585332020833421
def tw13931158963445515911:=cA "_law_rows_by" 43
def te13931158963445515911:=aeQ tw13931158963445515911
def tw9326982428489487766:=iA "_law_jump_by" 41 260
def te9326982428489487766:=aeQ tw9326982428489487766
def tw6937789154529080862:=cA "is_number" 8
def te6937789154529080862:=aeQ tw6937789154529080862
def tw3519387334406471023:=kf "is_row" 22 140
def te3519387334406471023:=aeQ tw3519387334406471023
def tw639881522661167750:=cA "_law_shifted" 47
def te639881522661167750:=aeQ tw639881522661167750
def tw14986282894711457364:=cA "outcome" 34
def te14986282894711457364:=aeQ tw14986282894711457364
def tw18195951613020809372:=cA "reckoned" 11
def te18195951613020809372:=aeQ tw18195951613020809372
def tw14537695700843010136:=kf "is_name" 18 114
def te14537695700843010136:=aeQ tw14537695700843010136
def tw16228493986672286152:=cA "need_run" 35
def te16228493986672286152:=aeQ tw16228493986672286152
def tw6130530369129646498:=iA "_law_fit" 44 281
def te6130530369129646498:=aeQ tw6130530369129646498
def tw8458375321305563846:=kf "need_program" 26 166
def te8458375321305563846:=aeQ tw8458375321305563846
def tw5592682441180779573:=iA "_law_whole" 48 309
def te5592682441180779573:=aeQ tw5592682441180779573
def tw6029803389054172263:=cA "_law_first_run" 46
def te6029803389054172263:=aeQ tw6029803389054172263
def tw6564320976157086019:=cA "is_name" 18
def te6564320976157086019:=aeQ tw6564320976157086019
def tw5088237768823439271:=cA "with_names_of" 25
def te5088237768823439271:=aeQ tw5088237768823439271
def tw9929727799007399648:=iA "law" 49 314
def te9929727799007399648:=aeQ tw9929727799007399648
def tw12387271986110410902:=cA "parted" 10
def te12387271986110410902:=aeQ tw12387271986110410902
def tw5451379084599937805:=nC "make_turn" 32 208
def te5451379084599937805:=aeQ tw5451379084599937805
def tw13735037824115346518:=iA "_law_shifted" 47 302
def te13735037824115346518:=aeQ tw13735037824115346518
def tw4398142829785037224:=iA "_law_first_run" 46 295
def te4398142829785037224:=aeQ tw4398142829785037224
def tw12591210982648838519:=nC "first_run" 36 234
def te12591210982648838519:=aeQ tw12591210982648838519
def tw1444198906385603529:=xl "parted" 10 92
def te1444198906385603529:=aeQ tw1444198906385603529
def tw14556769186342478477:=cA "fit" 9
def te14556769186342478477:=aeQ tw14556769186342478477
def tw7635034980982991166:=xl "is_number" 8 78
def te7635034980982991166:=aeQ tw7635034980982991166
def tw7816499299042822431:=cA "_law_row_by" 42
def te7816499299042822431:=aeQ tw7816499299042822431
def tw5087020907161538444:=iA "_law_cell_at" 38 241
def te5087020907161538444:=aeQ tw5087020907161538444
def tw5227174108373643216:=cA "is_word" 19
def te5227174108373643216:=aeQ tw5227174108373643216
def tw559608861810145636:=cA "first_run" 36
def te559608861810145636:=aeQ tw559608861810145636
def tw10946309619404103142:=cA "_law_deed" 45
def te10946309619404103142:=aeQ tw10946309619404103142
def tw3333827519008176276:=kf "is_word" 19 121
def te3333827519008176276:=aeQ tw3333827519008176276
def tw2328413546053799579:=xl "reckoned" 11 99
def te2328413546053799579:=aeQ tw2328413546053799579
def tw16513721559359206753:=cA "_law_names_by" 39
def te16513721559359206753:=aeQ tw16513721559359206753
def tw3049090900301034159:=nC "held" 30 194
def te3049090900301034159:=aeQ tw3049090900301034159
def tw13261144345191519135:=cA "taken" 31
def te13261144345191519135:=aeQ tw13261144345191519135
def tw11262233388201002802:=kf "is_part" 21 135
def te11262233388201002802:=aeQ tw11262233388201002802
def tw17867971349884097131:=kf "with_names_of" 25 159
def te17867971349884097131:=aeQ tw17867971349884097131
def tw3685885751235787508:=iA "_law_deed" 45 288
def te3685885751235787508:=aeQ tw3685885751235787508
end PySem.W.Fast
set_option maxHeartbeats 0 in
theorem PySem.Challenge.cw_boxwright_k03_first_runs_holds : PySem.Challenge.rw_boxwright_k03_first_runs.Holds := by
 w_on
 o_law
 k_head
 (case hw=>w_witness2)
 k_fill
 refine IL.K03.WX (l:=PySem.Challenge.rw_boxwright_k03_first_runs) (fun ns hn=>IL.K03.good ns hn) rfl rfl (fun w h Y=>PySem.W.kIn_of Y) ?K ?T ?F
 case K=>intro w;kernel_rfl
 case T=>
  intro w h Y;refine IL.Yo ?_
  kernel_rfl
 case F=>
  intro w mg fa h KX G hmg;refine' IL.K03.all_mk KX G hmg ?a_law_cell_at ?l_law_cell_at ?c_law_cell_at ?k_law_cell_at ?a_law_names_by ?l_law_names_by ?c_law_names_by ?k_law_names_by ?a_law_number_by ?l_law_number_by ?c_law_number_by ?k_law_number_by ?a_law_jump_by ?l_law_jump_by ?c_law_jump_by ?k_law_jump_by ?a_law_row_by ?l_law_row_by ?c_law_row_by ?k_law_row_by ?a_law_rows_by ?l_law_rows_by ?c_law_rows_by ?k_law_rows_by ?a_law_shifted ?l_law_shifted ?c_law_shifted ?k_law_shifted ?a_is_name ?l_is_name ?c_is_name ?k_is_name ?a_is_number ?l_is_number ?c_is_number ?k_is_number ?a_is_word ?l_is_word ?c_is_word ?k_is_word ?a_is_place ?l_is_place ?c_is_place ?k_is_place ?a_is_part ?l_is_part ?c_is_part ?k_is_part ?a_is_row ?l_is_row ?c_is_row ?k_is_row ?a_parts_of_kind ?l_parts_of_kind ?c_parts_of_kind ?k_parts_of_kind ?a_jumps_back_badly ?l_jumps_back_badly ?c_jumps_back_badly ?k_jumps_back_badly ?a_with_names_of ?l_with_names_of ?c_with_names_of ?k_with_names_of ?a_need_program ?l_need_program ?c_need_program ?k_need_program ?a_need_run ?l_need_run ?c_need_run ?k_need_run ?a_Run_init ?i_Run_init ?l_Run_init ?c_Run_init ?k_Run_init ?a_held ?l_held ?c_held ?k_held ?a_fit ?l_fit ?c_fit ?k_fit ?a_parted ?l_parted ?c_parted ?k_parted ?a_reckoned ?l_reckoned ?c_reckoned ?k_reckoned ?a_taken ?l_taken ?c_taken ?k_taken ?a_make_turn ?l_make_turn ?c_make_turn ?k_make_turn ?a_do_row ?l_do_row ?c_do_row ?k_do_row ?a_outcome ?l_outcome ?c_outcome ?k_outcome ?a_first_run ?l_first_run ?c_first_run ?k_first_run ?a_law_fit ?l_law_fit ?c_law_fit ?k_law_fit ?a_law_deed ?l_law_deed ?c_law_deed ?k_law_deed ?a_law_first_run ?l_law_first_run ?c_law_first_run ?k_law_first_run ?a_law_whole ?l_law_whole ?c_law_whole ?k_law_whole ?a_law ?l_law ?c_law ?k_law ?z_all ?z_bool ?z_enumerate ?z_int ?z_isinstance ?z_len ?z_list ?z_range ?z_str ?z_tuple ?z_zip ?g_FORMS ?gk_FORMS ?g_HALF ?g_LETTERS ?g_MOST_LETTERS ?g_MOST_NAMES ?g_MOST_ROWS ?g_MOST_TURNS ?g_WORDS ?gk_WORDS ?x_BadRun ?xi_BadRun ?x_Run ?pg_Run ?hd_Run ?po_Run ?sa_Run ?mk_Run ?kc_Run ?na_at_Run ?na_holds_Run ?na_inputs_Run ?na_takes_Run ?na_told_Run ?na_turns_left_Run ?na_word_Run ?x_ByNought ?xk_ByNought ?xi_ByNought ?xt_ByNought ?y_su_ByNought_ByNought
  (case x_BadRun=>k_is)
  (case x_Run=>k_is)
  (case x_ByNought=>k_is)
  (case a_law_cell_at=>k_is)
  (case l_law_cell_at=>k_is)
  (case c_law_cell_at=>k_is)
  (case k_law_cell_at=>k_is)
  (case a_law_names_by=>k_is)
  (case l_law_names_by=>k_is)
  (case c_law_names_by=>k_is)
  (case k_law_names_by=>k_is)
  (case a_law_number_by=>k_is)
  (case l_law_number_by=>k_is)
  (case c_law_number_by=>k_is)
  (case k_law_number_by=>k_is)
  (case a_law_jump_by=>k_is)
  (case l_law_jump_by=>k_is)
  (case c_law_jump_by=>k_is)
  (case k_law_jump_by=>k_is)
  (case a_law_row_by=>k_is)
  (case l_law_row_by=>k_is)
  (case c_law_row_by=>k_is)
  (case k_law_row_by=>k_is)
  (case a_law_rows_by=>k_is)
  (case l_law_rows_by=>k_is)
  (case c_law_rows_by=>k_is)
  (case k_law_rows_by=>k_is)
  (case a_law_shifted=>k_is)
  (case l_law_shifted=>k_is)
  (case c_law_shifted=>k_is)
  (case k_law_shifted=>k_is)
  (case a_is_name=>k_is)
  (case l_is_name=>k_is)
  (case c_is_name=>k_is)
  (case k_is_name=>k_is)
  (case a_is_number=>k_is)
  (case l_is_number=>k_is)
  (case c_is_number=>k_is)
  (case k_is_number=>k_is)
  (case a_is_word=>k_is)
  (case l_is_word=>k_is)
  (case c_is_word=>k_is)
  (case k_is_word=>k_is)
  (case a_is_place=>k_is)
  (case l_is_place=>k_is)
  (case c_is_place=>k_is)
  (case k_is_place=>k_is)
  (case a_is_part=>k_is)
  (case l_is_part=>k_is)
  (case c_is_part=>k_is)
  (case k_is_part=>k_is)
  (case a_is_row=>k_is)
  (case l_is_row=>k_is)
  (case c_is_row=>k_is)
  (case k_is_row=>k_is)
  (case a_parts_of_kind=>k_is)
  (case l_parts_of_kind=>k_is)
  (case c_parts_of_kind=>k_is)
  (case k_parts_of_kind=>k_is)
  (case a_jumps_back_badly=>k_is)
  (case l_jumps_back_badly=>k_is)
  (case c_jumps_back_badly=>k_is)
  (case k_jumps_back_badly=>k_is)
  (case a_with_names_of=>k_is)
  (case l_with_names_of=>k_is)
  (case c_with_names_of=>k_is)
  (case k_with_names_of=>k_is)
  (case a_need_program=>k_is)
  (case l_need_program=>k_is)
  (case c_need_program=>k_is)
  (case k_need_program=>k_is)
  (case a_need_run=>k_is)
  (case l_need_run=>k_is)
  (case c_need_run=>k_is)
  (case k_need_run=>k_is)
  (case a_Run_init=>k_is)
  (case i_Run_init=>k_is)
  (case l_Run_init=>k_is)
  (case c_Run_init=>k_is)
  (case k_Run_init=>k_is)
  (case a_held=>k_is)
  (case l_held=>k_is)
  (case c_held=>k_is)
  (case k_held=>k_is)
  (case a_fit=>k_is)
  (case l_fit=>k_is)
  (case c_fit=>k_is)
  (case k_fit=>k_is)
  (case a_parted=>k_is)
  (case l_parted=>k_is)
  (case c_parted=>k_is)
  (case k_parted=>k_is)
  (case a_reckoned=>k_is)
  (case l_reckoned=>k_is)
  (case c_reckoned=>k_is)
  (case k_reckoned=>k_is)
  (case a_taken=>k_is)
  (case l_taken=>k_is)
  (case c_taken=>k_is)
  (case k_taken=>k_is)
  (case a_make_turn=>k_is)
  (case l_make_turn=>k_is)
  (case c_make_turn=>k_is)
  (case k_make_turn=>k_is)
  (case a_do_row=>k_is)
  (case l_do_row=>k_is)
  (case c_do_row=>k_is)
  (case k_do_row=>k_is)
  (case a_outcome=>k_is)
  (case l_outcome=>k_is)
  (case c_outcome=>k_is)
  (case k_outcome=>k_is)
  (case a_first_run=>k_is)
  (case l_first_run=>k_is)
  (case c_first_run=>k_is)
  (case k_first_run=>k_is)
  (case a_law_fit=>k_is)
  (case l_law_fit=>k_is)
  (case c_law_fit=>k_is)
  (case k_law_fit=>k_is)
  (case a_law_deed=>k_is)
  (case l_law_deed=>k_is)
  (case c_law_deed=>k_is)
  (case k_law_deed=>k_is)
  (case a_law_first_run=>k_is)
  (case l_law_first_run=>k_is)
  (case c_law_first_run=>k_is)
  (case k_law_first_run=>k_is)
  (case a_law_whole=>k_is)
  (case l_law_whole=>k_is)
  (case c_law_whole=>k_is)
  (case k_law_whole=>k_is)
  (case a_law=>k_is)
  (case l_law=>k_is)
  (case c_law=>k_is)
  (case k_law=>k_is)
  (case z_all=>k_is)
  (case z_bool=>k_is)
  (case z_enumerate=>k_is)
  (case z_int=>k_is)
  (case z_isinstance=>k_is)
  (case z_len=>k_is)
  (case z_list=>k_is)
  (case z_range=>k_is)
  (case z_str=>k_is)
  (case z_tuple=>k_is)
  (case z_zip=>k_is)
  (case g_FORMS=>k_is)
  (case gk_FORMS=>kernel_rfl)
  (case g_HALF=>k_is)
  (case g_LETTERS=>k_is)
  (case g_MOST_LETTERS=>k_is)
  (case g_MOST_NAMES=>k_is)
  (case g_MOST_ROWS=>k_is)
  (case g_MOST_TURNS=>k_is)
  (case g_WORDS=>k_is)
  (case gk_WORDS=>kernel_rfl)
  (case xi_BadRun=>k_exc)
  (case pg_Run=>k_is)
  (case hd_Run=>k_is)
  (case po_Run=>k_is)
  (case sa_Run=>k_is)
  (case mk_Run=>k_is)
  (case kc_Run=>k_is)
  (case na_at_Run=>k_is)
  (case na_holds_Run=>k_is)
  (case na_inputs_Run=>k_is)
  (case na_takes_Run=>k_is)
  (case na_told_Run=>k_is)
  (case na_turns_left_Run=>k_is)
  (case na_word_Run=>k_is)
  (case xk_ByNought=>kernel_rfl)
  (case xi_ByNought=>k_exc)
  (case xt_ByNought=>k_is)
  (case y_su_ByNought_ByNought=>k_is)
