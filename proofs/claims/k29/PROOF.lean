import PyProof.Rows.All
import Wide.All
import OpenK.AllK
import Wide.FinOn
import Lean
import PyProof.EqAt
import PyProof.EqKinds
import PyProof.TupleCall
import KE.KLam
import PyProof.P3Eq
import PyProof.NeData
import PyProof.AttrMissHeap
import KE.KDictOf
import PyProof.DictItems
import PyProof.Rows.Range3
import KE.KEqDict
import PyProof.FactsAll.NoneType_1
import PyProof.FactsAll.bool_1
import KE.KDictSum
import KE.KSorted
import PyProof.ListRange
import PyProof.DictTruth
import PyProof.DictWalks
import PyProof.NeKinds
import PySem.Challenge.RW_boxwright_k29_last_runs
set_option Elab.async false
set_option linter.all false
set_option maxRecDepth 100000
set_option maxHeartbeats 8000000
noncomputable section
local macro_rules | `(tactic| omega) => `(tactic| lia)
open Array renaming length_toList->acx,append_assoc->afk,toList->afz
open Bool renaming and_eq_true->aaw,false_ne_true->aaQ,or_eq_true->ado,false_eq_true->adq,false_and->aeV,or_false->afn,and_self->afp
open Decidable renaming isFalse->aay,isTrue->aaX
open False renaming elim->acH
open ForInStep renaming yield->acd
open Function renaming comp_def->afx
open Int renaming mul_fdiv_add_fmod->aeO
open List renaming getElem?_eq_some_iff->aal,replicate->aap,length_append->aas,length_map->aat,size_toArray->aax,lookup_cons->aaE,map_cons->aaM,getElem?_map->aaN,length_cons->aaP,getElem?_append_left->aaS,mem_cons_of_mem->aaU,mem_of_getElem?->aaW,mem_append_right->aba,mem_singleton->abc,getElem?_append_right->abd,getD_eq_getElem?_getD->abg,find?_cons->abi,replicate_succ->abm,mem_cons->abo,length_singleton->abr,mem_append->abu,getElem?_eq_getElem->abx,length_set->abz,all_eq_true->abA,mem_cons_self->abF,any_cons->abH,mem_append_left->abI,flatten_cons->abM,lookup->abO,getElem?_set_ne->abP,all_cons->abS,mem_map->abV,range->abX,getElem?_eq_none->acj,nodup_cons->acp,append_assoc->acs,map_append->acv,map_congr_left->acC,mem_singleton_self->acD,getElem?_set_self->acJ,mem_filterMap->acL,append_nil->acS,length_range->acW,mem_range->acZ,mem_nil_iff->adf,any_eq_true->adg,filterMap_cons->adh,getElem?_replicate->adm,mem_iff_getElem?->adz,map_map->adA,set_append_right->adB,filterMap_eq_map->adC,mem_filter->adL,length_nil->adP,forIn_cons->adQ,mem_map_of_mem->adU,map_nil->aea,length_take->aeq,length_drop->aer,drop_eq_nil_of_le->aez,of_mem_zip->aeI,nodup_nil->afb,getElem?_range->afg
open List.cons renaming inj->afo
open Nat renaming le_refl->aar,le_of_ble_eq_true->aau,lt_of_lt_of_le->aav,le_trans->abe,ne_of_lt->abn,lt_succ_self->abD,lt_irrefl->abQ,zero_le->aca,le_succ->acb,zero_add->acw,lt_of_le_of_lt->acM,le_succ_of_le->aej,le_of_lt->aeC,mul_le_mul_right->aeU,add_comm->afD
open Nat.succ renaming inj->aeM
open Ne renaming symm->adt
open Option renaming map_eq_some_iff->aaR,isSome_iff_exists->abf,map_some->abq,bind_some->abJ,some->acn,getD_some->aes,none->aff,isSome_map->aft
open Option.some renaming inj->abh
open PyProof.Rows renaming boot_list->abK,boot_int->acl,slot_tuple_getitem->acq,boot_isinstance->adI,callWith_type1->adO,AllBare->aek,boot_tuple->aep,boot_bool->aeA,boot_all->aeN,envOfC->aeY
open PySem renaming wpAny_bind->aak,Shared->aam,mainGlobals->aan,wpAny_pure->aaq,sizeLine->aaD,starEach->aaY,FuncData->aaZ,Program->abp,foldedSetIterable->abv,bootBuiltins->aby,wpAny_mono->abB,compareOp->abC,wpAny_truthy_bool->abE,wpAny_holding->abG,Around->abT,placesWithHash->abU,sysModules->abW,Paired->acf,wpAny_passesOwn->aco,behindInMarks->acy,attributeBase->acz,mem_of_lookup->acA,DictEntry->acE,tupleKind_room_in1->acN,wpAny_callSpecialIfBoundUnlessNone?_slot->acO,wpAny_execs_nil->acQ,swapsWith->acR,PyData->acT,NameKind->acU,wpAny_newObj_type->acV,binaryOp->adb,wpAny_call_entry->ade,wpAny_Call_Name_kw->adl,wpAny_specialOf->adp,sliceBounds->adv,boot_len->adw,tupleKeyHash->adx,backTo->ady,callSpecialIfBoundUnlessNone?->adE,lookup_relabel_local->adF,builtinsNs->adK,holding->adM,letOwnedTupleGo->adN,pyHashByItsType->adR,wpAny_dictEpoch->adS,wpAny_ite_split->adT,tupleKind->aee,wpAny_rule->aei,sizeLine_eq->ael,wpAny_forIn_list->aet,PassesOwn->aeD,lastMarks->aeE,codeAny_mono->aeH,call_meetsIn->aeJ,noteFrame->aeK,call_meets->aeQ,codeAny->afd,wpAny_field->afe,Operator->afl,wpAny_call->afq,PlainAttrs->afr,valueAt->afs,Within->afy,assign->afA,IsPart->afG
open PySem.Around renaming under->afB
open PySem.Builtin.List renaming listTooLong->acu
open PySem.Builtin.Slice renaming slicePlaces->acm,sliceAdjust->ada,sliceApplied->adW
open PySem.Builtin.Tuple renaming tupleExact->acr
open PySem.Calls renaming Name_function_global->adV,evalArgs_plain->aeS
open PySem.Code renaming isFrame->afC
open PySem.F renaming plainAttrs_list->aaH,slot_list_append->aaI,type_list_append->aaJ,slot_dict_get->aaT,plainAttrs_dict->abj,type_dict_get->abt,entry_dict_get->ace,slot_NoneType_hash->acg,slot_bool_hash->acK,args_dict_get_3->adn,excBase_ValueError->adX,args_tuple_add_2->aeh,entry_tuple_add->aem,args_dict_get_2->aen,slot_tuple_add->aew
open PySem.Heap renaming get?_push_of_some->aaA,lt_size->aaG,get?_push_size->abk,get?_update_self->aci,SameBut->adZ,get?_update_other->aex,get?_none_of_le->aeR,size_push->aeX
open PySem.Heap.SameBut renaming update->afh
open PySem.NameKind renaming free->aaO,cell->abR,globalImplicit->aeo
open PySem.Obj renaming isFreed_of_dict->adi,data_mapDictKeys->adG,data_mapDict->aeu,mapSeq->aeP
open PySem.Paired renaming length->adH,right->afE
open PySem.PyData renaming eqv->aaV,eqvAll->acX,int->acY,strOk->adj,canLay0->aec,canLayAll0->afv
open PySem.SeqAt renaming eqBoolOverData->aeT,EqAt->afw
open PySem.SeqAt.EqAt renaming int_str->afi,str_int->afj
open PySem.Str renaming ofString->aaz,ofString_eq_toList->ads
open PySem.Value renaming ref->abb,none->acF,int->adk,bool->adJ,str->aeB
open PySem.W renaming Frag->aaj,nsIn->aao,mg_of->aaB,keepIn->aaC,codeIn->aaF,kitOne->aaK,fnOf->aaL,findIn->abl,mg_none_of->abw,emptyDict->abL,kia_one->abN,instObj->abY,hideAll_get->abZ,subIn->ack,excIn->acB,typeIn->acG,tabObj->acI,hideAll->acP,hasDictIn->adu,plainGet->adD,of_hideAll->adY,CodeHd->aed,methodObj->aef,plainOver->aeg,cellsFrom_some->aev,funFrames_hide->aey,takerIn->aeF,makesIn->aeG,OpenLaw->aeL,lookIn->aeW,notCls->aeZ,noTabs->afa,callWith_K->afm,kitx_dict->afu,handedIn->afF
open Sum renaming inl->aeb,inr->afc
open True renaming intro->ach
namespace L2
open PySem PySem.Spec PyProof.Rows
abbrev Key:=Sum Int Str
noncomputable def lG:Key->Value->Bool
 | .inl k,v=>Value.isInt k v
 | .inr x,v=>Value.isStrOf x v
noncomputable def kr(w:World):Key->Int
 | .inl k=>hashInt k
 | .inr x=>hashStr w x
theorem gY:∀{k:Key} {v:Value},lG k v=true->(∃i t,k=aeb i/\v=adk i t)\/(∃x t,k=afc x/\v=aeB x t)
 | .inl i,v,h=>by
  obtain⟨t,e⟩:=Value.isInt_shape (k:=i) (v:=v) h;exact .inl ⟨i,t,rfl,e⟩
 | .inr x,v,h=>by
  obtain⟨t,e⟩:=Value.isStrOf_shape (x:=x) (v:=v) h;exact .inr ⟨x,t,rfl,e⟩
theorem BZ(i:Int)(t:Tok):lG (.inl i) (.int i t)=true:=by simp[lG,Value.isInt]
theorem B0(x:Str)(t:Tok):lG (.inr x) (.str x t)=true:=by simp[lG,Value.isStrOf]
theorem uc(a b:Int):decide ((aeb a:Key)=aeb b)=(a==b):=by
 by_cases e:a=b
 ·subst e;simp
 ·have h:¬(aeb a:Key)=aeb b:=fun q=>e (Sum.inl.inj q)
  rw[decide_eq_false h];exact(beq_eq_false_iff_ne.mpr e).symm
theorem DD(a b:Str):decide ((afc a:Key)=afc b)=decide (a=b):=by
 by_cases e:a=b
 ·subst e;simp
 ·have h:¬(afc a:Key)=afc b:=fun q=>e (Sum.inr.inj q)
  rw[decide_eq_false h,decide_eq_false e]
theorem xC(a:Int)(b:Str):decide ((aeb a:Key)=afc b)=false:=decide_eq_false (fun q=>nomatch q)
theorem xD(a:Str)(b:Int):decide ((afc a:Key)=aeb b)=false:=decide_eq_false (fun q=>nomatch q)
noncomputable def cN(prog:abp)(w:World):PySem.KeyKind prog w Key where
 is:=lG
 hash:=kr w
 inj:=fun v a b ha hb=>by
  rcases gY ha with⟨i,t,rfl,rfl⟩ | ⟨x,t,rfl,rfl⟩
  ·rcases gY hb with⟨j,u,rfl,e⟩ | ⟨y,u,rfl,e⟩
   ·injection e with e1 _;rw[e1]
   ·exact nomatch e
  ·rcases gY hb with⟨j,u,rfl,e⟩ | ⟨y,u,rfl,e⟩
   ·exact nomatch e
   ·injection e with e1 _;rw[e1]
 byValue:=fun k v h=>by
  rcases gY h with⟨i,t,rfl,rfl⟩ | ⟨x,t,rfl,rfl⟩ <;> rfl
 pyHash:=fun hv h=>by
  rcases gY hv with⟨i,t,rfl,rfl⟩ | ⟨x,t,rfl,rfl⟩
  ·exact wpAny_pyHash_int h
  ·exact wpAny_pyHash_str h
 eqBool:=fun hu hv h=>by
  rcases gY hu with⟨i,t,rfl,rfl⟩ | ⟨x,t,rfl,rfl⟩
  ·rcases gY hv with⟨j,u,rfl,rfl⟩ | ⟨y,u,rfl,rfl⟩
   ·rw[uc] at h;exact wpAny_eqBool_int h
   ·rw[xC] at h;exact afi i t y u _ _ _ _ h
  ·rcases gY hv with⟨j,u,rfl,rfl⟩ | ⟨y,u,rfl,rfl⟩
   ·rw[xD] at h;exact afj x t j u _ _ _ _ h
   ·rw[DD] at h;exact wpAny_eqBool_str h
 «strs»:=fun k x t v h=>by
  rcases gY h with⟨i,u,rfl,e⟩ | ⟨y,u,rfl,e⟩
  ·exact nomatch e
  ·injection e with e1 _
   subst e1;cases v <;> rfl
theorem Oa(prog:abp)(w:World)(i:Int)(t:Tok):(cN prog w).is (.inl i) (.int i t)=true:=BZ i t
theorem Ob(prog:abp)(w:World)(x:Str)(t:Tok):(cN prog w).is (.inr x) (.str x t)=true:=B0 x t
inductive V where
 | aC | bl (b:Bool) | int (i:Int) | str (x:Str) | oy (b:Array UInt8) | u6 (b:UInt64) | ref (a:Addr) | ty (n:String)
 deriving DecidableEq
noncomputable def RelV:V->Value->Prop
 | .aC,u=>u=acF
 | .bl b,u=>u=adJ b
 | .int i,u=>∃t,u=adk i t
 | .str x,u=>∃t,u=aeB x t
 | .oy b,u=>∃t,u=Value.bytes b t
 | .u6 b,u=>∃t,u=Value.float b t
 | .ref a,u=>u=abb a
 | .ty n,u=>u=Value.type n
abbrev Vals:List V->List Value->Prop:=acf RelV
theorem Vals.length{xs:List V}{us:List Value}(r:Vals xs us):xs.length=us.length:=adH r
theorem Vals.get:∀{xs:List V} {us:List Value} {i:Nat} {x:V},Vals xs us->xs[i]? =some x->∃u,us[i]? =some u/\RelV x u
 | _,_,_,_,.nil,e=>by simp at e
 | _,_,0,_,.cons r _,e=>by simp at e;subst e;exact⟨_,rfl,r⟩
 | _,_,i+1,x,.cons _ t,e=>by
  obtain⟨u,h1,h2⟩:=Vals.get (i:=i) (x:=x) t (by simpa using e);exact⟨u,by simpa using h1,h2⟩
theorem Vals.set{x:V}{u:Value}(r:RelV x u):∀{xs:List V} {us:List Value} (i:Nat),Vals xs us->Vals (xs.set i x) (us.set i u)
 | _,_,_,.nil=>.nil
 | _,_,0,.cons _ t=>.cons r t
 | _,_,i+1,.cons q t=>.cons q (Vals.set r i t)
theorem Vals.append:∀{xs ys:List V} {us ws:List Value},Vals xs us->Vals ys ws->Vals (xs++ys) (us++ws)
 | _,_,_,_,.nil,s=>s
 | _,_,_,_,.cons r t,s=>.cons r (Vals.append t s)
theorem Vals.take:∀{xs:List V} {us:List Value} (n:Nat),Vals xs us->Vals (xs.take n) (us.take n)
 | _,_,0,_=>.nil
 | _,_,_+1,.nil=>.nil
 | _,_,n+1,.cons r t=>.cons r (Vals.take n t)
theorem Vals.drop:∀{xs:List V} {us:List Value} (n:Nat),Vals xs us->Vals (xs.drop n) (us.drop n)
 | _,_,0,r=>r
 | _,_,_+1,.nil=>.nil
 | _,_,n+1,.cons _ t=>Vals.drop n t
noncomputable def eF:Option V->Option Value->Prop
 | some v,some u=>RelV v u
 | none,none=>True
 | _,_=>False
noncomputable def KV{κ:Type}:List (κ×V)->List (κ×Value)->Prop:=acf fun(p:κ×V) (q:κ×Value)=>p.1=q.1/\RelV p.2 q.2
noncomputable def kV:Key->V
 | .inl i=>.int i
 | .inr x=>.str x
noncomputable def uA:V->Option Key
 | .int i=>some (.inl i)
 | .bl b=>some (.inl (if b then 1 else 0))
 | .str x=>some (.inr x)
 | _=>none
noncomputable def ip:List V->Option (List Key)
 | []=>some []
 | v::vs=>match uA v,ip vs with
  | some k,some ks=>some (k::ks)
  | _,_=>none
inductive HO where
  | lst (xs:List V)
  | tup (xs:List V)
  | dK (kvs:List (Key×V)) | dT (kvs:List (List Key×V))
  | dU (kvs:List (V×V))
  | set (S:Int->Bool) (n:Nat)
  | ins (C dx:Addr) (fs:List (Str×V))
  | own (x:Addr)
  | xd (fs:List (Str×V))
  | met (f x:Addr)
  | u7 (lo hi:Int)
  | bz (o:Obj) (u:HO)
  | fR (ps:Array Value)
  | ext (φ:Heap->Prop)
abbrev Hp:=Addr->Option HO
noncomputable def upd(H:Hp)(a:Addr)(o:HO):Hp:=fun b=>if b=a then some o else H b
variable{H:Hp}{o:HO}
theorem bW{a:Addr}:upd H a o a=some o:=by unfold upd;rw[if_pos rfl]
variable{b:Addr}
theorem bC{a:Addr}(h:b≠a):upd H a o b=H b:=by unfold upd;rw[if_neg h]
variable{u:HO}
theorem xi{a:Addr}:upd (upd H a o) a u=upd H a u:=by
 funext b;unfold upd;split <;> rfl
theorem km{a:Addr}(h:H a=some o)(h':H b=some u)(d:o≠u):a≠b:=by
 intro e;subst e;rw[h] at h';exact d (abh h')
theorem gZ{a:Addr}(h:H a=some o)(h':H b=none):a≠b:=by
 intro e;subst e;rw[h] at h';cases h'
section
variable(P:abp)(w:World)
noncomputable def cW(H:Hp)(h:Heap)(a:Addr):HO->Prop
 | .lst xs=>xs.length<=aaD/\∃(its:List Value) (n:Nat),Vals xs its/\h.get? a=some { cls:=.type "list",data:=.seq its.toArray n }
 | .tup xs=>xs.length<=aaD/\∃its:List Value,Vals xs its/\IsTup h a its.toArray
 | .dK kvs=>kvs.length<=aaD/\(a==abW)=false/\∃vs,KV kvs vs/\h.DictOf (cN P w) a vs
 | .dT kvs=>kvs.length<=aaD/\(a==abW)=false/\∃xs:List (List Key×Addr×Value),
   acf (fun(p:List Key×V) (q:List Key×Addr×Value)=>p.1=q.1/\H q.2.1=some (.tup (p.1.map kV))/\RelV p.2 q.2.2) kvs xs /\
   ∃o es ep,h.get? a=some o/\o.ExactDict/\o.data=.dict es ep/\es.toList=xs.map (entryOfKey (aee (cN P w)))/\(xs.map (·.1)).Nodup
 | .dU kvs=>kvs.length<=aaD/\(a==abW)=false/\∃o es ep,h.get? a=some o/\o.ExactDict/\o.data=.dict es ep/\acf (fun(p:V×V) (e:acE)=>RelV p.1 e.key/\RelV p.2 e.val /\
   ((∃k,uA p.1=some k/\e.hash=kr w k)\/∃b ts ks,p.1=.ref b/\H b=some (.tup ts)/\ip ts=some ks/\e.hash=adx (cN P w) ks)) kvs es.toList
 | .set S n=>h.SetOf (intKind P w) a S n
 | .ins C dx fs=>H dx=some (.own a)/\fs.length<=1000/\dx≠a/\h.get? a=some (abY C dx) /\
   ∃mA,h.Ns1 dx mA/\(∀f,eF (fs.lookup f) (mA f))/\afy mA (fs.map (·.1))
 | .own _=>∃o,h.get? a=some o
 | .xd fs=>∃mA,h.Ns1 a mA/\∀f,eF (fs.lookup f) (mA f)
 | .u7 lo hi=>∃t u v,h.get? a=some { cls:=.type "range",data:=.fields #[.int lo t,.int hi u,.int 1 v] }
 | .bz o u=>h.get? a=some o/\cW H h a u
 | .fR ps=>h.get? a=some { cls:=.none,data:=.fields ps }
 | .met f x=>h.get? a=some (aef (.ref f) (.ref x))
 | .ext φ=>φ h/\(∃o,h.get? a=some o)/\∀h1 h2:Heap,φ h1->(∀o,h1.get? a=some o->h2.get? a=some o)->φ h2
noncomputable def cm(H:Hp)(h:Heap):Prop:=∀a o,H a=some o->cW P w H h a o
end
section
variable{P:abp}{w:World}{H H':Hp}{h h':Heap}{a:Addr}{o:HO}
theorem cW.lt(x:cW P w H h a o):a<h.objs.size:=by
 cases o with
 | lst xs=>obtain⟨_,_,_,_,e⟩:=x;exact aaG e
 | tup xs=>obtain⟨_,_,_,p⟩:=x;exact p.lt
 | dK kvs=>obtain⟨_,_,_,_,o,_,_,e,_⟩:=x;exact aaG e
 | dT kvs=>obtain⟨_,_,_,_,o,_,_,e,_⟩:=x;exact aaG e
 | dU kvs=>obtain⟨_,_,o,_,_,e,_⟩:=x;exact aaG e
 | set S n=>obtain⟨o,_,_,_,e,_⟩:=x;exact aaG e
 | ins C dx fs=>obtain⟨_,_,_,e,_⟩:=x;exact aaG e
 | own y=>obtain⟨_,e⟩:=x;exact aaG e
 | xd fs=>obtain⟨_,⟨_,_,_,e,_⟩,_⟩:=x;exact aaG e
 | u7 lo hi=>obtain⟨_,_,_,e⟩:=x;exact aaG e
 | bz ob u=>obtain⟨e,_⟩:=x;exact aaG e
 | fR ps=>exact aaG (show h.get? a=some _ from x)
 | met f y=>exact aaG (show h.get? a=some _ from x)
 | ext φ=>obtain⟨_,⟨_,e⟩,_⟩:=x;exact aaG e
theorem acf.nW{α β:Type}{F G:α->β->Prop}:∀{Hz:List α} {HA:List β},acf F Hz HA->(∀a b,F a b->G a b)->acf G Hz HA
 | _,_,.nil,_=>.nil
 | _,_,.cons r t,f=>.cons (f _ _ r) (acf.nW t f)
theorem cW.jt(x:cW P w H h a o)(k:∀b u,(b=a\/H b=some (.own a))->h.get? b=some u->h'.get? b=some u)
  (ho:∀b,H b=some (.own a)->H' b=some (.own a)) (ht:∀b xs,H b=some (.tup xs)->H' b=some (.tup xs)):cW P w H' h' a o:=by
 induction o with
 | lst xs=>obtain⟨z,its,n,r,e⟩:=x;exact⟨z,its,n,r,k _ _ (.inl rfl) e⟩
 | tup xs=>obtain⟨z,its,r,ob,e,c⟩:=x;exact⟨z,its,r,ob,k _ _ (.inl rfl) e,c⟩
 | dK kvs=>obtain⟨z,y,vs,r,ob,es,ep,e,c⟩:=x;exact⟨z,y,vs,r,ob,es,ep,k _ _ (.inl rfl) e,c⟩
 | dT kvs=>
  obtain⟨z,y,xs,r,ob,es,ep,e,c⟩:=x;exact⟨z,y,xs,acf.nW r fun p q z=>⟨z.1,ht _ _ z.2.1,z.2.2⟩,ob,es,ep,k _ _ (.inl rfl) e,c⟩
 | dU kvs=>
  obtain⟨z,y,ob,es,ep,e,c1,c2,r⟩:=x;exact⟨z,y,ob,es,ep,k _ _ (.inl rfl) e,c1,c2,acf.nW r fun p q z=>⟨z.1,z.2.1,z.2.2.imp_right fun⟨b,ts,ks,h1,h2,h3⟩=>⟨b,ts,ks,h1,ht _ _ h2,h3⟩⟩⟩
 | set S n=>obtain⟨ob,es,ep,t,e,c⟩:=x;exact⟨ob,es,ep,t,k _ _ (.inl rfl) e,c⟩
 | ins C dx fs=>
  obtain⟨d,z,ne,e,mA,⟨od,es,ep,e2,c⟩,r⟩:=x;exact⟨ho _ d,z,ne,k _ _ (.inl rfl) e,mA,⟨od,es,ep,k _ _ (.inr d) e2,c⟩,r⟩
 | own y=>obtain⟨ob,e⟩:=x;exact⟨ob,k _ _ (.inl rfl) e⟩
 | xd fs=>obtain⟨mA,⟨od,es,ep,e,c⟩,r⟩:=x;exact⟨mA,⟨od,es,ep,k _ _ (.inl rfl) e,c⟩,r⟩
 | u7 lo hi=>obtain⟨t,u,v,e⟩:=x;exact⟨t,u,v,k _ _ (.inl rfl) e⟩
 | bz ob u ih=>obtain⟨e,q⟩:=x;exact⟨k _ _ (.inl rfl) e,ih q⟩
 | fR ps=>
  have e:h.get? a=some { cls:=.none,data:=.fields ps }:=x;show h'.get? a=some { cls:=.none,data:=.fields ps };exact k a _ (.inl rfl) e
 | met f y=>
  have e:h.get? a=some (aef (.ref f) (.ref y)):=x;show h'.get? a=some (aef (.ref f) (.ref y));exact k a _ (.inl rfl) e
 | ext φ=>obtain⟨p,⟨o,e⟩,st⟩:=x;exact⟨st _ _ p fun o q=>k _ _ (.inl rfl) q,⟨o,k _ _ (.inl rfl) e⟩,st⟩
theorem cm.lt(x:cm P w H h)(e:H a=some o):a<h.objs.size:=(x a o e).lt
theorem cm.fresh(x:cm P w H h)(e:h.objs.size<=a):H a=none:=by
 cases q:H a with
 | none=>rfl
 | some u=>exact absurd (aav (x.lt q) e) (abQ _)
theorem cm.kept(x:cm P w H h)(k:∀b u,h.get? b=some u->h'.get? b=some u):cm P w H h':=fun a o e=>
 (x a o e).jt (fun b u _ q=>k b u q) (fun _ q=>q) fun _ _ q=>q
theorem cm.laid(x:cm P w H h)(k:∀b u,h.get? b=some u->h'.get? b=some u)(hp:h.objs.size<=a)(new:cW P w (upd H a o) h' a o):cm P w (upd H a o) h':=fun b u e=>by
 have hn:=x.fresh hp;by_cases hb:b=a
 ·subst hb;rw[bW] at e;cases e;exact new
 ·rw[bC hb] at e;exact(x b u e).jt (fun c v _ q=>k c v q) (fun c q=>by rw[bC (gZ q hn)];exact q) fun c xs q=>by rw[bC (gZ q hn)];exact q
end
noncomputable def Rd(H:Hp)(a:Addr)(u:HO):Prop:=H a=some u\/∃o,H a=some (.bz o u)
variable{P:abp}{h:Heap}
theorem Rd.ok{w:World}{a:Addr}(r:Rd H a u)(x:cm P w H h):cW P w H h a u:=by
 rcases r with r | ⟨o,r⟩
 ·exact x a u r
 ·obtain⟨_,q⟩:=x a _ r;exact q
noncomputable def jG:Option HO->Prop
 | some (.lst _)=>True
 | some (.dK _)=>True
 | some (.dT _)=>True
 | some (.dU _)=>True
 | some (.set _ _)=>True
 | some (.ins _ _ _)=>True
 | some (.ext _)=>True
 | _=>False
section
variable{P:abp}{w:World}{H:Hp}{h h':Heap}{x e:Addr}{o':HO}
theorem cm.write(ok:cm P w H h)(mu:jG (H x))(he:e=x\/H e=some (.own x))(k:∀b u,b≠e->h.get? b=some u->h'.get? b=some u)(oz:∃u,h'.get? e=some u)
  (new:cW P w (upd H x o') h' x o'):cm P w (upd H x o') h':=fun b u q=>by
 have Fq:∀c y,H c=some (.own y)->c≠x:=fun c y r z=>by subst z;rw[r] at mu;exact mu
 have YA:∀c xs,H c=some (.tup xs)->c≠x:=fun c xs r z=>by subst z;rw[r] at mu;exact mu
 by_cases hb:b=x
 ·subst hb;rw[bW] at q;cases q;exact new
 ·rw[bC hb] at q;by_cases lU:b=e
  ·have q':H b=some (.own x):=by
    rcases he with z | z
    ·exact absurd (lU.trans z) hb
    ·rw[lU];exact z
   rw[q] at q';cases q';obtain⟨v,hv⟩:=oz;exact⟨v,by rw[lU];exact hv⟩
  ·refine(ok b u q).jt (fun c v hc r=>k c v ?_ r) (fun c r=>by rw[bC (Fq c b r)];exact r) fun c xs r=>by rw[bC (YA c xs r)];exact r
   rcases hc with rfl | hc
   ·exact lU
   ·rintro rfl
    rcases he with z | z
    ·exact Fq c b hc z
    ·rw[hc] at z;cases z;exact hb rfl
end
structure Un(fs ex:List Addr)(H H':Hp)(h h':Heap):Prop where
 keep:∀b o,h.get? b=some o->H b=none->b∉fs->b∉ex->h'.get? b=some o
 slot:∀b o,h.get? b=some o->H b=none->b∈fs->b∉ex->∃sl,h'.get? b=some { o with slots:=sl }
 free:∀b o,h.get? b=some o->H b=none->b∉ex->H' b=none
 there:∀b o,h.get? b=some o->b∉ex->∃o',h'.get? b=some o'
 ff:∀b xs,H b=some (.tup xs)->H' b=some (.tup xs)
 dP:∀b o u,H b=some (.bz o u)->H' b=some (.bz o u)
 eG:∀b ps,H b=some (.fR ps)->∃more,H' b=some (.fR (ps++more))
section
variable{fs oA ex ex':List Addr}{H H1 H2:Hp}{h h1 h2 h':Heap}{a x e:Addr}{o:HO}
theorem Un.any(u:Un fs ex H H1 h h1){b:Addr}{ob:Obj}(q:h.get? b=some ob)(n:H b=none)(hx:b∉ex):∃sl,h1.get? b=some { ob with slots:=sl }:=by
 by_cases hb:b∈fs
 ·exact u.slot b ob q n hb hx
 ·exact⟨ob.slots,u.keep b ob q n hb hx⟩
theorem Un.kept(k:∀b u,h.get? b=some u->h'.get? b=some u):Un fs ex H H h h':=
 ⟨fun b ob q _ _ _=>k b ob q,fun b ob q _ _ _=>⟨ob.slots,k b ob q⟩,fun _ _ _ n _=>n,fun b ob q _=>⟨ob,k b ob q⟩,fun _ _ q=>q,fun _ _ _ q=>q,fun _ ps q=>⟨#[],by rw[q];simp⟩⟩
theorem Un.refl:Un fs ex H H h h:=Un.kept fun _ _ q=>q
theorem Un.laid(k:∀b u,h.get? b=some u->h'.get? b=some u)(hp:h.objs.size<=a)(hn:H a=none):Un fs ex H (upd H a o) h h' where
 keep:=fun b u q _ _ _=>k b u q
 slot:=fun b u q _ _ _=>⟨u.slots,k b u q⟩
 free:=fun b u q n _=>by rw[bC (abn (aav (aaG q) hp))];exact n
 there:=fun b u q _=>⟨u,k b u q⟩
 ff:=fun b xs q=>by rw[bC (gZ q hn)];exact q
 dP:=fun b u xs q=>by rw[bC (gZ q hn)];exact q
 eG:=fun b ps q=>⟨#[],by rw[bC (gZ q hn),q];simp⟩
theorem Un.write(mu:jG (H x))(he:e=x\/H e=some (.own x))(k:∀b u,b≠e->h.get? b=some u->h'.get? b=some u)(oz:∃u,h'.get? e=some u):Un fs ex H (upd H x o) h h':=by
 have hx:∀b,H b=none->b≠x:=fun b n z=>by subst z;rw[n] at mu;exact mu
 have hb:∀b,H b=none->b≠e:=fun b n z=>by
  subst z
  rcases he with r | r
  ·exact hx b n r
  ·rw[n] at r;cases r
 have hm:∀b u,H b=some u->¬jG (some u)->b≠x:=fun b u q nm z=>by subst z;rw[q] at mu;exact nm mu
 refine⟨fun b u q n _ _=>k b u (hb b n) q,fun b u q n _ _=>⟨u.slots,k b u (hb b n) q⟩,fun b u q n _=>by rw[bC (hx b n)];exact n,fun b u q _=>?_,
  fun b xs q=>by rw[bC (hm b _ q fun z=>z)];exact q,fun b u xs q=>by rw[bC (hm b _ q fun z=>z)];exact q,fun b ps q=>⟨#[],by rw[bC (hm b _ q fun z=>z),q];simp⟩⟩
 by_cases lU:b=e
 ·subst lU;exact oz
 ·exact⟨u,k b u lU q⟩
end
noncomputable def u9(h:Heap)(H:Hp):List Addr:=(abX h.objs.size).filter fun a=>(H a).isSome
noncomputable def ju(h:Heap)(H:Hp):Heap:=acP h (u9 h H)
theorem Qu(h:Heap)(H:Hp):(ju h H).objs.size=h.objs.size:=PySem.W.hideAll_size _ _
theorem RM{o:Obj}(e:h.get? b=some o)(n:H b=none):(ju h H).get? b=some o:=
 abZ _ e fun hm=>by
  have q:(H b).isSome=true:=(adL.mp hm).2;rw[n] at q;simp at q
theorem S2{o:Obj}(e:(ju h H).get? b=some o):h.get? b=some o/\H b=none:=by
 have e':h.get? b=some o:=adY (u9 h H) e;refine⟨e',?_⟩;cases q:H b with
 | none=>rfl
 | some x=>
  have hm:b∈u9 h H:=adL.mpr ⟨acZ.mpr (aaG e'),by simp[q]⟩;have z:(ju h H).get? b=none:=PySem.W.hideAll_none (u9 h H) hm;rw[z] at e;cases e
noncomputable def S3(g h:Heap)(L:Addr):List (Addr×Obj):=(abX h.objs.size).filterMap fun a=>if a=L\/(g.get? a).isSome=true then none else(h.get? a).map fun o=>(a,o)
noncomputable def rest(g h:Heap)(L d:Addr):List (Addr×Obj):=(S3 g h L).filter fun p=>decide (p.1≠d)
structure Mod(K:aaj)(mg:Str->Option Value)(base:Heap):Prop where
 d9:K.In base
 glob:base.Ns aan mg
 blt:∃mb,base.Ns adK mb/\∀x:Str,x≠"__name__"->mb x=aby x
 nolimit:base.NoLimit
 bm:∃bm ob,mg "__builtins__"=some (.ref bm)/\bm≠adK/\base.get? bm=some ob/\ob.cls=.type "module"/\ob.dict=some adK/\ob.data=.plain
structure Cx where
 prog:abp
 w:World
 K:aaj
 mg:Str->Option Value
 base:Heap
 A:abT
 N:List Str
 aM:aam
 aU:Hp
 env:Env
 outer:List Env
 stack:List Env
 ex:List Addr
 fn:Str->Bool
 calm:Bool
 pn:List (Addr×Obj)
 xe:Value->aam->Prop
 kp:List (Option V)->Prop
noncomputable def cT(l:List Env):List Addr:=l.filterMap (·.frame)
abbrev Cx.fs(X:Cx):List Addr:=cT X.outer
noncomputable def aI(sc:Scope)(x:Str):Prop:=sc.names.lookup x=some .local\/sc.names.lookup x=some .cell\/sc.names.lookup x=some .free
noncomputable def Loc(sc:Scope)(x:Str):Prop:=sc.names.lookup x=some .local\/sc.names.lookup x=some .cell
noncomputable def Look(env:Env)(h:Heap)(m:Str->Option Value)(x:Str)(u:Value):Prop:=
 (env.kindOf x=some .local/\m x=some u)\/((env.kindOf x=some .cell\/env.kindOf x=some .free)/\∃c,env.cells.lookup x=some c/\h.IsCell c (some u))
structure Cx.Ok(X:Cx):Prop where
 mod:Mod X.K X.mg X.base
 kind:X.env.scope.kind=.function
 glob:X.env.globals=aan
 blt:X.env.builtins=adK
 above:X.aM.heap.objs.size<=X.env.locals
 inj:∀x y c,X.env.cells.lookup x=some c->X.env.cells.lookup y=some c->x=y
 has:∀x,(X.env.kindOf x=some .cell\/X.env.kindOf x=some .free)->∃c,X.env.cells.lookup x=some c
 kG:∀x c,X.fn x=true->X.env.cells.lookup x=some c->X.aM.heap.objs.size<=c
 hd:X.calm=true->X.A.handled=none
 frames:X.A.frames=some X.stack
 lV:X.stack=X.outer\/(X.stack=X.env::X.outer/\X.env.frame=some X.env.locals)
 qD:∀b∈X.ex,b≠X.env.locals/\∀x c,X.env.cells.lookup x=some c->c≠b
 bs:∀b o,X.base.get? b=some o->X.aM.heap.get? b=some o/\X.aU b=none
 iq:X.base.objs.size<=X.aM.heap.objs.size
 ku:∀b o,X.base.get? b=some o->b∉X.ex
 kx:∀b∈X.ex,b∉X.fs
 d5:X.aM.heap.FunFrames X.base X.outer
 iZ:∀b∈X.fs,X.aU b=none
structure Inv(X:Cx)(pins:List (Addr×Obj))(σ:List (Option V))(H:Hp)(s:aam):Prop where
 ok:X.Ok
 os:s.os=X.aM.os
 bare:aek s.gens
 base:Un X.fs X.ex X.aU H X.aM.heap s.heap
 loc:∃m,s.heap.Ns X.env.locals m/\∀(i:Nat) (x:Str) (v:V),X.N[i]? =some x->σ[i]? =some (some v)->aI X.env.scope x->∃u,RelV v u/\Look X.env s.heap m x u
 cell:∀x c,X.env.cells.lookup x=some c->∃v,s.heap.IsCell c v
 free:H X.env.locals=none
 gf:∀x c,X.env.cells.lookup x=some c->(X.fn x=true->H c=none)/\(H c=none\/∃o,H c=some (.bz o (.ext fun _=>True)))
 pin:∀p∈X.pn++pins,s.heap.get? p.1=some p.2/\H p.1=none/\p.1≠X.env.locals/\p.1∉X.fs/\∀v,p.2.data≠.cell v
 aJ:cm X.prog X.w H s.heap
 lk:σ.length=X.N.length/\X.kp σ
variable{X:Cx}
theorem Inv.len{pins:List (Addr×Obj)}{σ:List (Option V)}{s:aam}(I:Inv X pins σ H s):σ.length=X.N.length:=I.lk.1
noncomputable def gJ(X:Cx)(x:Str):Prop:=∀i,X.N[i]? =some x->∀(σ:List (Option V)) (o:Option V),X.kp σ->X.kp (σ.set i o)
section
variable{X:Cx}{pins:List (Addr×Obj)}{σ:List (Option V)}{H H':Hp}{s:aam}{h':Heap}
theorem Cx.Ok.YB(ok:X.Ok){b:Addr}{o:Obj}(e:X.base.get? b=some o):b∉X.fs:=fun hb=>by
 have:=(ok.d5.mem hb).1;rw[e] at this;cases this
theorem Inv.bs(I:Inv X pins σ H s):∀b o,X.base.get? b=some o->s.heap.get? b=some o/\H b=none:=fun b o e=>
 ⟨I.base.keep b o (I.ok.bs b o e).1 (I.ok.bs b o e).2 (I.ok.YB e) (I.ok.ku b o e),I.base.free b o (I.ok.bs b o e).1 (I.ok.bs b o e).2 (I.ok.ku b o e)⟩
theorem Inv.bk(I:Inv X pins σ H s):∀b o,X.base.get? b=some o->s.heap.get? b=some o:=fun b o e=>(I.bs b o e).1
theorem Inv.mod(I:Inv X pins σ H s):Mod X.K X.mg X.base:=I.ok.mod
theorem Inv.dh(I:Inv X pins σ H s):X.K.In s.heap:=I.ok.mod.d9.keeps I.bk
theorem Inv.lt(I:Inv X pins σ H s):X.env.locals<s.heap.objs.size:=let ⟨_,hn,_⟩:=I.loc;hn.lt
theorem Inv.sz(I:Inv X pins σ H s):X.aM.heap.objs.size<=s.heap.objs.size:=abe I.ok.above (aeC I.lt)
theorem Inv.YC(I:Inv X pins σ H s){a:Addr}(h:s.heap.objs.size<=a):a∉X.fs:=fun hb=>by
 obtain⟨_,o,ho,_⟩:=I.ok.d5.mem hb;exact absurd (aav (aaG ho) (abe I.sz h)) (abQ _)
theorem Inv.jH(I:Inv X pins σ H s):∀x c,X.env.cells.lookup x=some c->c≠X.env.locals:=fun x c e z=>by
 obtain⟨v,o,ho,hd⟩:=I.cell x c e;obtain⟨m,⟨o',es,ep,dn,jI,_⟩,_⟩:=I.loc;rw[z,dn] at ho;cases ho;rw[jI] at hd;cases hd
theorem Inv.d5(I:Inv X pins σ H s):s.heap.FunFrames X.base X.outer:=by
 have all:∀(l:List Env),(∀b∈cT l,b∈X.fs)->X.aM.heap.FunFrames X.base l->s.heap.FunFrames X.base l:=by
  intro l
  induction l with
  | nil=>intro _ _;trivial
  | cons env r ih=>
   intro hs hl;obtain⟨hk,⟨L,o,hf,hn,ho,hd⟩,hr⟩:=hl;have hL:L∈X.fs:=hs L (by unfold cT;rw[adh,hf];exact abF);obtain⟨sl,e⟩:=I.base.slot L o ho (I.ok.iZ L hL) hL fun z=>I.ok.kx L z hL
   exact⟨hk,⟨L,_,hf,hn,e,hd⟩,ih (fun b hb=>hs b (by unfold cT;rw[adh,hf];exact aaU _ hb)) hr⟩
 exact all X.outer (fun _ hb=>hb) I.ok.d5
theorem Inv.stack(I:Inv X pins σ H s):s.heap.FunFrames X.base X.stack:=by
 rcases I.ok.lV with e | ⟨e,hf⟩
 ·rw[e];exact I.d5
 ·rw[e];obtain⟨m,hn,_⟩:=I.loc;refine .cons (by rw[I.ok.kind];decide) hf hn ?_ I.d5;exact aeR (abe I.ok.iq I.ok.above)
theorem Inv.xE(I:Inv X pins σ H s):∀b∈cT X.stack,b∈X.env.locals::X.fs:=fun b hb=>by
 rcases I.ok.lV with e | ⟨e,hf⟩
 ·rw[e] at hb;exact aaU _ hb
 ·rw[e] at hb;unfold cT at hb;rw[adh,hf] at hb;exact hb
theorem Inv.pG(I:Inv X pins σ H s):∀b∈cT X.stack,H b=none:=fun b hb=>by
 rcases abo.mp (I.xE b hb) with e | hb
 ·rw[e];exact I.free
 ·obtain⟨_,o,ho,_⟩:=I.ok.d5.mem hb;exact I.base.free b o ho (I.ok.iZ b hb) fun z=>I.ok.kx b z hb
variable{t':Nat}{ch:List Addr}
theorem Inv.step{g':Array GenState}{d':Drawn}(I:Inv X pins σ H s)
  (i3:∀b∈ch,(b∈X.ex\/X.aM.heap.objs.size<=b)/\b≠X.env.locals/\(∀x c,X.env.cells.lookup x=some c->c≠b)/\∀p∈X.pn++pins,p.1≠b)
  (keep:∀b o,b≠X.env.locals->b∉X.fs->b∉ch->s.heap.get? b=some o->H b=none->h'.get? b=some o)
  (slot:∀b o,b≠X.env.locals->b∈X.fs->b∉ch->s.heap.get? b=some o->H b=none->∃sl,h'.get? b=some { o with slots:=sl }) (free:∀b o,b∉ch->s.heap.get? b=some o->H b=none->H' b=none)
  (there:∀b o,b∉ch->s.heap.get? b=some o->∃o',h'.get? b=some o')
  (ff:∀b xs,H b=some (.tup xs)->H' b=some (.tup xs)) (dP:∀b o u,H b=some (.bz o u)->H' b=some (.bz o u)) (eG:∀b ps,H b=some (.fR ps)->∃more,H' b=some (.fR (ps++more)))
  (ns:∀m,s.heap.Ns X.env.locals m->h'.Ns X.env.locals m) (aJ:cm X.prog X.w H' h') (hg:aek g') :
  Inv X pins σ H' { s with heap:=h',gens:=g',drawn:=d',toks:=t' }:=by
 have jJ:∀b o,X.aM.heap.get? b=some o->b≠X.env.locals:=fun b o e=>abn (aav (aaG e) I.ok.above)
 have lW:∀b o,X.aM.heap.get? b=some o->b∉X.ex->b∉ch:=fun b o e hx hb=>by
  rcases(i3 b hb).1 with z | z
  ·exact hx z
  ·exact absurd (aav (aaG e) z) (abQ _)
 have cellK:∀x c,X.env.cells.lookup x=some c->∀v,s.heap.IsCell c v->h'.IsCell c v:=fun x c e v ⟨o,ho,hd⟩=>by
  have kH:c∉ch:=fun z=>(i3 c z).2.2.1 x c e rfl
  rcases(I.gf x c e).2 with fr | ⟨ob,fr⟩
  ·by_cases hc:c∈X.fs
   ·obtain⟨sl,q⟩:=slot c o (I.jH x c e) hc kH ho fr;exact⟨_,q,hd⟩
   ·exact⟨o,keep c o (I.jH x c e) hc kH ho fr,hd⟩
  ·have e1:s.heap.get? c=some ob:=(I.aJ c _ fr).1;have e2:h'.get? c=some ob:=(aJ c _ (dP c _ _ fr)).1;rw[ho] at e1;cases e1;exact⟨o,e2,hd⟩
 refine⟨I.ok,I.os,hg,⟨fun b o e n hb hx=>?_,fun b o e n hb hx=>?_,fun b o e n hx=>?_,fun b o e hx=>?_,fun b xs e=>ff b xs (I.base.ff b xs e),fun b o xs e=>dP b o xs (I.base.dP b o xs e),fun b ps e=>?_⟩,?_,fun x c e=>?_,?_,fun x c e=>?_,fun p hp=>?_,aJ,I.lk⟩
 ·exact keep b o (jJ b o e) hb (lW b o e hx) (I.base.keep b o e n hb hx) (I.base.free b o e n hx)
 ·obtain⟨sl,e1⟩:=I.base.slot b o e n hb hx;obtain⟨zb,e2⟩:=slot b _ (jJ b o e) hb (lW b o e hx) e1 (I.base.free b o e n hx);exact⟨zb,e2⟩
 ·obtain⟨o',e1⟩:=I.base.there b o e hx;exact free b o' (lW b o e hx) e1 (I.base.free b o e n hx)
 ·obtain⟨o',e1⟩:=I.base.there b o e hx;exact there b o' (lW b o e hx) e1
 ·obtain⟨m1,e1⟩:=I.base.eG b ps e;obtain⟨m2,e2⟩:=eG b _ e1;exact⟨m1++m2,by rw[e2,afk]⟩
 ·obtain⟨m,hn,hl⟩:=I.loc;refine⟨m,ns m hn,fun i x v e1 e2 e3=>?_⟩;obtain⟨u,r,l⟩:=hl i x v e1 e2 e3;refine⟨u,r,?_⟩
  rcases l with l | ⟨k,c,e,z⟩
  ·exact .inl l
  ·exact .inr ⟨k,c,e,cellK x c e _ z⟩
 ·obtain⟨v,z⟩:=I.cell x c e;exact⟨v,cellK x c e v z⟩
 ·obtain⟨m,⟨o,_,_,ho,_⟩,_⟩:=I.loc;exact free _ o (fun z=>(i3 _ z).2.1 rfl) ho I.free
 ·obtain⟨v,o,ho,hd⟩:=I.cell x c e;have kH:c∉ch:=fun z=>(i3 c z).2.2.1 x c e rfl
  exact⟨fun hf=>free c o kH ho ((I.gf x c e).1 hf),(I.gf x c e).2.imp (fun fr=>free c o kH ho fr) fun⟨ob,fr⟩=>⟨ob,dP c _ _ fr⟩⟩
 ·obtain⟨e,n,ne,nf,d⟩:=I.pin p hp;have kH:p.1∉ch:=fun z=>(i3 p.1 z).2.2.2 p hp rfl
  exact⟨keep p.1 p.2 ne nf kH e n,free p.1 p.2 kH e n,ne,nf,d⟩
theorem Inv.un(I:Inv X pins σ H s)(u:Un X.fs [] H H' s.heap h')(aJ:cm X.prog X.w H' h'):Inv X pins σ H' { s with heap:=h',toks:=t' }:=by
 obtain⟨m,⟨o,es,ep,ho,r⟩,_⟩:=id I.loc;obtain⟨sl,hL⟩:=u.any ho I.free (by simp);exact I.step (g':=s.gens) (d':=s.drawn) (ch:=[]) (fun _ z=>nomatch z) (fun b o _ hb _ e n=>u.keep b o e n hb (by simp)) (fun b o _ hb _ e n=>u.slot b o e n hb (by simp)) (fun b o _ e n=>u.free b o e n (by simp)) (fun b o _ e=>u.there b o e (by simp)) u.ff u.dP u.eG (fun m' hm=>by
  obtain⟨o',zc,zd,dn,r'⟩:=hm;rw[ho] at dn;cases dn;exact⟨_,zc,zd,hL,r'⟩) aJ I.bare
theorem Inv.call{g':Array GenState}{d':Drawn}(I:Inv X pins σ H s)(u:Un (cT X.stack) ch H H' s.heap h')(aJ:cm X.prog X.w H' h')(hg:aek g')
  (i3:∀b∈ch,(b∈X.ex\/X.aM.heap.objs.size<=b)/\b≠X.env.locals/\(∀x c,X.env.cells.lookup x=some c->c≠b)/\∀p∈X.pn++pins,p.1≠b) :
  Inv X pins σ H' { s with heap:=h',gens:=g',drawn:=d',toks:=t' }:=by
 obtain⟨m,⟨o,es,ep,ho,r⟩,_⟩:=id I.loc;obtain⟨sl,hL⟩:=u.any ho I.free fun z=>(i3 _ z).2.1 rfl
 exact I.step (ch:=ch) i3 (fun b o hL hb hc e n=>u.keep b o e n (fun z=>(abo.mp (I.xE b z)).elim hL hb) hc) (fun b o _ _ hc e n=>u.any e n hc) (fun b o hc e n=>u.free b o e n hc) (fun b o hc e=>u.there b o e hc) u.ff u.dP u.eG (fun m' hm=>by
  obtain⟨o',zc,zd,dn,r'⟩:=hm;rw[ho] at dn;cases dn;exact⟨_,zc,zd,hL,r'⟩) aJ hg
theorem Inv.turned{it:Addr}(I:Inv X pins σ H s)(k:∀b o,b≠it->s.heap.get? b=some o->h'.get? b=some o)(hn:H it=none)(hL:it≠X.env.locals)
  (h1:it∈X.ex\/X.aM.heap.objs.size<=it) (h2:∀x c,X.env.cells.lookup x=some c->c≠it) (h3:∀p∈X.pn++pins,p.1≠it):Inv X pins σ H { s with heap:=h',toks:=t' }:=by
 have Gb:∀b u,H b=some u->b≠it:=fun b u e z=>by rw[z,hn] at e;cases e
 refine I.step (g':=s.gens) (d':=s.drawn) (ch:=[it]) (fun b hb=>?_) (fun b o _ _ hc e _=>k b o (fun z=>hc (by simp[z])) e) (fun b o _ _ hc e _=>⟨o.slots,k b o (fun z=>hc (by simp[z])) e⟩) (fun _ _ _ _ n=>n)
  (fun b o hc e=>⟨o,k b o (fun z=>hc (by simp[z])) e⟩) (fun _ _ e=>e) (fun _ _ _ e=>e) (fun b ps e=>⟨#[],by rw[e];simp⟩) (fun m hm=>?_) (fun b u e=>?_) I.bare
 ·have e:b=it:=by simpa using hb
  subst e;exact⟨h1,hL,h2,h3⟩
 ·obtain⟨o,es,ep,ho,r⟩:=hm;exact⟨o,es,ep,k _ o (adt hL) ho,r⟩
 ·refine(I.aJ b u e).jt (fun c v hc q=>k c v ?_ q) (fun _ q=>q) fun _ _ q=>q
  rcases hc with z | z
  ·rw[z];exact Gb b u e
  ·exact Gb c _ z
theorem Inv.tok(I:Inv X pins σ H s)(t:Nat):Inv X pins σ H { s with toks:=t }:=I.un (h':=s.heap) (t':=t) Un.refl I.aJ
theorem Inv.kept{t':Nat}(I:Inv X pins σ H s)(k:∀b u,s.heap.get? b=some u->h'.get? b=some u):Inv X pins σ H { s with heap:=h',toks:=t' }:=I.un (Un.kept k) (I.aJ.kept k)
theorem Inv.laid{a:Addr}{o:HO}{t':Nat}(I:Inv X pins σ H s)(k:∀b u,s.heap.get? b=some u->h'.get? b=some u)(hp:s.heap.objs.size<=a)(new:cW X.prog X.w (upd H a o) h' a o) :
  Inv X pins σ (upd H a o) { s with heap:=h',toks:=t' }:=I.un (Un.laid k hp (I.aJ.fresh hp)) (I.aJ.laid k hp new)
theorem Inv.write{x e:Addr}{o:HO}{t':Nat}(I:Inv X pins σ H s)(mu:jG (H x))(he:e=x\/H e=some (.own x))(k:∀b u,b≠e->s.heap.get? b=some u->h'.get? b=some u)(oz:∃u,h'.get? e=some u)
  (new:cW X.prog X.w (upd H x o) h' x o):Inv X pins σ (upd H x o) { s with heap:=h',toks:=t' }:=I.un (Un.write mu he k oz) (I.aJ.write mu he k oz new)
theorem Inv.CS{gj:List (Addr×Obj)}(I:Inv X pins σ H s)(h:∀p∈gj,s.heap.get? p.1=some p.2/\H p.1=none/\p.1≠X.env.locals/\p.1∉X.fs/\∀v,p.2.data≠.cell v):Inv X gj σ H s:=
 ⟨I.ok,I.os,I.bare,I.base,I.loc,I.cell,I.free,I.gf,fun p hp=>(abu.mp hp).elim (fun z=>I.pin p (abI _ z)) (h p),I.aJ,I.lk⟩
variable{i:Nat}{x:Str}
theorem wL{N:List Str}(hN:N.Nodup){j:Nat}(a:N[i]? =some x)(b:N[j]? =some x):i=j:=by
 obtain⟨h1,e1⟩:=aal.mp a;obtain⟨h2,e2⟩:=aal.mp b;exact(List.getElem_inj hN).mp (e1.trans e2.symm)
theorem B1{M:Model}{A:abT}{E:Value->aam->Prop}{v:V}{u:Value}{Q:Unit->aam->Prop}(I:Inv X pins σ H s)(hN:X.N.Nodup)(hi:X.N[i]? =some x)(hx:Loc X.env.scope x)(r:RelV v u)
  (h:∀s',Inv X pins (σ.set i (some v)) H s'->(∃a,adZ a s.heap s'.heap/\(a=X.env.locals\/X.env.cells.lookup x=some a))->Q () s') (hf:(X.fn x=true\/X.env.scope.names.lookup x=some .local)/\gJ X x):wpAny M A (storeName X.env x u) Q E s:=by
 obtain⟨m,hn,hl⟩:=id I.loc;have yG:(X.env.scope.kind==.class||(X.env.scope.kind==.module&&X.env.locals != X.env.globals))=false:=by rw[I.ok.kind];rfl
 have Gd:i<σ.length:=by rw[I.len];exact(aal.mp hi).1
 have jH:=I.jH;have tracked:∀{a:Addr} {h':Heap},(∃o,s.heap.get? a=some o/\H a=none)->adZ a s.heap h'->cm X.prog X.w H h':=fun{a h'} ha hs b ob e=>by
  obtain⟨_,_,Ew⟩:=ha;refine(I.aJ b ob e).jt (fun c w' hc q=>(hs.2 c ?_).trans q) (fun _ q=>q) fun _ _ q=>q
  rintro rfl
  rcases hc with rfl | hc
  ·rw[Ew] at e;cases e
  ·rw[Ew] at hc;cases hc
 rcases hx with hk | hk
 ·refine wpAny_storeName_local hk hn (fun h' jK hs=>?_) yG;obtain⟨oL,_,_,Zr,_⟩:=id hn;refine h _ ⟨I.ok,I.os,I.bare,⟨fun b o e n hb hx=>?_,fun b o e n hb hx=>?_,I.base.free,fun b o e hx=>?_,I.base.ff,I.base.dP,I.base.eG⟩,⟨_,jK,fun j y v' e1 e2 e3=>?_⟩,fun y c e=>?_,I.free,I.gf,fun p hp=>?_,tracked ⟨oL,Zr,I.free⟩ hs,⟨by simpa using I.len,hf.2 i hi σ (some v) I.lk.2⟩⟩ ⟨_,hs,.inl rfl⟩
  ·exact(hs.2 b (abn (aav (aaG e) I.ok.above))).trans (I.base.keep b o e n hb hx)
  ·obtain⟨sl,e1⟩:=I.base.slot b o e n hb hx;exact⟨sl,(hs.2 b (abn (aav (aaG e) I.ok.above))).trans e1⟩
  ·obtain⟨o',e1⟩:=I.base.there b o e hx;exact⟨o',(hs.2 b (abn (aav (aaG e) I.ok.above))).trans e1⟩
  ·by_cases hj:j=i
   ·subst hj;rw[hi] at e1;cases e1;rw[acJ Gd] at e2;cases e2;exact⟨u,r,.inl ⟨hk,by simp⟩⟩
   ·rw[abP (adt hj)] at e2;obtain⟨u',r',q⟩:=hl j y v' e1 e2 e3;refine⟨u',r',?_⟩
    rcases q with⟨k,e⟩ | ⟨k,c,e,z⟩
    ·refine .inl ⟨k,?_⟩;have:y≠x:=fun e=>hj (wL hN e1 (e▸hi))
     simp[this,e]
    ·exact .inr ⟨k,c,e,z.sameBut hs (jH y c e)⟩
  ·obtain⟨w',z⟩:=I.cell y c e;exact⟨w',z.sameBut hs (jH y c e)⟩
  ·obtain⟨e,n,ne,nf,d⟩:=I.pin p hp;exact⟨(hs.2 p.1 ne).trans e,n,ne,nf,d⟩
 ·have vc:X.fn x=true:=by
   rcases hf.1 with z | z
   ·exact z
   ·rw[z] at hk;cases hk
  obtain⟨c,hc⟩:=I.ok.has x (.inl hk);obtain⟨w',z⟩:=I.cell x c hc;refine wpAny_storeName_cell I.ok.kind hk hc z (fun h' vd hs=>?_);obtain⟨oc,Ge,YD⟩:=id z;refine h { s with heap:=h' } ⟨I.ok,I.os,I.bare,⟨fun b o e n hb hx=>?_,fun b o e n hb hx=>?_,I.base.free,fun b o e hx=>?_,I.base.ff,I.base.dP,I.base.eG⟩,⟨m,hn.sameBut hs (adt (jH x c hc)),fun j y v' e1 e2 e3=>?_⟩,fun y c' e=>?_,I.free,I.gf,fun p hp=>?_,tracked ⟨oc,Ge,(I.gf x c hc).1 vc⟩ hs,⟨by simpa using I.len,hf.2 i hi σ (some v) I.lk.2⟩⟩ ⟨c,hs,.inr hc⟩
  ·exact(hs.2 b (abn (aav (aaG e) (I.ok.kG x c vc hc)))).trans (I.base.keep b o e n hb hx)
  ·obtain⟨sl,e1⟩:=I.base.slot b o e n hb hx;exact⟨sl,(hs.2 b (abn (aav (aaG e) (I.ok.kG x c vc hc)))).trans e1⟩
  ·obtain⟨o',e1⟩:=I.base.there b o e hx;exact⟨o',(hs.2 b (abn (aav (aaG e) (I.ok.kG x c vc hc)))).trans e1⟩
  ·by_cases hj:j=i
   ·subst hj;rw[hi] at e1;cases e1;rw[acJ Gd] at e2;cases e2;exact⟨u,r,.inr ⟨.inl hk,c,hc,vd⟩⟩
   ·rw[abP (adt hj)] at e2;obtain⟨u',r',q⟩:=hl j y v' e1 e2 e3;refine⟨u',r',?_⟩
    rcases q with q | ⟨k,c',e,z'⟩
    ·exact .inl q
    ·refine .inr ⟨k,c',e,z'.sameBut hs ?_⟩;rintro rfl;exact hj (wL hN e1 (I.ok.inj _ _ _ e hc▸hi))
  ·by_cases kI:c'=c
   ·subst kI;exact⟨_,vd⟩
   ·obtain⟨w2,z2⟩:=I.cell y c' e;exact⟨w2,z2.sameBut hs kI⟩
  ·obtain⟨e,n,ne,nf,d⟩:=I.pin p hp;refine⟨(hs.2 p.1 ?_).trans e,n,ne,nf,d⟩;intro q;rw[q,Ge] at e;have q':oc=p.2:=abh e;exact d w' (by rw[<- q'];exact YD)
theorem wM{M:Model}{A:abT}{E:Value->aam->Prop}{v:V}{u:Value}{Q:Unit->aam->Prop}(I:Inv X pins σ H s)(hN:X.N.Nodup)(hi:X.N[i]? =some x)(hx:Loc X.env.scope x)(r:RelV v u)
  (h:∀s',Inv X pins (σ.set i (some v)) H s'->Q () s') (hf:(X.fn x=true\/X.env.scope.names.lookup x=some .local)/\gJ X x):wpAny M A (storeName X.env x u) Q E s:=
 B1 I hN hi hx r (fun s' I' _=>h s' I') hf
theorem Inv.Ey{s':aam}(I:Inv X pins σ H s)(ho:s'.os=s.os)(u:Un (cT X.stack) ch H H' s.heap s'.heap)(aJ:cm X.prog X.w H' s'.heap)(hg:aek s'.gens)
  (i3:∀b∈ch,(b∈X.ex\/X.aM.heap.objs.size<=b)/\b≠X.env.locals/\(∀x c,X.env.cells.lookup x=some c->c≠b)/\∀p∈X.pn++pins,p.1≠b):Inv X pins σ H' s':=by
 obtain⟨h',g',d',t',o'⟩:=s';have e:o'=s.os:=ho;subst e;exact I.call (g':=g') (t':=t') (d':=d') u aJ hg i3
end
abbrev XK:=Value->Option Addr->Hp->Prop
abbrev St:=List (Option V)
abbrev VK:=V->Hp->Prop
abbrev TE:=St->Hp->VK->Prop
abbrev TT:=St->Hp->(Bool->Hp->Prop)->Prop
abbrev TA:=St->Hp->(List V->Hp->Prop)->Prop
structure Ends where
 nx:St->Hp->Prop
 rt:VK
 bk:St->Hp->Prop:=fun _ _=>False
 ct:St->Hp->Prop:=fun _ _=>False
abbrev TS:=Ends->St->Hp->Prop
noncomputable def EP(X:Cx)(pins:List (Addr×Obj))(σ:St)(Q:VK)(u:Value)(s':aam):Prop:=∃v H',Inv X pins σ H' s'/\RelV v u/\Q v H'
noncomputable def TP(X:Cx)(pins:List (Addr×Obj))(σ:St)(Q:Bool->Hp->Prop)(b:Bool)(s':aam):Prop:=∃H',Inv X pins σ H' s'/\Q b H'
noncomputable def AP(X:Cx)(pins:List (Addr×Obj))(σ:St)(Q:List V->Hp->Prop)(us:List Value)(s':aam):Prop:=∃vs H',Inv X pins σ H' s'/\Vals vs us/\Q vs H'
noncomputable def SP(X:Cx)(pins:List (Addr×Obj))(D:Ends)(f:Flow)(s':aam):Prop:=
 match f with
 | .next=>∃ao H',Inv X pins ao H' s'/\D.nx ao H'
 | .brk=>∃ao H',Inv X pins ao H' s'/\D.bk ao H'
 | .cont=>∃ao H',Inv X pins ao H' s'/\D.ct ao H'
 | .ret u=>∃v ao H',Inv X pins ao H' s'/\RelV v u/\D.rt v H'
noncomputable def PE(X:Cx)(e:Expr)(t:TE):Prop:=
 ∀(pins:List (Addr×Obj)) (s:aam) (σ:St) (H:Hp) (Q:VK),Inv X pins σ H s->t σ H Q->wpAny (model X.prog X.w) X.A (eval e X.env) (EP X pins σ Q) X.xe s
noncomputable def PT(X:Cx)(e:Expr)(t:TT):Prop:=
 ∀(pins:List (Addr×Obj)) (s:aam) (σ:St) (H:Hp) (Q:Bool->Hp->Prop),Inv X pins σ H s->t σ H Q->wpAny (model X.prog X.w) X.A (isTrue e X.env (eval e X.env)) (TP X pins σ Q) X.xe s
noncomputable def PW(X:Cx)(e:Expr)(t:TT):Prop:=
 ∀(whole:Sem Value) (pins:List (Addr×Obj)) (s:aam) (σ:St) (H:Hp) (Q:Bool->Hp->Prop),Inv X pins σ H s->t σ H Q->wpAny (model X.prog X.w) X.A (isTrue e X.env whole) (TP X pins σ Q) X.xe s
theorem PW.pt{e:Expr}{t:TT}(h:PW X e t):PT X e t:=h _
noncomputable def PA(X:Cx)(es:List Expr)(t:TA):Prop:=
 ∀(pos:Pos) (pins:List (Addr×Obj)) (s:aam) (σ:St) (H:Hp) (Q:List V->Hp->Prop),Inv X pins σ H s->t σ H Q->wpAny (model X.prog X.w) X.A (spliced (ady pos (aaY es X.env))) (AP X pins σ Q) X.xe s
noncomputable def PS(X:Cx)(st:Stmt)(t:TS):Prop:=
 ∀(pins:List (Addr×Obj)) (s:aam) (σ:St) (H:Hp) (D:Ends),Inv X pins σ H s->t D σ H->wpAny (model X.prog X.w) X.A (exec st X.env) (SP X pins D) X.xe s
noncomputable def fh(X:Cx)(st:List Stmt)(t:TS):Prop:=
 ∀(pins:List (Addr×Obj)) (s:aam) (σ:St) (H:Hp) (D:Ends),Inv X pins σ H s->t D σ H->wpAny (model X.prog X.w) X.A (execs st X.env) (SP X pins D) X.xe s
variable{A:abT}
theorem aX{α:Type}{t:Sem α}{Q Q':α->aam->Prop}{M:Model}{E:Value->aam->Prop}{s:aam}(h:wpAny M A t Q E s)(hQ:∀a s,Q a s->Q' a s):wpAny M A t Q' E s:=abB h hQ fun _ _ x=>x
section
variable{X:Cx}
variable{σ:St}{H:Hp}
theorem bin{a b:Expr}{ta tb:TE}(ha:PE X a ta)(hb:PE X b tb){pins:List (Addr×Obj)}{s:aam}{R:V->V->Hp->Prop}(I:Inv X pins σ H s)(h:ta σ H fun x H1=>tb σ H1 fun y H2=>R x y H2)
  {α:Type} {Q:α->aam->Prop} {f:Value->Value->Sem α}
  (hf:∀v u s2 x y H2,Inv X pins σ H2 s2->RelV x v->RelV y u->R x y H2->wpAny (model X.prog X.w) X.A (f v u) Q X.xe s2) :
  wpAny (model X.prog X.w) X.A (eval a X.env) (fun v bB=>wpAny (model X.prog X.w) X.A (eval b X.env) (fun u rg=>wpAny (model X.prog X.w) X.A (f v u) Q X.xe rg) X.xe bB) X.xe s:=by
 refine aX (ha pins s σ H _ I h) fun v s1 ⟨x,H1,I1,r1,q1⟩=>?_
 refine aX (hb pins s1 σ H1 _ I1 q1) fun u s2 ⟨y,H2,I2,r2,q2⟩=>?_
 exact hf v u s2 x y H2 I2 r1 r2 q2
noncomputable def YE(i:Nat):TE:=fun σ H Q=>∃v,σ[i]? =some (some v)/\Q v H
noncomputable def tC(v:V):TE:=fun _ H Q=>Q v H
variable{x:Str}
theorem UX{i:Nat}{pos:Pos}(hN:X.N[i]? =some x)(hv:aI X.env.scope x)(hd:(x==("__debug__":Str))=false:=by decide)(hcd:(x==("__classdict__":Str))=false:=by decide):PE X (.Name x pos) (YE i):=by
 intro pins s σ H Q I h;obtain⟨v,e,h⟩:=h;obtain⟨m,hn,hl⟩:=I.loc;obtain⟨u,r,l⟩:=hl i x v hN e hv;have fin:EP X pins σ Q u s:=⟨v,H,I,r,h⟩
 rcases l with⟨hk,hm⟩ | ⟨hk,c,hc,uq⟩
 ·exact wpAny_Name (wpAny_loadName_local I.ok.kind hk hn hm fin) hd
 ·rcases hk with hk | hk
  ·exact wpAny_Name (wpAny_loadName_cell I.ok.kind hk hc uq fin) hd
  ·exact wpAny_Name (wpAny_loadName_free I.ok.kind hk hc uq fin hcd) hd
theorem UY{i j pos}:PE X (.Constant (.int i) j pos) (tC (.int i)):=fun _ _ _ H _ I h=>wpAny_Constant_int ⟨.int i,H,I.tok _,⟨_,rfl⟩,h⟩
theorem Xh{b j pos}:PE X (.Constant (.bool b) j pos) (tC (.bl b)):=fun _ _ _ H _ I h=>Constant_bool ⟨.bl b,H,I,rfl,h⟩
theorem UZ{j pos}:PE X (.Constant .none j pos) (tC .aC):=fun _ _ _ H _ I h=>Constant_none ⟨.aC,H,I,rfl,h⟩
theorem U0{x j pos}:PE X (.Constant (.str x) j pos) (tC (.str x)):=fun _ _ _ H _ I h=>Calls.Constant_str ⟨.str x,H,I.tok _,⟨_,rfl⟩,h⟩
noncomputable def Gl(X:Cx)(x:Str):Prop:=X.env.kindOf x=some .globalImplicit
variable{u:Value}
theorem m7{E:Value->aam->Prop}{pins:List (Addr×Obj)}{s:aam}{pos:Pos}{Q:Value->aam->Prop}(I:Inv X pins σ H s)(hg:Gl X x)(hm:X.mg x=some u)(h:Q u s)
  (hd:(x==("__debug__":Str))=false:=by decide):wpAny (model X.prog X.w) X.A (eval (.Name x pos) X.env) Q E s:=
 adV I.ok.kind hg (Calls.loadGlobal_global (by rw[I.ok.glob];exact I.mod.glob.keeps I.bk) hm h) hd
theorem ud{E:Value->aam->Prop}{pins:List (Addr×Obj)}{s:aam}{pos:Pos}{Q:Value->aam->Prop}(I:Inv X pins σ H s)(hg:Gl X x)(hm:X.mg x=none)(hv:aby x=some u)(h:Q u s)
  (hn:x≠"__name__":=by decide) (hd:(x==("__debug__":Str))=false:=by decide):wpAny (model X.prog X.w) X.A (eval (.Name x pos) X.env) Q E s:=by
 obtain⟨mb,h1,h2⟩:=I.mod.blt;exact adV I.ok.kind hg (Calls.loadGlobal_builtin (by rw[I.ok.glob];exact I.mod.glob.keeps I.bk) hm (by rw[I.ok.blt];exact h1.keeps I.bk) ((h2 x hn).trans hv) h) hd
theorem CT{v:V}{pos:Pos}(hg:Gl X x)(hm:X.mg x=some u)(r:RelV v u)(hd:(x==("__debug__":Str))=false:=by decide):PE X (.Name x pos) (tC v):=
 fun _ _ _ H _ I h=>m7 I hg hm ⟨v,H,I,r,h⟩ hd
theorem CU{v:V}{pos:Pos}(hg:Gl X x)(hm:X.mg x=none)(hv:aby x=some u)(r:RelV v u)(hn:x≠"__name__":=by decide)(hd:(x==("__debug__":Str))=false:=by decide):PE X (.Name x pos) (tC v):=
 fun _ _ _ H _ I h=>ud I hg hm hv ⟨v,H,I,r,h⟩ hn hd
variable{a b:Expr}{ta tb:TE}{pos:Pos}
noncomputable def tB(t:TE):TT:=fun σ H Q=>t σ H fun x H1=>∃c,x=.bl c/\Q c H1
variable{tA ve:TT}{rest:List Expr}
noncomputable def qd(t u:TT):TT:=fun σ H Q=>t σ H fun c H1=>if c=true then u σ H1 Q else Q false H1
noncomputable def Gf(t u:TT):TT:=fun σ H Q=>t σ H fun c H1=>if c=true then Q true H1 else u σ H1 Q
noncomputable def YF(t:TT):TT:=fun σ H Q=>t σ H fun c H1=>Q (!c) H1
theorem S4(ha:PT X a tA):PW X (.BoolOp .And [a] pos) tA:=by
 intro wh pins s σ H Q I h;refine isTrue_and (aX (ha pins s σ H Q I h) fun c s1 e=>?_);cases c with
 | true=>exact isTrue_and_nil e
 | false=>exact e
theorem U1(ha:PT X a tA):PW X (.BoolOp .Or [a] pos) tA:=by
 intro wh pins s σ H Q I h;refine isTrue_or (aX (ha pins s σ H Q I h) fun c s1 e=>?_);cases c with
 | false=>exact isTrue_or_nil e
 | true=>exact e
theorem U2(ha:PT X a tA)(hb:PW X (.BoolOp .And (b::rest) pos) ve):PW X (.BoolOp .And (a::b::rest) pos) (qd tA ve):=by
 intro wh pins s σ H Q I h;refine isTrue_and (aX (ha pins s σ H _ I h) fun c s1 ⟨H1,I1,q1⟩=>?_);cases c with
 | true=>exact hb wh pins s1 σ H1 Q I1 q1
 | false=>exact⟨H1,I1,q1⟩
theorem Xi(ha:PT X a tA)(hb:PW X (.BoolOp .Or (b::rest) pos) ve):PW X (.BoolOp .Or (a::b::rest) pos) (Gf tA ve):=by
 intro wh pins s σ H Q I h;refine isTrue_or (aX (ha pins s σ H _ I h) fun c s1 ⟨H1,I1,q1⟩=>?_);cases c with
 | true=>exact⟨H1,I1,q1⟩
 | false=>exact hb wh pins s1 σ H1 Q I1 q1
theorem U3(ha:PT X a tA):PT X (.UnaryOp .Not a pos) (YF tA):=by
 intro pins s σ H Q I h;exact isTrue_not (ha pins s σ H (fun c H1=>Q (!c) H1) I h)
noncomputable def Xj(ta tb:TE):TE:=fun σ H Q=>ta σ H fun x H1=>∃c,x=.bl c/\if c=true then tb σ H1 Q else Q (.bl false) H1
noncomputable def YG(ta tb:TE):TE:=fun σ H Q=>ta σ H fun x H1=>∃c,x=.bl c/\if c=true then Q (.bl true) H1 else tb σ H1 Q
noncomputable def Xk(ta:TE):TE:=fun σ H Q=>ta σ H fun x H1=>∃c,x=.bl c/\Q (.bl (!c)) H1
theorem U4{op}{t:TE}(h:PE X a t):PE X (.BoolOp op [a] pos) t:=fun pins s σ H Q I hw=>BoolOp_one (h pins s σ H Q I hw)
theorem U5(ha:PE X a ta)(hb:PE X (.BoolOp .And (b::rest) pos) tb):PE X (.BoolOp .And (a::b::rest) pos) (Xj ta tb):=by
 intro pins s σ H Q I h;refine BoolOp_and (aX (ha pins s σ H _ I h) fun v s1 ⟨x,H1,I1,r1,q1⟩=>?_);obtain⟨c,rfl,q1⟩:=q1;cases r1;refine abE ?_;cases c with
 | true=>exact hb pins s1 σ H1 Q I1 q1
 | false=>exact⟨.bl false,H1,I1,rfl,q1⟩
theorem Xl(ha:PE X a ta)(hb:PE X (.BoolOp .Or (b::rest) pos) tb):PE X (.BoolOp .Or (a::b::rest) pos) (YG ta tb):=by
 intro pins s σ H Q I h;refine BoolOp_or (aX (ha pins s σ H _ I h) fun v s1 ⟨x,H1,I1,r1,q1⟩=>?_);obtain⟨c,rfl,q1⟩:=q1;cases r1;refine abE ?_;cases c with
 | false=>exact hb pins s1 σ H1 Q I1 q1
 | true=>exact⟨.bl true,H1,I1,rfl,q1⟩
theorem U6(ha:PE X a ta):PE X (.UnaryOp .Not a pos) (Xk ta):=by
 intro pins s σ H Q I h;refine UnaryOp_ (aX (ha pins s σ H _ I h) fun v s1 ⟨x,H1,I1,r1,q1⟩=>?_);obtain⟨c,rfl,q1⟩:=q1;cases r1;exact not_of (abE ⟨.bl (!c),H1,I1,rfl,q1⟩)
noncomputable def Zs(t:TT)(ta tb:TE):TE:=fun σ H Q=>t σ H fun c H1=>if c=true then ta σ H1 Q else tb σ H1 Q
theorem RN{c:Expr}(hc:PT X c tA)(ha:PE X a ta)(hb:PE X b tb):PE X (.IfExp c a b pos) (Zs tA ta tb):=by
 intro pins s σ H Q I h;refine wpAny_IfExp (aX (hc pins s σ H _ I h) fun d s1 ⟨H1,I1,q1⟩=>?_);cases d with
 | true=>exact ha pins s1 σ H1 Q I1 q1
 | false=>exact hb pins s1 σ H1 Q I1 q1
end
noncomputable def bD(K:aaj)(H:Hp)(a:Addr)(xs:List V):Prop:=
 Rd H a (.lst xs) \/
  ∃(o:Obj) (its:Array Value) (n:Nat),K.lookup a=some o/\o.cls=.type "list"/\o.dict=none/\o.data=.seq its n/\its.size<=aaD/\Vals xs its.toList
noncomputable def bZ(K:aaj)(H:Hp)(a:Addr)(xs:List V):Prop:=
 Rd H a (.tup xs) \/
  ∃(o:Obj) (its:Array Value) (n:Nat),K.lookup a=some o/\o.cls=.type "tuple"/\o.data=.seq its n/\its.size<=aaD/\Vals xs its.toList
noncomputable def YH:Value->Option V
 | .none=>some .aC
 | .bool b=>some (.bl b)
 | .int i _=>some (.int i)
 | .str x _=>some (.str x)
 | .bytes b _=>some (.oy b)
 | .float b _=>some (.u6 b)
 | .ref a=>some (.ref a)
 | .type n=>some (.ty n)
 | _=>none
theorem RelV.abs{x:V}{u:Value}(r:RelV x u):YH u=some x:=by
 cases x with
 | aC=>cases r;rfl
 | bl _=>cases r;rfl
 | int _=>obtain⟨t,rfl⟩:=r;rfl
 | str _=>obtain⟨t,rfl⟩:=r;rfl
 | oy _=>obtain⟨t,rfl⟩:=r;rfl
 | u6 _=>obtain⟨t,rfl⟩:=r;rfl
 | ref _=>cases r;rfl
 | ty _=>cases r;rfl
theorem RelV.inj{x y:V}{u:Value}(r:RelV x u)(q:RelV y u):x=y:=abh (r.abs.symm.trans q.abs)
theorem Vals.inj:∀{xs ys:List V} {us:List Value},Vals xs us->Vals ys us->xs=ys
 | _,_,_,.nil,.nil=>rfl
 | _,_,_,.cons r t,.cons r' t'=>by rw[r.inj r',Vals.inj t t']
section
variable{X:Cx}{pins:List (Addr×Obj)}{σ:St}{H:Hp}{s:aam}{a:Addr}{xs ys:List V}
theorem bD.of{K:aaj}(h:H a=some (.lst xs)):bD K H a xs:=.inl (.inl h)
theorem bZ.of{K:aaj}(h:H a=some (.tup xs)):bZ K H a xs:=.inl (.inl h)
theorem Inv.list(I:Inv X pins σ H s)(h:bD X.K H a xs):∃its:List Value,Vals xs its/\PlainL s.heap a its.toArray/\xs.length<=sizeLine:=by
 rcases h with h | ⟨o,its,n,hk,hc,hd,hs,hz,r⟩
 ·obtain⟨z,its,n,r,e⟩:=h.ok I.aJ;exact⟨its,r,⟨_,n,e,rfl,rfl,rfl⟩,z⟩
 ·refine⟨its.toList,r,⟨o,n,I.dh a o hk,hc,hd,by simpa using hs⟩,?_⟩;have e:=r.length;simp only[acx] at e;omega
theorem Inv.tuple(I:Inv X pins σ H s)(h:bZ X.K H a xs):∃its:List Value,Vals xs its/\IsTup s.heap a its.toArray/\xs.length<=sizeLine:=by
 rcases h with h | ⟨o,its,n,hk,hc,hs,hz,r⟩
 ·obtain⟨z,its,r,p⟩:=h.ok I.aJ;exact⟨its,r,p,z⟩
 ·refine⟨its.toList,r,⟨o,I.dh a o hk,hc,n,by simpa using hs⟩,?_⟩;have e:=r.length;simp only[acx] at e;omega
theorem Inv.RO(I:Inv X pins σ H s)(h:bD X.K H a xs)(h':bD X.K H a ys):xs=ys:=by
 obtain⟨its,r,⟨o,n,e,_,_,d⟩,_⟩:=I.list h;obtain⟨its',r',⟨o',n',e',_,_,d'⟩,_⟩:=I.list h';rw[e] at e';cases e';rw[d] at d';injection d' with d1 _
 have:its=its':=by simpa using congrArg afz d1
 subst this;exact r.inj r'
theorem Inv.Qv(I:Inv X pins σ H s)(h:bZ X.K H a xs)(h':bZ X.K H a ys):xs=ys:=by
 obtain⟨its,r,⟨o,e,_,n,d⟩,_⟩:=I.tuple h;obtain⟨its',r',⟨o',e',_,n',d'⟩,_⟩:=I.tuple h';rw[e] at e';cases e';rw[d] at d';injection d' with d1 _
 have:its=its':=by simpa using congrArg afz d1
 subst this;exact r.inj r'
end
section
variable{X:Cx}{st:Stmt}{rest:List Stmt}{t u:TS}{e:Expr}{te:TE}{pos:Pos}
noncomputable def Xm:TS:=fun D σ H=>D.nx σ H
noncomputable def Fs(t u:TS):TS:=fun D σ H=>t { D with nx:=u D } σ H
theorem S5:fh X [] Xm:=fun _ _ σ H _ I h=>acQ ⟨σ,H,I,h⟩
theorem RP(h1:PS X st t)(h2:fh X rest u):fh X (st::rest) (Fs t u):=by
 intro pins s σ H D I h;refine wpAny_execs_cons (aX (h1 pins s σ H { D with nx:=u D } I h) fun f s1 q=>?_);cases f with
 | next=>
  obtain⟨ao,H',I',q⟩:=q;exact h2 pins s1 ao H' D I' q
 | ret v=>exact q
 | brk=>exact q
 | cont=>exact q
theorem S6(h1:PS X st t):fh X [st] t:=by
 intro pins s σ H D I h;refine wpAny_execs_cons (aX (h1 pins s σ H D I h) fun f s1 q=>?_);cases f with
 | next=>exact acQ q
 | ret v=>exact q
 | brk=>exact q
 | cont=>exact q
theorem Inv.quiet{pins:List (Addr×Obj)}{σ:St}{H:Hp}{s:aam}(I:Inv X pins σ H s):interactive X.env=false:=by simp[interactive,I.ok.kind]
noncomputable def Xn(te:TE):TS:=fun D σ H=>te σ H fun _ H1=>D.nx σ H1
theorem S7(he:PE X e te)(hs:acR e none pos.line X.env=pure false:=by rfl):PS X (.Expr e pos) (Xn te):=by
 intro pins s σ H D I h;exact wpAny_Expr_any (aX (he pins s σ H _ I h) fun v s1 ⟨x,H1,I1,r1,q1⟩=>⟨σ,H1,I1,q1⟩) I.quiet hs
noncomputable def YI(te:TE):TS:=fun D σ H=>te σ H D.rt
theorem U7(he:PE X e te):PS X (.Return (some e) pos) (YI te):=by
 intro pins s σ H D I h;exact wpAny_Return_some (aX (he pins s σ H _ I h) fun v s1 ⟨x,H1,I1,r1,q1⟩=>⟨x,σ,H1,I1,r1,q1⟩)
noncomputable def YJ(c:TT)(t u:TS):TS:=fun D σ H=>c σ H fun b H1=>if b=true then t D σ H1 else u D σ H1
theorem Xo{c:Expr}{a b:List Stmt}{tc:TT}(hc:PT X c tc)(ha:fh X a t)(hb:fh X b u):PS X (.If c a b pos) (YJ tc t u):=by
 intro pins s σ H D I h;refine wpAny_If (aX (hc pins s σ H _ I h) fun d s1 ⟨H1,I1,q1⟩=>?_);cases d with
 | true=>exact ha pins s1 σ H1 D I1 q1
 | false=>exact hb pins s1 σ H1 D I1 q1
end
abbrev TG:=V->St->Hp->(St->Hp->Prop)->Prop
noncomputable def PG(X:Cx)(target:Expr)(t:TG):Prop:=
 ∀(pins:List (Addr×Obj)) (s:aam) (σ:St) (H:Hp) (v:V) (u:Value) (Q:St->Hp->Prop),Inv X pins σ H s->RelV v u->t v σ H Q →
  wpAny (model X.prog X.w) X.A (afA target X.env u) (fun _ s'=>∃ao H',Inv X pins ao H' s'/\Q ao H') X.xe s
abbrev qe:=V->V->V->Hp->(Hp->Prop)->Prop
noncomputable def jw(X:Cx)(t:qe):Prop:=
 ∀(pins:List (Addr×Obj)) (s:aam) (σ:St) (H:Hp) (o i v:V) (ov iv u:Value) (Q:Hp->Prop),Inv X pins σ H s->RelV o ov->RelV i iv->RelV v u->t o i v H Q →
  wpAny (model X.prog X.w) X.A (setItem ov iv u) (fun _ s'=>∃H',Inv X pins σ H' s'/\Q H') X.xe s
section
variable{X:Cx}{pos:Pos}
noncomputable def yc(i:Nat):TG:=fun v σ H Q=>Q (σ.set i (some v)) H
theorem S8{i:Nat}{x:Str}(hN:X.N.Nodup)(hi:X.N[i]? =some x)(hx:Loc X.env.scope x)(hf:(X.fn x=true\/X.env.scope.names.lookup x=some .local)/\gJ X x):PG X (.Name x pos) (yc i):=by
 intro pins s σ H v u Q I r h;exact wpAny_assign_Name (wM I hN hi hx r (fun s' I'=>⟨_,H,I',h⟩) hf)
noncomputable def YK(to ti:TE)(t:qe):TG:=fun v σ H Q=>to σ H fun o H1=>ti σ H1 fun i H2=>t o i v H2 fun H3=>Q σ H3
theorem DE{o i:Expr}{to ti:TE}{t:qe}(ho:PE X o to)(hi:PE X i ti)(hs:jw X t)
  (ha:∀v,afA (.Subscript o i pos) X.env v=(do
   let ov <- adM [v] (eval o X.env)
   let iv <- adM [v,ov] (eval i X.env)
   standAt pos
   adM [v,ov,iv] (setItem ov iv v)
   release [v,ov,iv] []):=by intro _;rfl):PG X (.Subscript o i pos) (YK to ti t):=by
 intro pins s σ H v u Q I r h;rw[ha];refine aak (abG (aX (ho pins s σ H _ I h) fun ov s1 ⟨x,H1,I1,r1,q1⟩=>?_));refine aak (abG (aX (hi pins s1 σ H1 _ I1 q1) fun iv s2 ⟨y,H2,I2,r2,q2⟩=>?_));refine aak (wpAny_standAt (aak (abG (aX (hs pins s2 σ H2 x y v ov iv u _ I2 r1 r2 r q2) fun _ s3 ⟨H3,I3,q3⟩=>?_))));exact wpAny_release ⟨σ,H3,I3,q3⟩
noncomputable def uG(te:TE)(g:TG):TS:=fun D σ H=>te σ H fun x H1=>g x σ H1 D.nx
theorem U8{tg e:Expr}{te:TE}{g:TG}(he:PE X e te)(hg:PG X tg g)(hs:swapsWithSole [tg] e pos.line X.env=pure false:=by rfl)(hw:swappedStores [tg] e X.env=pure none:=by rfl)
  (h1:(assignEach [tg] X.env).map (·.2)=[afA tg X.env]:=by rfl):PS X (.Assign [tg] e pos) (uG te g):=by
 intro pins s σ H D I h;refine wpAny_Assign_stores (aX (he pins s σ H _ I h) fun v s1 ⟨x,H1,I1,r1,q1⟩=>?_) hs hw;rw[h1];exact aX (hg pins s1 σ H1 x v _ I1 r1 q1) fun _ s2 q=>q
theorem U9{i:Nat}{x:Str}{e:Expr}{te:TE}{pos':Pos}(hN:X.N.Nodup)(hi:X.N[i]? =some x)(hx:Loc X.env.scope x)(he:PE X e te)(hs:acR e (some (.Name x pos')) pos.line X.env=pure false:=by rfl)(hf:(X.fn x=true\/X.env.scope.names.lookup x=some .local)/\gJ X x) :
  PS X (.Assign [.Name x pos'] e pos) (uG te (yc i)):=by
 intro pins s σ H D I h;refine wpAny_Assign_Name (aX (he pins s σ H _ I h) fun v s1 ⟨y,H1,I1,r1,q1⟩=>?_) hs;exact wM I1 hN hi hx r1 (fun s2 I2=>⟨_,H1,I2,q1⟩) hf
end
section
variable{X:Cx}{pos:Pos}
noncomputable def DF(c:TT)(tb:TS):TS:=fun D σ H=>∃W:Nat->St->Hp->Prop,(∃m,W m σ H)/\∀m σ H,W m σ H →
 c σ H fun b H1=>if b=true then ∃N:St->Hp->Prop,(∀ao H',N ao H'->∃m',m'<m/\W m' ao H')/\tb { D with nx:=N,ct:=N,bk:=D.nx } σ H1 else D.nx σ H1
theorem RQ{c:Expr}{body:List Stmt}{tc:TT}{tb:TS}(hp:aeD (model X.prog X.w) X.A X.env X.xe)(hc:PT X c tc)(hb:fh X body tb):PS X (.While c body [] pos) (DF tc tb):=by
 intro pins s σ H D I h;obtain⟨W,⟨m0,w0⟩,turn⟩:=h;refine wpAny_While (codeAny_whileLoop (fun n s'=>∃ao H',Inv X pins ao H' s'/\W n ao H') ?_ m0 ⟨σ,H,I,w0⟩);rintro n s1 ⟨σ1,H1,I1,w1⟩;refine aco hp (aX (hc pins s1 σ1 H1 _ I1 (turn n σ1 H1 w1)) fun b s2 ⟨H2,I2,q2⟩=>?_);cases b with
 | true=>
  obtain⟨N,hN,q2⟩:=q2;rw[if_pos rfl];refine aco hp (aX (hb pins s2 σ1 H2 _ I2 q2) fun f s3 q3=>?_);cases f with
  | next=>
   obtain⟨iB,H3,I3,n3⟩:=q3;obtain⟨m',hm,w3⟩:=hN iB H3 n3;exact⟨m',hm,iB,H3,I3,w3⟩
  | cont=>
   obtain⟨iB,H3,I3,n3⟩:=q3;obtain⟨m',hm,w3⟩:=hN iB H3 n3;exact⟨m',hm,iB,H3,I3,w3⟩
  | brk=>exact q3
  | ret v=>exact q3
 | false=>
  rw[if_neg aaQ];exact acQ ⟨σ1,H2,I2,q2⟩
end
structure It where
 go:Nat->Hp->Prop
 qE:Nat->Hp->V->Hp->Prop
 stop:Nat->Hp->Prop
noncomputable def iV(X:Cx)(pins:List (Addr×Obj))(H:Hp)(b:Addr):Prop:=
 H b=none/\b≠X.env.locals/\b∉X.fs/\(b∈X.ex\/X.aM.heap.objs.size<=b)/\(∀x c,X.env.cells.lookup x=some c->c≠b)/\∀p∈X.pn++pins,p.1≠b
theorem Inv.yH{pins:List (Addr×Obj)}{σ:St}{H':Hp}{s:aam}(I:Inv X pins σ H s)(hb:s.heap.objs.size<=b)(hn:H' b=none):iV X pins H' b:=by
 refine⟨hn,Nat.ne_of_gt (aav I.lt hb),I.YC hb,.inr (abe I.sz hb),fun x c e z=>?_,fun p hp z=>?_⟩
 ·obtain⟨v,q⟩:=I.cell x c e;exact absurd (aav q.lt (by rw[z];exact hb)) (abQ _)
 ·exact absurd (aav (aaG (I.pin p hp).1) (by rw[z];exact hb)) (abQ _)
structure Turn(P:abp)(w:World)(K:aaj)(tg:Expr)(J:It)(fp:List Addr)(it:Addr)(tn:Nat->Heap->Prop):Prop where
 mem:it∈fp
 obj:∀i h,tn i h->∀b∈fp,∃o,h.get? b=some o/\∀v,o.data≠.cell v
 keep:∀i h h',tn i h->(∀b∈fp,∀o,h.get? b=some o->h'.get? b=some o)->tn i h'
 item:∀(X:Cx),X.prog=P->X.w=w->X.K=K->X.calm=true->∀(i:Nat) (pins:List (Addr×Obj)) (s:aam) (σ:St) (H:Hp) (E:Value->aam->Prop),Inv X pins σ H s->(∀b∈fp,iV X pins H b)->tn i s.heap->J.go i H →
  wpAny (model P w) X.A (pyNext (.ref it)) (fun r s1=>∃u,r=some u /\
   wpAny (model P w) X.A (adN tg (.ref it) u) (fun _ s2=>∃x H',Inv X pins σ H' s2/\RelV x u/\J.qE i H x H'/\tn (i+1) s2.heap/\∀b∈fp,H' b=none) E s1) E s
 done:∀(X:Cx),X.prog=P->X.w=w->X.K=K->X.calm=true->∀(i:Nat) (pins:List (Addr×Obj)) (s:aam) (σ:St) (H:Hp) (E:Value->aam->Prop),Inv X pins σ H s->(∀b∈fp,iV X pins H b)->tn i s.heap->J.stop i H →
  wpAny (model P w) X.A (pyNext (.ref it)) (fun r s1=>r=none/\Inv X pins σ H s1) E s
 self:∀(A:abT) (i:Nat) (s:aam) (Q:Value->aam->Prop) (E:Value->aam->Prop),tn i s.heap->Q (.ref it) s->wpAny (model P w) A (pyIter (.ref it)) Q E s
abbrev TI:=St->Hp->(It->Hp->Prop)->Prop
noncomputable def Gg(X:Cx)(pins:List (Addr×Obj))(σ:St)(tg:Expr)(R:It->Hp->Prop)(ze:Value)(s2:aam):Prop:=
 ∃(it:Addr) (fp:List Addr) (tn:Nat->Heap->Prop) (J:It) (H':Hp),ze=.ref it/\Inv X pins σ H' s2/\Turn X.prog X.w X.K tg J fp it tn/\tn 0 s2.heap/\(∀b∈fp,iV X pins H' b)/\R J H'
noncomputable def PI(X:Cx)(tg iter:Expr)(wi:TI):Prop:=
 ∀(pins:List (Addr×Obj)) (s:aam) (σ:St) (H:Hp) (R:It->Hp->Prop),Inv X pins σ H s->wi σ H R →
  wpAny (model X.prog X.w) X.A (eval iter X.env) (fun v s1=>wpAny (model X.prog X.w) X.A (pyIter v) (Gg X pins σ tg R) X.xe s1) X.xe s
variable{tg:Expr}
theorem yd {M : Model} {E : Value -> aam -> Prop} {s : aam} {it : Addr} {u : Value} {o : Obj} {n : String} {vs : Array Value} {Q : Unit -> aam -> Prop} (ho : s.heap.get? it = some o) (hc : o.cls = .type n) (hd : o.data = .fields vs)
    (hn : ["enumerate", "zip", "dict_itemiterator", "dict_reverseitemiterator", "odict_iterator", "itertools.zip_longest", "itertools.pairwise"].contains n = false) (hQ : Q () s) : wpAny M A (adN tg (.ref it) u) Q E s := by
  unfold adN;cases tg <;> first
    | exact aaq hQ
    | (cases u <;> first
        | exact aaq hQ
        | (refine aak (wpAny_load ho ?_)
           rw [hc, hd];show wpAny M A (if (["enumerate", "zip", "dict_itemiterator", "dict_reverseitemiterator", "odict_iterator", "itertools.zip_longest", "itertools.pairwise"].contains n && vs[0]? == some (rawInt _)) = true then _ else _) Q E s;rw [if_neg (by intro h; rw [hn, aeV] at h; cases h)];exact aaq hQ))
noncomputable def Gh(K:aaj)(a:Addr):It:=
 ⟨fun i H=>∃xs x,bD K H a xs/\xs[i]? =some x,fun i H x H'=>H'=H/\∀xs,bD K H a xs->xs[i]? =some x,fun i H=>∃xs,bD K H a xs/\xs.length<=i⟩
noncomputable def Gi(K:aaj)(a:Addr):It:=
 ⟨fun i H=>∃xs x,bZ K H a xs/\xs[i]? =some x,fun i H x H'=>H'=H/\∀xs,bZ K H a xs->xs[i]? =some x,fun i H=>∃xs,bZ K H a xs/\xs.length<=i⟩
noncomputable def vf(lo:Int)(n:Nat):It:=⟨fun i _=>i<n,fun i H x H'=>H'=H/\x=.int (lo+i),fun i _=>n<=i⟩
variable{K:aaj}
theorem Qw{w:World}(a it:Addr):Turn P w K tg (Gh K a) [it] it (fun i h=>h.IsListIter it a i) where
 mem:=by simp
 obj:=fun i h st b hb=>by
  have e:b=it:=by simpa using hb
  subst e;obtain⟨o,e,c,d⟩:=st;exact⟨o,e,fun v z=>by rw[d] at z;cases z⟩
 keep:=fun i h h' st k=>st.at fun o e=>k it (by simp) o e
 item:=by
  intro X hP hw hK hc i pins s σ H E I hf st hg;subst hP hw hK;obtain⟨xs,x,hq,hx⟩:=hg;obtain⟨its,rv,p,hz⟩:=I.list hq;obtain⟨u,hu,ru⟩:=rv.get hx;obtain⟨f0,f1,f2,f3,f4,f5⟩:=hf it (by simp);refine wpAny_pyNext_list_item st p.isList (x:=u) (by simpa using hu) fun h' dM sb=>?_
  have I1:Inv X pins σ H { s with heap:=h' }:=I.turned (t':=s.toks) (fun b o hb e=>(sb.2 b hb).trans e) f0 f1 f3 f4 f5;obtain⟨o,e,c,d⟩:=id dM;exact⟨u,rfl,yd (s:={ s with heap:=h' }) e c d (by decide) ⟨x,H,I1,ru,⟨rfl,fun ys hy=>by rw[I.RO hy hq];exact hx⟩,dM,fun b hb=>(hf b hb).1⟩⟩
 done:=by
  intro X hP hw hK hc i pins s σ H E I hf st hg;subst hP hw hK;obtain⟨xs,hq,hx⟩:=hg;obtain⟨its,rv,p,hz⟩:=I.list hq;obtain⟨f0,f1,f2,f3,f4,f5⟩:=hf it (by simp);have hl:=rv.length;exact wpAny_pyNext_list_end (I.ok.hd hc) st p.isList (by simp;omega) fun h' eb=>⟨rfl,I.turned (t':=s.toks) (fun b o hb e=>eb b o hb e) f0 f1 f3 f4 f5⟩
 self:=fun _ _ _ _ _ st h=>wpAny_pyIter_listiter st h
theorem Pl{w:World}(a it:Addr):Turn P w K tg (Gi K a) [it] it (fun i h=>h.IsTupleIter it a i) where
 mem:=by simp
 obj:=fun i h st b hb=>by
  have e:b=it:=by simpa using hb
  subst e;obtain⟨o,e,c,d⟩:=st;exact⟨o,e,fun v z=>by rw[d] at z;cases z⟩
 keep:=fun i h h' st k=>st.at fun o e=>k it (by simp) o e
 item:=by
  intro X hP hw hK hc i pins s σ H E I hf st hg;subst hP hw hK;obtain⟨xs,x,hq,hx⟩:=hg;obtain⟨its,rv,p,hz⟩:=I.tuple hq;obtain⟨u,hu,ru⟩:=rv.get hx;obtain⟨f0,f1,f2,f3,f4,f5⟩:=hf it (by simp);refine wpAny_pyNext_tuple_item st (show s.heap.IsTuple a its.toArray from p) (x:=u) (by simpa using hu) fun h' dM sb=>?_
  have I1:Inv X pins σ H { s with heap:=h' }:=I.turned (t':=s.toks) (fun b o hb e=>(sb.2 b hb).trans e) f0 f1 f3 f4 f5;obtain⟨o,e,c,d⟩:=id dM;exact⟨u,rfl,yd (s:={ s with heap:=h' }) e c d (by decide) ⟨x,H,I1,ru,⟨rfl,fun ys hy=>by rw[I.Qv hy hq];exact hx⟩,dM,fun b hb=>(hf b hb).1⟩⟩
 done:=by
  intro X hP hw hK hc i pins s σ H E I hf st hg;subst hP hw hK;obtain⟨xs,hq,hx⟩:=hg;obtain⟨its,rv,p,hz⟩:=I.tuple hq;obtain⟨f0,f1,f2,f3,f4,f5⟩:=hf it (by simp);have hl:=rv.length;exact wpAny_pyNext_tuple_end (I.ok.hd hc) st (show s.heap.IsTuple a its.toArray from p) (by simp;omega) fun h' eb=>⟨rfl,I.turned (t':=s.toks) (fun b o hb e=>eb b o hb e) f0 f1 f3 f4 f5⟩
 self:=fun _ _ _ _ _ st h=>wpAny_pyIter_tupleiter st h
theorem Pm{w:World}(it:Addr)(lo:Int)(n:Nat):Turn P w K tg (vf lo n) [it] it (fun i h=>IsRangeIter h it (lo+(i:Nat)*1) ((n:Int)-(i:Nat)) 1) where
 mem:=by simp
 obj:=fun i h st b hb=>by
  have e:b=it:=by simpa using hb
  subst e;exact⟨_,st,fun v z=>by
   have z':Data.fields _=Data.cell v:=z;cases z'⟩
 keep:=fun i h h' st k=>k it (by simp) _ st
 item:=by
  intro X hP hw hK hc i pins s σ H E I hf st hg;subst hP hw hK;obtain⟨f0,f1,f2,f3,f4,f5⟩:=hf it (by simp);have W:=Walks.range (prog:=X.prog) (w:=X.w) (I.ok.hd hc) it lo 1 n;refine W.item i s _ _ hg st fun v h' tk hv dM kk=>?_
  obtain⟨t,rfl⟩:=hv;have I1:Inv X pins σ H { s with heap:=h',toks:=tk }:=I.turned (fun b o hb e=>kk b o (by simpa using hb) e) f0 f1 f3 f4 f5;refine⟨_,rfl,yd (s:={ s with heap:=h',toks:=tk }) (n:="range_iterator") dM rfl rfl (by decide) ⟨.int (lo+i),H,I1,⟨t,?_⟩,⟨rfl,rfl⟩,dM,fun b hb=>(hf b hb).1⟩⟩;rw[Int.mul_one]
 done:=by
  intro X hP hw hK hc i pins s σ H E I hf st hg;subst hP hw hK;obtain⟨f0,f1,f2,f3,f4,f5⟩:=hf it (by simp);exact wpAny_pyNext_range_end (I.ok.hd hc) st (by have:n<=i:=hg;omega) fun h' eb=>⟨rfl,I.turned (t':=s.toks) (fun b o hb e=>eb b o hb e) f0 f1 f3 f4 f5⟩
 self:=fun _ _ _ _ _ st h=>wpAny_pyIter_rangeiter st h
section
variable{X:Cx}{tg:Expr}
noncomputable def Xp(K:aaj)(tl:TE):TI:=fun σ H R=>tl σ H fun x H1=>∃a,x=.ref a/\(∃xs,bD K H1 a xs)/\R (Gh K a) H1
noncomputable def YL(K:aaj)(tl:TE):TI:=fun σ H R=>tl σ H fun x H1=>∃a,x=.ref a/\(∃xs,bZ K H1 a xs)/\R (Gi K a) H1
theorem S9{l:Expr}{tl:TE}(hl:PE X l tl):PI X tg l (Xp X.K tl):=by
 intro pins s σ H R I h;refine aX (hl pins s σ H _ I h) fun v s1 ⟨x,H1,I1,r1,q1⟩=>?_
 obtain⟨a,e,⟨xs,hq⟩,q⟩:=q1;subst e;cases r1;obtain⟨its,rv,p,hz⟩:=I1.list hq;refine wpAny_pyIter_list p.isList ?_;refine⟨s1.heap.objs.size,[s1.heap.objs.size],_,_,H1,rfl,I1.kept (t':=s1.toks) fun b o e=>aaA _ e,Qw a _,⟨_,abk _ rfl,rfl,rfl⟩,fun b hb=>?_,q⟩;have e:b=s1.heap.objs.size:=by simpa using hb
 subst e;exact I1.yH (aar _) (I1.aJ.fresh (aar _))
theorem Va{l:Expr}{tl:TE}(hl:PE X l tl):PI X tg l (YL X.K tl):=by
 intro pins s σ H R I h;refine aX (hl pins s σ H _ I h) fun v s1 ⟨x,H1,I1,r1,q1⟩=>?_
 obtain⟨a,e,⟨xs,hq⟩,q⟩:=q1;subst e;cases r1;obtain⟨its,rv,p,hz⟩:=I1.tuple hq;refine wpAny_pyIter_tuple (show s1.heap.IsTuple a its.toArray from p) ?_;refine⟨s1.heap.objs.size,[s1.heap.objs.size],_,_,H1,rfl,I1.kept (t':=s1.toks) fun b o e=>aaA _ e,Pl a _,⟨_,abk _ rfl,rfl,rfl⟩,fun b hb=>?_,q⟩;have e:b=s1.heap.objs.size:=by simpa using hb
 subst e;exact I1.yH (aar _) (I1.aJ.fresh (aar _))
variable{σ:St}{H:Hp}
theorem RR{pins:List (Addr×Obj)}{s:aam}{R:It->Hp->Prop}{E:Value->aam->Prop}{lo hi:Int}{t u v:Tok}{tk:Nat}(I:Inv X pins σ H s)(h1: -(2 ^ 62)<=lo)(h2:lo<2 ^ 62)(h3: -(2 ^ 62)<=hi)(h4:hi<2 ^ 62)
  (q:R (vf lo (hi-lo).toNat) H):wpAny (model X.prog X.w) X.A (pyIter (.ref s.heap.objs.size)) (Gg X pins σ tg R) E { s with heap:=s.heap.push { cls:=.type "range",data:=.fields #[.int lo t,.int hi u,.int 1 v] },toks:=tk }:=by
 refine wpAny_pyIter_range (IsRange.new ..) (small_one h1 h2 h3 h4) ?_;have I1:Inv X pins σ H { s with heap:=s.heap.push { cls:=.type "range",data:=.fields #[.int lo t,.int hi u,.int 1 v] },toks:=tk }:=I.kept fun b o e=>aaA _ e
 refine⟨(s.heap.push { cls:=.type "range",data:=.fields #[.int lo t,.int hi u,.int 1 v] }).objs.size,[(s.heap.push { cls:=.type "range",data:=.fields #[.int lo t,.int hi u,.int 1 v] }).objs.size],_,_,H,rfl,
  I1.kept (t':=tk) fun b o e=>aaA _ e,Pm _ lo (hi-lo).toNat,?_,fun b hb=>?_,q⟩
 ·have e1:lo+((0:Nat):Int)*1=lo:=by simp
  have e2:(((hi-lo).toNat:Nat):Int)-((0:Nat):Int)=Builtin.Range.rangeSize lo hi 1:=by rw[rangeSize_one];split <;> omega
  show IsRangeIter _ _ (lo+((0:Nat):Int)*1) ((((hi-lo).toNat:Nat):Int)-((0:Nat):Int)) 1;rw[e1,e2];exact abk _ rfl
 ·have e:b=(s.heap.push { cls:=.type "range",data:=.fields #[.int lo t,.int hi u,.int 1 v] }).objs.size:=by simpa using hb
  subst e;exact I1.yH (aar _) (I1.aJ.fresh (aar _))
noncomputable def Xq(ta:TA):TI:=fun σ H R=>ta σ H fun vs H1=>∃j:Int,vs=[.int j]/\ -(2 ^ 62)<=j/\j<2 ^ 62/\R (vf 0 j.toNat) H1
theorem Qx{a:Expr}{ta:TA}{p pos:Pos}(hg:Gl X "range")(hm:X.mg "range"=none)(ha:PA X [a] ta)(hs:aaY [a] X.env=[(false,eval a X.env)]:=by rfl):PI X tg (.Call (.Name "range" p) [a] [] pos) (Xq ta):=by
 intro pins s σ H R I h;refine Call_ (ud I hg hm boot_range (adO (aX (ha pos pins s σ H _ I h) fun us s1 ⟨vs,H1,I1,r1,q1⟩=>?_) hs rfl));obtain⟨j,e,q1,q2,q⟩:=q1;subst e;cases r1 with
 | cons r rr=>
  cases rr;obtain⟨t,rfl⟩:=r;exact call_range_1 (RR I1 (by omega) (by omega) q1 q2 (by simpa using q))
noncomputable def Ft(wi:TI)(g:TG)(tb:TS):TS:=fun D σ H=>wi σ H fun J H1=>∃W:Nat->Nat->St->Hp->Prop,(∃m,W 0 m σ H1)/\∀i m σ H,W i m σ H →
 (J.stop i H/\D.nx σ H)\/(J.go i H/\∃N:St->Hp->Prop,(∀ao H',N ao H'->∃m',m'<m/\W (i+1) m' ao H')/\∀x H',J.qE i H x H'->g x σ H' fun cq H2=>tb { D with nx:=N,ct:=N,bk:=D.nx } cq H2)
noncomputable def pN(fp:List Addr)(h:Heap):List (Addr×Obj):=fp.filterMap fun b=>(h.get? b).map fun o=>(b,o)
variable{fp:List Addr}
theorem sF{h:Heap}{b:Addr}{o:Obj}(hb:b∈fp)(e:h.get? b=some o):(b,o)∈pN fp h:=acL.mpr ⟨b,hb,by rw[e];rfl⟩
theorem Qy{h:Heap}{p:Addr×Obj}(hp:p∈pN fp h):p.1∈fp/\h.get? p.1=some p.2:=by
 obtain⟨b,hb,e⟩:=acL.mp hp;cases q:h.get? b with
 | none=>rw[q] at e;cases e
 | some o=>
  rw[q] at e;have e':(b,o)=p:=abh e;subst e';exact⟨hb,q⟩
theorem Inv.pinned{pins:List (Addr×Obj)}{s:aam}(I:Inv X pins σ H s)(hf:∀b∈fp,iV X pins H b)(ho:∀b∈fp,∃o,s.heap.get? b=some o/\∀v,o.data≠.cell v):Inv X (pins++pN fp s.heap) σ H s:=
 I.CS fun p hp=>(abu.mp hp).elim (fun z=>I.pin p (aba _ z)) fun z=>by
  obtain⟨hb,e⟩:=Qy z;obtain⟨f0,f1,f2,_⟩:=hf p.1 hb;obtain⟨o,e',d⟩:=ho p.1 hb;rw[e] at e';cases e';exact⟨e,f0,f1,f2,d⟩
theorem Inv.tf{pins pl:List (Addr×Obj)}{s:aam}(I:Inv X (pins++pl) σ H s):Inv X pins σ H s:=I.CS fun p hp=>I.pin p (aba _ (abI _ hp))
theorem Vb{iter:Expr}{body:List Stmt}{wi:TI}{g:TG}{tb:TS}{pos:Pos}(hp:aeD (model X.prog X.w) X.A X.env X.xe)(hc:X.calm=true)(hi:PI X tg iter wi)(hg:PG X tg g)(hb:fh X body tb)
  (hs:∀x,abv iter X.env x=pure x:=by intro _;rfl):PS X (.For tg iter body [] pos) (Ft wi g tb):=by
 intro pins s σ H D I h;refine wpAny_For (aX (hi pins s σ H _ I h) fun v s1 h1=>aX h1 fun ze s2 h2=>?_) hs;obtain⟨it,fp,tn,J,H2,e,I2,T,b7,f2,W,⟨m0,w0⟩,turn⟩:=h2;subst e;have yI:∀{H':Hp},(∀b∈fp,H' b=none)->∀b∈fp,iV X pins H' b:=fun hn b hb=>⟨hn b hb,(f2 b hb).2⟩
 refine codeAny_forLoop_any (fun n s'=>∃i ao H',Inv X pins ao H' s'/\tn i s'.heap/\(∀b∈fp,H' b=none)/\W i n ao H') ?_ m0 ⟨0,σ,H2,I2,b7,fun b hb=>(f2 b hb).1,w0⟩;rintro n s3 ⟨i,iB,H3,I3,Gj,Gk,w3⟩
 rcases turn i n iB H3 w3 with⟨stop,qn⟩ | ⟨go,N,hN,step⟩
 ·refine aco hp (aX (T.done X rfl rfl rfl hc i pins s3 iB H3 X.xe I3 (yI Gk) Gj stop) fun r s4 ⟨hr,I4⟩=>?_);subst hr;exact acQ ⟨iB,H3,I4,qn⟩
 ·refine aco hp (aX (T.item X rfl rfl rfl hc i pins s3 iB H3 X.xe I3 (yI Gk) Gj go) fun r s4 ⟨u,hr,h4⟩=>?_);subst hr;refine aco hp (aX h4 fun _ s5 ⟨x,H5,I5,r5,y5,oB,vg⟩=>?_);have Zt:=I5.pinned (yI vg) (T.obj _ _ oB);refine aco hp (aX (hg _ s5 iB H5 x u _ Zt r5 (step x H5 y5)) fun _ s6 ⟨fv,H6,I6,q6⟩=>?_);refine aco hp (aX (hb _ s6 fv H6 _ I6 q6) fun f s7 q7=>?_);have again:∀{iC:St} {H7:Hp},Inv X (pins++pN fp s5.heap) iC H7 s7->N iC H7->∃m,m<n/\∃i ao H',Inv X pins ao H' s7/\tn i s7.heap/\(∀b∈fp,H' b=none)/\W i m ao H':=fun{iC H7} I7 n7=>by
   obtain⟨m',hm,w7⟩:=hN iC H7 n7;refine⟨m',hm,i+1,iC,H7,I7.tf,T.keep _ _ _ oB fun b hb o e=>(I7.pin (b,o) (aba _ (aba _ (sF hb e)))).1,fun b hb=>?_,w7⟩;obtain⟨o,e,d⟩:=T.obj _ _ oB b hb;exact(I7.pin (b,o) (aba _ (aba _ (sF hb e)))).2.1
  cases f with
  | next=>obtain⟨iC,H7,I7,n7⟩:=q7;exact again I7 n7
  | cont=>obtain⟨iC,H7,I7,n7⟩:=q7;exact again I7 n7
  | brk=>obtain⟨iC,H7,I7,q7⟩:=q7;exact⟨iC,H7,I7.tf,q7⟩
  | ret v=>obtain⟨x7,iC,H7,I7,r7,q7⟩:=q7;exact⟨x7,iC,H7,I7.tf,r7,q7⟩
end
abbrev R2:=V->V->Hp->VK->Prop
noncomputable def bt(X:Cx)(f:Value->Value->Sem Value)(r:R2):Prop:=
 ∀(pins:List (Addr×Obj)) (s:aam) (σ:St) (H:Hp) (x y:V) (v u:Value) (Q:VK),Inv X pins σ H s->RelV x v->RelV y u->r x y H Q →
  wpAny (model X.prog X.w) X.A (f v u) (EP X pins σ Q) X.xe s
noncomputable def vh(X:Cx)(f:Value->Sem Value)(r:V->Hp->VK->Prop):Prop:=
 ∀(pins:List (Addr×Obj)) (s:aam) (σ:St) (H:Hp) (x:V) (v:Value) (Q:VK),Inv X pins σ H s->RelV x v->r x H Q →
  wpAny (model X.prog X.w) X.A (f v) (EP X pins σ Q) X.xe s
noncomputable def cJ(X:Cx)(f:Value)(r:List V->Hp->VK->Prop):Prop:=
 ∀(pins:List (Addr×Obj)) (s:aam) (σ:St) (H:Hp) (xs:List V) (us:List Value) (Q:VK),Inv X pins σ H s->Vals xs us->r xs H Q →
  wpAny (model X.prog X.w) X.A (call f us) (EP X pins σ Q) X.xe s
noncomputable def YM(X:Cx)(r:V->Hp->(Bool->Hp->Prop)->Prop):Prop:=
 ∀(pins:List (Addr×Obj)) (s:aam) (σ:St) (H:Hp) (x:V) (v:Value) (Q:Bool->Hp->Prop),Inv X pins σ H s->RelV x v->r x H Q →
  wpAny (model X.prog X.w) X.A (truthy v) (TP X pins σ Q) X.xe s
noncomputable def qF(r:R2)(ta tb:TE):TE:=fun σ H Q=>ta σ H fun x H1=>tb σ H1 fun y H2=>r x y H2 Q
noncomputable def Zu(r:V->Hp->VK->Prop)(ta:TE):TE:=fun σ H Q=>ta σ H fun x H1=>r x H1 Q
noncomputable def rI(C:Int->Int->Prop)(g:Int->Int->V):R2:=fun x y H Q=>∃i j,x=.int i/\y=.int j/\C i j/\Q (g i j) H
noncomputable def ir(g:Int->Int->V):R2:=fun x y H Q=>∃i j,x=.int i/\y=.int j/\Q (g i j) H
noncomputable def rU(g:Int->V):V->Hp->VK->Prop:=fun x H Q=>∃i,x=.int i/\Q (g i) H
section
variable{X:Cx}{a b c:Expr}{ta tb tc:TE}{pos:Pos}
theorem yJ(ha:PE X a ta)(hb:PE X b tb){pins:List (Addr×Obj)}{s:aam}{σ:St}{H:Hp}{R:V->V->Hp->Prop}(I:Inv X pins σ H s)
  (h:ta σ H fun x H1=>tb σ H1 fun y H2=>R x y H2) {Q:Value->aam->Prop} {f:Value->Value->Sem Value}
  (hf:∀v u s2 x y H2,Inv X pins σ H2 s2->RelV x v->RelV y u->R x y H2->wpAny (model X.prog X.w) X.A (f v u) Q X.xe s2) :
  wpAny (model X.prog X.w) X.A (eval a X.env) (fun v bB=>wpAny (model X.prog X.w) X.A (eval b X.env) (fun u rg=>wpAny (model X.prog X.w) X.A (f v u) Q X.xe rg) X.xe bB) X.xe s:=by
 refine aX (ha pins s σ H _ I h) fun v s1 ⟨x,H1,I1,r1,q1⟩=>?_
 refine aX (hb pins s1 σ H1 _ I1 q1) fun u s2 ⟨y,H2,I2,r2,q2⟩=>?_
 exact hf v u s2 x y H2 I2 r1 r2 q2
theorem Xr{op:afl}{r:R2}(ho:bt X (adb op) r)(ha:PE X a ta)(hb:PE X b tb):PE X (.BinOp a op b pos) (qF r ta tb):=by
 intro pins s σ H Q I h;exact wpAny_BinOp (yJ ha hb I h fun v u s2 x y H2 I2 rx ry q=>ho pins s2 σ H2 x y v u Q I2 rx ry q)
theorem Xs{op:UnaryOp}{r:V->Hp->VK->Prop}(ho:vh X (unaryOp op) r)(ha:PE X a ta):PE X (.UnaryOp op a pos) (Zu r ta):=by
 intro pins s σ H Q I h;exact UnaryOp_ (aX (ha pins s σ H _ I h) fun v s1 ⟨x,H1,I1,r1,q1⟩=>ho pins s1 σ H1 x v Q I1 r1 q1)
variable{f:Value->Value->Sem Value}
theorem zf{C:Int->Int->Prop}{g:Int->Int->Int}
  (rule:∀(i j:Int) (t u:Tok) (s:aam) (Q:Value->aam->Prop) (E:Value->aam->Prop),C i j->Q (.int (g i j) s.toks) { s with toks:=s.toks+1 }->wpAny (model X.prog X.w) X.A (f (.int i t) (.int j u)) Q E s) :
  bt X f (rI C fun i j=>.int (g i j)):=by
 intro pins s σ H x y v u Q I rx ry h;obtain⟨i,j,rfl,rfl,hc,q⟩:=h;obtain⟨t,rfl⟩:=rx;obtain⟨t',rfl⟩:=ry;exact rule i j t t' s _ _ hc ⟨.int (g i j),H,I.tok _,⟨_,rfl⟩,q⟩
theorem Fu{g:Int->Int->Int}
  (rule:∀(i j:Int) (t u:Tok) (s:aam) (Q:Value->aam->Prop) (E:Value->aam->Prop),Q (.int (g i j) s.toks) { s with toks:=s.toks+1 }->wpAny (model X.prog X.w) X.A (f (.int i t) (.int j u)) Q E s) :
  bt X f (ir fun i j=>.int (g i j)):=by
 intro pins s σ H x y v u Q I rx ry h;obtain⟨i,j,rfl,rfl,q⟩:=h;obtain⟨t,rfl⟩:=rx;obtain⟨t',rfl⟩:=ry;exact rule i j t t' s _ _ ⟨.int (g i j),H,I.tok _,⟨_,rfl⟩,q⟩
theorem yK{g:Int->Int->Bool}
  (rule:∀(i j:Int) (t u:Tok) (s:aam) (Q:Value->aam->Prop) (E:Value->aam->Prop),Q (.bool (g i j)) s->wpAny (model X.prog X.w) X.A (f (.int i t) (.int j u)) Q E s) :
  bt X f (ir fun i j=>.bl (g i j)):=by
 intro pins s σ H x y v u Q I rx ry h;obtain⟨i,j,rfl,rfl,q⟩:=h;obtain⟨t,rfl⟩:=rx;obtain⟨t',rfl⟩:=ry;exact rule i j t t' s _ _ ⟨.bl (g i j),H,I,rfl,q⟩
noncomputable def qf(i j:Int):Prop:=(-(2 ^ 64)<i/\i<2 ^ 64)\/(-(2 ^ 64)<j/\j<2 ^ 64)
theorem qf.ok{i j:Int}(h:qf i j):IntMulOk i j:=by
 rcases h with⟨h1,h2⟩ | ⟨h1,h2⟩
 ·exact .of_left (intBits_le_64 h1 h2)
 ·exact .of_right (intBits_le_64 h1 h2)
theorem Vc:bt X (adb .Add) (ir fun i j=>.int (i+j)):=Fu fun _ _ _ _ _ _ _ q=>add_int q
theorem Vd:bt X (adb .Sub) (ir fun i j=>.int (i-j)):=Fu fun _ _ _ _ _ _ _ q=>sub_int q
theorem Ve:bt X (adb .Mult) (rI qf fun i j=>.int (i*j)):=zf fun _ _ _ _ _ _ _ hc q=>mul_int q hc.ok
theorem Ta:bt X (adb .Mod) (rI (fun _ j=>j≠0) fun i j=>.int (i.fmod j)):=zf fun _ _ _ _ _ _ _ hc q=>mod_int' hc q
theorem Zv{f:Value->Sem Value}{g:Int->Int}
  (rule:∀(i:Int) (t:Tok) (s:aam) (Q:Value->aam->Prop) (E:Value->aam->Prop),Q (.int (g i) s.toks) { s with toks:=s.toks+1 }->wpAny (model X.prog X.w) X.A (f (.int i t)) Q E s) :
  vh X f (rU fun i=>.int (g i)):=by
 intro pins s σ H x v Q I rx h;obtain⟨i,rfl,q⟩:=h;obtain⟨t,rfl⟩:=rx;exact rule i t s _ _ ⟨.int (g i),H,I.tok _,⟨_,rfl⟩,q⟩
theorem Vf:vh X (unaryOp .USub) (rU fun i=>.int (-i)):=Zv fun _ _ _ _ _ q=>neg_int q
end
section
variable{X:Cx}{a b c:Expr}{ta tb tc:TE}{pos:Pos}
theorem Vg{pins:List (Addr×Obj)}{σ:St}{H:Hp}{s:aam}{Q:VK}{k k':Bool}(I:Inv X pins σ H s)(q:Q (.bl k) H)(e:k=k'):EP X pins σ Q (.bool k') s:=by
 subst e;exact⟨.bl k,H,I,rfl,q⟩
theorem Xt:bt X (abC .Lt) (ir fun i j=>.bl (decide (i<j))):=yK fun _ _ _ _ _ _ _ q=>lt_int q
theorem Xu:bt X (abC .LtE) (ir fun i j=>.bl (decide (i<=j))):=yK fun _ _ _ _ _ _ _ q=>le_int q
theorem Xv:bt X (abC .Gt) (ir fun i j=>.bl (decide (j<i))):=yK fun _ _ _ _ _ _ _ q=>gt_int q
theorem Vh:bt X (abC .Is) (fun x y H Q=>y=.aC/\Q (.bl (decide (x=.aC))) H):=by
 intro pins s σ H x y v u Q I rx ry h;obtain⟨rfl,q⟩:=h;cases ry;refine is_none_gen (Vg I q ?_);cases x <;> first
  | (cases rx;rfl)
  | (obtain⟨t,rfl⟩:=rx;rfl)
variable{r r':R2}
theorem bt.or{f:Value->Value->Sem Value}(h:bt X f r)(h':bt X f r'):bt X f (fun x y H Q=>r x y H Q\/r' x y H Q):=by
 intro pins s σ H x y v u Q I rx ry q
 rcases q with q | q
 ·exact h pins s σ H x y v u Q I rx ry q
 ·exact h' pins s σ H x y v u Q I rx ry q
theorem nq(b:Expr){op:CmpOp}(h:op≠.In:=by decide)(h2:op≠.NotIn:=by decide):acy op b=false:=by
 have e1:(op==CmpOp.In)=false:=by cases op <;> first | rfl | exact absurd rfl h
 have e2:(op==CmpOp.NotIn)=false:=by cases op <;> first | rfl | exact absurd rfl h2
 cases b <;> simp[acy,e1,e2]
theorem Tb{op:CmpOp}(ho:bt X (abC op) r)(ha:PE X a ta)(hb:PE X b tb)(hm:acy op b=false):PE X (.Compare a [op] [b] pos) (qF r ta tb):=by
 intro pins s σ H Q I h;exact wpAny_Compare1 (yJ ha hb I h fun v u s2 x y H2 I2 rx ry q=>ho pins s2 σ H2 x y v u Q I2 rx ry q) hm
noncomputable def Ez(t:TE):TT:=fun σ H Q=>t σ H fun x H'=>∃k,x=.bl k/\Q k H'
theorem Tc{op:CmpOp}(ho:bt X (abC op) r)(ha:PE X a ta)(hb:PE X b tb)(hm:acy op b=false):PT X (.Compare a [op] [b] pos) (Ez (qF r ta tb)):=by
 intro pins s σ H Q I h;refine wpAny_isTrue_Compare1 (aX (ha pins s σ H _ I h) fun v s1 ⟨x,H1,I1,r1,q1⟩=>aX (hb pins s1 σ H1 _ I1 q1) fun u s2 ⟨y,H2,I2,r2,q2⟩=>
  aX (ho pins s2 σ H2 x y v u _ I2 r1 r2 q2) fun c s3 ⟨z,H3,I3,r3,k,e,q3⟩=>?_) hm
 subst e;cases r3;exact abE ⟨H3,I3,q3⟩
noncomputable def xF(r r':R2)(ta tb tc:TE):TE:=fun σ H Q=>ta σ H fun x H1=>tb σ H1 fun y H2=>r x y H2 fun z H3=>∃k,z=.bl k /\
 (if k=true then tc σ H3 fun w' H4=>r' y w' H4 Q else Q (.bl false) H3)
theorem RS{op dj:CmpOp}(ho:bt X (abC op) r)(dn:bt X (abC dj) r')(ha:PE X a ta)(hb:PE X b tb)(hc:PE X c tc)
  (hm:aeE [op,dj] [b,c]=false:=by with_unfolding_all rfl):PE X (.Compare a [op,dj] [b,c] pos) (xF r r' ta tb tc):=by
 intro pins s σ H Q I h;refine Compare_chain (aX (ha pins s σ H _ I h) fun v s1 ⟨x,H1,I1,r1,q1⟩=>chain_link (aX (hb pins s1 σ H1 _ I1 q1) fun u s2 ⟨y,H2,I2,r2,q2⟩=>
  aX (ho pins s2 σ H2 x y v u _ I2 r1 r2 q2) fun d s3 ⟨z,H3,I3,r3,k,e,q3⟩=>?_)) hm
 subst e;cases r3;refine abE ?_;cases k with
 | false=>exact ite_ff ⟨.bl false,H3,I3,rfl,q3⟩
 | true=>exact ite_tt (chain_last (aX (hc pins s3 σ H3 _ I3 q3) fun w' s4 ⟨z',H4,I4,r4,q4⟩=>dn pins s4 σ H4 y z' u w' Q I4 r2 r4 q4))
theorem RT{op dj:CmpOp}(ho:bt X (abC op) r)(dn:bt X (abC dj) r')(ha:PE X a ta)(hb:PE X b tb)(hc:PE X c tc)
  (hm:aeE [op,dj] [b,c]=false:=by with_unfolding_all rfl):PT X (.Compare a [op,dj] [b,c] pos) (Ez (xF r r' ta tb tc)):=by
 intro pins s σ H Q I h;refine isTrue_chain (aX (ha pins s σ H _ I h) fun v s1 ⟨x,H1,I1,r1,q1⟩=>test_link (aX (hb pins s1 σ H1 _ I1 q1) fun u s2 ⟨y,H2,I2,r2,q2⟩=>
  aX (ho pins s2 σ H2 x y v u _ I2 r1 r2 q2) fun d s3 ⟨z,H3,I3,r3,k,e,q3⟩=>?_)) hm
 subst e;cases r3;refine abE ?_;cases k with
 | false=>
  obtain⟨k',e',q'⟩:=q3;cases e';exact ite_ff ⟨H3,I3,q'⟩
 | true=>
  refine ite_tt (test_last (aX (hc pins s3 σ H3 _ I3 q3) fun w' s4 ⟨z',H4,I4,r4,q4⟩=>aX (dn pins s4 σ H4 y z' u w' _ I4 r2 r4 q4) fun d' s5 ⟨z2,H5,I5,r5,k2,e2,q5⟩=>?_));subst e2;cases r5;exact abE ⟨H5,I5,q5⟩
noncomputable def Fv(K:aaj)(x:V)(H:Hp)(k:Bool):Prop:=
 match x with
 | .aC=>k=false
 | .bl b=>k=b
 | .int i=>k=(i != 0)
 | .str y=>y.length<=aaD/\k=((y.length:Int) != 0)
 | .oy y=>y.size<=aaD/\k=((y.size:Int) != 0)
 | .ref p=>(∃xs,bD K H p xs/\k= !xs.isEmpty)\/(∃xs,bZ K H p xs/\k= !xs.isEmpty)\/∃kvs,H p=some (.dK kvs)/\k= !kvs.isEmpty
 | _=>False
theorem Pn{κ:Type}{kvs:List (κ×V)}{vs:List (κ×Value)}(r:KV kvs vs):(!vs.isEmpty)= !kvs.isEmpty:=by
 cases r <;> rfl
theorem BI{xs:List V}{its:List Value}(r:Vals xs its):(!its.toArray.isEmpty)= !xs.isEmpty:=by
 cases r <;> simp
theorem lA:(aaD:Nat)<2 ^ 63:=by rw[ael];decide
theorem Vi:YM X (fun x H Q=>∃k,Fv X.K x H k/\Q k H):=by
 intro pins s σ H x v Q I rx h;obtain⟨k,e,q⟩:=h;have hl:=lA;have hs:aaD=16777216:=ael;cases x with
 | aC=>
  cases rx;have e':k=false:=e;subst e';exact truthy_none ⟨H,I,q⟩
 | bl b=>
  cases rx;have e':k=b:=e;subst e';exact abE ⟨H,I,q⟩
 | int i=>
  obtain⟨t,rfl⟩:=rx;have e':k=(i != 0):=e;subst e';exact PySem.P.truthy_int ⟨H,I,q⟩
 | str y=>
  obtain⟨t,rfl⟩:=rx;obtain⟨hy,e'⟩:y.length<=aaD/\k=((y.length:Int) != 0):=e;subst e';exact PySem.P.truthy_str (by omega) ⟨H,I.tok _,q⟩
 | oy y=>
  obtain⟨t,rfl⟩:=rx;obtain⟨hy,e'⟩:y.size<=aaD/\k=((y.size:Int) != 0):=e;subst e';exact PySem.W.truthy_bytes (by omega) ⟨H,I.tok _,q⟩
 | ref p=>
  cases rx;have e':(∃xs,bD X.K H p xs/\k= !xs.isEmpty)\/(∃xs,bZ X.K H p xs/\k= !xs.isEmpty)\/∃kvs,H p=some (.dK kvs)/\k= !kvs.isEmpty:=e
  rcases e' with⟨xs,hx,e'⟩ | ⟨xs,hx,e'⟩ | ⟨kvs,hx,e'⟩
  ·subst e';obtain⟨its,r,pl,hz⟩:=I.list hx;have bH:=r.length;exact wpAny_truthy_list pl.isList (by simp only[aax];omega) ⟨H,I.tok _,by rw[BI r];exact q⟩
  ·subst e';obtain⟨its,r,pl,hz⟩:=I.tuple hx;have bH:=r.length;exact truthy_tuple pl (by simp only[aax];omega) ⟨H,I.tok _,by rw[BI r];exact q⟩
  ·subst e';obtain⟨hz,hS,vs,r,m⟩:kvs.length<=aaD/\(p==abW)=false/\∃vs,KV kvs vs/\s.heap.DictOf (cN X.prog X.w) p vs:=I.aJ p _ hx;have bH:kvs.length=vs.length:=adH r;exact wpAny_truthy_dict hS m (by omega) ⟨H,I.tok _,by rw[Pn r];exact q⟩
 | _=>exact(show False from e).elim
theorem RU(ha:PE X a ta)(he:∀whole,isTrue a X.env whole=(do let v <- whole;standAt a.pos;adM [v] (truthy v))) :
  PT X a (fun σ H Q=>ta σ H fun x H'=>∃k,Fv X.K x H' k/\Q k H'):=by
 intro pins s σ H Q I h;exact isTrue_plain (aX (ha pins s σ H _ I h) fun v s1 ⟨x,H1,I1,r1,q1⟩=>Vi pins s1 σ H1 x v Q I1 r1 q1) (he _)
theorem Pp:bt X (adb .Add) (fun x y H Q=>∃i j,x=.str i/\y=.str j/\i.length+j.length<=aaD/\Q (.str (i++j)) H):=by
 intro pins s σ H x y v u Q I rx ry h;obtain⟨i,j,rfl,rfl,hz,q⟩:=h;obtain⟨t,rfl⟩:=rx;obtain⟨t',rfl⟩:=ry;exact add_str (fun t' tk=>⟨.str (i++j),H,I.tok _,⟨_,rfl⟩,q⟩) hz
theorem vals1{x:V}{us:List Value}(r:Vals [x] us):∃u,us=[u]/\RelV x u:=by
 cases r with
 | cons r1 r2=>cases r2;exact⟨_,rfl,r1⟩
theorem wz:cJ X (.type "int") (fun xs H Q=>(∃i,xs=[.int i]/\Q (.int i) H)\/∃k,xs=[.bl k]/\Q (.int (if k then 1 else 0)) H):=by
 intro pins s σ H xs us Q I r h
 rcases h with⟨i,rfl,q⟩ | ⟨k,rfl,q⟩
 ·obtain⟨u,rfl,t,rfl⟩:=vals1 r;exact call_int_int ⟨.int i,H,I,⟨_,rfl⟩,q⟩
 ·obtain⟨u,rfl,r1⟩:=vals1 r;cases r1;exact call_int_bool ⟨.int (if k then 1 else 0),H,I.tok _,⟨_,rfl⟩,q⟩
end
structure nX(h:Heap)(x dx C:Addr)(mA:Str->Option Value):Prop where
 obj:h.get? x=some (abY C dx)
 ns:h.Ns1 dx mA
 ne:dx≠x
theorem Qz{dx:Addr}{mA:Str->Option Value}(n:h.Ns1 dx mA):∃od,h.get? dx=some od/\∀name,aeW name od=some (mA name):=by
 obtain⟨o,es,ep,ho,hd,hk,_,hm⟩:=n;refine⟨o,ho,fun name=>?_⟩;have e:=hm name;unfold nsFind findBy at e;rw[<- Array.find?_toList] at e;unfold aeW;rw[hd]
 dsimp only
 split
 ·rename_i y q;rw[q] at e;exact congrArg some e
 ·rename_i q;rw[q] at e;have a:es.toList.any (·.refKey)=false:=by
   rw[List.any_eq_false];intro y hy;obtain⟨z,t,qg⟩:=hk y (Array.mem_toList_iff.mp hy);simp[DictEntry.refKey,qg]
  have a':¬es.toList.any (·.refKey)=true:=by rw[a];exact aaQ
  rw[if_neg a'];exact congrArg some e
variable{C:Addr}
theorem nX.look{x dx:Addr}{mA:Str->Option Value}(I:nX h x dx C mA):∃od,PySem.W.InstAt h x (abY C dx) C (some od)/\∀name,aeW name od=some (mA name):=
 let ⟨od,ho,hl⟩:=Qz I.ns
 ⟨od,⟨I.obj,rfl,rfl,ho⟩,hl⟩
section
variable{prog:abp}{w:World}{A:abT}{E:Value->aam->Prop}{s:aam}{K:aaj}{x dx C f:Addr}{mA:Str->Option Value}{name:Str}{v:Value}
theorem get_map{expr:Bool}{Q:Value->aam->Prop}(X:K.In s.heap)(I:nX s.heap x dx C mA)(hg:adD K C name=true)(hh:adu K C=true)
  (ha:abl K (.ref C) name=some none) (hv:mA name=some v) (Zw:afF v=true) (h:Q v { s with toks:=s.toks+1 }) :
  wpAny (model prog w) A (getAttr (.ref x) name expr) Q E s:=by
 obtain⟨od,J,hl⟩:=I.look;exact PySem.W.get_value X J (PySem.W.plainGet_of hg).1 (PySem.W.findObj_own hh ha rfl (by rw[hl,hv])) Zw h
theorem Td{ns:List Str}{Q:Unit->aam->Prop}(X:K.In s.heap)(I:nX s.heap x dx C mA)
  (hs:abl K (.ref C) "__setattr__"=some (some (.builtin "object.__setattr__"))) (hp:aeg K C=true) (ht:aeF K C name=some none) (hh:adu K C=true)
  (hw:afy mA ns) (hsz:ns.length<=aaD)
  (h:∀h',nX h' x dx C (fun y=>if y=name then some v else mA y)->adZ dx s.heap h'->Q () { s with heap:=h',toks:=s.toks+2 }) :
  wpAny (model prog w) A (setAttr (.ref x) name v) Q E s:=by
 obtain⟨od,J,hl⟩:=I.look;refine PySem.W.set_plain X J hs (PySem.W.osa_open (s:={ s with toks:=s.toks+1 }) (r:=none) X J hp ht fun b=>?_);obtain⟨cd,hc,jI⟩:=PySem.W.any_some hh;have hx:s.heap.get? x=some ⟨.ref C,some dx,.plain,#[]⟩:=I.obj;refine aak (aaq (aak (aak (wpAny_loadPart hx (aak (PySem.W.Looks.here (s:={ s with toks:=s.toks+1 }) (PySem.W.looks_clsIn X hc) ?_))))));rw[jI];refine aaq (a:=some dx) (aak (aaq (aak ?_)));refine wpAny_nsSet1 (s:={ s with toks:=s.toks+1 }) I.ns fun h' Gm oC=>?_
 obtain⟨oD,esD,epD,Zx,Zy,Zz⟩:=Gm.count (PySem.Within.cons name v hw);refine aak (wpAny_lookBehind Zx (by rw[Zy];exact pastItsLine_dict (abe Zz (by rw[aaP];omega))) ?_);exact aaq (h _ ⟨(oC.2 _ (adt I.ne)).trans I.obj,Gm,I.ne⟩ oC)
theorem RV{R:Result->aam->Prop}{vs:List Value}{kw:List (Str×Value)}(X:K.In s.heap)(hm:aeG K C=true)
  (hi:abl K (.ref C) "__init__"=some (some (.ref f))) (hf:acG K (.ref f)=some (.type "function"))
  (h:afd (model prog w) (A.under (.builtin "type.__call__" ⟨.ref C::vs,kw⟩)) (.call (.ref f) ⟨.ref (s.heap.objs.size+1)::vs,kw⟩) (PySem.W.InitBack (s.heap.objs.size+1) R)
   { s with heap:=(s.heap.push abL).push (abY C s.heap.objs.size) }) :
  afd (model prog w) A (.call (.ref C) ⟨vs,kw⟩) R s:=by
 obtain⟨hh,g,d,t,os⟩:=s;exact PySem.W.make_core (PySem.W.makes_of X hm) (PySem.W.looks_findIn X hi) (fun self=>PySem.W.bind_fn X self hf) (.inl rfl) h
end
noncomputable def da(f:Str)(v:V):List (Str×V)->List (Str×V)
 | []=>[(f,v)]
 | (g,x)::r=>if g=f then(g,v)::r else(g,x)::da f v r
theorem Br(f g:Str)(v:V):∀fs:List (Str×V),(da f v fs).lookup g=if g=f then some v else fs.lookup g
 | []=>by
  show abO g [(f,v)]=_;by_cases h:g=f
  ·have hb:(g==f)=true:=beq_iff_eq.mpr h;simp only[abO,hb,if_pos h]
  ·have hb:(g==f)=false:=beq_eq_false_iff_ne.mpr h;simp only[abO,hb,if_neg h]
 | (k,x)::r=>by
  have ih:=Br f g v r;rw[show da f v ((k,x)::r)=(if k=f then(k,v)::r else(k,x)::da f v r) from rfl];by_cases hk:k=f
  ·rw[if_pos hk];by_cases h:g=k
   ·have hb:(g==k)=true:=beq_iff_eq.mpr h;simp only[abO,hb,if_pos (h.trans hk)]
   ·have hb:(g==k)=false:=beq_eq_false_iff_ne.mpr h;simp only[abO,hb,if_neg (fun e:g=f=>h (e.trans hk.symm))]
  ·rw[if_neg hk];by_cases h:g=k
   ·have hb:(g==k)=true:=beq_iff_eq.mpr h;simp only[abO,hb,if_neg (fun e:g=f=>hk (h.symm.trans e))]
   ·have hb:(g==k)=false:=beq_eq_false_iff_ne.mpr h;simp only[abO,hb];exact ih
theorem wA(f:Str)(v:V):∀fs:List (Str×V),f∈(da f v fs).map (·.1)/\∀g,g∈fs.map (·.1)->g∈(da f v fs).map (·.1)
 | []=>⟨by simp[da],fun g h=>by simp at h⟩
 | (k,x)::r=>by
  obtain⟨i1,i2⟩:=wA f v r;rw[show da f v ((k,x)::r)=(if k=f then(k,v)::r else(k,x)::da f v r) from rfl];by_cases hk:k=f
  ·rw[if_pos hk];subst hk;exact⟨by simp,fun g h=>by simpa using h⟩
  ·rw[if_neg hk];refine⟨?_,fun g h=>?_⟩
   ·rw[aaM];exact aaU _ i1
   ·rw[aaM] at h ⊢
    rcases abo.mp h with e | e
    ·exact abo.mpr (.inl e)
    ·exact aaU _ (i2 g e)
theorem Bs(f:Str)(v:V):∀fs:List (Str×V),(da f v fs).length<=fs.length+1
 | []=>by simp[da]
 | (k,x)::r=>by
  have ih:=Bs f v r;rw[show da f v ((k,x)::r)=(if k=f then(k,v)::r else(k,x)::da f v r) from rfl];by_cases hk:k=f
  ·rw[if_pos hk,aaP,aaP];omega
  ·rw[if_neg hk,aaP,aaP];omega
theorem eF.some_of{v:V}{o:Option Value}(r:eF (some v) o):∃u,o=some u/\RelV v u:=by
 cases o with
 | none=>exact(show False from r).elim
 | some u=>exact⟨u,rfl,r⟩
theorem QA{v:V}{u:Value}(r:RelV v u):afF u=true:=by
 cases v with
 | aC=>cases(show u=acF from r);rfl
 | bl b=>cases(show u=adJ b from r);rfl
 | int i=>obtain⟨t,e⟩:=(show ∃t,u=adk i t from r);cases e;rfl
 | str x=>obtain⟨t,e⟩:=(show ∃t,u=aeB x t from r);cases e;rfl
 | oy b=>obtain⟨t,e⟩:=(show ∃t,u=Value.bytes b t from r);cases e;rfl
 | u6 b=>obtain⟨t,e⟩:=(show ∃t,u=Value.float b t from r);cases e;rfl
 | ref a=>cases(show u=abb a from r);rfl
 | ty n=>cases(show u=Value.type n from r);rfl
section
variable{P:abp}{w:World}{H H':Hp}{h h':Heap}{a C dx:Addr}{fs oA:List (Str×V)}
theorem CV(aJ:cm P w H h)(e:H a=some (.ins C dx fs)):∃mA,nX h a dx C mA/\(∀f,eF (fs.lookup f) (mA f))/\afy mA (fs.map (·.1))/\fs.length<=1000/\H dx=some (.own a):=by
 obtain⟨d,z,ne,ob,mA,n,r,q⟩:=(show cW P w H h a (.ins C dx fs) from aJ a _ e)
 exact⟨mA,⟨ob,n,ne⟩,r,q,z,d⟩
end
structure fS(K:aaj)(C:Addr):Prop where
 pg:adD K C Str.empty=true
 hd:adu K C=true
 po:aeg K C=true
 sa:abl K (.ref C) "__setattr__"=some (some (.builtin "object.__setattr__"))
theorem fS.get(c:fS K C)(f:Str):adD K C f=true:=c.pg
noncomputable def du(K:aaj)(C:Addr)(f:Str):Prop:=abl K (.ref C) f=some none
theorem du.Xw{f:Str}(n:du K C f):aeF K C f=some none:=by
 unfold aeF;rw[show abl K (.ref C) f=some none from n];rfl
section
variable{X:Cx}{pins:List (Addr×Obj)}{σ:St}{H:Hp}{s:aam}{a C dx:Addr}{fs:List (Str×V)}{f:Str}{v:V}{A:abT}{E:Value->aam->Prop}
theorem BJ{b:Bool}{Q:Value->aam->Prop}(I:Inv X pins σ H s)(e:H a=some (.ins C dx fs))(c:fS X.K C)(n:du X.K C f)(l:fs.lookup f=some v)
  (h:∀u s',Inv X pins σ H s'->RelV v u->Q u s'):wpAny (model X.prog X.w) A (getAttr (.ref a) f b) Q E s:=by
 obtain⟨mA,O,r,_,_,_⟩:=CV I.aJ e;obtain⟨u,hu,ru⟩:=eF.some_of (v:=v) (o:=mA f) (by rw[<- l];exact r f);exact get_map I.dh O (c.get f) c.hd n hu (QA ru) (h u _ (I.tok _) ru)
theorem BK{y:V}{u:Value}{Q:Unit->aam->Prop}(I:Inv X pins σ H s)(e:H a=some (.ins C dx fs))(c:fS X.K C)(n:du X.K C f)(hl:fs.length<1000)(ry:RelV y u)
  (h:∀s',Inv X pins σ (upd H a (.ins C dx (da f y fs))) s'->Q () s'):wpAny (model X.prog X.w) A (setAttr (.ref a) f u) Q E s:=by
 obtain⟨mA,O,r,wi,_,ho⟩:=CV I.aJ e;have hz:(fs.map (·.1)).length<=sizeLine:=by rw[aat,ael];omega
 refine Td I.dh O c.sa c.po n.Xw c.hd wi hz fun h' O' sb=>h _ ?_
 have hd:∃o,h'.get? dx=some o:=let ⟨o,_,_,e',_⟩:=O'.ns;⟨o,e'⟩
 refine I.write (x:=a) (e:=dx) (by rw[e];exact ach) (.inr ho) (fun b q hb z=>(sb.2 b hb).trans z) hd ?_;refine⟨by rw[bC O.ne];exact ho,?_,O.ne,O'.obj,_,O'.ns,fun g=>?_,fun g hg=>?_⟩
 ·have:=Bs f y fs;omega
 ·show eF ((da f y fs).lookup g) (if g=f then some u else mA g);rw[Br];by_cases q:g=f
  ·rw[if_pos q,if_pos q];exact ry
  ·rw[if_neg q,if_neg q];exact r g
 ·by_cases q:g=f
  ·rw[q];exact(wA f y fs).1
  ·refine(wA f y fs).2 g (wi g fun z=>hg ?_);show(if g=f then some u else mA g)=none;rw[if_neg q];exact z
theorem Inv.made(I:Inv X pins σ H s):Inv X pins σ (upd (upd H s.heap.objs.size (.own (s.heap.objs.size+1))) (s.heap.objs.size+1) (.ins C s.heap.objs.size []))
  { s with heap:=(s.heap.push abL).push (abY C s.heap.objs.size) }:=by
 have e1:(s.heap.push abL).get? s.heap.objs.size=some PySem.W.emptyDict:=abk s.heap rfl;have e2:((s.heap.push abL).push (abY C s.heap.objs.size)).get? (s.heap.objs.size+1)=some (abY C s.heap.objs.size):=by
  have:=abk (s.heap.push abL) (o:=abY C s.heap.objs.size) rfl
  rwa [aeX] at this
 have e3:(s.heap.push abL).Ns s.heap.objs.size (fun _=>none):=⟨abL,#[],_,e1,rfl,(fun e he=>absurd he (by simp)),fun _=>rfl⟩
 have I1:=I.laid (a:=s.heap.objs.size) (o:=.own (s.heap.objs.size+1)) (h':=s.heap.push abL) (t':=s.toks) (fun b u q=>aaA _ q) (aar _) ⟨_,e1⟩;refine I1.laid (a:=s.heap.objs.size+1) (o:=.ins C s.heap.objs.size []) (t':=s.toks) (fun b u q=>aaA _ q) (Nat.le_of_eq (aeX _ _)) ?_;have ne:s.heap.objs.size≠s.heap.objs.size+1:=abn (abD _);refine⟨by rw[bC ne,bW],aca _,ne,e2,fun _=>none,(Heap.Ns1.of_empty e3).at fun o q=>aaA _ q,fun _=>ach,fun y hy=>absurd rfl hy⟩
theorem Te{prog:abp}{w:World}{env:Env}{e:Expr}{f:Str}{pos:Pos}{s:aam}{Q:Value->aam->Prop}(hb:acz e f env (eval e env)=eval e env)
  (h:wpAny (model prog w) A (eval e env) (fun o bB=>wpAny (model prog w) A (getAttr o f true) Q E bB) E s):wpAny (model prog w) A (eval (.Attribute e f pos) env) Q E s:=
 Attribute_any_ h (by rw[arm_eval_Attribute,hb])
end
noncomputable def YN(K:aaj)(ta:TE)(f:Str):TE:=fun σ H Q=>ta σ H fun x H1=>∃a C dx fs v,x=.ref a/\H1 a=some (.ins C dx fs)/\fS K C/\du K C f/\fs.lookup f=some v/\Q v H1
noncomputable def YO(K:aaj)(ta tv:TE)(f:Str):TS:=fun D σ H=>tv σ H fun y H1=>ta σ H1 fun x H2=>∃a C dx fs,x=.ref a/\H2 a=some (.ins C dx fs)/\fS K C/\du K C f/\fs.length<1000 /\
 D.nx σ (upd H2 a (.ins C dx (da f y fs)))
noncomputable def qh(X:Cx)(op:afl)(rd:V->V->Hp->VK->Prop):Prop:=
 ∀(pins:List (Addr×Obj)) (s:aam) (σ:St) (H:Hp) (x y:V) (u v:Value) (Q:VK),Inv X pins σ H s->RelV x u->RelV y v->rd x y H Q->wpAny (model X.prog X.w) X.A (inplaceOp op u v) (EP X pins σ Q) X.xe s
noncomputable def Tf(K:aaj)(ta tv:TE)(rd:V->V->Hp->VK->Prop)(f:Str):TS:=fun D σ H=>ta σ H fun x H1=>∃a C dx fs v,x=.ref a/\H1 a=some (.ins C dx fs)/\fS K C/\du K C f/\fs.lookup f=some v /\
 tv σ H1 fun y H2=>rd v y H2 fun z H3=>∃zg oA,H3 a=some (.ins C zg oA)/\oA.length<1000/\D.nx σ (upd H3 a (.ins C zg (da f z oA)))
section
variable{X:Cx}{o e value:Expr}{f:Str}{pos pos' uH:Pos}{ta tv:TE}
theorem Vj(he:PE X e ta)(hb:acz e f X.env (eval e X.env)=eval e X.env):PE X (.Attribute e f pos) (YN X.K ta f):=by
 intro pins s σ H Q I h;refine Te hb (aX (he pins s σ H _ I h) fun u s1 ⟨x,H1,I1,rx,a,C,dx,fs,v,ex,ea,c,n,l,q⟩=>?_);subst ex;obtain rfl:u=abb a:=rx;exact BJ I1 ea c n l fun u' s2 I2 ru=>⟨v,H1,I2,ru,q⟩
theorem Vk(ha:PE X o ta)(hv:PE X value tv)(hs:acR value (some (.Attribute o f pos')) pos.line X.env=pure false):PS X (.Assign [.Attribute o f pos'] value pos) (YO X.K ta tv f):=by
 intro pins s σ H D I h;refine plainObj_wpAny_Assign_Attribute (aX (hv pins s σ H _ I h) fun u s1 ⟨y,H1,I1,ry,q⟩=>aX (ha pins s1 σ H1 _ I1 q) fun ov s2 ⟨x,H2,I2,rx,a,C,dx,fs,ex,ea,c,n,l,q2⟩=>?_) hs;subst ex;obtain rfl:ov=abb a:=rx;exact BK I2 ea c n l ry fun s3 I3=>⟨σ,_,I3,q2⟩
theorem QB{op:afl}{rd:V->V->Hp->VK->Prop}(ha:PE X o ta)(hv:PE X value tv)(qG:qh X op rd):PS X (.AugAssign (.Attribute o f uH) op value pos) (Tf X.K ta tv rd f):=by
 intro pins s σ H D I h;refine wpAny_AugAssign_AttributeAny (aX (ha pins s σ H _ I h) fun ov s1 ⟨x,H1,I1,rx,a,C,dx,fs,v,ex,ea,c,n,l,q⟩=>?_);subst ex;obtain rfl:ov=abb a:=rx;refine BJ I1 ea c n l fun u s2 I2 ru=>aX (hv pins s2 σ H1 _ I2 q) fun w3 s3 ⟨y,H2,I3,ry,q3⟩=>aX (qG pins s3 σ H2 v y u w3 _ I3 ru ry q3) fun w4 s4 ⟨z,H3,I4,rz,zg,oA,ZA,l',q4⟩=>?_
 exact BK I4 ZA c n l' rz fun s5 I5=>⟨σ,_,I5,q4⟩
noncomputable def Fw:V->V->Hp->VK->Prop:=fun x y H Q=>∃i j,x=.int i/\y=.int j/\Q (.int (i+j)) H
noncomputable def Fx:V->V->Hp->VK->Prop:=fun x y H Q=>∃i j,x=.int i/\y=.int j/\Q (.int (i-j)) H
theorem DG:qh X .Add Fw:=by
 rintro pins s σ H x y u v Q I rx ry ⟨i,j,rfl,rfl,q⟩;obtain⟨t,rfl⟩:=(show ∃t,u=adk i t from rx)
 obtain⟨t',rfl⟩:=(show ∃t',v=adk j t' from ry)
 exact PyProof.Rows.iadd_int ⟨.int (i+j),H,I.tok _,⟨_,rfl⟩,q⟩
theorem Vl:qh X .Sub Fx:=by
 rintro pins s σ H x y u v Q I rx ry ⟨i,j,rfl,rfl,q⟩;obtain⟨t,rfl⟩:=(show ∃t,u=adk i t from rx)
 obtain⟨t',rfl⟩:=(show ∃t',v=adk j t' from ry)
 exact PyProof.Rows.isub_int ⟨.int (i-j),H,I.tok _,⟨_,rfl⟩,q⟩
end
structure cL(k:Nat)(A:abT):Prop where
 hd:A.handled=none
 dp:A.depth+3*k+5<recursionLimit
 un:A.units+16*k+200<cLine
variable{k:Nat}
theorem cL.mono{j:Nat}(r:cL k A)(h:j<=k):cL j A:=⟨r.hd,by have:=r.dp;omega,by have:=r.un;omega⟩
theorem cL.deeper{k:Nat}{A:abT}(r:cL (k+1) A)(env:Env):cL k (A.deeper env):=
 ⟨r.hd,by have:=r.dp;show A.depth+1+3*k+5<_;omega,by have:=r.un;show A.units+3+16*k+200<_;omega⟩
variable{us:List Value}
theorem Pq{kw:List (Str×Value)}:(A.under (.builtin "type.__call__" ⟨.ref C::us,kw⟩)).depth=A.depth+1:=by
 first | rfl | simp[afB,Code.weight,Code.isCreation,Code.isGuard,Code.isCaller,Code.frames,afC,guardIds]
theorem Pr{kw:List (Str×Value)}:(A.under (.builtin "type.__call__" ⟨.ref C::us,kw⟩)).units=A.units+1:=by
 first | rfl | simp[afB,Code.cUnits,Code.frames,afC]
theorem cL.make(r:cL (k+1) A)(C:Addr)(us:List Value)(kw:List (Str×Value)):cL k (A.under (.builtin "type.__call__" ⟨.ref C::us,kw⟩)):=
 ⟨r.hd,by have:=r.dp;rw[Pq];omega,by have:=r.un;rw[Pr];omega⟩
theorem cL.depth{k:Nat}{A:abT}(r:cL k A):A.depth<recursionLimit:=by have:=r.dp;omega
theorem cL.units{k:Nat}{A:abT}(r:cL k A):A.units+64<cLine:=by have:=r.un;omega
noncomputable def YQ:TA:=fun _ H Q=>Q [] H
noncomputable def Xx(ta:TE)(tr:TA):TA:=fun σ H Q=>ta σ H fun x H1=>tr σ H1 fun xs H2=>Q (x::xs) H2
section
variable{X:Cx}{e:Expr}{es:List Expr}{te:TE}{t:TA}{pos:Pos}
theorem xG:PA X [] YQ:=fun _ _ _ _ H Q I h=>Calls.spliced_nil ⟨[],H,I,.nil,h⟩
theorem pH(ha:PE X e te)(hr:PA X es t)(hs:aaY (e::es) X.env=(false,eval e X.env)::aaY es X.env:=by rfl):PA X (e::es) (Xx te t):=by
 intro pos pins s σ H Q I h;rw[hs];show wpAny _ _ (spliced ((false,eval e X.env)::ady pos (aaY es X.env))) _ _ s;refine Calls.spliced_cons (aX (ha pins s σ H _ I h) fun u s1 ⟨x,H1,I1,r1,q1⟩=>?_);exact aX (hr pos pins s1 σ H1 _ I1 q1) fun us s2 ⟨xs,H2,I2,r2,q2⟩=>⟨x::xs,H2,I2,.cons r1 r2,q2⟩
noncomputable def YR(t:TA):TE:=fun σ H Q=>t σ H fun xs H1=>xs.length<=aaD/\∀p,H1 p=none->Q (.ref p) (upd H1 p (.tup xs))
noncomputable def YS(t:TA):TE:=fun σ H Q=>t σ H fun xs H1=>xs.length<=aaD/\∀p,H1 p=none->Q (.ref p) (upd H1 p (.lst xs))
theorem Vm{x1}(h:PA X es t):PE X (.Tuple es x1 pos) (YR t):=by
 intro pins s σ H Q I hq;refine wpAny_Tuple_spliced (aX (h pos pins s σ H _ I hq) fun us s1 ⟨xs,H1,I1,r,z,q⟩=>⟨by rw[<- r.length];exact z,?_⟩);have hf:H1 s1.heap.objs.size=none:=I1.aJ.fresh (aar _);refine⟨.ref s1.heap.objs.size,upd H1 s1.heap.objs.size (.tup xs),I1.laid (t':=s1.toks) (fun b u e=>aaA _ e) (aar _) ?_,rfl,q _ hf⟩;exact⟨z,us,r,⟨_,abk _ rfl,rfl,_,rfl⟩⟩
theorem Vn(h:PA X es t):PE X (.List es pos) (YS t):=by
 intro pins s σ H Q I hq;refine wpAny_List_spliced (aX (h pos pins s σ H _ I hq) fun us s1 ⟨xs,H1,I1,r,z,q⟩=>⟨by rw[<- r.length];exact z,?_⟩);have hf:H1 s1.heap.objs.size=none:=I1.aJ.fresh (aar _);refine⟨.ref s1.heap.objs.size,upd H1 s1.heap.objs.size (.lst xs),I1.laid (t':=s1.toks) (fun b u e=>aaA _ e) (aar _) ?_,rfl,q _ hf⟩;exact⟨z,us,0,r,abk _ rfl⟩
end
abbrev Sp:=List V->Hp->VK->XK->Prop
abbrev jL:=List Env->Hp->aam->XK->Value->aam->Prop
structure lO(P:abp)(w:World)(K:aaj)(mg:Str->Option Value)(base:Heap)(A:abT)(outer:List Env)(s:aam)(H:Hp):Prop where
 frames:A.frames=some outer
 mod:Mod K mg base
 bs:∀b o,base.get? b=some o->s.heap.get? b=some o/\H b=none
 iq:base.objs.size<=s.heap.objs.size
 d5:s.heap.FunFrames base outer
 iZ:∀b∈cT outer,H b=none
 aJ:cm P w H s.heap
 bare:aek s.gens
noncomputable def CE(outer:List Env)(P:abp)(w:World)(H:Hp)(s:aam)(Q:VK)(u:Value)(s':aam):Prop:=
 ∃v H',s'.os=s.os/\aek s'.gens/\Un (cT outer) [] H H' s.heap s'.heap/\cm P w H' s'.heap/\RelV v u/\Q v H'
noncomputable def CR(CX:jL)(outer:List Env)(P:abp)(w:World)(H:Hp)(s:aam)(Q:VK)(E:XK)(r:Result)(s':aam):Prop:=
 match r with
 | .ok (.ret u)=>CE outer P w H s Q u s'
 | .ok _=>False
 | .error e=>CX outer H s E e s'
structure bO(P:abp)(w:World)(K:aaj)(mg:Str->Option Value)(base:Heap)(CX:jL)(k:Nat)(f:Addr)(fd:aaZ)(ps:List Str)(sp:Sp):Prop where
 len:∀vs H Q E,sp vs H Q E->vs.length=ps.length
 run:∀(A:abT) (outer:List Env) (s:aam) (H:Hp) (args:Args) (us:List Value) (vs:List V) (Q:VK) (E:XK),cL k A->lO P w K mg base A outer s H->BindsTo s fd args (ps.zip us)->Vals vs us->sp vs H Q E →
  afd (model P w) A (.call (.ref f) args) (CR CX outer P w H s Q E) s
variable{mg:Str->Option Value}
theorem lO.make{w:World}{base:Heap}{outer:List Env}{s:aam}(e:lO P w K mg base A outer s H)(C:Addr)(us:List Value)(kw:List (Str×Value)) :
  lO P w K mg base (A.under (.builtin "type.__call__" ⟨.ref C::us,kw⟩)) outer s H:=⟨by first | exact e.frames | (simpa[afB,Code.envs,afC,pushEnvs] using e.frames),e.mod,e.bs,e.iq,e.d5,e.iZ,e.aJ,e.bare⟩
section
variable{X:Cx}{pins:List (Addr×Obj)}{σ:St}{H:Hp}{s s':aam}
theorem Inv.Fy(I:Inv X pins σ H s):lO X.prog X.w X.K X.mg X.base X.A X.stack s H:=
 ⟨I.ok.frames,I.ok.mod,I.bs,abe I.ok.iq I.sz,I.stack,I.pG,I.aJ,I.bare⟩
theorem Inv.after{Q:VK}{u:Value}(I:Inv X pins σ H s)(h:CE X.stack X.prog X.w H s Q u s'):EP X pins σ Q u s':=by
 obtain⟨v,H',os,bare,un,aJ,r,q⟩:=h;obtain⟨hh,g,d,t,ZC⟩:=s';obtain rfl:ZC=s.os:=os;exact⟨v,H',I.call (h':=hh) (g':=g) (d':=d) (t':=t) (ch:=[]) un aJ bare (fun b z=>absurd z (by simp)),r,q⟩
end
noncomputable def Xy(C:Addr)(sp:Sp)(dvs:List V)(E:XK)(t:TA):TE:=fun σ H Q=>t σ H fun vs H1=>∀x dx,H1 x=none->H1 dx=none->dx≠x →
 sp (.ref x::(vs++dvs)) (upd (upd H1 dx (.own x)) x (.ins C dx [])) (fun v H2=>v=.aC/\Q (.ref x) H2) E
noncomputable def Binds(K:aaj)(fd:aaZ)(ps:List Str)(ds:List Value):Prop:=
 ∀(s:aam) (us:List Value),K.In s.heap->(us++ds).length=ps.length->BindsTo s fd ⟨us,[]⟩ (ps.zip (us++ds))
theorem Binds.all{fd:aaZ}{ps:List Str}(h:∀us:List Value,us.length=ps.length->bindArgs fd ⟨us,[]⟩=pure (ps.zip us)):Binds K fd ps []:=fun s us _ hl=>by
 rw[acS] at hl ⊢;exact .of_eq (h us hl)
noncomputable def DH(CX:jL)(X:Cx)(E:XK):Prop:=∀(pins:List (Addr×Obj)) (σ:St) (H:Hp) (s:aam) (e:Value) (s':aam),Inv X pins σ H s->CX X.stack H s E e s'->X.xe e s'
section
variable{X:Cx}{CX:jL}{k:Nat}{f C:Addr}{fd:aaZ}{ps:List Str}{sp:Sp}{dvs:List V}{ds:List Value}{E:XK}{x m:Str}{p pos apos:Pos}{e o:Expr}{es:List Expr}{ta:TE}{t:TA}
structure Mk(K:aaj)(C f:Addr):Prop where
 makes:aeG K C=true
 init:abl K (.ref C) "__init__"=some (some (.ref f))
 fn:PySem.W.isFn K (.ref f)=true
 kp:aaC K (.ref C)=true
theorem RW{pins:List (Addr×Obj)}{σ:St}{H:Hp}{s:aam}{Q:VK}{us:List Value}{vs:List V}(M:Mk X.K C f)(F:bO X.prog X.w X.K X.mg X.base CX k f fd ps sp)(hr:cL (k+1) X.A)(hb:Binds X.K fd ps ds)(hd:Vals dvs ds)
  (hx:DH CX X E) (I:Inv X pins σ H s) (r:Vals vs us)
  (h:∀x dx,H x=none->H dx=none->dx≠x->sp (.ref x::(vs++dvs)) (upd (upd H dx (.own x)) x (.ins C dx [])) (fun v H2=>v=.aC/\Q (.ref x) H2) E) :
  wpAny (model X.prog X.w) X.A (call (.ref C) us) (EP X pins σ Q) X.xe s:=by
 have hq:=h (s.heap.objs.size+1) s.heap.objs.size (I.aJ.fresh (acb _)) (I.aJ.fresh (aar _)) (abn (abD _));have I2:=Inv.made (C:=C) I;have r2:Vals (V.ref (s.heap.objs.size+1)::(vs++dvs)) (abb (s.heap.objs.size+1)::(us++ds)):=.cons rfl (r.append hd);have hl:(abb (s.heap.objs.size+1)::us++ds).length=ps.length:=by
  have e:=r2.length;rw[F.len _ _ _ _ hq] at e;exact e.symm
 refine afq (RV (f:=f) I.dh M.makes M.init (beq_iff_eq.mp M.fn) (aeH (F.run _ X.stack _ _ ⟨abb (s.heap.objs.size+1)::us,[]⟩ (abb (s.heap.objs.size+1)::(us++ds)) _ _ E (hr.make C us [])
  (I2.Fy.make C us []) (hb _ (abb (s.heap.objs.size+1)::us) I2.dh hl) r2 hq) fun r s' qH=>?_))
 cases r with
 | error e=>exact hx pins σ _ _ e s' I2 qH
 | ok fl=>
  cases fl with
  | ret u=>
   obtain⟨v,H',I3,rv,ev,q3⟩:=I2.after qH;subst ev;exact⟨rv,⟨V.ref (s.heap.objs.size+1),H',I3,rfl,q3⟩⟩
  | next=>exact acH qH
  | brk=>exact acH qH
  | cont=>exact acH qH
theorem Tg(M:Mk X.K C f)(F:bO X.prog X.w X.K X.mg X.base CX k f fd ps sp)(hr:cL (k+1) X.A)(hg:Gl X x)(hm:X.mg x=some (.ref C))(hb:Binds X.K fd ps ds)(hd:Vals dvs ds)(hx:DH CX X E)
  (ha:PA X (e::es) t) (bT:(x==("__debug__":Str))=false:=by decide) (he:aaY (e::es) X.env=(false,eval e X.env)::aaY es X.env:=by rfl) (hpl:(ady pos (aaY es X.env)).any (·.1)=false:=by rfl) :
  PE X (.Call (.Name x p) (e::es) [] pos) (Xy C sp dvs E t):=by
 intro pins s σ H Q I h;refine adl (m7 I hg hm ?_ bT);refine afm (h₀:=X.base) I.ok.mod.d9 M.kp (aX (ha pos pins s σ H _ I h) fun us s1 ⟨vs,H1,I1,r,q⟩=>⟨I1.dh,?_⟩) he hpl;exact RW M F hr hb hd hx I1 r q
end
structure cC(N P:List Str)(sc:Scope):Prop where
 kind:sc.kind=.function
 co:sc.isCoroutine=false
 gen:sc.isGenerator=false
 nd:N.Nodup
 pre:N.take P.length=P
 Gn:∀x∈P,sc.names.lookup x=some .local\/sc.names.lookup x=some .cell
 Vo:∀y∈sc.names,y.2≠.free
theorem B2{kindOf:Str->Option acU}{x:Str}:∀{binds:List (Str×Value)} {m:Str->Option Value},(∀v,(x,v)∉binds)->bindL kindOf binds m x=m x
 | [],_,_=>rfl
 | (n,v)::r,m,h=>by
  unfold bindL;rw[B2 fun w hw=>h w (aaU _ hw)];split
  ·have:x≠n:=by rintro rfl;exact h v abF
   simp[this]
  ·rfl
theorem B3{kindOf:Str->Option acU}{x:Str}:∀{binds:List (Str×Value)} {m:Str->Option Value},(∀v,(x,v)∉binds)->bindC kindOf binds m x=m x
 | [],_,_=>rfl
 | (n,v)::r,m,h=>by
  unfold bindC;rw[B3 fun w hw=>h w (aaU _ hw)];split
  ·rfl
  ·have:x≠n:=by rintro rfl;exact h v abF
   simp[this]
theorem B4{kindOf:Str->Option acU}{x:Str}{v:Value}:∀{P:List Str} {vs:List Value} {i:Nat} {m:Str->Option Value},P.Nodup->P[i]? =some x->vs[i]? =some v->kindOf x=some .local →
  bindL kindOf (P.zip vs) m x=some v
 | [],_,_,_,_,h,_,_=>by simp at h
 | _::_,[],_,_,_,_,h,_=>by simp at h
 | p::P,w::vs,0,m,nd,h1,h2,hk=>by
  simp at h1 h2;subst h1;subst h2
  show bindL kindOf ((p,w)::P.zip vs) m p=_;unfold bindL;rw[B2 fun v hv=>(acp.mp nd).1 (aeI hv).1,if_pos hk];simp
 | p::P,w::vs,i+1,m,nd,h1,h2,hk=>by
  show bindL kindOf ((p,w)::P.zip vs) m x=_;unfold bindL;exact B4 (i:=i) (acp.mp nd).2 (by simpa using h1) (by simpa using h2) hk
theorem B5{kindOf:Str->Option acU}{x:Str}{v:Value}:∀{P:List Str} {vs:List Value} {i:Nat} {m:Str->Option Value},P.Nodup->P[i]? =some x->vs[i]? =some v->kindOf x≠some .local →
  bindC kindOf (P.zip vs) m x=some v
 | [],_,_,_,_,h,_,_=>by simp at h
 | _::_,[],_,_,_,_,h,_=>by simp at h
 | p::P,w::vs,0,m,nd,h1,h2,hk=>by
  simp at h1 h2;subst h1;subst h2
  show bindC kindOf ((p,w)::P.zip vs) m p=_;unfold bindC;rw[B3 fun v hv=>(acp.mp nd).1 (aeI hv).1,if_neg hk];simp
 | p::P,w::vs,i+1,m,nd,h1,h2,hk=>by
  show bindC kindOf ((p,w)::P.zip vs) m x=_;unfold bindC;exact B5 (i:=i) (acp.mp nd).2 (by simpa using h1) (by simpa using h2) hk
noncomputable def start(N:List Str)(vs:List V):St:=vs.map some++aap (N.length-vs.length) none
noncomputable def jx(CX:jL)(P:abp)(w:World)(K:aaj)(mg:Str->Option Value)(base:Heap)(N:List Str)(qual:Str)(scope:Scope)(f:Addr)(cd:Value)(A:abT)(outer:List Env)(s:aam)(H:Hp)(E:XK):Cx where
 prog:=P
 w:=w
 K:=K
 mg:=mg
 base:=base
 A:=A.deeper (aeY qual scope s.heap.objs.size f cd)
 N:=N
 aM:=s
 aU:=H
 env:=aeY qual scope s.heap.objs.size f cd
 outer:=outer
 stack:=aeY qual scope s.heap.objs.size f cd::outer
 ex:=[]
 calm:=true
 fn:=fun _=>true
 pn:=[]
 kp:=fun _=>True
 xe:=fun e s'=>wpAny (model P w) (A.deeper (aeY qual scope s.heap.objs.size f cd)) (leaving (aeY qual scope s.heap.objs.size f cd) e) (fun _ eL=>CX outer H s E e eL) (fun e' eL=>CX outer H s E e' eL) s'
theorem Cr{sc:Scope}{n:Nat}{x:Str}(h:sc.names.lookup x=some .cell):∃c,(cellsFrom n sc.names []).lookup x=some c:=by
 have q:=aev sc.names n [] (.inl h);exact abf.mp q
theorem QC{CX:jL}{w:World}{base:Heap}{N ps:List Str}{qual:Str}{scope:Scope}{f:Addr}{cd:Value}{outer:List Env}{s s1:aam}{E:XK}{vs:List V}
  (S:cC N ps scope) (hd:A.handled=none) (e0:lO P w K mg base A outer s H) (hl:vs.length=ps.length) (r:Vals vs us)
  (x:InCallC s s.heap.objs.size (bindL (aeY qual scope s.heap.objs.size f cd).kindOf (ps.zip us) fun _=>none) (cellsFrom (s.heap.objs.size+1) scope.names []) (bindC (aeY qual scope s.heap.objs.size f cd).kindOf (ps.zip us) fun _=>none) s1) :
  Inv (jx CX P w K mg base N qual scope f cd A outer s H E) [] (start N vs) H s1:=by
 have hpl:ps.length<=N.length:=by have:=congrArg List.length S.pre;rw[aeq] at this;omega
 obtain⟨h1,tk,rfl,hk⟩:=x.done;have zh:∀b:Addr,b∉(jx CX P w K mg base N qual scope f cd A outer s H E).ex:=fun b z=>absurd (show b∈([]:List Addr) from z) (by simp)
 refine⟨⟨e0.mod,S.kind,rfl,rfl,aar _,fun y z c h1 h2=>?_,fun y hy=>?_,fun y c _ h=>?_,fun _=>hd,Around.frames_deeper e0.frames,.inr ⟨rfl,rfl⟩,fun b z=>absurd z (zh b),e0.bs,e0.iq,fun b _ _=>zh b,fun b z=>absurd z (zh b),e0.d5,e0.iZ⟩,
  rfl,e0.bare,Un.kept hk,⟨_,x.toInCall.ns,fun i y v h1 h2 h3=>?_⟩,fun y c h=>⟨_,x.cell y c h⟩,e0.aJ.fresh (aar _),fun y c h=>?_,fun p hp=>absurd (show p∈([]:List (Addr×Obj)) from hp) (by simp),e0.aJ.kept hk,⟨?_,trivial⟩⟩
 ·exact name_of_addr x.apart (acA h1) (acA h2)
 ·have hy:scope.names.lookup y=some .cell\/scope.names.lookup y=some .free:=hy
  rcases hy with hy | hy
  ·exact Cr hy
  ·exact absurd rfl (S.Vo _ (acA hy))
 ·exact aeC (x.above y c (acA h))
 ·have hi:i<vs.length:=by
   unfold start at h2;by_cases hi:i<vs.length
   ·exact hi
   ·rw[abd (by simpa using hi)] at h2;rw[adm] at h2;split at h2 <;> cases h2
  have ha:vs[i]? =some v:=by
   unfold start at h2;rw[aaS (by simpa using hi),aaN] at h2;cases e:vs[i]? with
   | none=>rw[e] at h2;cases h2
   | some a=>rw[e] at h2;cases h2;rfl
  obtain⟨u,hu,rv⟩:=r.get ha;have hp:ps[i]? =some y:=by
   rw[<- S.pre,List.getElem?_take_of_lt (by omega)];exact h1
  have Gp:ps.Nodup:=by rw[<- S.pre];exact S.nd.sublist (List.take_sublist _ _)
  refine⟨u,rv,?_⟩
  rcases S.Gn y (aaW hp) with k | k
  ·exact .inl ⟨k,B4 Gp hp hu k⟩
  ·obtain⟨c,e⟩:=Cr (n:=s.heap.objs.size+1) k;refine .inr ⟨.inl k,c,e,?_⟩;have q:=x.cell y c e;rw[B5 Gp hp hu (by show scope.names.lookup y≠_;rw[k];decide)] at q;exact q
 ·have z:=e0.aJ.fresh (aeC (x.above y c (acA h)));exact⟨fun _=>z,.inl z⟩
 ·unfold start;show _=N.length;rw[aas,aat,List.length_replicate];omega
theorem Xz{CX:jL}{w:World}{base:Heap}{f:Addr}{name qual:Str}{params:Arguments}{body:List Stmt}{scope:Scope}{dV kV doc pm cG ct oc:Value}{an od:Option Addr}
  {i5:Array (Option Value)} {N ps:List Str} {sp:Sp} (lk:K.lookup f=some ⟨oc,od,.func (aaL name qual params body scope dV kV doc pm an cG ct),i5⟩) (hcd:aaF K cG qual=true) (S:cC N ps scope)
  (len:∀vs H Q E,sp vs H Q E->vs.length=ps.length)
  (pV:∀(A:abT) (outer:List Env) (s:aam) (H:Hp) (vs:List V) (Q:VK) (E:XK),cL k (A.deeper (aeY qual scope s.heap.objs.size f cG))->sp vs H Q E →
   ∃t,fh (jx CX P w K mg base N qual scope f cG A outer s H E) body t/\t { nx:=fun _ H'=>Q .aC H',rt:=Q } (start N vs) H) :
  bO P w K mg base CX (k+1) f (aaL name qual params body scope dV kV doc pm an cG ct) ps sp:=by
 refine⟨len,fun A outer s H args us vs Q E hr e0 hb r Gq=>?_⟩;have hl:=len _ _ _ _ Gq;have KX:K.In s.heap:=e0.mod.d9.keeps fun b o e=>(e0.bs b o e).1
 have lim:s.heap.NoLimit:=e0.mod.nolimit.keeps fun b o e=>(e0.bs b o e).1
 have XA:∀y∈ps.zip us,scope.names.lookup y.1=some .local\/(scope.names.lookup y.1=some .cell/\((cellsFrom (s.heap.objs.size+1) scope.names []).lookup y.1).isSome=true):=fun⟨n,v⟩ hy=>by
  rcases S.Gn n (aeI hy).1 with q | q
  ·exact .inl q
  ·exact .inr ⟨q,aev _ _ _ (.inl q)⟩
 refine codeAny_call_function hr.depth (KX _ _ lk) rfl S.co S.gen rfl (PySem.W.codeRec_of KX hcd) (hb _ _ _ _ ?_);refine wpAny_newFunctionEnv_cells S.kind XA fun env he s1 x=>?_
 subst he;refine⟨lim.keeps x.toInCall.keep,codeAny_func ?_⟩;obtain⟨t,ht,hq⟩:=pV A outer s H vs Q E (hr.deeper _) Gq;have I:Inv (jx CX P w K mg base N qual scope f cG A outer s H E) [] (start N vs) H s1:=QC S hr.hd e0 hl r x;refine abB (ht [] s1 (start N vs) H _ I hq) (fun fl s' hs=>?_) fun e s' hs=>hs
 have fin:∀{ao:St} {H':Hp} {v:V} {u:Value},Inv (jx CX P w K mg base N qual scope f cG A outer s H E) [] ao H' s'->RelV v u->Q v H'->CE outer P w H s Q u s':=
  fun{ao H' v u} J rv q=>⟨v,H',J.os,J.bare,J.base,J.aJ,rv,q⟩
 cases fl with
 | ret u=>
  obtain⟨v,ao,H',J,rv,q⟩:=hs;exact fin J rv q
 | next=>
  obtain⟨ao,H',J,q⟩:=hs;exact fin (v:=V.aC) (u:=acF) J rfl q
 | brk=>
  obtain⟨_,_,_,q⟩:=hs;exact acH q
 | cont=>
  obtain⟨_,_,_,q⟩:=hs;exact acH q
section
variable{X:Cx}{x:Str}{p pos:Pos}{e:Expr}{es:List Expr}{t:TA}{id T:String}{r:List V->Hp->VK->Prop}
noncomputable def zi(r:List V->Hp->VK->Prop)(t:TA):TE:=fun σ H Q=>t σ H fun vs H1=>r vs H1 Q
theorem wN(hc:cJ X (.builtin id) r)(hg:Gl X x)(hm:X.mg x=none)(hv:aby x=some (.builtin id))(ha:PA X (e::es) t)(hn:x≠"__name__":=by decide)(bT:(x==("__debug__":Str))=false:=by decide)
  (he:aaY (e::es) X.env=(false,eval e X.env)::aaY es X.env:=by rfl) (hpl:(ady pos (aaY es X.env)).any (·.1)=false:=by rfl):PE X (.Call (.Name x p) (e::es) [] pos) (zi r t):=by
 intro pins s σ H Q I h;refine adl (ud I hg hm hv ?_ hn bT);exact PyProof.Rows.callWith_builtin1 (aX (ha pos pins s σ H _ I h) fun us s1 ⟨vs,H1,I1,r1,q1⟩=>hc pins s1 σ H1 vs us Q I1 r1 q1) he hpl
theorem QD(hc:cJ X (.type T) r)(hg:Gl X x)(hm:X.mg x=none)(hv:aby x=some (.type T))(ha:PA X (e::es) t)(hn:x≠"__name__":=by decide)(bT:(x==("__debug__":Str))=false:=by decide)
  (he:aaY (e::es) X.env=(false,eval e X.env)::aaY es X.env:=by rfl) (hpl:(ady pos (aaY es X.env)).any (·.1)=false:=by rfl):PE X (.Call (.Name x p) (e::es) [] pos) (zi r t):=by
 intro pins s σ H Q I h;refine adl (ud I hg hm hv ?_ hn bT);exact adO (aX (ha pos pins s σ H _ I h) fun us s1 ⟨vs,H1,I1,r1,q1⟩=>hc pins s1 σ H1 vs us Q I1 r1 q1) he hpl
end
end L2
namespace HT
open PySem PyProof.Rows
section
open PySem.SeqAt
open PySem.AutoSeq1 (wpAny_loadPart')
open PySem.MeetsSeq PySem.MeetsSeq2 PySem.MeetsSeq3
end
section
variable{prog:abp}{w:World}{A:abT}{E:Value->aam->Prop}{s:aam}
theorem Th{t b:Addr}{vs ws:List Value}{Q:Value->aam->Prop}(ht:IsTup s.heap t vs.toArray)(hb:IsTup s.heap b ws.toArray)(hv:vs≠[])
  (h1:ws=[]->Q (.ref t) s) (h2:ws≠[]->Q (.ref s.heap.objs.size) { s with heap:=s.heap.push { cls:=.type "tuple",data:=.seq (vs++ws).toArray } })
  (hsz:vs.length+ws.length<=aaD):wpAny (model prog w) A (adb .Add (.ref t) (.ref b)) Q E s:=by
 obtain⟨⟨cls,dd,data,sl⟩,ho,hc,n,hd⟩:=id ht;obtain⟨⟨aae,kJ,data2,kK⟩,vj,Gr,n2,hd2⟩:=id hb;simp only at hc hd Gr hd2;subst hc hd Gr hd2;have e:vs.toArray++ws.toArray=(vs++ws).toArray:=by simp
 by_cases hw:ws=[]
 ·exact concat_meets ⟨_,ho,rfl⟩ ⟨_,vj,rfl⟩ noFill_tuple_add seq_tuple_add aew aem (aeh _ _)
   (tuple_addW1 t b vs.toArray ws.toArray n n2 dd kJ sl kK (by simpa using hv) (by simp[hw])) ⟨ho,vj,h1 hw⟩
 ·refine concat_meets ⟨_,ho,rfl⟩ ⟨_,vj,rfl⟩ noFill_tuple_add seq_tuple_add aew aem (aeh _ _)
   (tuple_addW2 t b vs.toArray ws.toArray n n2 dd kJ sl kK (by simpa using hv) (by simpa using hw) (by rw[aax,aax];exact hsz)) ⟨ho,vj,?_⟩
  rw[e];exact h2 hw
noncomputable def bh(n d:Nat):Option Int->Nat
 | none=>d
 | some v=>if v<0 then(v+(n:Int)).toNat else min v.toNat n
theorem Vp(n d:Nat)(hd:d<=n)(o:Option Int):bh n d o<=n:=by
 cases o with
 | none=>exact hd
 | some v=>
  show(if v<0 then(v+(n:Int)).toNat else min v.toNat n)<=n;by_cases hv:v<0
  ·rw[if_pos hv];omega
  ·rw[if_neg hv];exact Nat.min_le_right _ _
theorem CW(v:Int)(n d:Nat):(if v<0 then max (v+(n:Int)) 0 else min v (n:Int))=((bh n d (some v):Nat):Int):=by
 show(if v<0 then max (v+(n:Int)) 0 else min v (n:Int))=(((if v<0 then(v+(n:Int)).toNat else min v.toNat n):Nat):Int);by_cases hv:v<0
 ·simp only[if_pos hv];omega
 ·simp only[if_neg hv];omega
theorem Pt(lo hi:Option Int)(n:Nat):ada lo hi 1 (n:Int)=(((bh n 0 lo:Nat):Int),((bh n n hi:Nat):Int)):=by
 have h1:¬((1:Int)<0):=by omega
 unfold ada;simp only[h1,if_false];refine Prod.ext ?_ ?_
 ·cases lo with
  | none=>rfl
  | some v=>exact CW v n 0
 ·cases hi with
  | none=>rfl
  | some v=>exact CW v n n
theorem Pu(i j:Nat):acm (i:Int) (j:Int) 1=j-i:=by
 unfold acm;have h1:(1:Int)>0:=by omega
 simp only[h1,if_true,Int.ediv_one];split <;> omega
theorem BL{v:Value}{o:Option Int}{Q:Option Int->aam->Prop}(p:afG v o)(h:Q o s):wpAny (model prog w) A (Builtin.Slice.slicePartIndex v) Q E s:=by
 cases p with
 | none=>exact slicePart_none h
 | int i t=>exact slicePart_int h
theorem Ks{sl:Addr}{vl vu:Value}{lo hi:Option Int}{n:Nat}{Q:Int×Int×Nat->aam->Prop}(hs:s.heap.IsSliceOf sl vl vu .none)(pl:afG vl lo)(pu:afG vu hi)
  (h:Q (((bh n 0 lo:Nat):Int),1,bh n n hi-bh n 0 lo) s):wpAny (model prog w) A (adW (.ref sl) (pure (n:Int))) Q E s:=by
 obtain⟨os,qI,Gs,lX⟩:=id hs;unfold adW Builtin.Slice.sliceFields;refine aak (aak (afe qI lX (x:=vl) rfl (aak (afe qI lX (x:=vu) rfl (aak (afe qI lX (x:=.none) rfl (aaq ?_)))))));refine aak (slicePart_none ?_);show wpAny _ _ (if((1:Int)==0)=true then _ else _) _ _ s;rw[if_neg (by decide)];refine aak (BL pl (aak (BL pu (aak (aaq ?_)))));show wpAny _ _ (match ada lo hi 1 (n:Int) with | (lo,hi)=>pure (lo,(1:Int),acm lo hi 1)) _ _ s;rw[Pt lo hi n];show wpAny _ _ (pure (((bh n 0 lo:Nat):Int),(1:Int),acm ((bh n 0 lo:Nat):Int) ((bh n n hi:Nat):Int) 1)) _ _ s;rw[Pu];exact aaq h
theorem RX(xs:Array Value)(i k:Nat):((abX k).filterMap fun(m:Nat)=>xs[((i:Int)+(m:Int)*1).toNat]?).toArray=((xs.toList.drop i).take k).toArray:=by
 have e:(fun(m:Nat)=>xs[((i:Int)+(m:Int)*1).toNat]?)=fun m=>xs[i+m]? :=by
  funext m
  have:((i:Int)+(m:Int)*1).toNat=i+m:=by omega
  rw[this]
 rw[e];have:=pick_run xs i k;rw[List.filterMap_map] at this;have e2:((fun x=>xs[x]?)∘fun x=>i+x)=fun m=>xs[i+m]? :=rfl
 rw[e2] at this;rw[this]
theorem Jw{t sl:Addr}{items:Array Value}{vl vu:Value}{lo hi:Option Int}{Q:Value->aam->Prop}(ht:IsTup s.heap t items)(hs:s.heap.IsSliceOf sl vl vu .none)(pl:afG vl lo)(pu:afG vu hi)
  (hw:¬(bh items.size 0 lo=0/\bh items.size items.size hi=items.size))
  (h:Q (.ref s.heap.objs.size) { s with heap:=s.heap.push { cls:=.type "tuple",data:=.seq ((items.toList.drop (bh items.size 0 lo)).take (bh items.size items.size hi-bh items.size 0 lo)).toArray } })
  (hsz:items.size<=aaD):wpAny (model prog w) A (getItem (.ref t) (.ref sl)) Q E s:=by
 have ur:sizeOk (.seq ((items.toList.drop (bh items.size 0 lo)).take (bh items.size items.size hi-bh items.size 0 lo)).toArray):=by
  show((items.toList.drop (bh items.size 0 lo)).take (bh items.size items.size hi-bh items.size 0 lo)).toArray.size<=aaD;rw[aax,aeq,aer,acx];omega
 have hj:bh items.size items.size hi<=items.size:=Vp _ _ (aar _) hi;obtain⟨os,qI,Gs,lX⟩:=id hs;have ZD:s.TypeIs (.ref sl) "slice":=⟨os,qI,Gs⟩
 unfold getItem
 try with_reducible refine abG ?_
 first | refine aak (aaq ?_) | skip
 refine aak (wpAny_sequenceKey ht.typeIs (by decide) ?_);refine aak (wpAny_callSpecial?_slot (name:=aaz "__getitem__") ht.typeIs acq
  (ade acq ht.typeIs entry_tuple_getitem ?_ (args_tuple_getitem _ _)))
 show wpAny _ _ (Builtin.Tuple.tupleItemsOf (.ref t) >>= _) _ _ s;refine aak (tupleItemsOf_ ht ?_);refine aak (wpAny_typeOf ZD ?_);rw[if_pos (by decide)];refine aak (Ks hs pl pu ?_);have qJ:¬((((bh items.size 0 lo:Nat):Int)==0&&(1:Int)==1&&(bh items.size items.size hi-bh items.size 0 lo)==items.size)=true):=by
  intro q;rw[aaw,aaw] at q;have q1:((bh items.size 0 lo:Nat):Int)=0:=eq_of_beq q.1.1;have q2:bh items.size items.size hi-bh items.size 0 lo=items.size:=eq_of_beq q.2;exact hw ⟨by omega,by omega⟩
 show wpAny _ _ (if(((bh items.size 0 lo:Nat):Int)==0&&(1:Int)==1&&(bh items.size items.size hi-bh items.size 0 lo)==items.size)=true then _ else _) _ _ s;rw[if_neg qJ,RX]
 first
  | exact aak (m:=acr _) (acV (aaq ⟨_,rfl,aaq h⟩) ur)
  | exact aak (m:=acr _) (acV (aak (aaq (aaq ⟨_,rfl,aaq h⟩))) ur)
  | exact aak (aak (m:=acr _) (acV (aaq (aaq ⟨_,rfl,aaq h⟩)) ur))
  | exact aak (aak (m:=acr _) (acV (aaq ⟨_,rfl,aaq h⟩) ur))
end
end HT
namespace L2
open PySem PySem.Spec PyProof.Rows
abbrev TO:=St->Hp->(Option Int->Hp->Prop)->Prop
noncomputable def PO(X:Cx)(e:Option Expr)(t:TO):Prop:=
 ∀(pins:List (Addr×Obj)) (s:aam) (σ:St) (H:Hp) (Q:Option Int->Hp->Prop),Inv X pins σ H s->t σ H Q →
  wpAny (model X.prog X.w) X.A (evalPart e X.env) (fun u s'=>∃o H',Inv X pins σ H' s'/\afG u o/\Q o H') X.xe s
noncomputable def Ti:TO:=fun _ H Q=>Q none H
noncomputable def XB(t:TE):TO:=fun σ H Q=>t σ H fun x H1=>∃i,x=.int i/\Q (some i) H1
section
variable{X:Cx}{e:Expr}{te:TE}{lo hi:Option Expr}{tl th:TO}{pos p2:Pos}
theorem Tj:PO X none Ti:=by
 intro pins s σ H Q I h;rw[evalPart_none];exact aaq ⟨none,H,I,.none,h⟩
theorem Tn(h:PE X e te):PO X (some e) (XB te):=by
 intro pins s σ H Q I hw;rw[evalPart_some];refine aX (h pins s σ H _ I hw) fun u s1 ⟨x,H1,I1,r1,q1⟩=>?_
 obtain⟨i,rfl,q⟩:=q1;obtain⟨t,rfl⟩:=r1;exact⟨some i,H1,I1,.int i t,q⟩
noncomputable def kL(X:Cx)(r:V->Option Int->Option Int->Hp->VK->Prop):Prop:=
 ∀(pins:List (Addr×Obj)) (s:aam) (σ:St) (H:Hp) (x:V) (v vl vu:Value) (lo hi:Option Int) (sl:Addr) (Q:VK),Inv X pins σ H s->RelV x v->s.heap.IsSliceOf sl vl vu .none->afG vl lo->afG vu hi->r x lo hi H Q →
  ∃T id,typeLookup (.type T) "__getitem__"=pure (some (.builtin id))/\s.TypeIs v T/\wpAny (model X.prog X.w) X.A (getItem v (.ref sl)) (EP X pins σ Q) X.xe s
theorem kL.or{r r':V->Option Int->Option Int->Hp->VK->Prop}(h:kL X r)(h':kL X r'):kL X (fun x lo hi H Q=>r x lo hi H Q\/r' x lo hi H Q):=by
 intro pins s σ H x v vl vu lo hi sl Q I rx hs pl pu q
 rcases q with q | q
 ·exact h pins s σ H x v vl vu lo hi sl Q I rx hs pl pu q
 ·exact h' pins s σ H x v vl vu lo hi sl Q I rx hs pl pu q
noncomputable def ZE(r:V->Option Int->Option Int->Hp->VK->Prop)(te:TE)(tl th:TO):TE:=fun σ H Q=>te σ H fun x H1=>tl σ H1 fun l H2=>th σ H2 fun u H3=>r x l u H3 Q
theorem RY{r:V->Option Int->Option Int->Hp->VK->Prop}(hr:kL X r)(he:PE X e te)(hl:PO X lo tl)(hu:PO X hi th):PE X (.Subscript e (.Slice lo hi none p2) pos) (ZE r te tl th):=by
 intro pins s σ H Q I h;refine Subscript_ (aX (he pins s σ H _ I h) fun v s1 ⟨x,H1,I1,r1,q1⟩=>?_);refine wpAny_Slice (aX (hl pins s1 σ H1 _ I1 q1) fun vl s2 ⟨l,H2,I2,pl,q2⟩=>aX (hu pins s2 σ H2 _ I2 q2) fun vu s3 ⟨u,H3,I3,pu,q3⟩=>?_);rw[evalPart_none];refine aaq ?_;have I4:Inv X pins σ H3 { s3 with heap:=s3.heap.push { cls:=.type "slice",data:=.fields #[vl,vu,.none] } }:=I3.kept (t':=s3.toks) fun b ob q=>aaA _ q
 obtain⟨T,id,hT,ht,hg⟩:=hr pins { s3 with heap:=s3.heap.push { cls:=.type "slice",data:=.fields #[vl,vu,.none] } } σ H3 x v vl vu l u s3.heap.objs.size Q I4 r1 (Heap.IsSliceOf.new ..) pl pu q3;show wpAny (model X.prog X.w) X.A (subscriptTail e (.Slice lo hi none p2) v (.ref s3.heap.objs.size)) (EP X pins σ Q) X.xe { s3 with heap:=s3.heap.push { cls:=.type "slice",data:=.fields #[vl,vu,.none] } };exact tail_any (ops:=[.ref s3.heap.objs.size,v]) ht hT hg (by with_unfolding_all rfl)
noncomputable def ky(xs:List V)(lo hi:Option Int):List V:=(xs.drop (HT.bh xs.length 0 lo)).take (HT.bh xs.length xs.length hi-HT.bh xs.length 0 lo)
theorem Bt(xs:List V)(lo hi:Option Int):(ky xs lo hi).length<=xs.length:=by
 unfold ky;rw[aeq,aer];omega
noncomputable def YT(K:aaj):V->Option Int->Option Int->Hp->VK->Prop:=fun x lo hi H Q=>∃a xs,x=.ref a/\bZ K H a xs /\
 ¬(HT.bh xs.length 0 lo=0/\HT.bh xs.length xs.length hi=xs.length)/\∀p,H p=none->Q (.ref p) (upd H p (.tup (ky xs lo hi)))
theorem Vq:kL X (YT X.K):=by
 intro pins s σ H x v vl vu lo hi sl Q I rx hs pl pu h;obtain⟨a,xs,rfl,hx,hw,q⟩:=h;cases rx;obtain⟨its,r,ht,hz⟩:=I.tuple hx;have bH:its.toArray.size=xs.length:=by rw[aax];exact r.length.symm
 refine⟨"tuple",_,acq.lookup,ht.typeIs,?_⟩;refine HT.Jw ht hs pl pu (by rw[bH];exact hw) ?_ (by rw[bH];exact hz);rw[bH];refine⟨.ref s.heap.objs.size,_,I.laid (t':=s.toks) (o:=.tup (ky xs lo hi)) (fun b ob q=>aaA _ q) (aar _) ?_,rfl,q _ (I.aJ.fresh (aar _))⟩;exact⟨abe (Bt xs lo hi) hz,_,(r.drop (HT.bh xs.length 0 lo)).take (HT.bh xs.length xs.length hi-HT.bh xs.length 0 lo),IsTup.new _ _⟩
noncomputable def EA(K:aaj):R2:=fun x y H Q=>∃a b xs ys,x=.ref a/\y=.ref b/\bZ K H a xs/\bZ K H b ys/\xs≠[]/\xs.length+ys.length<=aaD /\
 (ys=[]->Q (.ref a) H)/\(ys≠[]->∀p,H p=none->Q (.ref p) (upd H p (.tup (xs++ys))))
theorem Vals.xj{xs:List V}{us:List Value}(r:Vals xs us):us=[]↔xs=[]:=by
 cases r with
 | nil=>simp
 | cons _ _=>simp
theorem To:bt X (adb .Add) (EA X.K):=by
 intro pins s σ H x y v u Q I rx ry h;obtain⟨a,b,xs,ys,rfl,rfl,ha,hb,hx,hz,q1,q2⟩:=h;cases rx;cases ry;obtain⟨its,r1,p1,_⟩:=I.tuple ha;obtain⟨kz,r2,p2,_⟩:=I.tuple hb;refine HT.Th p1 p2 (fun z=>hx (r1.xj.mp z)) (fun z=>⟨.ref a,H,I,rfl,q1 (r2.xj.mp z)⟩) (fun z=>?_) (by rw[<- r1.length,<- r2.length];exact hz);refine⟨.ref s.heap.objs.size,_,I.laid (t':=s.toks) (o:=.tup (xs++ys)) (fun b ob q=>aaA _ q) (aar _) ?_,rfl,q2 (fun w=>z (r2.xj.mpr w)) _ (I.aJ.fresh (aar _))⟩;exact⟨by rw[aas];exact hz,_,r1.append r2,IsTup.new _ _⟩
end
noncomputable def gp(n:Nat)(i:Int):Option Nat:=if 0<=i then(if i<n then some i.toNat else none) else if -(n:Int)<=i then some (i+n).toNat else none
noncomputable def cH{α:Type}(xs:List α)(i:Int):Option α:=(gp xs.length i).bind fun j=>xs[j]?
theorem CY{n:Nat}{i:Int}{j:Nat}(h:gp n i=some j):seqIndex? i n=some j/\j<n/\ -(n:Int)<=i/\i<n:=by
 unfold gp at h;by_cases h0:0<=i
 ·rw[if_pos h0] at h;by_cases h1:i<n
  ·rw[if_pos h1] at h;have e:i.toNat=j:=abh h;exact⟨by rw[seqIndex_of h0 h1,e],by omega,by omega,h1⟩
  ·rw[if_neg h1] at h;cases h
 ·rw[if_neg h0] at h;by_cases h1: -(n:Int)<=i
  ·rw[if_pos h1] at h;have e:(i+n).toNat=j:=abh h;exact⟨by rw[seqIndex_neg (by omega) h1,e],by omega,h1,by omega⟩
  ·rw[if_neg h1] at h;cases h
theorem xk{α:Type}{xs:List α}{i:Int}{v:α}(h:cH xs i=some v):∃j,seqIndex? i xs.length=some j/\xs[j]? =some v/\j<xs.length/\ -(xs.length:Int)<=i/\i<xs.length:=by
 unfold cH at h;cases e:gp xs.length i with
 | none=>rw[e] at h;cases h
 | some j=>
  rw[e] at h;obtain⟨h1,h2,h3,h4⟩:=CY e;exact⟨j,h1,h,h2,h3,h4⟩
noncomputable def xl(b:Expr):Prop:=∀o i,subscripted b false o i=operate [o,i] (getItem o i)
noncomputable def iu(X:Cx)(r:R2):Prop:=
 ∀(value slice:Expr) (pins:List (Addr×Obj)) (s:aam) (σ:St) (H:Hp) (x y:V) (v u:Value) (Q:VK),Inv X pins σ H s->RelV x v->RelV y u->r x y H Q →
  subscripted slice false v u=operate [v,u] (getItem v u)->wpAny (model X.prog X.w) X.A (subscriptTail value slice v u) (EP X pins σ Q) X.xe s
noncomputable def lY(X:Cx)(id:String)(r:V->List V->Hp->VK->Prop):Prop:=
 ∀(pins:List (Addr×Obj)) (s:aam) (σ:St) (H:Hp) (x:V) (xs:List V) (v:Value) (us:List Value) (Q:VK),Inv X pins σ H s->RelV x v->Vals xs us->r x xs H Q →
  wpAny (model X.prog X.w) X.A (call (.builtin id) (v::us)) (EP X pins σ Q) X.xe s
section
variable{X:Cx}{a b:Expr}{ta tb:TE}{pos:Pos}
theorem iu.or{r r':R2}(h:iu X r)(h':iu X r'):iu X (fun x y H Q=>r x y H Q\/r' x y H Q):=by
 intro value slice pins s σ H x y v u Q I rx ry q hs
 rcases q with q | q
 ·exact h value slice pins s σ H x y v u Q I rx ry q hs
 ·exact h' value slice pins s σ H x y v u Q I rx ry q hs
theorem XD{r:R2}(hr:iu X r)(ha:PE X a ta)(hb:PE X b tb)(hs:xl b):PE X (.Subscript a b pos) (qF r ta tb):=by
 intro pins s σ H Q I h;exact Subscript_ (yJ ha hb I h fun v u s2 x y H2 I2 rx ry q=>hr a b pins s2 σ H2 x y v u Q I2 rx ry q (hs _ _))
noncomputable def Fz(K:aaj):R2:=fun x y H Q=>∃p xs i v,x=.ref p/\y=.int i/\bD K H p xs/\cH xs i=some v/\Q v H
noncomputable def FA(K:aaj):R2:=fun x y H Q=>∃p xs i v,x=.ref p/\y=.int i/\bZ K H p xs/\cH xs i=some v/\Q v H
noncomputable def FC:R2:=fun x y H Q=>∃z i c,x=.str z/\y=.int i/\z.length<=aaD/\cH z.cps.toList i=some c/\Q (.str ⟨#[c]⟩) H
theorem Tp:iu X (Fz X.K):=by
 intro value slice pins s σ H x y v u Q I rx ry h hs;obtain⟨p,xs,i,z,rfl,rfl,hq,he,q⟩:=h;cases rx;obtain⟨t,rfl⟩:=ry;obtain⟨its,r,pl,hz⟩:=I.list hq;obtain⟨j,h1,h2,h3,h4,h5⟩:=xk he;obtain⟨w,ew,ed⟩:=r.get h2;have hl:=r.length;have hn:=lA;have fin:EP X pins σ Q w s:=⟨z,H,I,ed,q⟩
 by_cases h0:0<=i
 ·have hj:i.toNat=j:=by
   rw[seqIndex_of h0 h5] at h1;exact abh h1
  exact item_listR pl.isList h0 (by omega) (by rw[hj];simpa using ew) fin hs
 ·have hj:(i+(its.toArray.size:Int)).toNat=j:=by
   rw[seqIndex_neg (by omega) h4] at h1;rw[aax,<- hl];exact abh h1
  exact subscriptTail_builtinR (x:=w) pl.isList.typeIs slot_list_getitem.lookup
   (wpAny_getItem_list_neg (Q:=fun r s'=>r=w/\EP X pins σ Q r s') pl.isList (by omega) (by rw[aax] <;> omega) (by omega) (by rw[hj];simpa using ew) ⟨rfl,fin⟩) hs
theorem Vr:iu X (FA X.K):=by
 intro value slice pins s σ H x y v u Q I rx ry h hs;obtain⟨p,xs,i,z,rfl,rfl,hq,he,q⟩:=h;cases rx;obtain⟨t,rfl⟩:=ry;obtain⟨its,r,pl,hz⟩:=I.tuple hq;obtain⟨j,h1,h2,h3,h4,h5⟩:=xk he;obtain⟨w,ew,ed⟩:=r.get h2;have hl:=r.length;have hn:=lA;have fin:EP X pins σ Q w s:=⟨z,H,I,ed,q⟩
 exact subscriptTail_builtinR (x:=w) pl.typeIs slot_tuple_getitem.lookup
  (getItem_tuple (j:=j) (Q:=fun r s'=>r=w/\EP X pins σ Q r s') pl (by omega) (by omega) (by rw[aax,<- hl];exact h1) (by simpa using ew) ⟨rfl,fin⟩) hs
theorem Vs:iu X FC:=by
 intro value slice pins s σ H x y v u Q I rx ry h hs;obtain⟨z,i,c,rfl,rfl,hz,he,q⟩:=h;obtain⟨t,rfl⟩:=rx;obtain⟨t',rfl⟩:=ry;obtain⟨j,h1,h2,h3,h4,h5⟩:=xk he;have hl:z.cps.toList.length=z.length:=by simp[Str.length]
 rw[hl] at h1 h4 h5;have hn:=lA;exact tail_any (typeIs_str s z t) slot_str_getitem.lookup (getItem_str (c:=c) (by
  have e1:decide (i< -(2 ^ 63:Int))=false:=decide_eq_false (by omega);have e2:decide (i >= 2 ^ 63)=false:=decide_eq_false (by omega);rw[e1,e2,afn]) (by rw[h1];simpa using h2) ⟨.str ⟨#[c]⟩,H,I.tok _,⟨_,rfl⟩,q⟩) hs
noncomputable def zj(K:aaj):R2:=fun x y H Q=>Fz K x y H Q\/FA K x y H Q\/FC x y H Q
theorem Vt:iu X (zj X.K):=Tp.or (Vr.or Vs)
theorem Pw(its:List Value)(n j:Nat)(u:Value):aeP (·.setIfInBounds j u) { cls:=.type "list",data:=.seq its.toArray n }={ cls:=.type "list",data:=.seq (its.set j u).toArray n }:=by
 simp[aeP]
variable{σ:St}{H:Hp}
theorem Inv.lst{pins:List (Addr×Obj)}{s:aam}{p:Addr}{xs:List V}(I:Inv X pins σ H s)(h:H p=some (.lst xs)) :
  ∃(its:List Value) (n:Nat),Vals xs its/\s.heap.get? p=some { cls:=.type "list",data:=.seq its.toArray n }/\xs.length<=sizeLine:=by
 obtain⟨z,its,n,r,e⟩:=I.aJ p _ h;exact⟨its,n,r,e,z⟩
theorem Inv.Vu{pins:List (Addr×Obj)}{s:aam}{p:Addr}{xs ys:List V}{its its':List Value}{n n':Nat}{f:Obj->Obj}(I:Inv X pins σ H s)(h:H p=some (.lst xs))
  (ho:s.heap.get? p=some { cls:=.type "list",data:=.seq its.toArray n }) (hf:f { cls:=.type "list",data:=.seq its.toArray n }={ cls:=.type "list",data:=.seq its'.toArray n' }) (r:Vals ys its') (hz:ys.length<=aaD) (t:Nat) :
  Inv X pins σ (upd H p (.lst ys)) { s with heap:=s.heap.update p f,toks:=t }:=by
 have e:(s.heap.update p f).get? p=some { cls:=.type "list",data:=.seq its'.toArray n' }:=by
  rw[aci f ho (by rw[hf] <;> rfl),hf]
 refine I.write (x:=p) (e:=p) (by rw[h];trivial) (.inl rfl) (fun b u hb q=>(aex _ _ (adt hb)).trans q) ⟨_,e⟩ ?_;exact⟨hz,its',n',r,e⟩
noncomputable def XF:V->V->V->Hp->(Hp->Prop)->Prop:=fun o i v H Q=>∃p xs k j,o=.ref p/\i=.int k/\H p=some (.lst xs)/\gp xs.length k=some j/\Q (upd H p (.lst (xs.set j v)))
theorem set_list:jw X XF:=by
 intro pins s σ H o i v ov iv u Q I ro ri rv h;obtain⟨p,xs,k,j,rfl,rfl,hp,hj,q⟩:=h;cases ro;obtain⟨t,rfl⟩:=ri;obtain⟨its,n,r,ho,hz⟩:=I.lst hp;obtain⟨h1,h2,h3,h4⟩:=CY hj;have hl:=r.length;have hn:=lA;have I':Inv X pins σ (upd H p (.lst (xs.set j v))) { s with heap:=s.heap.update p (aeP (·.setIfInBounds j u)) }:=
  I.Vu hp ho (Pw its n j u) (r.set rv j) (by rw[abz];exact hz) s.toks
 by_cases h0:0<=k
 ·have hk:k.toNat=j:=by
   rw[seqIndex_of h0 h4] at h1;exact abh h1
  exact PySem.W.ki_setAt ho h0 (by omega) (by rw[aax,<- hl];exact h4) (by rw[hk];exact⟨_,I',q⟩)
 ·have hk:(k+(its.toArray.size:Int)).toNat=j:=by
   rw[seqIndex_neg (by omega) h3] at h1;rw[aax,<- hl];exact abh h1
  exact PySem.W.ki_setBack ho (by omega) (by rw[aax,<- hl];exact h3) (by omega) (by rw[hk];exact⟨_,I',q⟩)
theorem Nu(lo hi:Option Int)(n:Nat):(adv lo hi none n).1=((HT.bh n 0 lo:Nat):Int)/\(adv lo hi none n).2.1=((HT.bh n n hi:Nat):Int)/\(adv lo hi none n).2.2=1:=by
 refine⟨?_,?_,rfl⟩
 ·cases lo with
  | none=>simp[adv,HT.bh]
  | some i=>
   simp only[adv,HT.bh,Option.getD_none,show(1:Int)>0 by decide,if_true];by_cases h:i<0
   ·simp only[h,if_true] <;> omega
   ·simp only[h,if_false] <;> omega
 ·cases hi with
  | none=>simp[adv,HT.bh]
  | some i=>
   simp only[adv,HT.bh,Option.getD_none,show(1:Int)>0 by decide,if_true];by_cases h:i<0
   ·simp only[h,if_true] <;> omega
   ·simp only[h,if_false] <;> omega
theorem M2(its:List Value)(lo hi:Option Int):slicePick its.toArray lo hi none=((its.drop (HT.bh its.length 0 lo)).take (HT.bh its.length its.length hi-HT.bh its.length 0 lo)).toArray:=by
 obtain⟨h1,h2,h3⟩:=Nu lo hi its.toArray.size;unfold slicePick;rw[h1,h2,h3];simp only[sliceRange_one,pick_run,aax] <;> rfl
noncomputable def YU(K:aaj):V->Option Int->Option Int->Hp->VK->Prop:=fun x lo hi H Q=>∃a xs,x=.ref a/\bD K H a xs/\∀p,H p=none->Q (.ref p) (upd H p (.lst (ky xs lo hi)))
theorem Tq:kL X (YU X.K):=by
 intro pins s σ H x v vl vu lo hi sl Q I rx hs pl pu h;obtain⟨a,xs,rfl,hx,q⟩:=h;cases rx;obtain⟨its,r,ht,hz⟩:=I.list hx;have bH:=r.length;refine⟨"list",_,slot_list_getitem.lookup,ht.isList.typeIs,?_⟩;refine wpAny_getItem_list_slice ht.isList hs pl pu .none (by simp) ?_ (by rw[aax] <;> omega);rw[M2,<- bH];refine⟨.ref s.heap.objs.size,_,I.laid (t':=s.toks) (o:=.lst (ky xs lo hi)) (fun b ob q=>aaA _ q) (aar _) ?_,rfl,q _ (I.aJ.fresh (aar _))⟩;exact⟨abe (Bt xs lo hi) hz,_,0,(r.drop (HT.bh xs.length 0 lo)).take (HT.bh xs.length xs.length hi-HT.bh xs.length 0 lo),abk _ rfl⟩
theorem Nv:cJ X (.builtin "len") (fun xs H Q=>∃p ys,xs=[.ref p]/\(bD X.K H p ys\/bZ X.K H p ys)/\Q (.int ys.length) H):=by
 intro pins s σ H xs us Q I r h;obtain⟨p,ys,rfl,hq,q⟩:=h;obtain⟨u,rfl,rx⟩:=vals1 r;cases rx;have hn:=lA
 rcases hq with hq | hq
 ·obtain⟨its,r',pl,hz⟩:=I.list hq;have bH:=r'.length;exact Calls.call_len_list pl.isList (by simp only[aax] <;> omega) ⟨.int ys.length,H,I.tok _,⟨s.toks+1,by rw[aax,bH]⟩,q⟩
 ·obtain⟨its,r',pl,hz⟩:=I.tuple hq;have bH:=r'.length;exact len_tuple pl (by simp only[aax] <;> omega) ⟨.int ys.length,H,I.tok _,⟨s.toks+1,by rw[aax,bH]⟩,q⟩
theorem Nw:cJ X (.builtin "len") (fun xs H Q=>∃z,xs=[.str z]/\z.length<=aaD/\Q (.int z.length) H):=by
 intro pins s σ H xs us Q I r h;obtain⟨z,rfl,hz,q⟩:=h;obtain⟨u,rfl,t,rfl⟩:=vals1 r;have hn:=lA;exact len_str (by omega) ⟨.int z.length,H,I.tok _,⟨_,rfl⟩,q⟩
theorem cJ.or{f:Value}{r r':List V->Hp->VK->Prop}(h:cJ X f r)(h':cJ X f r'):cJ X f (fun xs H Q=>r xs H Q\/r' xs H Q):=by
 intro pins s σ H xs us Q I rs q
 rcases q with q | q
 ·exact h pins s σ H xs us Q I rs q
 ·exact h' pins s σ H xs us Q I rs q
theorem Nx:cJ X (.type "list") (fun xs H Q=>∃p ys,xs=[.ref p]/\(bD X.K H p ys\/bZ X.K H p ys)/\∀l,H l=none->Q (.ref l) (upd H l (.lst ys))):=by
 intro pins s σ H xs us Q I r h;obtain⟨p,ys,rfl,hq,q⟩:=h;obtain⟨u,rfl,rx⟩:=vals1 r;cases rx;have fin:∀(its:List Value),Vals ys its->ys.length<=aaD->∀(h':Heap) (c':Nat),(∀b o',s.heap.get? b=some o'->h'.get? b=some o') →
   h'.get? s.heap.objs.size=some { cls:=.type "list",dict:=none,data:=.seq its.toArray c',slots:= #[] }->EP X pins σ Q (.ref s.heap.objs.size) { s with heap:=h' }:=fun its r' hz h' c' kp e=>
  ⟨.ref s.heap.objs.size,_,I.laid (t':=s.toks) kp (aar _) (show cW X.prog X.w _ h' _ (.lst ys) from⟨hz,its,c',r',e⟩),rfl,q _ (I.aJ.fresh (aar _))⟩
 rcases hq with hq | hq
 ·obtain⟨its,r',pl,hz⟩:=I.list hq;have bH:=r'.length;obtain⟨o,ho,hc,n,hd⟩:=pl.isList;exact call_list_seq p (.inl rfl) ho hc hd (fun h' c' kp e=>fin its r' hz h' c' kp e) (by simp only[aax] <;> omega)
 ·obtain⟨its,r',pl,hz⟩:=I.tuple hq;have bH:=r'.length;obtain⟨o,ho,hc,n,hd⟩:=pl;exact call_list_seq p (.inr rfl) ho hc hd (fun h' c' kp e=>fin its r' hz h' c' kp e) (by simp only[aax] <;> omega)
theorem M3:cJ X (.type "tuple") (fun xs H Q=>∃p ys,xs=[.ref p]/\((bD X.K H p ys/\∀l,H l=none->Q (.ref l) (upd H l (.tup ys)))\/(bZ X.K H p ys/\Q (.ref p) H))):=by
 intro pins s σ H xs us Q I r h;obtain⟨p,ys,rfl,h⟩:=h;obtain⟨u,rfl,rx⟩:=vals1 r;cases rx
 rcases h with⟨hq,q⟩ | ⟨hq,q⟩
 ·obtain⟨its,r',pl,hz⟩:=I.list hq;have bH:=r'.length;refine call_tuple_list pl.isList (fun h' kp=>?_) (by simp only[aax] <;> omega);have I1:Inv X pins σ H { s with heap:=h' }:=I.kept (t':=s.toks) kp;have I2:Inv X pins σ (upd H h'.objs.size (.tup ys)) { s with heap:=h'.push { cls:=.type "tuple",data:=.seq its.toArray } }:=
   I1.laid (t':=s.toks) (fun b o e=>aaA _ e) (aar _) (show cW X.prog X.w _ _ _ (.tup ys) from⟨hz,its,r',IsTup.new _ _⟩)
  exact⟨.ref h'.objs.size,_,I2,rfl,q _ (I1.aJ.fresh (aar _))⟩
 ·obtain⟨its,r',pl,hz⟩:=I.tuple hq;exact call_tuple_same pl ⟨.ref p,H,I,rfl,q⟩
noncomputable def zk(K:aaj)(T:String)(x:V)(H:Hp):Prop:=match x with
 | .str _=>T="str"
 | .int _=>T="int"
 | .ref p=>(T="list"/\∃xs,bD K H p xs)\/(T="tuple"/\∃o,K.lookup p=some o/\o.cls=.type "tuple"/\o.dict=none) \/
   (T="dict"/\((∃kvs,H p=some (.dK kvs))\/∃kvs,H p=some (.dT kvs)))\/(T="set"/\∃S n,H p=some (.set S n))\/(T="dict"/\∃kvs,H p=some (.dU kvs))
 | _=>False
theorem Vv{pins:List (Addr×Obj)}{s:aam}{T:String}{x:V}{v:Value}(I:Inv X pins σ H s)(r:RelV x v)(ty:zk X.K T x H) :
  s.TypeIs v T/\∀a,v=.ref a->∃ob,s.heap.get? a=some ob/\ob.dict=none:=by
 cases x with
 | str z=>
  obtain⟨t,rfl⟩:=r;cases(show T="str" from ty);exact⟨typeIs_str s z t,fun _ e=>nomatch e⟩
 | int i=>
  obtain⟨t,rfl⟩:=r;cases(show T="int" from ty);exact⟨typeIs_int s i t,fun _ e=>nomatch e⟩
 | ref p=>
  cases r
  rcases ty with⟨rfl,xs,hq⟩ | ⟨rfl,o,hk,hc,hd⟩ | ⟨rfl,hk⟩ | ⟨rfl,S,n,hk⟩ | ⟨rfl,kvs,hk⟩
  ·obtain⟨its,_,pl,_⟩:=I.list hq;refine⟨pl.isList.typeIs,fun a e=>?_⟩;cases e;obtain⟨o,n,e,c,hd,_⟩:=pl;exact⟨o,e,hd⟩
  ·refine⟨⟨o,I.dh p o hk,hc⟩,fun a e=>?_⟩;cases e;exact⟨o,I.dh _ o hk,hd⟩
  ·have z:∃o,s.heap.get? p=some o/\o.ExactDict:=by
    rcases hk with⟨kvs,hk⟩ | ⟨kvs,hk⟩
    ·obtain⟨_,_,_,_,o,_,_,e,ex,_⟩:=I.aJ p _ hk;exact⟨o,e,ex⟩
    ·obtain⟨_,_,_,_,o,_,_,e,ex,_⟩:=I.aJ p _ hk;exact⟨o,e,ex⟩
   obtain⟨o,e,ex⟩:=z;refine⟨⟨o,e,ex.1⟩,fun a e2=>?_⟩;cases e2;exact⟨o,e,ex.2.1⟩
  ·obtain⟨o,_,_,_,e,ex,_⟩:=I.aJ p _ hk;refine⟨⟨o,e,ex.1⟩,fun a e2=>?_⟩;cases e2;exact⟨o,e,ex.2.1⟩
  ·obtain⟨_,_,o,_,_,e,ex,_⟩:=I.aJ p _ hk;refine⟨⟨o,e,ex.1⟩,fun a e2=>?_⟩;cases e2;exact⟨o,e,ex.2.1⟩
 | _=>exact acH ty
noncomputable def Gu(K:aaj)(T:String)(r:V->List V->Hp->VK->Prop)(to:TE)(t:TA):TE:=fun σ H Q=>to σ H fun x H1=>zk K T x H1/\t σ H1 fun xs H2=>r x xs H2 Q
variable{o e:Expr}{es:List Expr}{to:TE}{t:TA}{name:Str}{apos dg:Pos}{T id:String}{r:V->List V->Hp->VK->Prop}
theorem XG(pa:afr T)(slot:Slot T name id)(jM:typeOf (.builtin id)=pure (.type "method_descriptor"))(hm:lY X id r)(ho:PE X o to)(ha:PA X (e::es) t)
  (lH:acz o name X.env (eval o X.env)=eval o X.env:=by rfl)
  (yL:((ady dg (aaY (e::es) X.env)).all (fun x=> !x.1)&&(backToKw dg (keywordEach [] X.env)).all (fun x=>x.1.isSome)
   && decide ((e::es).length+([]:List Keyword).length+(if([]:List Keyword).isEmpty then 0 else 1)<30))=true:=by rfl)
  (lI:(apos.endLine==dg.line)=true:=by rfl) (hs:aaY (e::es) X.env=(false,eval e X.env)::aaY es X.env:=by rfl) (xH:(ady dg (aaY es X.env)).any (·.1)=false:=by rfl) :
  PE X (.Call (.Attribute o name apos) (e::es) [] dg) (Gu X.K T r to t):=by
 intro pins s σ H Q I h;refine wpAny_Call_method_late lH yL lI rfl (aX (ho pins s σ H _ I h) fun v s1 ⟨x,H1,I1,r1,ty,q1⟩=>?_);obtain⟨h1,h2⟩:=Vv I1 r1 ty;refine⟨T,id,pa,slot,jM,h1,h2,?_⟩;have hA:=ha dg pins s1 σ H1 _ I1 q1;rw[hs] at hA ⊢;refine Calls.callWith_builtin (by show(false||(ady dg (aaY es X.env)).any (·.1))=false;rw[xH] <;> rfl) (aeS ?_);exact aX hA fun us s2 ⟨vs,H2,I2,r2,q2⟩=>hm pins s2 σ H2 x vs v us Q I2 r1 r2 q2
end
noncomputable def Gv(X:Cx)(id:String)(r:V->List V->Hp->VK->Prop):Prop:=
 ∀(pins:List (Addr×Obj)) (s:aam) (σ:St) (H:Hp) (x:V) (xs:List V) (v:Value) (us:List Value) (Q:VK),Inv X pins σ H s->RelV x v->Vals xs us->r x xs H Q →
  wpAny (model X.prog X.w) X.A (call (.builtin id) (v::us)) (EP X pins σ Q) X.xe s
theorem Vals.one{x:V}{us:List Value}(h:Vals [x] us):∃u,us=[u]/\RelV x u:=by
 cases h with
 | cons r t=>cases t;exact⟨_,rfl,r⟩
theorem Vals.two{x y:V}{us:List Value}(h:Vals [x,y] us):∃u v,us=[u,v]/\RelV x u/\RelV y v:=by
 cases h with
 | cons r t=>
  obtain⟨v,e,q⟩:=Vals.one t;subst e;exact⟨_,_,rfl,r,q⟩
theorem Vals.rep{xs:List V}{us:List Value}(h:Vals xs us):∀k:Nat,Vals (aap k xs).flatten (aap k us).flatten
 | 0=>.nil
 | k+1=>by
  rw[abm,abm,abM,abM];exact Vals.append h (Vals.rep h k)
theorem foldl_rep(its:List Value):∀(k:Nat) (acc:List Value),
  List.foldl (fun x1 x2=>x1++x2) acc.toArray (aap k its.toArray)=(acc++(aap k its).flatten).toArray
 | 0,acc=>by simp
 | k+1,acc=>by
  have e:acc.toArray++its.toArray=(acc++its).toArray:=by simp
  have e2:(acc++its)++(aap k its).flatten=acc++(aap (k+1) its).flatten:=by
   rw[abm,abM,acs]
  rw[<- e2,<- foldl_rep its k (acc++its),<- e,abm,List.foldl_cons]
section
variable{X:Cx}{pins:List (Addr×Obj)}{σ:St}{H:Hp}{s:aam}{l b:Addr}{xs ys zs:List V}
theorem Inv.FD{its its':List Value}{n:Nat}{f:Array Value->Array Value}{t':Nat}(I:Inv X pins σ H s)(hH:H l=some (.lst xs))
  (e:s.heap.get? l=some { cls:=.type "list",data:=.seq its.toArray n }) (hf:f its.toArray=its'.toArray) (hv:Vals ys its') (hz:ys.length<=aaD) :
  Inv X pins σ (upd H l (.lst ys)) { s with heap:=s.heap.update l (aeP f),toks:=t' }:=by
 have q:=PySem.IsL.update e f;rw[hf] at q;refine I.write (x:=l) (e:=l) (by rw[hH];exact trivial) (.inl rfl) (fun b' u hb hu=>(aex s.heap (aeP f) (adt hb)).trans hu) ⟨_,q⟩ ?_;exact⟨hz,its',_,hv,q⟩
theorem Inv.yM{its:List Value}{t':Nat}(I:Inv X pins σ H s)(hv:Vals ys its)(hz:ys.length<=aaD) :
  Inv X pins σ (upd H s.heap.objs.size (.lst ys)) { s with heap:=s.heap.push { cls:=.type "list",data:=.seq its.toArray },toks:=t' }:=
 I.laid (fun _ _ q=>aaA _ q) (aar _) ⟨hz,its,0,hv,abk _ rfl⟩
theorem Inv.fresh(I:Inv X pins σ H s):H s.heap.objs.size=none:=I.aJ.fresh (aar _)
theorem Inv.nY(I:Inv X pins σ H s)(hH:H l=some (.lst xs)):xs.length<=aaD/\∃(its:List Value) (n:Nat),Vals xs its/\xs.length=its.length/\s.heap.get? l=some { cls:=.type "list",data:=.seq its.toArray n }:=by
 obtain⟨z,its,n,r,e⟩:=I.aJ l _ hH;exact⟨z,its,n,r,r.length,e⟩
theorem Cs{n:Nat}(h:n<=aaD):acu n=false:=by
 unfold acu;exact decide_eq_false (by omega)
end
section
variable{X:Cx}
noncomputable def CZ:V->List V->Hp->VK->Prop:=fun x vs H Q=>∃l xs y,x=.ref l/\vs=[y]/\H l=some (.lst xs)/\xs.length<aaD/\Q .aC (upd H l (.lst (xs++[y])))
theorem eo:Gv X "list.append" CZ:=by
 intro pins s σ H x vs v us Q I rx rv h;obtain⟨l,xs,y,rfl,rfl,hH,hz,q⟩:=h;cases rx;obtain⟨u,rfl,ru⟩:=rv.one;obtain⟨z,its,n,r,hl,e⟩:=I.nY hH;refine aeQ F.slot_list_append ⟨_,e,rfl⟩ F.entry_list_append (F.args_list_append_2 _ _) (PySem.list_append l its.toArray n u (by rw[aax];omega)) ⟨e,?_⟩;refine⟨.aC,_,I.FD (its':=its++[u]) hH e (by simp) (r.append (.cons ru .nil)) ?_,rfl,q⟩;rw[aas,abr];omega
noncomputable def Tr:V->List V->Hp->VK->Prop:=fun x vs H Q=>∃l b xs zs,x=.ref l/\vs=[.ref b]/\H l=some (.lst xs)/\H b=some (.lst zs)/\xs.length+zs.length<=aaD/\Q .aC (upd H l (.lst (xs++zs)))
theorem aac:Gv X "list.extend" Tr:=by
 intro pins s σ H x vs v us Q I rx rv h;obtain⟨l,b,xs,zs,rfl,rfl,hH,hB,hz,q⟩:=h;cases rx;obtain⟨u,rfl,ru⟩:=rv.one;cases ru;obtain⟨z,its,n,r,hl,e⟩:=I.nY hH;obtain⟨z2,kz,n2,r2,kM,e2⟩:=I.nY hB;have hsz:its.toArray.size+kz.toArray.size<=sizeLine:=by rw[aax,aax];omega
 have ye:¬(!its.toArray.isEmpty&&acu (its.toArray.size+kz.toArray.size))=true:=by
  rw[Cs hsz,Bool.and_false];exact aaQ
 refine aeQ F.slot_list_extend ⟨_,e,rfl⟩ F.entry_list_extend (F.args_list_extend_2 _ _)
  (AutoSeq1.list_extend_list_list_0 l its.toArray n b kz.toArray n2 ye (by rw[aax];omega) (by omega)) ⟨e,e2,?_⟩
 refine⟨.aC,_,I.FD (its':=its++kz) hH e (by simp) (r.append r2) ?_,rfl,q⟩;rw[aas];omega
noncomputable def FE:R2:=fun x y H Q=>∃l b xs zs,x=.ref l/\y=.ref b/\H l=some (.lst xs)/\H b=some (.lst zs)/\xs.length+zs.length<=aaD/\∀p,H p=none->Q (.ref p) (upd H p (.lst (xs++zs)))
theorem Vw:bt X (adb .Add) FE:=by
 intro pins s σ H x y v u Q I rx ry h;obtain⟨l,b,xs,zs,rfl,rfl,hH,hB,hz,q⟩:=h;cases rx;cases ry;obtain⟨z,its,n,r,hl,e⟩:=I.nY hH;obtain⟨z2,kz,n2,r2,kM,e2⟩:=I.nY hB;refine PySem.P.add_list e e2 ?_ (by rw[aax,aax];omega);have ea:its.toArray++kz.toArray=(its++kz).toArray:=by simp
 rw[ea];exact⟨.ref _,_,I.yM (t':=s.toks) (r.append r2) (by rw[aas];omega),rfl,q _ I.fresh⟩
noncomputable def FF:R2:=fun x y H Q=>∃l k xs,x=.ref l/\y=.int k/\H l=some (.lst xs)/\ -(2 ^ 63)<=k/\k<2 ^ 63/\xs.length*k.toNat<=aaD /\
 ∀p,H p=none->Q (.ref p) (upd H p (.lst (aap k.toNat xs).flatten))
theorem len_rep{α:Type}(xs:List α)(k:Nat):(aap k xs).flatten.length=k*xs.length:=by
 induction k with
 | zero=>simp
 | succ k ih=>rw[abm,abM,aas,ih,Nat.succ_mul,afD]
theorem Vx:bt X (adb .Mult) FF:=by
 intro pins s σ H x y v u Q I rx ry h;obtain⟨l,k,xs,rfl,rfl,hH,h1,h2,hz,q⟩:=h;cases rx;obtain⟨t,rfl⟩:=ry;obtain⟨z,its,n,r,hl,e⟩:=I.nY hH;have bH:its.toArray.size*k.toNat<=sizeLine:=by rw[aax,<- hl];exact hz
 have YV:¬its.toArray.size*k.toNat>(2 ^ 63-1) / 8:=by
  have:(aaD:Nat)<=(2 ^ 63-1) / 8:=by decide
  omega
 have YW:¬(!Builtin.List.listFitsIndex k)=true:=by
  rw[fitsIndex_both h1 h2];exact aaQ
 have ye:¬acu (its.toArray.size*k.toNat)=true:=by
  rw[Cs bH];exact aaQ
 have YX:List.foldl (fun x1 x2=>x1++x2) #[] (aap (if its.toArray.isEmpty=true then 0 else k.toNat) its.toArray)=(aap k.toNat its).flatten.toArray:=by
  have f0:∀m:Nat,List.foldl (fun x1 x2=>x1++x2) #[] (aap m its.toArray)=(aap m its).flatten.toArray:=fun m=>by
   have:=foldl_rep its m [];rw[List.nil_append] at this;exact this
  rw[f0];cases its with
  | nil=>simp
  | cons a r'=>rw[if_neg (by simp)]
 refine wpAny_binaryOp_repeat_ref (T:="list") (U:="int") (by decide) ⟨_,e,rfl⟩ (fun s'=>typeIs_int s' k t) noFill_list_mul F.fills_int_mul F.slot_int_rmul repeat_list F.slot_int_index.lookup
  (aeQ F.slot_int_rmul (typeIs_int s k t) F.entry_int_rmul (F.args_int_rmul_2 _ _) (int___rmul___int_list k t l its.toArray n)
   ⟨e,rfl,⟨_,e,rfl⟩,aeQ F.slot_list_mul ⟨_,e,rfl⟩ F.entry_list_mul (F.args_list_mul_2 _ _) (AutoListH.list___mul___list_int_3 l its.toArray n k t YW YV ye) ⟨e,?_⟩⟩)
 rw[YX];exact⟨.ref _,_,I.yM (t':=s.toks) (r.rep k.toNat) (by rw[len_rep,Nat.mul_comm];exact hz),rfl,q _ I.fresh⟩
end
end L2
namespace Gw
open PySem PySem.W PySem.Calls PyProof.Rows
theorem Ln{P:Params}{h:Heap}:∀(ns:List Int) (vs:List Value),WellAll P h vs (ns.map WData.int)->IntsAre vs ns:=by
 intro ns
 induction ns with
 | nil=>
  intro vs w;rw[aea] at w;cases w;exact .nil
 | cons n ns ih=>
  intro vs w;rw[aaM] at w;cases w with
  | cons a b=>
   cases a;exact .cons _ _ (ih _ b)
theorem QE{l:OpenLaw}{n:Nat}(hn:l.most=some n){P:Params}{h:Heap}{args:List WData}{vals:List Value}
  (uI:l.row.toRowW.claim.pre args=true) (zl:WellAll P h vals args) :
  ∃a vs ns,vals=[abb a]/\args=[WData.list (ns.map WData.int)]/\h.get? a=some { cls:=.type "list",data:=.seq vs.toArray }/\IntsAre vs ns/\ns.length<=n:=by
 have ZF:WShape.hasAll [] args [.list .int]=true:=(pre_splitW uI).1;have hc:l.pre.holds [] { args:=args }=true:=(pre_splitW uI).2;obtain⟨d,r,rfl,h1,h2⟩:=hasAllW_cons ZF;obtain rfl:=hasAllW_nil h2;obtain⟨xs,rfl,h3⟩:=hasW_list h1;obtain⟨ns,rfl⟩:=items_int h3;have bH:ns.length<=n:=by
  unfold OpenLaw.pre at hc;have h4:(WTm.not (.lt (.lit (.int n)) (.len (.arg 0)))).holds [] { args:=[.list (ns.map .int)] }=true:=by
   have h4:=(holds_andW hc).1;rw[hn] at h4;exact h4
  have h5:=condW_of h4 (w_not (w_lt w_lit (w_len_list (w_arg rfl))));rw[aat] at h5;refine Nat.le_of_not_lt fun q=>?_
  have q':(n:Int)<((ns.length:Nat):Int):=by omega
  first
   | (rw[decide_eq_true q'] at h5;exact absurd h5 (by decide))
   | (simp at h5;omega)
 cases zl with
 | cons w1 w2=>
  cases w2;cases w1 with
  | list ho yN=>exact⟨_,_,ns,rfl,rfl,ho,Ln ns _ yN,bH⟩
theorem QF(l:OpenLaw)(args:List WData):l.row.toRowW.claim.post args (.bool true) args=true:=
 postW_of (r:=l.row.toRowW) (X:=(true==true))
  (show WShape.has [] (.bool true) .bool=true by first | rfl | decide | simp[WShape.has,WShape.arms,WShape.armsAll])
  (show(WTm.eq .res (.lit (.bool true))).value [] { args:=args,res:=some (.bool true),after:=args }=some (.bool (true==true)) from w_eq_bool (w_res rfl) w_lit) rfl
theorem Oc{l:OpenLaw}{n:Nat}{q:abp}{loose:List Str}{XP:(Str->Option Value)->Heap->Prop}{YP:World->Heap->Prop}{d:DefRec}
  (hn:l.most=some n) (qK:d.params.defaults=[])
  (call:∀(w:World) (aM bB:aam) (mg mb:Str->Option Value) (fa:Addr) (o:Obj) (pm cd doc:Value) (a:Addr) (vs:List Value) (ns:List Int),
   Ground q loose [] XP w aM mg mb bB.heap->YP w bB.heap →
   bB.heap.get? fa=some o->o.data=.func (docDef d.name d.params d.body d.scope pm cd doc)->bB.heap.CodeRec cd d.name->mg d.name=some (.ref fa) →
   bB.heap.get? a=some { cls:=.type "list",data:=.seq vs.toArray }->IntsAre vs ns->ns.length<=n->bB.gens= #[] →
   afd (model l.prog w) callerA (.call (.ref fa) ⟨[.ref a],[]⟩) (fun r s'=>r=.ok (.ret (.bool true))/\OldK bB.heap s'.heap/\s'.os=bB.os/\aek s'.gens) bB) :
  WalkO q loose XP YP l.row.toRowW d [] (fun f vs=>PySem.call f vs):=by
 intro w aM bB mg mb G Y fa o pm cd doc dV kV ho hd hcd hD hmg hg args vals as uI aaf Gx zl Gy;obtain rfl:dV=.none:=Dflts.none hD qK;obtain rfl:kV=.none:=Dflts.noKw hD;obtain⟨a,vs,ns,rfl,rfl,lP,yf,bH⟩:=QE hn uI zl;refine enter_call (aeH (call w aM bB mg mb fa o pm cd doc a vs ns G Y ho (fd_plain hd) hcd hmg lP yf bH hg) fun r s' hq=>?_);obtain⟨rfl,h2,h3,h4⟩:=hq;exact⟨.inl ⟨.bool true,.bool true,[],rfl,fun _=>rfl,.bool true,QF l _,fun _=>⟨List.Pairwise.nil,fun _ hm=>(nomatch hm)⟩⟩,h2,h3,h4⟩
end Gw
namespace L2
open PySem PySem.Spec PyProof.Rows
theorem B6:∀{vs:List Value} {ns:List Int},IntsAre vs ns->Vals (ns.map V.int) vs
 | _,_,.nil=>.nil
 | _,_,.cons n t h=>.cons ⟨t,rfl⟩ (B6 h)
noncomputable def inClass(s:Stmt)(j:Nat):Stmt:=match s with
 | .ClassDef _ _ _ body _ _ _ _ _ _ _=>body.getD j (.Pass ⟨0,0,0,0⟩)
 | _=>.Pass ⟨0,0,0,0⟩
noncomputable def cx(s:Stmt):Arguments:=match s with
 | .FunctionDef _ a _ _ _ _ _ _ _ _=>a
 | _=>{ posonlyargs:=[],args:=[],vararg:=none,kwonlyargs:=[],kw_defaults:=[],kwarg:=none,defaults:=[] }
noncomputable def bf(s:Stmt):List Stmt:=match s with
 | .FunctionDef _ _ b _ _ _ _ _ _ _=>b
 | _=>[]
noncomputable def ag(s:Stmt):Scope:=match s with
 | .FunctionDef _ _ _ _ _ _ sc _ _ _=>sc
 | _=>{ kind:=.function,names:=[],isGenerator:=false,isCoroutine:=false }
abbrev E0:XK:=fun _ _ _=>False
structure cz(K:aaj)(x qual:Str)(st:Stmt)(f:Addr)(fd:aaZ):Prop where
 ex:∃(oc:Value) (od:Option Addr) (kV doc pm:Value) (an:Option Addr) (cG ct:Value) (i5:Array (Option Value)),
  fd=aaL x qual (cx st) (bf st) (ag st) .none kV doc pm an cG ct/\K.lookup f=some ⟨oc,od,.func fd,i5⟩/\aaF K cG qual=true
 kp:aaC K (.ref f)=true
section
variable{P:abp}{w:World}{K:aaj}{mg:Str->Option Value}{base:Heap}
theorem cz.binds{x qual:Str}{st:Stmt}{f:Addr}{fd:aaZ}{ps:List Str}(F:cz K x qual st f fd)
  (h:∀(kV doc pm:Value) (an:Option Addr) (cG ct:Value) (us:List Value),us.length=ps.length->bindArgs (aaL x qual (cx st) (bf st) (ag st) .none kV doc pm an cG ct) ⟨us,[]⟩=pure (ps.zip us)):Binds K fd ps []:=by
 obtain⟨oc,od,kV,doc,pm,an,cG,ct,i5,rfl,lk,hcd⟩:=F.ex;exact .all (h kV doc pm an cG ct)
theorem cS{x qual:Str}{st:Stmt}{f:Addr}{oc:Value}{od an:Option Addr}{i5:Array (Option Value)}{kV doc pm cG ct:Value}(l:K.lookup f=some ⟨oc,od,.func (aaL x qual (cx st) (bf st) (ag st) .none kV doc pm an cG ct),i5⟩)
  (c:aaF K cG qual=true) (k:aaC K (.ref f)=true):cz K x qual st f (aaL x qual (cx st) (bf st) (ag st) .none kV doc pm an cG ct):=⟨⟨oc,od,kV,doc,pm,an,cG,ct,i5,rfl,l,c⟩,k⟩
end
theorem hW{A:abT}{k:Nat}(hr:cL k A):A.units+1<cLine:=acM (Nat.add_le_add_left (by decide:1<=64) _) hr.units
theorem jy{A B:Prop}(h:B):if false=true then A else B:=by
 rw[if_neg aaQ];exact h
theorem jz{A B:Prop}(h:A):if true=true then A else B:=by
 rw[if_pos rfl];exact h
section
variable{κ:Type}[DecidableEq κ]
noncomputable def gK(kvs:List (κ×V))(k:κ):Option V:=(kvs.find? fun kv=>decide (kv.1=k)).map (·.2)
noncomputable def putK(kvs:List (κ×V))(k:κ)(v:V):List (κ×V):=
 if(kvs.any fun kv=>decide (kv.1=k))=true then kvs.map (fun kv=>if kv.1=k then(kv.1,v) else kv) else kvs++[(k,v)]
theorem pA{p:κ×V}{r:List (κ×V)}{k:κ}(e:p.1=k):gK (p::r) k=some p.2:=by simp[gK,abi,e]
theorem pB{p:κ×V}{r:List (κ×V)}{k:κ}(e:¬p.1=k):gK (p::r) k=gK r k:=by simp[gK,abi,e]
theorem Ct(k:κ):∀kvs:List (κ×V),(kvs.any fun kv=>decide (kv.1=k))=(gK kvs k).isSome
 | []=>rfl
 | p::r=>by
  rw[abH];by_cases e:p.1=k
  ·simp only[pA e,decide_eq_true e,Bool.true_or,Option.isSome_some]
  ·rw[pB e,decide_eq_false e,Bool.false_or];exact Ct k r
theorem Bu(kvs:List (κ×V))(k:κ)(v:V):(putK kvs k v).length<=kvs.length+1:=by
 unfold putK;split
 ·rw[aat];omega
 ·rw[aas,aaP,adP];omega
theorem eF.wB{o:Option V}{u:Option Value}(r:eF o u):o.isSome=u.isSome:=by
 cases o with
 | none=>cases u with
  | none=>rfl
  | some _=>exact(show False from r).elim
 | some _=>cases u with
  | none=>exact(show False from r).elim
  | some _=>rfl
theorem eF.getD{o:Option V}{u:Option Value}{d:V}{d':Value}(r:eF o u)(rd:RelV d d'):RelV (o.getD d) (u.getD d'):=by
 cases o with
 | none=>cases u with
  | none=>exact rd
  | some _=>exact(show False from r).elim
 | some _=>cases u with
  | none=>exact(show False from r).elim
  | some _=>exact r
theorem KV.val{kvs:List (κ×V)}{vs:List (κ×Value)}(r:KV kvs vs)(k:κ):eF (gK kvs k) (afs vs k):=by
 unfold KV at r
 induction r with
 | nil=>exact ach
 | @cons p q ps qs h t ih=>
  obtain⟨h1,h2⟩:=h;by_cases e:p.1=k
  ·have e':q.1=k:=h1.symm.trans e;have b:afs (q::qs) k=some q.2:=by simp[afs,abi,e']
   rw[pA e,b];exact h2
  ·have e':¬q.1=k:=fun z=>e (h1.trans z)
   have b:afs (q::qs) k=afs qs k:=by simp[afs,abi,e']
   rw[pB e,b];exact ih
theorem KV.any{kvs:List (κ×V)}{vs:List (κ×Value)}(r:KV kvs vs)(k:κ):(kvs.any fun kv=>decide (kv.1=k))=vs.any fun kv=>decide (kv.1=k):=by
 unfold KV at r
 induction r with
 | nil=>rfl
 | cons h t ih=>rw[abH,abH,ih,h.1]
theorem KV.ic{kvs:List (κ×V)}{vs:List (κ×Value)}(r:KV kvs vs)(k:κ){y:V}{u:Value}(ry:RelV y u) :
  KV (kvs.map fun kv=>if kv.1=k then(kv.1,y) else kv) (vs.map fun kv=>if kv.1=k then(kv.1,u) else kv):=by
 unfold KV at r ⊢
 induction r with
 | nil=>exact .nil
 | @cons p q ps qs h t ih=>
  rw[aaM,aaM];refine .cons ?_ ih;obtain⟨h1,h2⟩:=h;by_cases e:p.1=k
  ·rw[if_pos e,if_pos (h1.symm.trans e)];exact⟨h1,ry⟩
  ·rw[if_neg e,if_neg (fun z=>e (h1.trans z))];exact⟨h1,h2⟩
theorem KV.put{kvs:List (κ×V)}{vs:List (κ×Value)}(r:KV kvs vs)(k:κ){y:V}{u:Value}(ry:RelV y u):KV (putK kvs k y) (stored vs k u):=by
 unfold putK stored;rw[r.any k];by_cases e:(vs.any fun kv=>decide (kv.1=k))=true
 ·rw[if_pos e,if_pos e];exact r.ic k ry
 ·rw[if_neg e,if_neg e];exact Paired.snoc r ⟨rfl,ry⟩
theorem KV.keys{kvs:List (κ×V)}{vs:List (κ×Value)}(r:KV kvs vs):kvs.map (·.1)=vs.map (·.1):=by
 unfold KV at r
 induction r with
 | nil=>rfl
 | cons h t ih=>rw[aaM,aaM,ih,h.1]
theorem KV.length{kvs:List (κ×V)}{vs:List (κ×Value)}(r:KV kvs vs):kvs.length=vs.length:=adH r
end
variable{u:Value}
theorem nJ{P:abp}{w:World}{k:Key}(r:RelV (kV k) u):(cN P w).is k u=true:=by
 cases k with
 | inl i=>obtain⟨t,e⟩:=(show ∃t,u=adk i t from r);subst e;exact Oa P w i t
 | inr x=>obtain⟨t,e⟩:=(show ∃t,u=aeB x t from r);subst e;exact Ob P w x t
theorem B7{P:abp}{w:World}:∀{ks:List Key} {us:List Value},Vals (ks.map kV) us->ItemsAre (cN P w) ks us
 | [],_,r=>by rw[aea] at r;cases r;exact .nil
 | k::ks,_,r=>by
  rw[aaM] at r;cases r with
  | cons h t=>exact .cons (nJ h) (B7 t)
abbrev KT(H:Hp):List (List Key×V)->List (List Key×Addr×Value)->Prop:=acf fun p q=>p.1=q.1/\H q.2.1=some (.tup (p.1.map kV))/\RelV p.2 q.2.2
variable{H:Hp}{kvs:List (List Key×V)}{xs:List (List Key×Addr×Value)}
theorem KT.val(r:KT H kvs xs)(k:List Key):eF (gK kvs k) ((atKey xs k).map (·.2)):=by
 induction r with
 | nil=>exact ach
 | @cons p q ps qs h t ih=>
  obtain⟨h1,_,h2⟩:=h;by_cases e:p.1=k
  ·have e':q.1=k:=h1.symm.trans e;have b:atKey (q::qs) k=some q.2:=by simp[atKey,abi,e']
   rw[pA e,b];exact h2
  ·have e':¬q.1=k:=fun z=>e (h1.trans z)
   have b:atKey (q::qs) k=atKey qs k:=by simp[atKey,abi,e']
   rw[pB e,b];exact ih
variable{y:V}
theorem KT.ic(r:KT H kvs xs)(k:List Key)(ry:RelV y u) :
  KT H (kvs.map fun kv=>if kv.1=k then(kv.1,y) else kv) (xs.map (putAt k u)):=by
 induction r with
 | nil=>exact .nil
 | @cons p q ps qs h t ih=>
  rw[aaM,aaM];refine .cons ?_ ih;obtain⟨h1,h2,h3⟩:=h;unfold putAt;by_cases e:p.1=k
  ·rw[if_pos e,if_pos (h1.symm.trans e)];exact⟨h1,h2,ry⟩
  ·rw[if_neg e,if_neg (fun z=>e (h1.trans z))];exact⟨h1,h2,h3⟩
theorem KT.put(r:KT H kvs xs)(k:List Key){b:Addr}(hb:H b=some (.tup (k.map kV)))(ry:RelV y u) :
  KT H (putK kvs k y) (storedH xs k b u):=by
 have e:(kvs.any fun kv=>decide (kv.1=k))=(atKey xs k).isSome:=by
  rw[Ct,(r.val k).wB,aft]
 unfold putK storedH;rw[e];by_cases q:(atKey xs k).isSome=true
 ·rw[if_pos q,if_pos q];exact r.ic k ry
 ·rw[if_neg q,if_neg q];exact Paired.snoc r ⟨rfl,hb,ry⟩
theorem KT.keeps{H':Hp}(r:KT H kvs xs)(ht:∀b ys,H b=some (.tup ys)->H' b=some (.tup ys)):KT H' kvs xs:=
 acf.nW r fun _ _ z=>⟨z.1,ht _ _ z.2.1,z.2.2⟩
section
variable{P:abp}{w:World}{H:Hp}{h:Heap}{a:Addr}
theorem EB{u:HO}(ok:cm P w H h)(e:Rd H a u):cW P w H h a u:=e.ok ok
theorem nK{kvs:List (Key×V)}(ok:cm P w H h)(e:Rd H a (.dK kvs)):kvs.length<=aaD/\(a==abW)=false/\∃vs,KV kvs vs/\h.DictOf (cN P w) a vs:=
 show cW P w H h a (.dK kvs) from EB ok e
theorem pW{kvs:List (Key×V)}(ok:cm P w H h)(e:H a=some (.dK kvs)):kvs.length<=aaD/\(a==abW)=false/\∃vs,KV kvs vs/\h.DictOf (cN P w) a vs:=nK ok (.inl e)
theorem nr{ks:List Key}(ok:cm P w H h)(e:H a=some (.tup (ks.map kV))):(aee (cN P w)).is h ks a:=by
 obtain⟨_,its,r,o,h1,h2,n,h3⟩:=(show cW P w H h a (.tup (ks.map kV)) from ok a _ e)
 exact⟨o,its.toArray,n,h1,h2,h3,by simpa using B7 r⟩
theorem nL{kvs:List (List Key×V)}(ok:cm P w H h)(e:Rd H a (.dT kvs)):kvs.length<=aaD/\(a==abW)=false /\
  ∃xs,KT H kvs xs/\h.DictOfH (aee (cN P w)) a xs:=by
 obtain⟨z,y,xs,r,o,es,ep,h1,h2,h3,h4,h5⟩:=(show cW P w H h a (.dT kvs) from EB ok e)
 refine⟨z,y,xs,r,o,es,ep,h1,h2,h3,h4,fun x hx=>?_,h5⟩;have all:∀{l:List (List Key×V)} {m:List (List Key×Addr×Value)},KT H l m->∀x∈m,(aee (cN P w)).is h x.1 x.2.1:=by
  intro l m q
  induction q with
  | nil=>intro x hx;exact nomatch hx
  | @cons p q ps qs hq t ih=>
   intro x hx
   rcases abo.mp hx with e | hx
   ·subst e;exact nr ok (by rw[<- hq.1];exact hq.2.1)
   ·exact ih x hx
 exact all r x hx
theorem yg{kvs:List (List Key×V)}(ok:cm P w H h)(e:H a=some (.dT kvs)):kvs.length<=aaD/\(a==abW)=false /\
  ∃xs,KT H kvs xs/\h.DictOfH (aee (cN P w)) a xs:=nL ok (.inl e)
end
noncomputable def fL(H:Hp)(a:Addr)(y:V)(r:Option V):Prop:=
 (∃kvs k,Rd H a (.dK kvs)/\y=kV k/\r=gK kvs k)\/∃kvs k b,Rd H a (.dT kvs)/\y=.ref b/\H b=some (.tup (k.map kV))/\r=gK kvs k
noncomputable def uJ(H:Hp)(a:Addr)(y v:V)(H':Hp):Prop:=
 (∃kvs k,H a=some (.dK kvs)/\y=kV k/\kvs.length<aaD/\H'=upd H a (.dK (putK kvs k v))) \/
 ∃kvs k b,H a=some (.dT kvs)/\y=.ref b/\H b=some (.tup (k.map kV))/\kvs.length<aaD/\H'=upd H a (.dT (putK kvs k v))
section
variable{X:Cx}{pins:List (Addr×Obj)}{σ:St}{H:Hp}{s:aam}{a:Addr}{y v:V}{u r:Value}{o:Option V}{A:abT}{E:Value->aam->Prop}
theorem Inv.big(I:Inv X pins σ H s):abW<s.heap.objs.size:=by
 have h:aan<s.heap.objs.size:=(I.mod.glob.keeps I.bk).lt;exact Nat.lt_trans (by decide) h
theorem QG{Q:Value->aam->Prop}(hu:A.units+1<cLine)(I:Inv X pins σ H s)(g:fL H a y (some v))(ry:RelV y u)(h:∀w' s',Inv X pins σ H s'->RelV v w'->Q w' s') :
  wpAny (model X.prog X.w) A (getItem (.ref a) u) Q E s:=by
 rcases g with⟨kvs,k,e,ey,l⟩ | ⟨kvs,k,b,e,ey,eb,l⟩
 ·subst ey;obtain⟨z,hd,vs,rel,dd⟩:=nK I.aJ e;obtain⟨w',hw,ed⟩:=eF.some_of (v:=v) (o:=afs vs k) (by rw[l];exact rel.val k);exact wpAny_getItem_of (nJ ry) dd.mapOf hw (h w' _ (I.tok _) ed)
 ·subst ey;cases(show u=abb b from ry);obtain⟨z,hd,xs,rel,dd⟩:=nL I.aJ e;obtain⟨w',hw,ed⟩:=eF.some_of (v:=v) (o:=(atKey xs k).map (·.2)) (by rw[l];exact rel.val k);obtain⟨p,hp,ZG⟩:=aaR.mp hw;refine wpAny_getItem_heap (acN hu) (nr I.aJ eb) dd hp ?_;rw[ZG];exact h w' _ (I.tok _) ed
theorem yO{Q:Value->aam->Prop}(hu:A.units+1<cLine)(I:Inv X pins σ H s)(g:fL H a y o)(ry:RelV y u)(h:∀s',Inv X pins σ H s'->Q (.bool o.isSome) s') :
  wpAny (model X.prog X.w) A (abC .In u (.ref a)) Q E s:=by
 rcases g with⟨kvs,k,e,ey,l⟩ | ⟨kvs,k,b,e,ey,eb,l⟩
 ·subst ey;obtain⟨z,hd,vs,rel,dd⟩:=nK I.aJ e;refine wpAny_in_of (nJ ry) hd dd.mapOf ?_;rw[<- (rel.val k).wB,<- l];exact h _ (I.tok _)
 ·subst ey;cases(show u=abb b from ry);obtain⟨z,hd,xs,rel,dd⟩:=nL I.aJ e;refine wpAny_in_heap (acN hu) (nr I.aJ eb) hd dd ?_;have q:=(rel.val k).wB;rw[aft] at q;rw[<- q,<- l];exact h _ (I.tok _)
theorem tR{h':Heap}{t':Nat}{ob:HO}(I:Inv X pins σ H s)(mu:jG (H a))(hs:adZ a s.heap h')(he:∃q,h'.get? a=some q)(new:cW X.prog X.w (upd H a ob) h' a ob) :
  Inv X pins σ (upd H a ob) { s with heap:=h',toks:=t' }:=
 I.write (x:=a) (e:=a) mu (.inl rfl) (fun b q hb z=>(hs.2 b hb).trans z) he new
theorem Vy{P:abp}{w:World}{H':Hp}{h':Heap}{kvs:List (Key×V)}{vs:List (Key×Value)}(z:kvs.length<=aaD)(hd:(a==abW)=false)(rel:KV kvs vs)(dd:h'.DictOf (cN P w) a vs) :
  cW P w H' h' a (.dK kvs):=⟨z,hd,vs,rel,dd⟩
theorem wC{H':Hp}{Q:Unit->aam->Prop}(hu:A.units+1<cLine)(I:Inv X pins σ H s)(g:uJ H a y v H')(ry:RelV y u)(rv:RelV v r)(h:∀s',Inv X pins σ H' s'->Q () s') :
  wpAny (model X.prog X.w) A (setItem (.ref a) u r) Q E s:=by
 rcases g with⟨kvs,k,e,ey,l,eH⟩ | ⟨kvs,k,b,e,ey,eb,l,eH⟩
 ·subst ey eH;obtain⟨z,hd,vs,rel,dd⟩:=pW I.aJ e;have hz:vs.length<=sizeLine:=by rw[<- rel.length];exact z
  have hl:(putK kvs k v).length<=sizeLine:=by have:=Bu kvs k v;omega
  refine wpAny_setItem_pairs (hsz:=hz) (nJ ry) dd fun h' vk hs=>h _ ?_
  have he:∃q,h'.get? a=some q:=let ⟨q,_,_,hq,_⟩:=vk;⟨q,hq⟩
  exact tR I (by rw[e];exact ach) hs he (Vy hl hd (rel.put k rv) vk)
 ·subst ey eH;cases(show u=abb b from ry);obtain⟨z,hd,xs,rel,dd⟩:=yg I.aJ e;have hz:xs.length<=sizeLine:=by rw[<- adH rel];exact z
  have hl:(putK kvs k v).length<=sizeLine:=by have:=Bu kvs k v;omega
  refine wpAny_setItem_heap (hsz:=hz) (acN hu) (nr I.aJ eb) dd fun h' vk hs=>h _ ?_
  obtain⟨q,es,ep,hq,h2,h3,h4,_,h5⟩:=vk;refine tR I (by rw[e];exact ach) hs ⟨q,hq⟩ ⟨hl,hd,_,(rel.put k eb rv).keeps fun c ys ec=>?_,q,es,ep,hq,h2,h3,h4,h5⟩;rw[bC (km ec e (fun z=>nomatch z))];exact ec
end
theorem Od{X:Cx}{pins:List (Addr×Obj)}{σ:St}{s:aam}{a:Addr}{o:Option V}(I:Inv X pins σ H s)(g:fL H a y o):s.TypeIs (.ref a) "dict":=by
 rcases g with⟨kvs,k,e,_,_⟩ | ⟨kvs,k,b,e,_,_,_⟩
 ·obtain⟨_,_,vs,_,dd⟩:=nK I.aJ e;exact dd.typeIs
 ·obtain⟨_,_,xs,_,dd⟩:=nL I.aJ e;exact dd.typeIs
theorem RZ{P:abp}{w:World}(h:Heap)(hb:abW<h.objs.size):cW P w H (h.push { cls:=.type "dict",data:=.dict #[] }) h.objs.size (.dK []):=
 ⟨aca _,beq_eq_false_iff_ne.mpr (adt (abn hb)),[],.nil,Heap.DictOf.new h⟩
noncomputable def Vz:TE:=fun _ H Q=>∀p,H p=none->Q (.ref p) (upd H p (.dK []))
section
variable{X:Cx}{pos:Pos}
theorem R4:PE X (.Dict [] [] pos) Vz:=fun pins s σ H Q I h=>
 wpAny_Dict_empty ⟨.ref s.heap.objs.size,_,I.laid (a:=s.heap.objs.size) (o:=.dK []) (t':=s.toks) (fun _ _ q=>aaA _ q) (aar _) (RZ s.heap I.big),rfl,h _ (I.aJ.fresh (aar _))⟩
end
section
variable{X:Cx}{pins:List (Addr×Obj)}{σ:St}{H:Hp}{s:aam}{a:Addr}{y d:V}{u r:Value}{o:Option V}{A:abT}{E:Value->aam->Prop}
theorem xI{Q:Value->aam->Prop}(hu:A.units+1<cLine)(I:Inv X pins σ H s)(g:fL H a y o)(ry:RelV y u)(h:∀w' s',Inv X pins σ H s'->RelV (o.getD .aC) w'->Q w' s') :
  wpAny (model X.prog X.w) A (call (.builtin "dict.get") [.ref a,u]) Q E s:=by
 rcases g with⟨kvs,k,e,ey,l⟩ | ⟨kvs,k,b,e,ey,eb,l⟩
 ·subst ey;obtain⟨z,hd,vs,rel,dd⟩:=nK I.aJ e;refine aeJ aaT dd.typeIs ace (aen _ _) (meets_dict_get (cN X.prog X.w) a (nJ ry) hd) ⟨_,dd.mapOf,h _ _ (I.tok _) ?_⟩;rw[l];exact(rel.val k).getD rfl
 ·subst ey;cases(show u=abb b from ry);obtain⟨z,hd,xs,rel,dd⟩:=nL I.aJ e;refine aeJ aaT dd.typeIs ace (aen _ _) (meetsH_dict_get (aee (cN X.prog X.w)) a b hd) ⟨acN hu,k,xs,nr I.aJ eb,dd,h _ _ (I.tok _) ?_⟩;rw[l];exact(rel.val k).getD rfl
theorem xJ{Q:Value->aam->Prop}(hu:A.units+1<cLine)(I:Inv X pins σ H s)(g:fL H a y o)(ry:RelV y u)(rd:RelV d r)(h:∀w' s',Inv X pins σ H s'->RelV (o.getD d) w'->Q w' s') :
  wpAny (model X.prog X.w) A (call (.builtin "dict.get") [.ref a,u,r]) Q E s:=by
 rcases g with⟨kvs,k,e,ey,l⟩ | ⟨kvs,k,b,e,ey,eb,l⟩
 ·subst ey;obtain⟨z,hd,vs,rel,dd⟩:=nK I.aJ e;refine aeJ aaT dd.typeIs ace (adn _ _ _) (meets_dict_get_default (cN X.prog X.w) a (nJ ry) hd r) ⟨_,dd.mapOf,h _ _ (I.tok _) ?_⟩;rw[l];exact(rel.val k).getD rd
 ·subst ey;cases(show u=abb b from ry);obtain⟨z,hd,xs,rel,dd⟩:=nL I.aJ e;refine aeJ aaT dd.typeIs ace (adn _ _ _) (meetsH_dict_get_default (aee (cN X.prog X.w)) a b hd r) ⟨acN hu,k,xs,nr I.aJ eb,dd,h _ _ (I.tok _) ?_⟩;rw[l];exact(rel.val k).getD rd
end
end L2
namespace IL
open PySem PySem.Spec PyProof.Rows L2
inductive W where
 | aC | bl (b:Bool) | int (i:Int) | str (x:Str) | tup (ws:List W) | fl (ws:List W) | ref (i:Nat) | exc (c:Str) (ns:List Str) (ws:List W) | fn (x:Str) (ws:List W)
mutual
noncomputable def W.dec:(a b:W)->Decidable (a=b)
 | .aC,.aC=>aaX rfl
 | .bl a,.bl b=>if h:a=b then aaX (by rw[h]) else aay (fun e=>h (W.bl.inj e))
 | .int a,.int b=>if h:a=b then aaX (by rw[h]) else aay (fun e=>h (W.int.inj e))
 | .str a,.str b=>if h:a=b then aaX (by rw[h]) else aay (fun e=>h (W.str.inj e))
 | .tup a,.tup b=>match W.qi a b with
  | aaX h=>aaX (by rw[h])
  | aay h=>aay (fun e=>h (W.tup.inj e))
 | .fl a,.fl b=>match W.qi a b with
  | aaX h=>aaX (by rw[h])
  | aay h=>aay (fun e=>h (W.fl.inj e))
 | .ref a,.ref b=>if h:a=b then aaX (by rw[h]) else aay (fun e=>h (W.ref.inj e))
 | .exc c ns a,.exc c' ZH b=>match W.qi a b with
  | aaX h=>if h1:c=c' then if h2:ns=ZH then aaX (by rw[h,h1,h2]) else aay (fun e=>h2 (W.exc.inj e).2.1) else aay (fun e=>h1 (W.exc.inj e).1)
  | aay h=>aay (fun e=>h (W.exc.inj e).2.2)
 | .fn c a,.fn c' b=>match W.qi a b with
  | aaX h=>if h1:c=c' then aaX (by rw[h,h1]) else aay (fun e=>h1 (W.fn.inj e).1)
  | aay h=>aay (fun e=>h (W.fn.inj e).2)
 | .aC,.bl _ | .aC,.int _ | .aC,.str _ | .aC,.tup _ | .aC,.fl _ | .aC,.ref _ | .aC,.exc _ _ _=>aay (fun e=>nomatch e)
 | .bl _,.aC | .bl _,.int _ | .bl _,.str _ | .bl _,.tup _ | .bl _,.fl _ | .bl _,.ref _ | .bl _,.exc _ _ _=>aay (fun e=>nomatch e)
 | .int _,.aC | .int _,.bl _ | .int _,.str _ | .int _,.tup _ | .int _,.fl _ | .int _,.ref _ | .int _,.exc _ _ _=>aay (fun e=>nomatch e)
 | .str _,.aC | .str _,.bl _ | .str _,.int _ | .str _,.tup _ | .str _,.fl _ | .str _,.ref _ | .str _,.exc _ _ _=>aay (fun e=>nomatch e)
 | .tup _,.aC | .tup _,.bl _ | .tup _,.int _ | .tup _,.str _ | .tup _,.fl _ | .tup _,.ref _ | .tup _,.exc _ _ _=>aay (fun e=>nomatch e)
 | .fl _,.aC | .fl _,.bl _ | .fl _,.int _ | .fl _,.str _ | .fl _,.tup _ | .fl _,.ref _ | .fl _,.exc _ _ _=>aay (fun e=>nomatch e)
 | .ref _,.aC | .ref _,.bl _ | .ref _,.int _ | .ref _,.str _ | .ref _,.tup _ | .ref _,.fl _ | .ref _,.exc _ _ _=>aay (fun e=>nomatch e)
 | .exc _ _ _,.aC | .exc _ _ _,.bl _ | .exc _ _ _,.int _ | .exc _ _ _,.str _ | .exc _ _ _,.tup _ | .exc _ _ _,.fl _ | .exc _ _ _,.ref _=>aay (fun e=>nomatch e)
 | .aC,.fn _ _ | .bl _,.fn _ _ | .int _,.fn _ _ | .str _,.fn _ _ | .tup _,.fn _ _ | .fl _,.fn _ _ | .ref _,.fn _ _ | .exc _ _ _,.fn _ _=>aay (fun e=>nomatch e)
 | .fn _ _,.aC | .fn _ _,.bl _ | .fn _ _,.int _ | .fn _ _,.str _ | .fn _ _,.tup _ | .fn _ _,.fl _ | .fn _ _,.ref _ | .fn _ _,.exc _ _ _=>aay (fun e=>nomatch e)
noncomputable def W.qi:(a b:List W)->Decidable (a=b)
 | [],[]=>aaX rfl
 | a::as,b::bs=>match W.dec a b,W.qi as bs with
  | aaX h,aaX h'=>aaX (by rw[h,h'])
  | aay h,_=>aay (fun e=>h (afo e).1)
  | _,aay h=>aay (fun e=>h (afo e).2)
 | [],_::_ | _::_,[]=>aay (fun e=>nomatch e)
end
instance:DecidableEq W:=W.dec
inductive PO where
 | lst (ws:List W)
 | bE (kvs:List (W×W))
 | obj (c:Str) (fs:List (Str×W))
 | oE (kvs:List (W×W))
 | cc (kvs:List (W×W))
 deriving DecidableEq
noncomputable def PO.fz:PO->Bool
 | .oE _=>true
 | _=>false
abbrev PH:=List PO
abbrev Po(α:Type):=PH->Option (α×PH)
variable{α:Type}
noncomputable def ret(a:α):Po α:=fun ph=>some (a,ph)
noncomputable def d6:Po α:=fun _=>none
structure XC where
 cls:Str
 fs:List (Str×W)
inductive Out(α:Type) where
 | ok (a:α) (ph:PH)
 | ex (x:XC) (ph:PH)
 | no
noncomputable def Out.Run(r:Out α)(N:α->PH->Prop)(E:XC->PH->Prop):Prop:=match r with
 | .ok a ph=>N a ph
 | .ex x ph=>E x ph
 | .no=>False
variable{E:XC->PH->Prop}
theorem Out.Run.mono{r:Out α}{N N':α->PH->Prop}{E':XC->PH->Prop}(h:r.Run N E)(hn:∀a ph,N a ph->N' a ph)(he:∀x ph,E x ph->E' x ph):r.Run N' E':=by
 cases r with
 | ok a ph=>exact hn a ph h
 | ex x ph=>exact he x ph h
 | no=>exact h
abbrev Mo(α:Type):=PH->Out α
noncomputable def aA(a:α):Mo α:=fun ph=>.ok a ph
noncomputable def ee:Mo α:=fun _=>.no
noncomputable def lift(o:Po α):Mo α:=fun ph=>match o ph with
 | some p=>.ok p.1 p.2
 | none=>.no
noncomputable def aw{β:Type}(m:Mo α)(f:α->Mo β):Mo β:=fun ph=>match m ph with
 | .ok a ph'=>f a ph'
 | .ex x ph'=>.ex x ph'
 | .no=>.no
variable{ph:PH}
theorem cE{β:Type}{m:Mo α}{f:α->Mo β}{N:β->PH->Prop}:(aw m f ph).Run N E=(m ph).Run (fun a ph1=>(f a ph1).Run N E) E:=by
 unfold aw;cases m ph <;> rfl
theorem run_lift{o:Po α}{N:α->PH->Prop}(h:(lift o ph).Run N E):∃a ph',o ph=some (a,ph')/\N a ph':=by
 unfold lift at h;cases e:o ph with
 | none=>rw[e] at h;exact h.elim
 | some p=>rw[e] at h;exact⟨p.1,p.2,rfl,h⟩
abbrev aP:=List (Option W)
abbrev EM:=aP->Mo W
abbrev TM:=aP->Mo Bool
abbrev AM:=aP->Mo (List W)
inductive Fl where
 | nx (σ:aP) | rt (w:W) | bk (σ:aP) | ct (σ:aP)
abbrev SM:=aP->Mo Fl
noncomputable def KL(K:aaj)(a:Addr)(xs:List V):Prop:=
 ∃(o:Obj) (its:Array Value) (n:Nat),K.lookup a=some o/\o.cls=.type "list"/\o.dict=none/\o.data=.seq its n/\its.size<=aaD/\Vals xs its.toList
noncomputable def uK(K:aaj)(H:Hp)(a:Addr)(xs:List V):Prop:=(∃o,H a=some (.bz o (.lst xs)))\/KL K a xs
variable{K:aaj}{H:Hp}
theorem uK.sq{a:Addr}{xs:List V}(h:uK K H a xs):bD K H a xs:=by
 rcases h with⟨o,h⟩ | h
 ·exact .inl (.inr ⟨o,h⟩)
 ·exact .inr h
noncomputable def uL(H:Hp)(o:Obj)(ns:List Str)(vs:List V):Prop:=(ns=[]/\vs=[])\/∃d od,o.dict=some d/\ns.length=vs.length/\H d=some (.bz od (.xd (ns.zip vs)))
abbrev iQ:HO:=.ext fun _=>True
structure zm where
 ar:Arguments
 bd:Expr
 sc:Scope
 pos:Pos
noncomputable def YY:Stmt->Option zm
 | .Return (some (.Call _ [_,.Lambda a b s p] _ _)) _=>some ⟨a,b,s,p⟩
 | .Assign _ (.Call _ [.Call _ [_,.Lambda a b s p] _ _] _ _) _=>some ⟨a,b,s,p⟩
 | _=>none
noncomputable def YZ(l:List Stmt):Option zm:=l.findSome? YY
noncomputable def EC(K:aaj)(x:Str):Option zm:=match aao K aan x with
 | some (some (.ref f))=>(match K.lookup f with
  | some ⟨_,_,.func fd,_⟩=>(match fd.body with
   | .stmts b=>YZ b
   | _=>none)
  | _=>none)
 | _=>none
noncomputable def iL(K:aaj):List (Str×Addr×Addr):=match K.lookup aan with
 | some ⟨_,_,.dict es _,_⟩=>es.toList.filterMap fun e=>match e.key with
  | .str x _=>if(EC K x).isSome then(PySem.W.tabIn K x).map (x,·) else none
  | _=>none
 | _=>[]
noncomputable def FG(x:Str):Str:=(x++".<locals>.")++"<lambda>"
noncomputable def pX(H:Hp)(v:Value)(x:Str):Prop:=∃c oc vs t,v=.ref c/\H c=some (.bz oc iQ)/\oc.data=.fields vs/\vs[1]? =some (.str (FG x) t)
noncomputable def kB(H:Hp)(x:Str)(P:Addr):Prop:=∃ps,H P=some (.fR ps)/\PySem.TriplesOk ps.toList/\∀pos v,codeAmong pos ps.toList=some v->pX H v x
noncomputable def uM(K:aaj)(H:Hp)(x:Str)(o:Obj)(cl:List (Str×Addr)):Prop:=∃L pm v zo,EC K x=some L/\o={ cls:=.type "function",data:=.func (PySem.W.kla_fn "<lambda>" (FG x) L.ar L.bd L.sc cl pm v zo) }/\pX H v x /\
 ∀y,L.sc.names.lookup y=some .free->∃c,cl.lookup y=some c
noncomputable def nu(H:Hp):List (Str×Addr)->List V->Prop
 | [],[]=>True
 | p::cl,v::vs=>(∃oc u,H p.2=some (.bz oc iQ)/\oc.data=.cell (some u)/\RelV v u)/\nu H cl vs
 | _,_=>False
mutual
inductive aH(K:aaj)(φ:Nat->Addr)(n:Nat)(H:Hp):W->V->Prop where
 | aC:aH K φ n H .aC .aC
 | bl (b:Bool):aH K φ n H (.bl b) (.bl b)
 | int (i:Int):aH K φ n H (.int i) (.int i)
 | str (x:Str):aH K φ n H (.str x) (.str x)
 | tup {ws:List W} {a:Addr} {vs:List V} (h:H a=some (.tup vs)) (r:aY K φ n H ws vs):aH K φ n H (.tup ws) (.ref a)
 | fl {ws:List W} {a:Addr} {vs:List V} (h:uK K H a vs) (r:aY K φ n H ws vs):aH K φ n H (.fl ws) (.ref a)
 | ref {i:Nat} (h:i<n):aH K φ n H (.ref i) (.ref (φ i))
 | exc {c:Str} {ns:List Str} {ws:List W} {a C:Addr} {vs:List V} {o:Obj} {u:HO} (h:H a=some (.bz o u)) (hc:o.cls=.ref C) (hn:aao K aan c=some (some (.ref C))) (hk:aeZ o=true) (hf:uL H o ns vs) (r:aY K φ n H ws vs):aH K φ n H (.exc c ns ws) (.ref a)
 | fn {x:Str} {ws:List W} {a:Addr} {vs:List V} {o:Obj} {cl:List (Str×Addr)} (h:H a=some (.bz o iQ)) (hl:uM K H x o cl) (hc:nu H cl vs) (r:aY K φ n H ws vs):aH K φ n H (.fn x ws) (.ref a)
inductive aY(K:aaj)(φ:Nat->Addr)(n:Nat)(H:Hp):List W->List V->Prop where
 | nil:aY K φ n H [] []
 | cons {w:W} {v:V} {ws:List W} {vs:List V} (h:aH K φ n H w v) (r:aY K φ n H ws vs):aY K φ n H (w::ws) (v::vs)
end
structure Step(K:aaj)(φ:Nat->Addr)(n:Nat)(H:Hp)(au:Nat->Addr)(n':Nat)(H':Hp):Prop where
 le:n<=n'
 eq:∀i,i<n->au i=φ i
 tup:∀a xs,H a=some (.tup xs)->H' a=some (.tup xs)
 bz:∀a o u,H a=some (.bz o u)->H' a=some (.bz o u)
section
variable{K:aaj}{φ au zp:Nat->Addr}{n n' zq:Nat}{H H' gR:Hp}
theorem Step.refl:Step K φ n H φ n H:=⟨aar _,fun _ _=>rfl,fun _ _ h=>h,fun _ _ _ h=>h⟩
theorem Step.trans(a:Step K φ n H au n' H')(b:Step K au n' H' zp zq gR):Step K φ n H zp zq gR:=
 ⟨abe a.le b.le,fun i h=>(b.eq i (aav h a.le)).trans (a.eq i h),fun c xs h=>b.tup c xs (a.tup c xs h),fun c o u h=>b.bz c o u (a.bz c o u h)⟩
theorem uL.mono(s:Step K φ n H au n' H'){o:Obj}{ns:List Str}{vs:List V}(h:uL H o ns vs):uL H' o ns vs:=
 h.imp_right fun⟨d,od,e1,e2,e3⟩=>⟨d,od,e1,e2,s.bz _ _ _ e3⟩
theorem pX.mono{v:Value}{x:Str}(h:pX H v x)(s:∀a o,H a=some (.bz o iQ)->H' a=some (.bz o iQ)):pX H' v x:=
 let ⟨c,oc,vs,t,e1,e2,e3⟩:=h;⟨c,oc,vs,t,e1,s _ _ e2,e3⟩
theorem uM.mono{x:Str}{o:Obj}{cl:List (Str×Addr)}(h:uM K H x o cl)(s:∀a o,H a=some (.bz o iQ)->H' a=some (.bz o iQ)):uM K H' x o cl:=
 let ⟨L,pm,v,zo,e1,e2,e3,e4⟩:=h;⟨L,pm,v,zo,e1,e2,e3.mono s,e4⟩
theorem nu.mono(s:∀a o,H a=some (.bz o iQ)->H' a=some (.bz o iQ)):∀{cl:List (Str×Addr)} {vs:List V},nu H cl vs->nu H' cl vs
 | [],[],_=>trivial
 | _::_,_::_,⟨⟨oc,u,e1,e2⟩,r⟩=>⟨⟨oc,u,s _ _ e1,e2⟩,nu.mono s r⟩
 | [],_::_,h=>h.elim
 | _::_,[],h=>h.elim
mutual
theorem aH.mono(s:Step K φ n H au n' H'):∀{w:W} {v:V},aH K φ n H w v->aH K au n' H' w v
 | _,_,.aC=>.aC
 | _,_,.bl b=>.bl b
 | _,_,.int i=>.int i
 | _,_,.str x=>.str x
 | _,_,.tup h r=>.tup (s.tup _ _ h) (aY.mono s r)
 | _,_,.fl h r=>.fl (h.elim (fun⟨o,e⟩=>.inl ⟨o,s.bz _ _ _ e⟩) .inr) (aY.mono s r)
 | _,_,.ref (i:=i) h=>(s.eq i h)▸.ref (aav h s.le)
 | _,_,.exc h hc hn hk hf r=>.exc (s.bz _ _ _ h) hc hn hk (hf.mono s) (aY.mono s r)
 | _,_,.fn h hl hc r=>.fn (s.bz _ _ _ h) (hl.mono fun a o z=>s.bz a o _ z) (hc.mono fun a o z=>s.bz a o _ z) (aY.mono s r)
theorem aY.mono(s:Step K φ n H au n' H'):∀{ws:List W} {vs:List V},aY K φ n H ws vs->aY K au n' H' ws vs
 | _,_,.nil=>.nil
 | _,_,.cons h r=>.cons (aH.mono s h) (aY.mono s r)
end
theorem aY.length:∀{ws:List W} {vs:List V},aY K φ n H ws vs->ws.length=vs.length
 | _,_,.nil=>rfl
 | _,_,.cons _ r=>by simp[aY.length r]
theorem aY.get:∀{ws:List W} {vs:List V} {i:Nat} {w:W},aY K φ n H ws vs->ws[i]? =some w->∃v,vs[i]? =some v/\aH K φ n H w v
 | _,_,_,_,.nil,e=>by simp at e
 | _,_,0,_,.cons h _,e=>by simp at e;subst e;exact⟨_,rfl,h⟩
 | _,_,i+1,w,.cons _ r,e=>by
  obtain⟨u,h1,h2⟩:=aY.get (i:=i) (w:=w) r (by simpa using e);exact⟨u,by simpa using h1,h2⟩
theorem aY.append:∀{ws xs:List W} {vs us:List V},aY K φ n H ws vs->aY K φ n H xs us->aY K φ n H (ws++xs) (vs++us)
 | _,_,_,_,.nil,s=>s
 | _,_,_,_,.cons h r,s=>.cons h (aY.append r s)
theorem aY.take:∀{ws:List W} {vs:List V} (k:Nat),aY K φ n H ws vs->aY K φ n H (ws.take k) (vs.take k)
 | _,_,0,_=>.nil
 | _,_,_+1,.nil=>.nil
 | _,_,k+1,.cons h r=>.cons h (aY.take k r)
theorem aY.drop:∀{ws:List W} {vs:List V} (k:Nat),aY K φ n H ws vs->aY K φ n H (ws.drop k) (vs.drop k)
 | _,_,0,r=>r
 | _,_,_+1,.nil=>.nil
 | _,_,k+1,.cons h r=>aY.drop k r
theorem aY.set{w:W}{v:V}(q:aH K φ n H w v):∀{ws:List W} {vs:List V} (i:Nat),aY K φ n H ws vs->aY K φ n H (ws.set i w) (vs.set i v)
 | _,_,_,.nil=>.nil
 | _,_,0,.cons _ r=>.cons q r
 | _,_,i+1,.cons h r=>.cons h (aY.set q i r)
end
noncomputable def bR:Key->W
 | .inl i=>.int i
 | .inr x=>.str x
inductive cj(K:aaj)(φ:Nat->Addr)(n:Nat)(H:Hp):List (W×W)->List (Key×V)->Prop where
 | nil:cj K φ n H [] []
 | cons {k:Key} {w:W} {v:V} {kws:List (W×W)} {kvs:List (Key×V)} (h:aH K φ n H w v) (r:cj K φ n H kws kvs):cj K φ n H ((bR k,w)::kws) ((k,v)::kvs)
inductive cw(K:aaj)(φ:Nat->Addr)(n:Nat)(H:Hp):List (W×W)->List (List Key×V)->Prop where
 | nil:cw K φ n H [] []
 | cons {k:List Key} {w:W} {v:V} {kws:List (W×W)} {kvs:List (List Key×V)} (h:aH K φ n H w v) (r:cw K φ n H kws kvs):cw K φ n H ((.tup (k.map bR),w)::kws) ((k,v)::kvs)
theorem cj.mono{K:aaj}{φ au:Nat->Addr}{n n':Nat}{H H':Hp}(s:Step K φ n H au n' H'):∀{ws:List (W×W)} {vs:List (Key×V)},cj K φ n H ws vs->cj K au n' H' ws vs
 | _,_,.nil=>.nil
 | _,_,.cons h r=>.cons (h.mono s) (cj.mono s r)
theorem cw.mono{K:aaj}{φ au:Nat->Addr}{n n':Nat}{H H':Hp}(s:Step K φ n H au n' H'):∀{ws:List (W×W)} {vs:List (List Key×V)},cw K φ n H ws vs->cw K au n' H' ws vs
 | _,_,.nil=>.nil
 | _,_,.cons h r=>.cons (h.mono s) (cw.mono s r)
inductive c5(K:aaj)(φ:Nat->Addr)(n:Nat)(H:Hp):List (W×W)->List (V×V)->Prop where
 | nil:c5 K φ n H [] []
 | cons {k w:W} {u v:V} {kws:List (W×W)} {kvs:List (V×V)} (hk:aH K φ n H k u) (h:aH K φ n H w v) (r:c5 K φ n H kws kvs):c5 K φ n H ((k,w)::kws) ((u,v)::kvs)
theorem c5.mono{K:aaj}{φ au:Nat->Addr}{n n':Nat}{H H':Hp}(s:Step K φ n H au n' H'):∀{ws:List (W×W)} {vs:List (V×V)},c5 K φ n H ws vs->c5 K au n' H' ws vs
 | _,_,.nil=>.nil
 | _,_,.cons hk h r=>.cons (hk.mono s) (h.mono s) (c5.mono s r)
inductive dQ(K:aaj)(φ:Nat->Addr)(n:Nat)(H:Hp):List (Str×W)->List (Str×V)->Prop where
 | nil:dQ K φ n H [] []
 | cons {f:Str} {w:W} {v:V} {fs:List (Str×W)} {vs:List (Str×V)} (h:aH K φ n H w v) (r:dQ K φ n H fs vs):dQ K φ n H ((f,w)::fs) ((f,v)::vs)
theorem dQ.mono{K:aaj}{φ au:Nat->Addr}{n n':Nat}{H H':Hp}(s:Step K φ n H au n' H'):∀{ws:List (Str×W)} {vs:List (Str×V)},dQ K φ n H ws vs->dQ K au n' H' ws vs
 | _,_,.nil=>.nil
 | _,_,.cons h r=>.cons (h.mono s) (dQ.mono s r)
noncomputable def kn(K:aaj)(φ:Nat->Addr)(n:Nat)(H:Hp)(o:PO)(a:Addr):Prop:=match o with
 | .lst ws=>∃vs,H a=some (.lst vs)/\aY K φ n H ws vs
 | .bE kws=>(∃kvs,H a=some (.dK kvs)/\cj K φ n H kws kvs)\/∃kvs,H a=some (.dT kvs)/\cw K φ n H kws kvs
 | .obj c fs=>∃C dx vs,aao K aan c=some (some (.ref C))/\H a=some (.ins C dx vs)/\dQ K φ n H fs vs
 | .cc kws=>∃kvs,H a=some (.dU kvs)/\c5 K φ n H kws kvs/\(kws.map (·.1)).Nodup
 | .oE kws=>∃o,o.cls=.type "dict"/\((∃kvs,H a=some (.bz o (.dK kvs))/\cj K φ n H kws kvs)\/∃kvs,H a=some (.bz o (.dT kvs))/\cw K φ n H kws kvs)
structure aG(K:aaj)(φ:Nat->Addr)(ph:PH)(H:Hp):Prop where
 hp:∀i o,ph[i]? =some o->kn K φ ph.length H o (φ i)
 inj:∀i j,i<ph.length->j<ph.length->φ i=φ j->i=j
 tb:∀p∈iL K,kB H p.1 p.2.2
theorem kB.upd{H:Hp}{x:Str}{P a:Addr}{o:HO}(h:kB H x P)(n1:∀ps,H a≠some (.fR ps))(n2:∀oc,H a≠some (.bz oc iQ)):kB (upd H a o) x P:=by
 obtain⟨ps,e1,e2,e3⟩:=h;refine⟨ps,?_,e2,fun pos v e=>?_⟩
 ·rw[bC (fun z=>n1 ps (by rw[<- z];exact e1))];exact e1
 ·obtain⟨c,oc,vs,t,f1,f2,f3⟩:=e3 pos v e;refine⟨c,oc,vs,t,f1,?_,f3⟩;rw[bC (fun z=>n2 oc (by rw[<- z];exact f2))];exact f2
variable{o:HO}
theorem kB.new{x:Str}{P a:Addr}(h:kB H x P)(hn:H a=none):kB (L2.upd H a o) x P:=h.upd (fun _ z=>by rw[hn] at z;cases z) fun _ z=>by rw[hn] at z;cases z
inductive aW(K:aaj)(φ:Nat->Addr)(n:Nat)(H:Hp):aP->L2.St->Prop where
 | nil:aW K φ n H [] []
 | sm {w:W} {v:V} {ws:aP} {vs:L2.St} (h:aH K φ n H w v) (r:aW K φ n H ws vs):aW K φ n H (some w::ws) (some v::vs)
 | nn {v:Option V} {ws:aP} {vs:L2.St} (r:aW K φ n H ws vs):aW K φ n H (none::ws) (v::vs)
section
variable{K:aaj}{φ au zp:Nat->Addr}{n n' zq:Nat}{H H' gR:Hp}{ph:PH}
theorem aW.mono(s:Step K φ n H au n' H'):∀{ws:aP} {vs:L2.St},aW K φ n H ws vs->aW K au n' H' ws vs
 | _,_,.nil=>.nil
 | _,_,.sm h r=>.sm (h.mono s) (aW.mono s r)
 | _,_,.nn r=>.nn (aW.mono s r)
theorem aW.get:∀{ws:aP} {vs:L2.St} {i:Nat} {w:W},aW K φ n H ws vs->ws[i]? =some (some w)->∃v,vs[i]? =some (some v)/\aH K φ n H w v
 | _,_,_,_,.nil,e=>by simp at e
 | _,_,0,_,.sm h _,e=>by simp at e;subst e;exact⟨_,rfl,h⟩
 | _,_,0,_,.nn _,e=>by simp at e
 | _,_,i+1,w,.sm _ r,e=>by
  obtain⟨u,h1,h2⟩:=aW.get (i:=i) (w:=w) r (by simpa using e);exact⟨u,by simpa using h1,h2⟩
 | _,_,i+1,w,.nn r,e=>by
  obtain⟨u,h1,h2⟩:=aW.get (i:=i) (w:=w) r (by simpa using e);exact⟨u,by simpa using h1,h2⟩
theorem aW.set{w:W}{v:V}(q:aH K φ n H w v):∀{ws:aP} {vs:L2.St} (i:Nat),aW K φ n H ws vs->aW K φ n H (ws.set i (acn w)) (vs.set i (acn v))
 | _,_,_,.nil=>.nil
 | _,_,0,.sm _ r=>.sm q r
 | _,_,0,.nn r=>.sm q r
 | _,_,i+1,.sm h r=>.sm h (aW.set q i r)
 | _,_,i+1,.nn r=>.nn (aW.set q i r)
theorem aW.start:∀{ws:List W} {vs:List V} (k:Nat),aY K φ n H ws vs->aW K φ n H (ws.map acn++aap k aff) (vs.map acn++aap k aff)
 | _,_,0,.nil=>.nil
 | _,_,k+1,.nil=>.nn (aW.start k .nil)
 | _,_,k,.cons h r=>.sm h (aW.start k r)
theorem kn.some{o:PO}{a:Addr}(h:kn K φ n H o a):∃x,H a=acn x/\(o.fz=false->jG (acn x)):=by
 cases o with
 | lst ws=>obtain⟨vs,e,_⟩:=h;exact⟨_,e,fun _=>trivial⟩
 | bE kws=>
  rcases h with⟨vs,e,_⟩ | ⟨vs,e,_⟩
  ·exact⟨_,e,fun _=>trivial⟩
  ·exact⟨_,e,fun _=>trivial⟩
 | obj c fs=>obtain⟨C,dx,vs,_,e,_⟩:=h;exact⟨_,e,fun _=>trivial⟩
 | cc kws=>obtain⟨kvs,e,_⟩:=h;exact⟨_,e,fun _=>trivial⟩
 | oE kws=>
  obtain⟨o,_,⟨vs,e,_⟩ | ⟨vs,e,_⟩⟩:=h
  ·exact⟨_,e,fun z=>nomatch z⟩
  ·exact⟨_,e,fun z=>nomatch z⟩
theorem kn.mono{o:PO}{a:Addr}(s:Step K φ n H au n' H')(e:H' a=H a)(h:kn K φ n H o a):kn K au n' H' o a:=by
 cases o with
 | lst ws=>obtain⟨vs,q,r⟩:=h;exact⟨vs,e.trans q,r.mono s⟩
 | bE kws=>
  rcases h with⟨vs,q,r⟩ | ⟨vs,q,r⟩
  ·exact .inl ⟨vs,e.trans q,r.mono s⟩
  ·exact .inr ⟨vs,e.trans q,r.mono s⟩
 | obj c fs=>obtain⟨C,dx,vs,q1,q2,r⟩:=h;exact⟨C,dx,vs,q1,e.trans q2,r.mono s⟩
 | cc kws=>obtain⟨kvs,q,r,nd⟩:=h;exact⟨kvs,e.trans q,r.mono s,nd⟩
 | oE kws=>
  obtain⟨o,hc,⟨vs,q,r⟩ | ⟨vs,q,r⟩⟩:=h
  ·exact⟨o,hc,.inl ⟨vs,e.trans q,r.mono s⟩⟩
  ·exact⟨o,hc,.inr ⟨vs,e.trans q,r.mono s⟩⟩
variable{i:Nat}
theorem aG.at(h:aG K φ ph H)(hi:i<ph.length):∃x,H (φ i)=acn x/\(ph[i].fz=false->jG (acn x)):=(h.hp i ph[i] (by simp[hi])).some
theorem aG.mu(h:aG K φ ph H){o:PO}(hw:ph[i]? =acn o)(hz:o.fz=false):∃x,H (φ i)=acn x/\jG (acn x):=let ⟨x,e,k⟩:=(h.hp i o hw).some;⟨x,e,k hz⟩
theorem jh{p:Addr}{xs:List V}(hp:H p=none):Step K φ n H φ n (upd H p (.tup xs)):=by
 refine⟨aar _,fun _ _=>rfl,fun a ys h=>?_,fun a o u h=>?_⟩
 ·rw[bC (gZ h hp)];exact h
 ·rw[bC (gZ h hp)];exact h
theorem aG.tup{p:Addr}{xs:List V}(h:aG K φ ph H)(hp:H p=none):aG K φ ph (upd H p (.tup xs)):=by
 refine⟨fun i o e=>?_,h.inj,fun p hm=>(h.tb p hm).new hp⟩;have hi:i<ph.length:=(aal.mp e).1;obtain⟨x,ex,_⟩:=h.at hi;exact(h.hp i o e).mono (jh hp) (bC (gZ ex hp))
noncomputable def ext(φ:Nat->Addr)(n:Nat)(p:Addr):Nat->Addr:=fun i=>if i=n then p else φ i
theorem nv{p:Addr}(h:i<n):ext φ n p i=φ i:=by unfold ext;rw[if_neg (by omega)]
theorem jk{p:Addr}:ext φ n p n=p:=by unfold ext;rw[if_pos rfl]
theorem pC{p:Addr}{o:HO}(hp:H p=none):Step K φ n H (ext φ n p) (n+1) (upd H p o):=by
 refine⟨acb _,fun i h=>nv h,fun a ys h=>?_,fun a o u h=>?_⟩
 ·rw[bC (gZ h hp)];exact h
 ·rw[bC (gZ h hp)];exact h
theorem aG.new{p:Addr}{x:HO}{o:PO}(h:aG K φ ph H)(hp:H p=none)(r:kn K (ext φ ph.length p) (ph.length+1) (upd H p x) o p) :
  aG K (ext φ ph.length p) (ph++[o]) (upd H p x):=by
 refine⟨fun i o' e=>?_,fun i j hi hj e=>?_,fun p hm=>(h.tb p hm).new hp⟩
 ·rw[aas];by_cases hi:i<ph.length
  ·rw[aaS hi] at e;obtain⟨y,ey,_⟩:=h.at hi;rw[nv hi];exact(h.hp i o' e).mono (pC hp) (bC (gZ ey hp))
  ·have hl:=(aal.mp e).1;simp at hl;have:i=ph.length:=by omega
   subst this;simp at e;subst e;rw[jk];exact r
 ·simp at hi hj
  have key:∀k,k<ph.length->φ k≠p:=fun k hk z=>by
   obtain⟨y,ey,_⟩:=h.at hk;rw[z,hp] at ey;cases ey
  by_cases h1:i<ph.length <;> by_cases h2:j<ph.length
  ·rw[nv h1,nv h2] at e;exact h.inj i j h1 h2 e
  ·have:j=ph.length:=by omega
   subst this;rw[nv h1,jk] at e;exact(key i h1 e).elim
  ·have:i=ph.length:=by omega
   subst this;rw[nv h2,jk] at e;exact(key j h2 e.symm).elim
  ·omega
theorem iK{a:Addr}{x y:HO}(ha:H a=some x)(mx:jG (some x)):Step K φ n H φ n (upd H a y):=by
 refine⟨aar _,fun _ _=>rfl,fun c ys h=>?_,fun c o u h=>?_⟩
 ·rw[bC (km h ha (by rintro rfl;exact mx))];exact h
 ·rw[bC (km h ha (by rintro rfl;exact mx))];exact h
theorem aG.put{x:HO}{o o0:PO}(h:aG K φ ph H)(hw:ph[i]? =some o0)(hz:o0.fz=false)(r:kn K φ ph.length (upd H (φ i) x) o (φ i)):aG K φ (ph.set i o) (upd H (φ i) x):=by
 have hi:i<ph.length:=(aal.mp hw).1;obtain⟨y,ey,my⟩:=h.mu hw hz;refine⟨fun j o' e=>?_,fun j k hj hk e=>?_,fun p hm=>(h.tb p hm).upd (fun ps z=>?_) fun oc z=>?_⟩
 ·rw[abz];by_cases hj:j=i
  ·subst hj;rw[acJ hi] at e;cases e;exact r
  ·rw[abP (adt hj)] at e;have zr:=(aal.mp e).1;exact(h.hp j o' e).mono (iK ey my) (bC fun z=>hj (h.inj j i zr hi z))
 ·rw[abz] at hj hk;exact h.inj j k hj hk e
 ·rw[ey] at z;cases z;exact my
 ·rw[ey] at z;cases z;exact my
end
noncomputable def Made(X:Cx)(C:Addr)(H':Hp)(e:Value)(s':aam):Prop:=
 ∃pins σ s vs h' a,e=.ref a/\s'={ s with heap:=h' }/\Inv X pins σ H' s/\Heap.MadeExcOf s.heap h' a (.ref C) vs
structure Gz(fs:List Addr)(H H':Hp)(h B h':Heap):Prop where
 keep:∀b o,h.get? b=some o->H b=none->b∉fs->B.get? b=some o
 slot:∀b o,h.get? b=some o->H b=none->b∈fs->∃sl,h'.get? b=some { o with slots:=sl }
 free:∀b o,h.get? b=some o->H b=none->H' b=none
 there:∀b o,h.get? b=some o->b∉fs->∃o',B.get? b=some o'
 ff:∀b xs,H b=some (.tup xs)->H' b=some (.tup xs)
 dP:∀b o u,H b=some (.bz o u)->H' b=some (.bz o u)
 eG:∀b ps,H b=some (.fR ps)->∃more,H' b=some (.fR (ps++more))
noncomputable def Flew(P:abp)(w:World)(l:List Env)(H:Hp)(s:aam)(C:Addr)(H':Hp)(e:Value)(s':aam):Prop:=
 ∃a a0 B,e=.ref a/\s'.os=s.os/\aek s'.gens/\Heap.FlyingW B l a (.ref C) a0 s'.heap/\cm P w H' B/\Gz (cT l) H H' s.heap B s'.heap
noncomputable def jN(X:Cx)(x:XC)(H':Hp)(e:Value)(s':aam):Prop:=∃C,X.mg x.cls=some (.ref C)/\x.fs=[]/\(Made X C H' e s'\/∃pins σ H s,Inv X pins σ H s/\Flew X.prog X.w X.stack H s C H' e s')
noncomputable def XE(X:Cx)(φ:Nat->Addr)(n:Nat)(H:Hp):XC->PH->Prop:=fun x ph'=>∀au H' e s',aG X.K au ph' H'->Step X.K φ n H au ph'.length H'->jN X x H' e s'->X.xe e s'
variable{X:Cx}{φ:Nat->Addr}{n:Nat}{ph':PH}
theorem XE.step{aB:Nat->Addr}{n1:Nat}{H1:Hp}{x:XC}(h:XE X φ n H x ph')(s:Step X.K φ n H aB n1 H1):XE X aB n1 H1 x ph':=fun au H' e s' r t q=>h au H' e s' r (s.trans t) q
noncomputable def tM(X:Cx)(m:EM):TE:=fun σ H Q=>∃φ ph ws,aG X.K φ ph H/\aW X.K φ ph.length H ws σ/\(m ws ph).Run (fun w ph'=>
 ∀au H' v,aG X.K au ph' H'->Step X.K φ ph.length H au ph'.length H'->aH X.K au ph'.length H' w v->Q v H') (XE X φ ph.length H)
noncomputable def tT(X:Cx)(m:TM):TT:=fun σ H Q=>∃φ ph ws,aG X.K φ ph H/\aW X.K φ ph.length H ws σ/\(m ws ph).Run (fun b ph'=>
 ∀au H',aG X.K au ph' H'->Step X.K φ ph.length H au ph'.length H'->Q b H') (XE X φ ph.length H)
noncomputable def tA(X:Cx)(m:AM):TA:=fun σ H Q=>∃φ ph ws,aG X.K φ ph H/\aW X.K φ ph.length H ws σ/\(m ws ph).Run (fun xs ph'=>
 ∀au H' vs,aG X.K au ph' H'->Step X.K φ ph.length H au ph'.length H'->aY X.K au ph'.length H' xs vs->Q vs H') (XE X φ ph.length H)
noncomputable def lQ(X:Cx)(D:Ends)(au:Nat->Addr)(ph':PH)(H':Hp)(f:Fl):Prop:=match f with
 | .nx cM=>∀ao,aW X.K au ph'.length H' cM ao->D.nx ao H'
 | .bk cM=>∀ao,aW X.K au ph'.length H' cM ao->D.bk ao H'
 | .ct cM=>∀ao,aW X.K au ph'.length H' cM ao->D.ct ao H'
 | .rt w=>∀v,aH X.K au ph'.length H' w v->D.rt v H'
noncomputable def tS(X:Cx)(m:SM):TS:=fun D σ H=>∃φ ph ws,aG X.K φ ph H/\aW X.K φ ph.length H ws σ/\(m ws ph).Run (fun f ph'=>
 ∀au H',aG X.K au ph' H'->Step X.K φ ph.length H au ph'.length H'->lQ X D au ph' H' f) (XE X φ ph.length H)
section
variable{X:Cx}{e:Expr}
theorem PE.imp{t t':TE}(h:PE X e t)(k:∀σ H Q,t' σ H Q->t σ H Q):PE X e t':=fun pins s σ H Q I q=>h pins s σ H Q I (k σ H Q q)
theorem PT.imp{t t':TT}(h:PT X e t)(k:∀σ H Q,t' σ H Q->t σ H Q):PT X e t':=fun pins s σ H Q I q=>h pins s σ H Q I (k σ H Q q)
theorem PA.imp{es:List Expr}{t t':TA}(h:PA X es t)(k:∀σ H Q,t' σ H Q->t σ H Q):PA X es t':=fun pos pins s σ H Q I q=>h pos pins s σ H Q I (k σ H Q q)
theorem PS.imp{st:Stmt}{t t':TS}(h:PS X st t)(k:∀D σ H,t' D σ H->t D σ H):PS X st t':=fun pins s σ H D I q=>h pins s σ H D I (k D σ H q)
theorem fh.imp{st:List Stmt}{t t':TS}(h:fh X st t)(k:∀D σ H,t' D σ H->t D σ H):fh X st t':=fun pins s σ H D I q=>h pins s σ H D I (k D σ H q)
abbrev IE(X:Cx)(e:Expr)(m:EM):Prop:=PE X e (tM X m)
abbrev IT(X:Cx)(e:Expr)(m:TM):Prop:=PT X e (tT X m)
abbrev IA(X:Cx)(es:List Expr)(m:AM):Prop:=PA X es (tA X m)
abbrev IS(X:Cx)(st:Stmt)(m:SM):Prop:=PS X st (tS X m)
abbrev eM(X:Cx)(st:List Stmt)(m:SM):Prop:=fh X st (tS X m)
end
noncomputable def aa(i:Nat):EM:=fun σ=>lift fun ph=>match σ[i]? with
 | some (some w)=>some (w,ph)
 | _=>none
noncomputable def eC(w:W):EM:=fun _=>aA w
noncomputable def ae(f:W->W->Po W)(a b:EM):EM:=fun σ=>aw (a σ) fun x=>aw (b σ) fun y=>lift (f x y)
noncomputable def ix(f:W->Po W)(a:EM):EM:=fun σ=>aw (a σ) fun x=>lift (f x)
noncomputable def cU(K:aaj)(r:R2)(f:W->W->Po W):Prop:=∀{φ:Nat->Addr} {ph:PH} {H:Hp} {x y:W} {vx vy:V} {w:W} {ph':PH} {Q:VK},aG K φ ph H->aH K φ ph.length H x vx->aH K φ ph.length H y vy->f x y ph=some (w,ph') →
 (∀au H' v,aG K au ph' H'->Step K φ ph.length H au ph'.length H'->aH K au ph'.length H' w v->Q v H')->r vx vy H Q
noncomputable def GA(K:aaj)(r:V->Hp->VK->Prop)(f:W->Po W):Prop:=∀{φ:Nat->Addr} {ph:PH} {H:Hp} {x:W} {vx:V} {w:W} {ph':PH} {Q:VK},aG K φ ph H->aH K φ ph.length H x vx->f x ph=some (w,ph') →
 (∀au H' v,aG K au ph' H'->Step K φ ph.length H au ph'.length H'->aH K au ph'.length H' w v->Q v H')->r vx H Q
section
variable{X:Cx}{a b c:Expr}{ma mb mc:EM}{pos:Pos}
theorem VA(i:Nat){x:Str}(hN:X.N[i]? =some x:=by rfl)(hv:aI X.env.scope x:=by first | exact Or.inl rfl | exact Or.inr (Or.inl rfl) | exact Or.inr (Or.inr rfl))(hd:(x==("__debug__":Str))=false:=by decide)
  (hcd:(x==("__classdict__":Str))=false:=by decide):IE X (.Name x pos) (aa i):=by
 refine PE.imp (UX hN hv hd hcd) fun σ H Q h=>?_
 obtain⟨φ,ph,ws,hH,hS,h⟩:=h;obtain⟨w,ph',e,k⟩:=run_lift h;split at e
 ·rename_i w' ew;cases e;obtain⟨v,ev,rv⟩:=hS.get ew;exact⟨v,ev,k φ H v hH Step.refl rv⟩
 ·cases e
theorem qj{t:V}{w:W}(h:PE X a (tC t))(r:∀φ n H,aH X.K φ n H w t):IE X a (eC w):=by
 refine PE.imp h fun σ H Q h=>?_
 obtain⟨φ,ph,ws,hH,hS,h⟩:=h;exact h φ H _ hH Step.refl (r _ _ _)
variable{j:Nat}
theorem VB{i:Int}:IE X (.Constant (.int i) j pos) (eC (.int i)):=qj UY fun _ _ _=>.int i
theorem VC{x:Str}:IE X (.Constant (.str x) j pos) (eC (.str x)):=qj U0 fun _ _ _=>.str x
theorem XH{x:Bool}:IE X (.Constant (.bool x) j pos) (eC (.bl x)):=qj Xh fun _ _ _=>.bl x
theorem VD:IE X (.Constant .none j pos) (eC .aC):=qj UZ fun _ _ _=>.aC
variable{β:Type}{σ:L2.St}{H:Hp}{φ:Nat->Addr}{ph:PH}{ws:aP}
theorem tM.bind{m:EM}{Q:VK}{f:W->Mo β}{N:β->PH->Prop}(hH:aG X.K φ ph H)(hS:aW X.K φ ph.length H ws σ)(h:(aw (m ws) f ph).Run N (XE X φ ph.length H))
  (k:∀w ph1 aB H1 v,aG X.K aB ph1 H1->Step X.K φ ph.length H aB ph1.length H1->aH X.K aB ph1.length H1 w v->(f w ph1).Run N (XE X aB ph1.length H1)->Q v H1):tM X m σ H Q:=by
 rw[cE] at h;exact⟨φ,ph,ws,hH,hS,h.mono (fun w ph1 h1 aB H1 v aE s1 r1=>k w ph1 aB H1 v aE s1 r1 (h1.mono (fun _ _ z=>z) fun _ _ z=>z.step s1)) fun _ _ z=>z⟩
theorem tT.bind{m:TM}{Q:Bool->Hp->Prop}{f:Bool->Mo β}{N:β->PH->Prop}(hH:aG X.K φ ph H)(hS:aW X.K φ ph.length H ws σ)(h:(aw (m ws) f ph).Run N (XE X φ ph.length H))
  (k:∀b ph1 aB H1,aG X.K aB ph1 H1->Step X.K φ ph.length H aB ph1.length H1->(f b ph1).Run N (XE X aB ph1.length H1)->Q b H1):tT X m σ H Q:=by
 rw[cE] at h;exact⟨φ,ph,ws,hH,hS,h.mono (fun b ph1 h1 aB H1 aE s1=>k b ph1 aB H1 aE s1 (h1.mono (fun _ _ z=>z) fun _ _ z=>z.step s1)) fun _ _ z=>z⟩
theorem tA.bind{m:AM}{Q:List V->Hp->Prop}{f:List W->Mo β}{N:β->PH->Prop}(hH:aG X.K φ ph H)(hS:aW X.K φ ph.length H ws σ)(h:(aw (m ws) f ph).Run N (XE X φ ph.length H))
  (k:∀xs ph1 aB H1 vs,aG X.K aB ph1 H1->Step X.K φ ph.length H aB ph1.length H1->aY X.K aB ph1.length H1 xs vs->(f xs ph1).Run N (XE X aB ph1.length H1)->Q vs H1):tA X m σ H Q:=by
 rw[cE] at h;exact⟨φ,ph,ws,hH,hS,h.mono (fun w ph1 h1 aB H1 v aE s1 r1=>k w ph1 aB H1 v aE s1 r1 (h1.mono (fun _ _ z=>z) fun _ _ z=>z.step s1)) fun _ _ z=>z⟩
variable{r:R2}{f:W->W->Po W}
theorem tU(hi:cU X.K r f){Q:VK}(h:tM X (ae f ma mb) σ H Q):qF r (tM X ma) (tM X mb) σ H Q:=by
 obtain⟨φ,ph,ws,hH,hS,h⟩:=h;refine tM.bind hH hS h fun x ph1 aB H1 vx aE s1 rx h=>tM.bind aE (hS.mono s1) h fun y ph2 aV H2 vy ba s2 ry h=>?_
 obtain⟨w,ph',e,k⟩:=run_lift h;exact hi ba (rx.mono s2) ry e fun ej H3 v c6 s3 r3=>k ej H3 v c6 ((s1.trans s2).trans s3) r3
theorem pY{op:afl}(ho:bt X (adb op) r)(hi:cU X.K r f)(ha:IE X a ma)(hb:IE X b mb):IE X (.BinOp a op b pos) (ae f ma mb):=
 PE.imp (Xr ho ha hb) fun _ _ _ h=>tU hi h
theorem XI{op:UnaryOp}{r:V->Hp->VK->Prop}{f:W->Po W}(ho:vh X (unaryOp op) r)(hi:GA X.K r f)(ha:IE X a ma):IE X (.UnaryOp op a pos) (ix f ma):=by
 refine PE.imp (Xs ho ha) fun σ H Q h=>?_
 obtain⟨φ,ph,ws,hH,hS,h⟩:=h;refine tM.bind hH hS h fun x ph1 aB H1 vx aE s1 rx h=>?_
 obtain⟨w,ph',e,k⟩:=run_lift h;exact hi aE rx e fun ej H3 v c6 s3 r3=>k ej H3 v c6 (s1.trans s3) r3
theorem VE{op:CmpOp}(ho:bt X (abC op) r)(hi:cU X.K r f)(ha:IE X a ma)(hb:IE X b mb)(hm:acy op b=false):IE X (.Compare a [op] [b] pos) (ae f ma mb):=
 PE.imp (Tb ho ha hb hm) fun _ _ _ h=>tU hi h
noncomputable def eT(m:EM):TM:=fun σ=>aw (m σ) fun w=>lift (match w with
 | .bl b=>ret b
 | _=>d6)
theorem VF{op:CmpOp}(ho:bt X (abC op) r)(hi:cU X.K r f)(ha:IE X a ma)(hb:IE X b mb)(hm:acy op b=false):IT X (.Compare a [op] [b] pos) (eT (ae f ma mb)):=by
 refine PT.imp (Tc ho ha hb hm) fun σ H Q h=>?_
 obtain⟨φ,ph,ws,hH,hS,h⟩:=h;refine tU hi (tM.bind hH hS h fun x ph1 aB H1 vx aE s1 rx h=>?_);obtain⟨w,ph',e,k⟩:=run_lift h;split at e
 ·cases e;cases rx;exact⟨_,rfl,k aB H1 aE s1⟩
 ·cases e
end
noncomputable def lZ(g:Int->Int->Int):W->W->Po W:=fun x y=>match x,y with
 | .int i,.int j=>ret (.int (g i j))
 | _,_=>d6
noncomputable def nZ(c:Int->Int->Bool)(g:Int->Int->Int):W->W->Po W:=fun x y=>match x,y with
 | .int i,.int j=>if c i j=true then ret (.int (g i j)) else d6
 | _,_=>d6
noncomputable def n0(g:Int->Int->Bool):W->W->Po W:=fun x y=>match x,y with
 | .int i,.int j=>ret (.bl (g i j))
 | _,_=>d6
theorem XJ{g:Int->Int->Int}:cU K (ir fun i j=>.int (g i j)) (lZ g):=by
 intro φ ph H x y vx vy w ph' Q hH rx ry e k;unfold lZ at e;split at e
 ·cases e;cases rx;cases ry;exact⟨_,_,rfl,rfl,k φ H _ hH Step.refl (.int _)⟩
 ·cases e
theorem DI{C:Int->Int->Prop}{c:Int->Int->Bool}{g:Int->Int->Int}(hc:∀i j,c i j=true->C i j):cU K (rI C fun i j=>.int (g i j)) (nZ c g):=by
 intro φ ph H x y vx vy w ph' Q hH rx ry e k;unfold nZ at e;split at e
 ·split at e
  ·cases e;cases rx;cases ry;exact⟨_,_,rfl,rfl,hc _ _ (by assumption),k φ H _ hH Step.refl (.int _)⟩
  ·cases e
 ·cases e
theorem xM{g:Int->Int->Bool}:cU K (ir fun i j=>.bl (g i j)) (n0 g):=by
 intro φ ph H x y vx vy w ph' Q hH rx ry e k;unfold n0 at e;split at e
 ·cases e;cases rx;cases ry;exact⟨_,_,rfl,rfl,k φ H _ hH Step.refl (.bl _)⟩
 ·cases e
noncomputable def df(a b:TM):TM:=fun σ=>aw (a σ) fun c=>if c=true then b σ else aA false
noncomputable def dc(a b:TM):TM:=fun σ=>aw (a σ) fun c=>if c=true then aA true else b σ
noncomputable def c4(a:TM):TM:=fun σ=>aw (a σ) fun c=>aA (!c)
noncomputable def lR(a b:EM):EM:=fun σ=>aw (a σ) fun w=>match w with
 | .bl c=>if c=true then b σ else aA (.bl false)
 | _=>ee
noncomputable def vm(a b:EM):EM:=fun σ=>aw (a σ) fun w=>match w with
 | .bl c=>if c=true then aA (.bl true) else b σ
 | _=>ee
noncomputable def qm(a:EM):EM:=fun σ=>aw (a σ) fun w=>match w with
 | .bl c=>aA (.bl (!c))
 | _=>ee
noncomputable def i6(t:TM)(a b:EM):EM:=fun σ=>aw (t σ) fun c=>if c=true then a σ else b σ
section
variable{X:Cx}{a b c:Expr}{rest:List Expr}{ma mb mc:EM}{ta tb:TM}{pos:Pos}
theorem VG(ha:IT X a ta):IT X (.UnaryOp .Not a pos) (c4 ta):=by
 refine PT.imp (U3 ha) fun σ H Q h=>?_
 obtain⟨φ,ph,ws,hH,hS,h⟩:=h;exact tT.bind hH hS h fun x ph1 aB H1 aE s1 h=>h aB H1 aE s1
variable{H:Hp}
theorem and_imp{σ:L2.St}{Q:Bool->Hp->Prop}(h:tT X (df ta tb) σ H Q):qd (tT X ta) (tT X tb) σ H Q:=by
 obtain⟨φ,ph,ws,hH,hS,h⟩:=h;refine tT.bind hH hS h fun x ph1 aB H1 aE s1 h=>?_
 cases x with
 | true=>exact jz ⟨aB,ph1,ws,aE,hS.mono s1,h.mono (fun _ _ k aV H2 ba s2=>k aV H2 ba (s1.trans s2)) fun _ _ z=>z⟩
 | false=>exact jy (h aB H1 aE s1)
theorem or_imp{σ:L2.St}{Q:Bool->Hp->Prop}(h:tT X (dc ta tb) σ H Q):Gf (tT X ta) (tT X tb) σ H Q:=by
 obtain⟨φ,ph,ws,hH,hS,h⟩:=h;refine tT.bind hH hS h fun x ph1 aB H1 aE s1 h=>?_
 cases x with
 | false=>exact jy ⟨aB,ph1,ws,aE,hS.mono s1,h.mono (fun _ _ k aV H2 ba s2=>k aV H2 ba (s1.trans s2)) fun _ _ z=>z⟩
 | true=>exact jz (h aB H1 aE s1)
theorem VH{op:BoolOp}(ha:IT X a ta):PW X (.BoolOp op [a] pos) (tT X ta):=by
 cases op with
 | And=>exact S4 ha
 | Or=>exact U1 ha
theorem VI(ha:IT X a ta)(hb:PW X (.BoolOp .And (b::rest) pos) (tT X tb)):PW X (.BoolOp .And (a::b::rest) pos) (tT X (df ta tb)):=
 fun wh pins s σ H Q I h=>U2 ha hb wh pins s σ H Q I (and_imp h)
theorem XM(ha:IT X a ta)(hb:PW X (.BoolOp .Or (b::rest) pos) (tT X tb)):PW X (.BoolOp .Or (a::b::rest) pos) (tT X (dc ta tb)):=
 fun wh pins s σ H Q I h=>Xi ha hb wh pins s σ H Q I (or_imp h)
theorem VJ(ha:IE X a ma)(hb:IE X (.BoolOp .And (b::rest) pos) mb):IE X (.BoolOp .And (a::b::rest) pos) (lR ma mb):=by
 refine PE.imp (U5 ha hb) fun σ H Q h=>?_
 obtain⟨φ,ph,ws,hH,hS,h⟩:=h;refine tM.bind hH hS h fun x ph1 aB H1 vx aE s1 rx h=>?_
 cases rx with
 | bl c=>
  refine⟨c,rfl,?_⟩;cases c with
  | true=>exact jz ⟨aB,ph1,ws,aE,hS.mono s1,h.mono (fun _ _ k aV H2 v ba s2 r2=>k aV H2 v ba (s1.trans s2) r2) fun _ _ z=>z⟩
  | false=>exact jy (h aB H1 _ aE s1 (.bl false))
 | _=>exact h.elim
theorem XN(ha:IE X a ma)(hb:IE X (.BoolOp .Or (b::rest) pos) mb):IE X (.BoolOp .Or (a::b::rest) pos) (vm ma mb):=by
 refine PE.imp (Xl ha hb) fun σ H Q h=>?_
 obtain⟨φ,ph,ws,hH,hS,h⟩:=h;refine tM.bind hH hS h fun x ph1 aB H1 vx aE s1 rx h=>?_
 cases rx with
 | bl c=>
  refine⟨c,rfl,?_⟩;cases c with
  | false=>exact jy ⟨aB,ph1,ws,aE,hS.mono s1,h.mono (fun _ _ k aV H2 v ba s2 r2=>k aV H2 v ba (s1.trans s2) r2) fun _ _ z=>z⟩
  | true=>exact jz (h aB H1 _ aE s1 (.bl true))
 | _=>exact h.elim
theorem VL{op:BoolOp}(ha:IE X a ma):IE X (.BoolOp op [a] pos) ma:=U4 ha
theorem VM(ha:IE X a ma):IE X (.UnaryOp .Not a pos) (qm ma):=by
 refine PE.imp (U6 ha) fun σ H Q h=>?_
 obtain⟨φ,ph,ws,hH,hS,h⟩:=h;refine tM.bind hH hS h fun x ph1 aB H1 vx aE s1 rx h=>?_
 cases rx with
 | bl c=>exact⟨_,rfl,h aB H1 _ aE s1 (.bl _)⟩
 | _=>exact h.elim
theorem XO(hc:IT X c ta)(ha:IE X a ma)(hb:IE X b mb):IE X (.IfExp c a b pos) (i6 ta ma mb):=by
 refine PE.imp (RN hc ha hb) fun σ H Q h=>?_
 obtain⟨φ,ph,ws,hH,hS,h⟩:=h;refine tT.bind hH hS h fun x ph1 aB H1 aE s1 h=>?_
 cases x with
 | true=>exact jz ⟨aB,ph1,ws,aE,hS.mono s1,h.mono (fun _ _ k aV H2 v ba s2 r2=>k aV H2 v ba (s1.trans s2) r2) fun _ _ z=>z⟩
 | false=>exact jy ⟨aB,ph1,ws,aE,hS.mono s1,h.mono (fun _ _ k aV H2 v ba s2 r2=>k aV H2 v ba (s1.trans s2) r2) fun _ _ z=>z⟩
noncomputable def n6(w:W):Po Bool:=fun ph=>match w with
 | .aC=>some (false,ph)
 | .bl b=>some (b,ph)
 | .int i=>some (i != 0,ph)
 | .str y=>if y.length<=aaD then some ((y.length:Int) != 0,ph) else none
 | .tup ws=>some (!ws.isEmpty,ph)
 | .fl ws=>some (!ws.isEmpty,ph)
 | .ref i=>match ph[i]? with
  | some (.lst ws)=>some (!ws.isEmpty,ph)
  | _=>none
 | .exc .. =>none
 | .fn .. =>none
noncomputable def cb(m:EM):TM:=fun σ=>aw (m σ) fun w=>lift (n6 w)
theorem xN{K:aaj}{φ:Nat->Addr}{n:Nat}{ws:List W}{vs:List V}(r:aY K φ n H ws vs):(!vs.isEmpty)= !ws.isEmpty:=by cases r <;> rfl
theorem VN(ha:IE X a ma)(he:∀whole,isTrue a X.env whole=(do let v <- whole;standAt a.pos;adM [v] (truthy v)):=by intro _;rfl):IT X a (cb ma):=by
 refine PT.imp (RU ha he) fun σ H Q h=>?_
 obtain⟨φ,ph,ws,hH,hS,h⟩:=h;refine tM.bind hH hS h fun x ph1 aB H1 vx aE s1 rx h=>?_
 obtain⟨b,ph2,e,k⟩:=run_lift h;unfold n6 at e;cases rx with
 | aC=>cases e;exact⟨_,rfl,k aB H1 aE s1⟩
 | bl b=>cases e;exact⟨_,rfl,k aB H1 aE s1⟩
 | int i=>cases e;exact⟨_,rfl,k aB H1 aE s1⟩
 | str y=>
  simp only at e;split at e
  ·rename_i hy;cases e;exact⟨_,⟨hy,rfl⟩,k aB H1 aE s1⟩
  ·cases e
 | tup hq r=>cases e;exact⟨_,.inr (.inl ⟨_,bZ.of hq,rfl⟩),by rw[xN r];exact k aB H1 aE s1⟩
 | fl hq r=>cases e;exact⟨_,.inl ⟨_,hq.sq,rfl⟩,by rw[xN r];exact k aB H1 aE s1⟩
 | ref hi=>
  simp only at e;split at e
  ·rename_i cM hw;cases e;obtain⟨vs,hv,r⟩:=aE.hp _ _ hw;exact⟨_,.inl ⟨vs,bD.of hv,rfl⟩,by rw[xN r];exact k aB H1 aE s1⟩
  ·cases e
 | exc=>cases e
 | fn=>cases e
end
noncomputable def bA:SM:=fun σ=>aA (.nx σ)
noncomputable def aF(a b:SM):SM:=fun σ=>aw (a σ) fun f=>match f with
 | .nx ao=>b ao
 | f=>aA f
noncomputable def cu(e:EM):SM:=fun σ=>aw (e σ) fun _=>aA (.nx σ)
noncomputable def a8(e:EM):SM:=fun σ=>aw (e σ) fun w=>aA (.rt w)
noncomputable def aT(t:TM)(a b:SM):SM:=fun σ=>aw (t σ) fun c=>if c=true then a σ else b σ
abbrev GM:=W->aP->Mo aP
noncomputable def gN(i:Nat):GM:=fun w σ=>aA (σ.set i (some w))
noncomputable def aK(e:EM)(g:GM):SM:=fun σ=>aw (e σ) fun w=>aw (g w σ) fun ao=>aA (.nx ao)
noncomputable def tG(X:Cx)(g:GM):TG:=fun v σ H Q=>∃φ ph ws w,aG X.K φ ph H/\aW X.K φ ph.length H ws σ/\aH X.K φ ph.length H w v/\(g w ws ph).Run (fun cM ph'=>
 ∀au H' ao,aG X.K au ph' H'->Step X.K φ ph.length H au ph'.length H'->aW X.K au ph'.length H' cM ao->Q ao H') (XE X φ ph.length H)
abbrev IG(X:Cx)(tg:Expr)(g:GM):Prop:=PG X tg (tG X g)
section
variable{X:Cx}{e c:Expr}{m:EM}{t:TM}{a b:SM}{st:Stmt}{as bs rest:List Stmt}{pos:Pos}{tg:Expr}{g:GM}
theorem PG.imp{t t':TG}(h:PG X tg t)(k:∀v σ H Q,t' v σ H Q->t v σ H Q):PG X tg t':=fun pins s σ H v u Q I r q=>h pins s σ H v u Q I r (k v σ H Q q)
theorem Ts:eM X [] bA:=fh.imp S5 fun D σ H h=>by
 obtain⟨φ,ph,ws,hH,hS,h⟩:=h;exact h φ H hH Step.refl σ hS
variable{σ:L2.St}{H:Hp}
theorem Tt{D:Ends}(h:tS X (aF a b) D σ H):Fs (tS X a) (tS X b) D σ H:=by
 obtain⟨φ,ph,ws,hH,hS,h⟩:=h;unfold aF at h;rw[cE] at h;refine⟨φ,ph,ws,hH,hS,h.mono (fun f ph1 h aB H1 aE s1=>?_) fun _ _ z=>z⟩;cases f with
 | nx kN=>exact fun σ1 l0=>⟨aB,ph1,kN,aE,l0,h.mono (fun f ph2 k aV H2 ba s2=>k aV H2 ba (s1.trans s2)) fun _ _ z=>z.step s1⟩
 | bk kN=>exact h aB H1 aE s1
 | ct kN=>exact h aB H1 aE s1
 | rt w=>exact h aB H1 aE s1
theorem R6(h1:IS X st a)(h2:eM X rest b):eM X (st::rest) (aF a b):=fh.imp (RP h1 h2) fun _ _ _ h=>Tt h
theorem Tu(h1:IS X st a):eM X [st] a:=S6 h1
theorem Tv(he:IE X e m)(hs:acR e none pos.line X.env=pure false:=by rfl):IS X (.Expr e pos) (cu m):=PS.imp (S7 he hs) fun D σ H h=>by
 obtain⟨φ,ph,ws,hH,hS,h⟩:=h;exact tM.bind hH hS h fun w ph1 aB H1 v aE s1 r1 h=>h aB H1 aE s1 σ (hS.mono s1)
theorem VO(he:IE X e m):IS X (.Return (some e) pos) (a8 m):=PS.imp (U7 he) fun D σ H h=>by
 obtain⟨φ,ph,ws,hH,hS,h⟩:=h;exact tM.bind hH hS h fun w ph1 aB H1 v aE s1 r1 h=>h aB H1 aE s1 v r1
theorem XQ(hc:IT X c t)(ha:eM X as a)(hb:eM X bs b):IS X (.If c as bs pos) (aT t a b):=PS.imp (Xo hc ha hb) fun D σ H h=>by
 obtain⟨φ,ph,ws,hH,hS,h⟩:=h;refine tT.bind hH hS h fun x ph1 aB H1 aE s1 h=>?_
 cases x with
 | true=>exact jz ⟨aB,ph1,ws,aE,hS.mono s1,h.mono (fun _ _ k aV H2 ba s2=>k aV H2 ba (s1.trans s2)) fun _ _ z=>z⟩
 | false=>exact jy ⟨aB,ph1,ws,aE,hS.mono s1,h.mono (fun _ _ k aV H2 ba s2=>k aV H2 ba (s1.trans s2)) fun _ _ z=>z⟩
theorem Tw{i:Nat}{x:Str}(hN:X.N.Nodup)(hi:X.N[i]? =some x)(hx:Loc X.env.scope x)(hf:(X.fn x=true\/X.env.scope.names.lookup x=some .local)/\gJ X x):IG X (.Name x pos) (gN i):=
 PG.imp (S8 hN hi hx hf) fun v σ H Q h=>by
  obtain⟨φ,ph,ws,w,hH,hS,ed,h⟩:=h;exact h φ H _ hH Step.refl (hS.set ed i)
theorem tG.bind{β:Type}{g:GM}{Q:L2.St->Hp->Prop}{φ:Nat->Addr}{ph:PH}{ws:aP}{w:W}{v:V}{f:aP->Mo β}{N:β->PH->Prop}(hH:aG X.K φ ph H)(hS:aW X.K φ ph.length H ws σ)(ed:aH X.K φ ph.length H w v)(h:(aw (g w ws) f ph).Run N (XE X φ ph.length H))
  (k:∀kN ph1 aB H1 σ1,aG X.K aB ph1 H1->Step X.K φ ph.length H aB ph1.length H1->aW X.K aB ph1.length H1 kN σ1->(f kN ph1).Run N (XE X aB ph1.length H1)->Q σ1 H1):tG X g v σ H Q:=by
 rw[cE] at h;exact⟨φ,ph,ws,w,hH,hS,ed,h.mono (fun kN ph1 h1 aB H1 σ1 aE s1 r1=>k kN ph1 aB H1 σ1 aE s1 r1 (h1.mono (fun _ _ z=>z) fun _ _ z=>z.step s1)) fun _ _ z=>z⟩
theorem Tz{D:Ends}(h:tS X (aK m g) D σ H):uG (tM X m) (tG X g) D σ H:=by
 obtain⟨φ,ph,ws,hH,hS,h⟩:=h;refine tM.bind hH hS h fun w ph1 aB H1 v aE s1 r1 h=>?_
 exact tG.bind aE (hS.mono s1) r1 h fun eh ph2 aV H2 cq ba s2 i7 h=>h aV H2 ba (s1.trans s2) cq i7
theorem VP{i:Nat}{x:Str}{pos':Pos}(hN:X.N.Nodup)(hi:X.N[i]? =some x)(hx:Loc X.env.scope x)(he:IE X e m)(hs:acR e (some (.Name x pos')) pos.line X.env=pure false:=by rfl)
  (hf:(X.fn x=true\/X.env.scope.names.lookup x=some .local)/\gJ X x):IS X (.Assign [.Name x pos'] e pos) (aK m (gN i)):=
 PS.imp (U9 hN hi hx he hs hf) fun D σ H h=>by
  obtain⟨φ,ph,ws,hH,hS,h⟩:=h;exact tM.bind hH hS h fun w ph1 aB H1 v aE s1 r1 h=>h aB H1 aE s1 _ ((hS.mono s1).set r1 i)
theorem VQ(he:IE X e m)(hg:IG X tg g)(hs:swapsWithSole [tg] e pos.line X.env=pure false:=by rfl)(hw:swappedStores [tg] e X.env=pure none:=by rfl)
  (h1:(assignEach [tg] X.env).map (·.2)=[afA tg X.env]:=by rfl):IS X (.Assign [tg] e pos) (aK m g):=PS.imp (U8 he hg hs hw h1) fun _ _ _ h=>Tz h
end
abbrev IM:=aP->Mo (List W×(PH->Bool))
noncomputable def dB(chk:PH->Bool)(g:GM)(b:SM):List W->SM
 | [],σ=>fun ph=>if chk ph=true then .ok (.nx σ) ph else .no
 | x::xs,σ=>fun ph=>if chk ph=true then aw (g x σ) (fun σ1=>aw (b σ1) fun f=>match f with
   | .nx ao=>dB chk g b xs ao
   | .ct ao=>dB chk g b xs ao
   | .bk ao=>aA (.nx ao)
   | .rt w=>aA (.rt w)) ph else .no
noncomputable def ie(im:IM)(g:GM)(b:SM):SM:=fun σ=>aw (im σ) fun r=>dB r.2 g b r.1 σ
noncomputable def zt(K:aaj)(J:It)(items:List W)(chk:PH->Bool)(φ:Nat->Addr)(n:Nat)(H:Hp):Prop:=
 ∀au ph' H',aG K au ph' H'->Step K φ n H au ph'.length H'->chk ph'=true->∀i:Nat,
  (∀w,items[i]? =some w->J.go i H'/\∀x gR,J.qE i H' x gR->aG K au ph' gR/\Step K au ph'.length H' au ph'.length gR/\aH K au ph'.length gR w x)/\(items[i]? =none->J.stop i H')
noncomputable def tI(X:Cx)(im:IM):TI:=fun σ H R=>∃φ ph ws,aG X.K φ ph H/\aW X.K φ ph.length H ws σ/\(im ws ph).Run (fun r ph'=>
 ∀au H' J,aG X.K au ph' H'->Step X.K φ ph.length H au ph'.length H'->zt X.K J r.1 r.2 au ph'.length H'->R J H') (XE X φ ph.length H)
abbrev II(X:Cx)(tg iter:Expr)(im:IM):Prop:=PI X tg iter (tI X im)
section
variable{X:Cx}{iter tg c:Expr}{im:IM}{g:GM}{b:SM}{t:TM}{body:List Stmt}{pos:Pos}
variable{H:Hp}
theorem TB{D:Ends}{σ:L2.St}(h:tS X (ie im g b) D σ H):Ft (tI X im) (tG X g) (tS X b) D σ H:=by
 obtain⟨φ,ph,ws,hH,hS,h⟩:=h;unfold ie at h;rw[cE] at h;refine⟨φ,ph,ws,hH,hS,h.mono (fun r ph1 h aB H1 J aE s1 hJ=>?_) fun _ _ z=>z⟩;obtain⟨items,chk⟩:=r;refine⟨fun i m cq H2=>∃aV ph2 eh,m=(items.drop i).length/\aG X.K aV ph2 H2/\aW X.K aV ph2.length H2 eh cq/\Step X.K aB ph1.length H1 aV ph2.length H2 /\
   (dB chk g b (items.drop i) eh ph2).Run (fun f ph'=>∀au H',aG X.K au ph' H'->Step X.K aV ph2.length H2 au ph'.length H'->lQ X D au ph' H' f) (XE X aV ph2.length H2),
  ⟨_,aB,ph1,ws,rfl,aE,hS.mono s1,Step.refl,h.mono (fun f ph' k au H' r' s'=>k au H' r' (s1.trans s')) fun _ _ z=>z.step s1⟩,?_⟩
 rintro i m cq H2 ⟨aV,ph2,eh,rfl,ba,i7,s2,h2⟩;cases hd:items.drop i with
 | nil=>
  rw[hd] at h2;unfold dB at h2;split at h2
  ·rename_i hc;have hn:items[i]? =none:=by
    have:items.length<=i:=by simpa using hd
    simpa using this
   exact .inl ⟨(hJ aV _ H2 ba s2 hc i).2 hn,h2 aV H2 ba Step.refl cq i7⟩
  ·exact h2.elim
 | cons x xs=>
  rw[hd] at h2;unfold dB at h2;split at h2
  ·rename_i hc;have hx:items[i]? =some x:=by
    have:=congrArg (fun l=>l[0]?) hd
    simpa using this
   have l4:items.drop (i+1)=xs:=by
    have:=congrArg (fun l=>l.drop 1) hd
    simpa[List.drop_drop,afD] using this
   obtain⟨zu,hy⟩:=(hJ aV _ H2 ba s2 hc i).1 x hx;refine .inr ⟨zu,fun ao H'=>∃au fN cM,aG X.K au fN H'/\aW X.K au fN.length H' cM ao/\Step X.K aB ph1.length H1 au fN.length H' /\
     (dB chk g b xs cM fN).Run (fun f p'=>∀ej H3,aG X.K ej p' H3->Step X.K au fN.length H' ej p'.length H3->lQ X D ej p' H3 f) (XE X au fN.length H'),
    fun ao H' ⟨au,fN,cM,q1,q2,q3,q4⟩=>⟨xs.length,by simp,au,fN,cM,by rw[l4],q1,q2,q3,by rw[l4];exact q4⟩,fun v H3 y=>?_⟩
   obtain⟨c6,s3,rv⟩:=hy v H3 y;have ZI:(aw (g x eh) (fun σ1=>aw (b σ1) fun f=>match f with
    | .nx ao=>dB chk g b xs ao
    | .ct ao=>dB chk g b xs ao
    | .bk ao=>aA (.nx ao)
    | .rt w=>aA (.rt w)) ph2).Run (fun f ph'=>∀au H',aG X.K au ph' H'->Step X.K aV ph2.length H2 au ph'.length H'->lQ X D au ph' H' f) (XE X aV ph2.length H3):=Out.Run.mono h2 (fun _ _ z=>z) fun _ _ z=>z.step s3
   refine tG.bind c6 (i7.mono s3) rv ZI fun ZJ kO oP H4 ja zv s4 ZK h4=>?_
   rw[cE] at h4;refine⟨oP,kO,ZJ,zv,ZK,h4.mono (fun f l5 h5 gv H5 gq s5=>?_) fun _ _ z=>z⟩;have qo:=((s2.trans s3).trans s4).trans s5;have jO:=(s3.trans s4).trans s5;cases f with
   | nx eN=>exact fun dq eO=>⟨gv,l5,eN,gq,eO,qo,h5.mono (fun f p' k au H' r' s'=>k au H' r' (jO.trans s')) fun _ _ z=>z.step s5⟩
   | ct eN=>exact fun dq eO=>⟨gv,l5,eN,gq,eO,qo,h5.mono (fun f p' k au H' r' s'=>k au H' r' (jO.trans s')) fun _ _ z=>z.step s5⟩
   | bk eN=>exact fun dq eO=>h5 gv H5 gq jO dq eO
   | rt w=>exact fun v hv=>h5 gv H5 gq jO v hv
  ·exact h2.elim
theorem PI.imp{t t':TI}(h:PI X tg iter t)(k:∀σ H R,t' σ H R->t σ H R):PI X tg iter t':=fun pins s σ H R I q=>h pins s σ H R I (k σ H R q)
theorem VR(hp:aeD (model X.prog X.w) X.A X.env X.xe)(hc:X.calm=true)(hi:II X tg iter im)(hg:IG X tg g)(hb:eM X body b)(hs:∀x,abv iter X.env x=pure x:=by intro _;rfl) :
  IS X (.For tg iter body [] pos) (ie im g b):=PS.imp (Vb hp hc hi hg hb hs) fun _ _ _ h=>TB h
noncomputable def qp(w:W):Po (List W×(PH->Bool)):=fun ph=>match w with
 | .ref i=>match ph[i]? with
  | some (.lst ws)=>some ((ws,fun ph'=>decide (ph'[i]? =some (.lst ws))),ph)
  | _=>none
 | .fl ws=>some ((ws,fun _=>true),ph)
 | _=>none
noncomputable def tupI(w:W):Po (List W×(PH->Bool)):=fun ph=>match w with
 | .tup ws=>some ((ws,fun _=>true),ph)
 | _=>none
noncomputable def uN(m:EM):IM:=fun σ=>aw (m σ) fun w=>lift (qp w)
noncomputable def yh(m:EM):IM:=fun σ=>aw (m σ) fun w=>lift (tupI w)
theorem TC{l:Expr}{m:EM}(hl:IE X l m):II X tg l (uN m):=by
 refine PI.imp (S9 hl) fun σ H R h=>?_
 obtain⟨φ,ph,ws,hH,hS,h⟩:=h;refine tM.bind hH hS h fun w ph1 aB H1 v aE s1 r1 h=>?_
 obtain⟨r,ph',e,k⟩:=run_lift h;unfold qp at e;cases r1 with
 | ref hi=>
  rename_i i;simp only at e;split at e
  ·rename_i items hw;cases e;obtain⟨vs,hv,r⟩:=aE.hp _ _ hw;refine⟨_,rfl,⟨vs,bD.of hv⟩,k aB H1 _ aE s1 ?_⟩;intro aV ph2 H2 ba s2 hc j;have vd:ph2[i]? =some (.lst items):=of_decide_eq_true hc;obtain⟨us,hu,ru⟩:=ba.hp _ _ vd;rw[s2.eq i hi] at hu;refine⟨fun w fT=>?_,fun hn=>?_⟩
   ·obtain⟨u,eu,qL⟩:=ru.get fT;refine⟨⟨us,u,bD.of hu,eu⟩,fun x gR hy=>?_⟩;obtain⟨rfl,hy⟩:=hy;have:=hy us (bD.of hu);rw[eu] at this;cases this;exact⟨ba,Step.refl,qL⟩
   ·refine⟨us,bD.of hu,?_⟩;rw[<- ru.length]
    simpa using hn
  ·cases e
 | fl hq r=>
  cases e;refine⟨_,rfl,⟨_,hq.sq⟩,k aB H1 _ aE s1 ?_⟩;intro aV ph2 H2 ba s2 hc j;have h2:=aH.mono s2 (.fl hq r);cases h2 with
  | fl h2 r2=>
   refine⟨fun w fT=>?_,fun hn=>?_⟩
   ·obtain⟨u,eu,qL⟩:=r2.get fT;refine⟨⟨_,u,h2.sq,eu⟩,fun x gR hy=>?_⟩;obtain⟨rfl,hy⟩:=hy;have:=hy _ h2.sq;rw[eu] at this;cases this;exact⟨ba,Step.refl,qL⟩
   ·refine⟨_,h2.sq,?_⟩;rw[<- r2.length]
    simpa using hn
 | _=>cases e
theorem VS{l:Expr}{m:EM}(hl:IE X l m):II X tg l (yh m):=by
 refine PI.imp (Va hl) fun σ H R h=>?_
 obtain⟨φ,ph,ws,hH,hS,h⟩:=h;refine tM.bind hH hS h fun w ph1 aB H1 v aE s1 r1 h=>?_
 obtain⟨r,ph',e,k⟩:=run_lift h;unfold tupI at e;cases r1 with
 | tup hq r=>
  cases e;refine⟨_,rfl,⟨_,bZ.of hq⟩,k aB H1 _ aE s1 ?_⟩;intro aV ph2 H2 ba s2 hc j;have h2:=bZ.of (K:=X.K) (s2.tup _ _ hq);have r2:=r.mono s2;refine⟨fun w fT=>?_,fun hn=>?_⟩
  ·obtain⟨u,eu,qL⟩:=r2.get fT;refine⟨⟨_,u,h2,eu⟩,fun x gR hy=>?_⟩;obtain⟨rfl,hy⟩:=hy;have:=hy _ h2;rw[eu] at this;cases this;exact⟨ba,Step.refl,qL⟩
  ·refine⟨_,h2,?_⟩;rw[<- r2.length]
   simpa using hn
 | _=>cases e
noncomputable def eJ(lo:Int)(n:Nat):List W:=(abX n).map fun i:Nat=>.int (lo+((i:Nat):Int))
noncomputable def yP(xs:List W):Po (List W×(PH->Bool)):=fun ph=>match xs with
 | [.int j]=>if -(2 ^ 62)<=j/\j<2 ^ 62 then some ((eJ 0 j.toNat,fun _=>true),ph) else none
 | _=>none
noncomputable def eP(m:AM):IM:=fun σ=>aw (m σ) fun xs=>lift (yP xs)
theorem VT{K:aaj}{lo:Int}{n:Nat}{chk:PH->Bool}{φ:Nat->Addr}{k:Nat}:zt K (vf lo n) (eJ lo n) chk φ k H:=by
 intro aV ph2 H2 ba s2 hc j;unfold eJ;refine⟨fun w fT=>?_,fun hn=>?_⟩
 ·rw[aaN] at fT;have hj:j<n:=by
   by_cases hj:j<n
   ·exact hj
   ·rw[acj (by simpa using hj)] at fT;cases fT
  rw[afg hj] at fT;cases fT;refine⟨hj,fun x gR hy=>?_⟩;obtain⟨rfl,rfl⟩:=hy;exact⟨ba,Step.refl,.int _⟩
 ·have:n<=j:=by simpa using hn
  exact this
theorem QH{a:Expr}{m:AM}{p:Pos}(hg:Gl X "range")(hm:X.mg "range"=none)(ha:IA X [a] m)(hs:aaY [a] X.env=[(false,eval a X.env)]:=by rfl):II X tg (.Call (.Name "range" p) [a] [] pos) (eP m):=by
 refine PI.imp (Qx hg hm ha hs) fun σ H R h=>?_
 obtain⟨φ,ph,ws,hH,hS,h⟩:=h;refine tA.bind hH hS h fun xs ph1 aB H1 vs aE s1 r1 h=>?_
 obtain⟨r,ph',e,k⟩:=run_lift h;unfold yP at e;split at e
 ·split at e
  ·rename_i hc;cases e;cases r1 with
   | cons r r'=>cases r;cases r';exact⟨_,rfl,hc.1,hc.2,k aB H1 _ aE s1 VT⟩
  ·cases e
 ·cases e
noncomputable def cY(t:TM)(b:SM):Nat->SM
 | 0=>fun _=>ee
 | n+1=>fun σ=>aw (t σ) fun c=>if c=true then aw (b σ) fun f=>match f with
   | .nx ao=>cY t b n ao
   | .ct ao=>cY t b n ao
   | .bk ao=>aA (.nx ao)
   | .rt w=>aA (.rt w)
  else aA (.nx σ)
noncomputable def Out.n8{α:Type}:Out α->Bool
 | .no=>true
 | _=>false
open Classical in
noncomputable def fG(t:TM)(b:SM):SM:=fun σ ph=>if h:∃n,(cY t b n σ ph).n8=false then cY t b h.choose σ ph else .no
theorem QI{D:Ends}{σ:L2.St}(h:tS X (fG t b) D σ H):DF (tT X t) (tS X b) D σ H:=by
 obtain⟨φ,ph,ws,hH,hS,h⟩:=h;have⟨n,h⟩:∃n,(cY t b n ws ph).Run (fun f ph'=>∀au H',aG X.K au ph' H'->Step X.K φ ph.length H au ph'.length H'->lQ X D au ph' H' f) (XE X φ ph.length H):=by
  unfold fG at h;split at h
  ·exact⟨_,h⟩
  ·exact h.elim
 refine⟨fun m cq H2=>∃aV ph2 eh,aG X.K aV ph2 H2/\aW X.K aV ph2.length H2 eh cq /\
  (cY t b m eh ph2).Run (fun f ph'=>∀au H',aG X.K au ph' H'->Step X.K aV ph2.length H2 au ph'.length H'->lQ X D au ph' H' f) (XE X aV ph2.length H2),⟨n,φ,ph,ws,hH,hS,h⟩,?_⟩
 rintro m cq H2 ⟨aV,ph2,eh,ba,i7,h2⟩;cases m with
 | zero=>exact h2.elim
 | succ m=>
  refine tT.bind ba i7 h2 fun c dW ej H3 c6 s3 h3=>?_
  cases c with
  | false=>exact jy (h3 ej H3 c6 s3 cq (i7.mono s3))
  | true=>
   have GB:(aw (b eh) (fun f=>match f with
    | .nx ao=>cY t b m ao
    | .ct ao=>cY t b m ao
    | .bk ao=>aA (.nx ao)
    | .rt w=>aA (.rt w)) dW).Run _ _:=h3
   rw[cE] at GB;refine jz ⟨fun ao H'=>∃au fN cM,aG X.K au fN H'/\aW X.K au fN.length H' cM ao /\
    (cY t b m cM fN).Run (fun f p'=>∀oP H4,aG X.K oP p' H4->Step X.K au fN.length H' oP p'.length H4->lQ X D oP p' H4 f) (XE X au fN.length H'),fun ao H' q=>⟨m,abD _,q⟩,?_⟩
   refine⟨ej,dW,eh,c6,i7.mono s3,GB.mono (fun f l5 h5 gv H5 gq s5=>?_) fun _ _ z=>z⟩;have jO:=s3.trans s5;cases f with
   | nx eN=>exact fun dq eO=>⟨gv,l5,eN,gq,eO,h5.mono (fun f p' k au H' r' s'=>k au H' r' (jO.trans s')) fun _ _ z=>z.step s5⟩
   | ct eN=>exact fun dq eO=>⟨gv,l5,eN,gq,eO,h5.mono (fun f p' k au H' r' s'=>k au H' r' (jO.trans s')) fun _ _ z=>z.step s5⟩
   | bk eN=>exact fun dq eO=>h5 gv H5 gq jO dq eO
   | rt w=>exact fun v hv=>h5 gv H5 gq jO v hv
theorem R7(hp:aeD (model X.prog X.w) X.A X.env X.xe)(hc:IT X c t)(hb:eM X body b):IS X (.While c body [] pos) (fG t b):=
 PS.imp (RQ hp hc hb) fun _ _ _ h=>QI h
end
noncomputable def ai:AM:=fun _=>aA []
noncomputable def af(e:EM)(r:AM):AM:=fun σ=>aw (e σ) fun w=>aw (r σ) fun ws=>aA (w::ws)
noncomputable def jA(ws:List W):Po W:=fun ph=>if ws.length<=aaD then some (.tup ws,ph) else none
noncomputable def qr(ws:List W):Po W:=fun ph=>if ws.length<=aaD then some (.ref ph.length,ph++[.lst ws]) else none
noncomputable def a9(a:AM):EM:=fun σ=>aw (a σ) fun ws=>lift (jA ws)
noncomputable def bg(a:AM):EM:=fun σ=>aw (a σ) fun ws=>lift (qr ws)
section
variable{X:Cx}{e:Expr}{es:List Expr}{m:EM}{a:AM}{pos:Pos}
theorem VU:IA X [] ai:=PA.imp xG fun σ H Q h=>by
 obtain⟨φ,ph,ws,hH,hS,h⟩:=h;exact h φ H [] hH Step.refl .nil
theorem TF(he:IE X e m)(hr:IA X es a)(hs:aaY (e::es) X.env=(false,eval e X.env)::aaY es X.env:=by rfl):IA X (e::es) (af m a):=PA.imp (pH he hr hs) fun σ H Q h=>by
 obtain⟨φ,ph,ws,hH,hS,h⟩:=h;refine tM.bind hH hS h fun w ph1 aB H1 v aE s1 r1 h=>tA.bind aE (hS.mono s1) h fun ys ph2 aV H2 vs ba s2 r2 h=>?_
 exact h aV H2 _ ba (s1.trans s2) (.cons (r1.mono s2) r2)
theorem VV{x1:Nat}(h:IA X es a):IE X (.Tuple es x1 pos) (a9 a):=PE.imp (Vm h) fun σ H Q h=>by
 obtain⟨φ,ph,ws,hH,hS,h⟩:=h;refine tA.bind hH hS h fun xs ph1 aB H1 vs aE s1 r1 h=>?_
 obtain⟨w,ph',e,k⟩:=run_lift h;unfold jA at e;split at e
 ·rename_i hz;cases e;refine⟨by rw[<- r1.length];exact hz,fun p hp=>?_⟩;exact k aB _ _ (aE.tup hp) (s1.trans (jh hp)) (.tup bW (r1.mono (jh hp)))
 ·cases e
theorem j9{K:aaj}{φ:Nat->Addr}{ph:PH}{H:Hp}{p:Addr}{ws:List W}{vs:List V}(hH:aG K φ ph H)(r:aY K φ ph.length H ws vs)(hp:H p=none) :
  aG K (ext φ ph.length p) (ph++[.lst ws]) (upd H p (.lst vs))/\Step K φ ph.length H (ext φ ph.length p) (ph++[PO.lst ws]).length (upd H p (.lst vs))/\aH K (ext φ ph.length p) (ph++[PO.lst ws]).length (upd H p (.lst vs)) (.ref ph.length) (.ref p):=by
 have hl:(ph++[PO.lst ws]).length=ph.length+1:=by simp
 rw[hl];have s:=pC (K:=K) (φ:=φ) (n:=ph.length) (o:=HO.lst vs) hp;refine⟨hH.new hp ⟨vs,bW,r.mono s⟩,s,?_⟩;have q:aH K (ext φ ph.length p) (ph.length+1) (upd H p (.lst vs)) (.ref ph.length) (.ref (ext φ ph.length p ph.length)):=.ref (abD _);rw[jk] at q;exact q
theorem VW(h:IA X es a):IE X (.List es pos) (bg a):=PE.imp (Vn h) fun σ H Q h=>by
 obtain⟨φ,ph,ws,hH,hS,h⟩:=h;refine tA.bind hH hS h fun xs ph1 aB H1 vs aE s1 r1 h=>?_
 obtain⟨w,ph',e,k⟩:=run_lift h;unfold qr at e;split at e
 ·rename_i hz;cases e;refine⟨by rw[<- r1.length];exact hz,fun p hp=>?_⟩;obtain⟨q1,q2,q3⟩:=j9 aE r1 hp;exact k _ _ _ q1 (s1.trans q2) q3
 ·cases e
end
noncomputable def aO(f:List W->Mo W)(a:AM):EM:=fun σ=>aw (a σ) f
noncomputable def dH:Fl->Mo W
 | .rt w=>aA w
 | .nx _=>aA .aC
 | _=>ee
noncomputable def fM(body:SM)(n np:Nat)(args:List W):Mo W:=if args.length=np then aw (body (args.map some++aap (n-args.length) none)) dH else ee
theorem bv{body:SM}{np:Nat}{xs:List W}(h:xs.length≠np):fM body n np xs ph=.no:=by
 unfold fM;rw[if_neg h];rfl
noncomputable def bL(P:abp)(w:World):jL:=fun l H s E e s'=>∃C H',Flew P w l H s C H' e s'/\E (.ref C) none H'
noncomputable def bV(K:aaj)(mg:Str->Option Value)(np:Nat)(f:List W->Mo W):Sp:=fun vs H Q E=>vs.length=np/\∃φ ph args,aG K φ ph H/\aY K φ ph.length H args vs/\(f args ph).Run (fun w ph'=>
 ∀au H' v,aG K au ph' H'->Step K φ ph.length H au ph'.length H'->aH K au ph'.length H' w v->Q v H') (fun x ph'=>
 ∀au H' C,aG K au ph' H'->Step K φ ph.length H au ph'.length H'->mg x.cls=some (.ref C)->x.fs=[]->E (.ref C) none H')
section
variable{X:Cx}{k:Nat}{f:Addr}{fd:aaZ}{ps:List Str}{fm:List W->Mo W}{x:Str}{p pos:Pos}{e:Expr}{es:List Expr}{a:AM}
theorem TH{CX:jL}{sp:Sp}{E:XK}{pins:List (Addr×Obj)}{σ:L2.St}{H:Hp}{s:aam}{Q:VK}{us:List Value}{vs:List V}(F:bO X.prog X.w X.K X.mg X.base CX k f fd ps sp)(hr:cL k X.A)(hb:Binds X.K fd ps [])
  (I:Inv X pins σ H s) (r:Vals vs us) (h:sp vs H Q E) (hx:∀e s',CX X.stack H s E e s'->X.xe e s'):wpAny (model X.prog X.w) X.A (call (.ref f) us) (EP X pins σ Q) X.xe s:=by
 have hl:(us++[]).length=ps.length:=by rw[acS,<- r.length];exact F.len _ _ _ _ h
 have vn:=hb s us I.dh hl;rw[acS] at vn;refine afq (aeH (F.run X.A X.stack s H ⟨us,[]⟩ us vs Q E hr I.Fy vn r h) fun r s' hq=>?_);cases r with
 | error e=>exact hx e s' hq
 | ok fl=>
  cases fl with
  | ret u=>exact I.after hq
  | _=>exact acH hq
theorem TJ(F:bO X.prog X.w X.K X.mg X.base (bL X.prog X.w) k f fd ps (bV X.K X.mg ps.length fm))(hl:∀{xs:List W} {ph:PH},xs.length≠ps.length->fm xs ph=.no)(hr:cL k X.A)(hg:Gl X x)(hm:X.mg x=some (.ref f))
  (hk:aaC X.K (.ref f)=true) (hb:Binds X.K fd ps []) (ha:IA X (e::es) a) (bT:(x==("__debug__":Str))=false:=by decide) (he:aaY (e::es) X.env=(false,eval e X.env)::aaY es X.env:=by rfl) (hpl:(ady pos (aaY es X.env)).any (·.1)=false:=by rfl) :
  IE X (.Call (.Name x p) (e::es) [] pos) (aO fm a):=by
 intro pins s σ H Q I h;obtain⟨φ,ph,ws,hH,hS,h⟩:=h;have hA:tA X a σ H (fun vs H1=>∃aB ph1 xs,aG X.K aB ph1 H1/\aY X.K aB ph1.length H1 xs vs/\(fm xs ph1).Run (fun w ph'=>∀au H' v,aG X.K au ph' H'->Step X.K aB ph1.length H1 au ph'.length H'->aH X.K au ph'.length H' w v->Q v H') (XE X aB ph1.length H1)):=
  tA.bind hH hS h fun xs ph1 aB H1 vs aE s1 r1 h=>⟨aB,ph1,xs,aE,r1,h.mono (fun w ph' k au H' v r' s' q=>k au H' v r' (s1.trans s') q) fun _ _ z=>z⟩
 refine adl (m7 I hg hm (afm (h₀:=X.base) I.ok.mod.d9 hk (aX (ha pos pins s σ H _ I hA) fun us s1 ⟨vs,H1,I1,r,q⟩=>⟨I1.dh,?_⟩) he hpl) bT);obtain⟨aB,ph1,xs,aE,r1,h1⟩:=q;have bH:vs.length=ps.length:=by
  rw[<- r1.length];by_cases z:xs.length=ps.length
  ·exact z
  ·rw[hl z] at h1;exact h1.elim
 refine TH (E:=fun c _ H'=>∃x ph' au,fm xs ph1=.ex x ph'/\aG X.K au ph' H'/\Step X.K aB ph1.length H1 au ph'.length H'/\∃C,c=.ref C/\X.mg x.cls=some (.ref C)/\x.fs=[]) F hr hb I1 r ⟨bH,aB,ph1,xs,aE,r1,?_⟩ fun e s' hx=>?_
 ·cases q:fm xs ph1 with
  | ok w ph'=>rw[q] at h1;exact h1
  | ex x ph'=>exact fun au H' C hr hs hm hf=>⟨x,ph',au,rfl,hr,hs,C,rfl,hm,hf⟩
  | no=>rw[q] at h1;exact h1
 ·obtain⟨C,H',gr,x,ph',au,ef,ZL,ZM,C',ec,zw,ZN⟩:=hx;cases ec;rw[ef] at h1;exact h1 au H' e s' ZL ZM ⟨C,zw,ZN,.inr ⟨pins,σ,H1,s1,I1,gr⟩⟩
end
section
variable{P:abp}{w:World}{K:aaj}{mg:Str->Option Value}{base:Heap}
variable{H':Hp}
theorem C0{h:Heap}{fr:List Addr}(aJ:cm P w H' h)(hf:∀b∈fr,H' b=none):cm P w H' (acP h fr):=fun a o e=>by
 refine(aJ a o e).jt (fun b u hb q=>abZ _ q fun hm=>?_) (fun _ q=>q) fun _ _ q=>q
 have:=hf b hm
 rcases hb with z | z
 ·rw[z,e] at this;cases this
 ·rw[z] at this;cases this
theorem wO{env:Env}{l:List Env}(hf:env.frame=some env.locals):cT (env::l)=env.locals::cT l:=by
 unfold cT;rw[adh,hf]
theorem Px{X:Cx}{C:Addr}{e:Value}{s':aam}{E:Value->aam->Prop}(eQ:X.stack=X.env::X.outer)(hf:X.env.frame=some X.env.locals)(hex:X.ex=[])(hm:Made X C H' e s') :
  wpAny (model X.prog X.w) X.A (leaving X.env e) (fun _ eL=>Flew X.prog X.w X.outer X.aU X.aM C H' e eL) E s':=by
 obtain⟨pins,σ,s,vs,h',a,rfl,rfl,I,hx⟩:=hm;have sf:=I.pG;have hl:=I.stack;rw[eQ] at sf hl;have zy:∀env∈X.env::X.outer,∀b,env.frame=some b->b∈cT (X.env::X.outer):=fun env he b hb=>acL.mpr ⟨env,he,hb⟩
 have gS:∀b:Addr,b∉X.ex:=fun b z=>by rw[hex] at z;exact nomatch z
 have out:∀b o,X.aM.heap.get? b=some o->b∉X.fs->b∉cT (X.env::X.outer):=fun b o e hb hm=>by
  rw[wO hf] at hm
  rcases abo.mp hm with z | z
  ·exact absurd (aav (aaG e) I.ok.above) (by rw[z];exact abQ _)
  ·exact hb z
 refine wpAny_leaves_madeW (base:=acP s.heap (cT (X.env::X.outer))) (h:=s.heap) (by rw[I.ok.frames,eQ]) hf (fun b o q=>adY _ q) (aey hl zy) hx fun zA t f1 f2 f3 f4=>?_
 refine⟨a,.ref t,_,rfl,I.os,I.bare,f1,C0 I.aJ sf,⟨fun b o e n hb=>abZ _ (I.base.keep b o e n hb (gS b)) (out b o e hb),fun b o e n hb=>?_,fun b o e n=>I.base.free b o e n (gS b),fun b o e hb=>?_,I.base.ff,I.base.dP,I.base.eG⟩⟩
 ·obtain⟨sl,e1⟩:=I.base.slot b o e n hb (gS b);obtain⟨_,o',ho,hd⟩:=I.ok.d5.mem hb;rw[e] at ho;cases ho;obtain⟨kK,e2⟩:=f4 b _ (hx.keeps b _ e1) hd;exact⟨kK,e2⟩
 ·obtain⟨o',e1⟩:=I.base.there b o e (gS b);exact⟨o',abZ _ e1 (out b o e hb)⟩
theorem Py{X:Cx}{C:Addr}{H0:Hp}{e:Value}{s s':aam}{pins:List (Addr×Obj)}{σ:L2.St}{E:Value->aam->Prop}(eQ:X.stack=X.env::X.outer)(hf:X.env.frame=some X.env.locals)(hex:X.ex=[])(I:Inv X pins σ H0 s)
  (hm:Flew X.prog X.w X.stack H0 s C H' e s'):wpAny (model X.prog X.w) X.A (leaving X.env e) (fun _ eL=>Flew X.prog X.w X.outer X.aU X.aM C H' e eL) E s':=by
 obtain⟨a,a0,B,rfl,ho,pZ,gr,aJ,u⟩:=hm;rw[eQ] at gr u;have gS:∀b:Addr,b∉X.ex:=fun b z=>by rw[hex] at z;exact nomatch z
 have out:∀b o,X.aM.heap.get? b=some o->b∉X.fs->b∉cT (X.env::X.outer):=fun b o e hb hm=>by
  rw[wO hf] at hm
  rcases abo.mp hm with z | z
  ·exact absurd (aav (aaG e) I.ok.above) (by rw[z];exact abQ _)
  ·exact hb z
 refine wpAny_leaves_onW (by rw[I.ok.frames,eQ]) hf gr fun zA f1 f4=>?_
 refine⟨a,a0,B,rfl,ho.trans I.os,pZ,f1,aJ,⟨fun b o e n hb=>u.keep b o (I.base.keep b o e n hb (gS b)) (I.base.free b o e n (gS b)) (out b o e hb),fun b o e n hb=>?_,fun b o e n=>?_,fun b o e hb=>?_,
  fun b xs e=>u.ff b xs (I.base.ff b xs e),fun b ob xs e=>u.dP b ob xs (I.base.dP b ob xs e),fun b ps e=>?_⟩⟩
 ·obtain⟨sl,e1⟩:=I.base.slot b o e n hb (gS b);obtain⟨_,o',dn,hd⟩:=I.ok.d5.mem hb;rw[e] at dn;cases dn;obtain⟨kK,e2⟩:=u.slot b _ e1 (I.base.free b o e n (gS b)) (by rw[wO hf];exact aaU _ hb);obtain⟨ZO,e3⟩:=f4 b _ e2 hd;exact⟨ZO,e3⟩
 ·obtain⟨o',e1⟩:=I.base.there b o e (gS b);exact u.free b o' e1 (I.base.free b o e n (gS b))
 ·obtain⟨o',e1⟩:=I.base.there b o e (gS b);exact u.there b o' e1 (out b o e hb)
 ·obtain⟨m1,e1⟩:=I.base.eG b ps e;obtain⟨m2,e2⟩:=u.eG b _ e1;exact⟨m1++m2,by rw[e2,afk]⟩
theorem VX{x qual:Str}{st:Stmt}{f:Addr}{fd:aaZ}{N ps:List Str}{k:Nat}{body:SM}(F:cz K x qual st f fd)(S:cC N ps (ag st))
  (pV:∀(cG:Value) (A:abT) (outer:List Env) (s:aam) (H:Hp) (E:XK),cL k (A.deeper (aeY qual (ag st) s.heap.objs.size f cG)) →
   eM (jx (bL P w) P w K mg base N qual (ag st) f cG A outer s H E) (bf st) body):bO P w K mg base (bL P w) (k+1) f fd ps (bV K mg ps.length (fM body N.length ps.length)):=by
 obtain⟨oc,od,kV,doc,pm,an,cG,ct,i5,rfl,lk,hcd⟩:=F.ex;refine Xz lk hcd S (fun vs H Q E h=>h.1) fun A outer s H vs Q E hr h=>?_
 obtain⟨hl,φ,ph,args,hH,ra,h⟩:=h;refine⟨_,pV cG A outer s H E hr,?_⟩;have GC:args.length=vs.length:=ra.length;unfold fM at h;rw[if_pos (GC.trans hl),cE,GC] at h;refine⟨φ,ph,_,hH,aW.start (N.length-vs.length) ra,h.mono (fun fl ph' h aB H1 aE s1=>?_) fun x ph' h au H' e s' r' dM th=>?_⟩
 ·cases fl with
  | rt w=>exact fun v rv=>h aB H1 v aE s1 rv
  | nx ao=>exact fun σ1 l0=>h aB H1 .aC aE s1 .aC
  | bk ao=>exact h.elim
  | ct ao=>exact h.elim
 ·obtain⟨C,hm,zB,th⟩:=th;have hE:=h au H' C r' dM hm zB;have key:wpAny (model P w) (A.deeper (aeY qual (ag st) s.heap.objs.size f cG)) (leaving (aeY qual (ag st) s.heap.objs.size f cG) e) (fun _ eL=>Flew P w outer H s C H' e eL) (fun e' eL=>bL P w outer H s E e' eL) s':=by
   rcases th with th | ⟨pins,σ,H0,s0,I0,th⟩
   ·exact Px (X:=jx (bL P w) P w K mg base N qual (ag st) f cG A outer s H E) rfl rfl rfl th
   ·exact Py (X:=jx (bL P w) P w K mg base N qual (ag st) f cG A outer s H E) rfl rfl rfl I0 th
  exact abB key (fun _ eL q=>⟨C,H',q,hE⟩) fun _ _ q=>q
end
theorem C1{K:aaj}{φ:Nat->Addr}{n:Nat}{H:Hp}:∀(ns:List Int),aY K φ n H (ns.map W.int) (ns.map V.int)
 | []=>.nil
 | n::ns=>.cons (.int n) (C1 ns)
theorem bt.or{f:Value->Value->Sem Value}{r r':R2}(h:bt X f r)(h':bt X f r'):bt X f (fun x y H Q=>r x y H Q\/r' x y H Q):=by
 intro pins s σ H x y v u Q I rx ry q
 rcases q with q | q
 ·exact h pins s σ H x y v u Q I rx ry q
 ·exact h' pins s σ H x y v u Q I rx ry q
noncomputable def cy(w:W)(ph:PH):Option (List W):=match w with
 | .tup ws=>some ws
 | .fl ws=>some ws
 | .ref i=>match ph[i]? with
  | some (.lst ws)=>some ws
  | _=>none
 | _=>none
variable{v:V}{ws:List W}
theorem wQ{w:W}(hH:aG K φ ph H)(r:aH K φ ph.length H w v)(e:cy w ph=some ws) :
  ∃a vs,v=.ref a/\(bD K H a vs\/bZ K H a vs)/\aY K φ ph.length H ws vs:=by
 unfold cy at e;cases r with
 | tup h r=>cases e;exact⟨_,_,rfl,.inr (bZ.of h),r⟩
 | fl h r=>cases e;exact⟨_,_,rfl,.inl h.sq,r⟩
 | ref hi=>
  simp only at e;split at e
  ·rename_i cM hw;cases e;obtain⟨vs,hv,r⟩:=hH.hp _ _ hw;exact⟨_,vs,rfl,.inl (bD.of hv),r⟩
  ·cases e
 | _=>cases e
theorem QJ{w:W}(hH:aG K φ ph H)(r:aH K φ ph.length H w v)(e:cy w ph=some ws) :
  ∃a vs,v=.ref a/\(bD K H a vs\/H a=some (.tup vs))/\aY K φ ph.length H ws vs:=by
 unfold cy at e;cases r with
 | tup h r=>cases e;exact⟨_,_,rfl,.inr h,r⟩
 | fl h r=>cases e;exact⟨_,_,rfl,.inl h.sq,r⟩
 | ref hi=>
  simp only at e;split at e
  ·rename_i cM hw;cases e;obtain⟨vs,hv,r⟩:=hH.hp _ _ hw;exact⟨_,vs,rfl,.inl (bD.of hv),r⟩
  ·cases e
 | _=>cases e
variable{vs:List V}
theorem C3{i:Int}{w:W}(r:aY K φ n H ws vs)(e:cH ws i=some w):∃v,cH vs i=some v/\aH K φ n H w v:=by
 unfold cH at e ⊢;rw[r.length] at e;cases q:gp vs.length i with
 | none=>rw[q] at e;cases e
 | some j=>
  rw[q] at e;exact r.get e
noncomputable def dD:W->W->Po W:=fun x y ph=>match y with
 | .int i=>match x with
  | .str z=>if z.length<=aaD then(cH z.cps.toList i).map fun c=>(.str ⟨#[c]⟩,ph) else none
  | x=>(cy x ph).bind fun ws=>(cH ws i).map fun w=>(w,ph)
 | _=>none
theorem XR : cU K (zj K) dD := by
  intro φ ph H x y vx vy w ph' Q hH rx ry e k;unfold dD at e;cases ry with
  | int i =>
    cases rx with
    | str z =>
      simp only at e;split at e
      · rename_i hz
        cases q : cH z.cps.toList i with
        | none => rw [q] at e; cases e
        | some c =>
          rw [q] at e;cases e;exact .inr (.inr ⟨z, i, c, rfl, rfl, hz, q, k φ H _ hH Step.refl (.str _)⟩)
      · cases e
    | _ =>
      all_goals
        first
          | (cases e; done)
          | (rename_i h r
             simp only [cy, Option.bind] at e;cases q : cH _ i with
             | none => rw [q] at e; cases e
             | some c =>
               rw [q] at e;cases e;obtain ⟨v, ev, rv⟩ := C3 r q
               first
                 | exact .inr (.inl ⟨_, _, i, v, rfl, rfl, bZ.of h, ev, k φ H _ hH Step.refl rv⟩)
                 | exact .inl ⟨_, _, i, v, rfl, rfl, h.sq, ev, k φ H _ hH Step.refl rv⟩)
          | (rename_i hi
             simp only [cy] at e;split at e
             · rename_i cM hw
               simp only [Option.bind] at e;cases q : cH cM i with
               | none => rw [q] at e; cases e
               | some c =>
                 rw [q] at e;cases e;obtain ⟨vs, hv, r⟩ := hH.hp _ _ hw;obtain ⟨v, ev, rv⟩ := C3 r q;exact .inl ⟨_, _, i, v, rfl, rfl, bD.of hv, ev, k φ H _ hH Step.refl rv⟩
             · cases e)
  | _ => cases e
noncomputable def gk(K:aaj)(r:List V->Hp->VK->Prop)(f:List W->Po W):Prop:=∀{φ:Nat->Addr} {ph:PH} {H:Hp} {xs:List W} {vs:List V} {w:W} {ph':PH} {Q:VK},aG K φ ph H->aY K φ ph.length H xs vs->f xs ph=some (w,ph') →
 (∀au H' v,aG K au ph' H'->Step K φ ph.length H au ph'.length H'->aH K au ph'.length H' w v->Q v H')->r vs H Q
noncomputable def bS(f:List W->Po W)(a:AM):EM:=fun σ=>aw (a σ) fun xs=>lift (f xs)
section
variable{X:Cx}{x:Str}{p pos:Pos}{e:Expr}{es:List Expr}{t:AM}{id T:String}{r:List V->Hp->VK->Prop}{f:List W->Po W}
theorem Cu(hi:gk X.K r f){σ:L2.St}{H:Hp}{Q:VK}(h:tM X (bS f t) σ H Q):zi r (tA X t) σ H Q:=by
 obtain⟨φ,ph,ws,hH,hS,h⟩:=h;refine tA.bind hH hS h fun xs ph1 aB H1 vs aE s1 r1 h=>?_
 obtain⟨w,ph',e,k⟩:=run_lift h;exact hi aE r1 e fun aV H2 v ba s2 r2=>k aV H2 v ba (s1.trans s2) r2
theorem R8(hc:cJ X (.builtin id) r)(hi:gk X.K r f)(hg:Gl X x)(hm:X.mg x=none)(hv:aby x=some (.builtin id))(ha:IA X (e::es) t)(hn:x≠"__name__":=by decide)(bT:(x==("__debug__":Str))=false:=by decide)
  (he:aaY (e::es) X.env=(false,eval e X.env)::aaY es X.env:=by rfl) (hpl:(ady pos (aaY es X.env)).any (·.1)=false:=by rfl):IE X (.Call (.Name x p) (e::es) [] pos) (bS f t):=
 PE.imp (wN hc hg hm hv ha hn bT he hpl) fun _ _ _ h=>Cu hi h
theorem QK(hc:cJ X (.type T) r)(hi:gk X.K r f)(hg:Gl X x)(hm:X.mg x=none)(hv:aby x=some (.type T))(ha:IA X (e::es) t)(hn:x≠"__name__":=by decide)(bT:(x==("__debug__":Str))=false:=by decide)
  (he:aaY (e::es) X.env=(false,eval e X.env)::aaY es X.env:=by rfl) (hpl:(ady pos (aaY es X.env)).any (·.1)=false:=by rfl):IE X (.Call (.Name x p) (e::es) [] pos) (bS f t):=
 PE.imp (QD hc hg hm hv ha hn bT he hpl) fun _ _ _ h=>Cu hi h
end
theorem cJ.or{f:Value}{r r':List V->Hp->VK->Prop}(h:cJ X f r)(h':cJ X f r'):cJ X f (fun xs H Q=>r xs H Q\/r' xs H Q):=by
 intro pins s σ H xs us Q I rx q
 rcases q with q | q
 ·exact h pins s σ H xs us Q I rx q
 ·exact h' pins s σ H xs us Q I rx q
noncomputable def fg:List W->Po W:=fun xs ph=>match xs with
 | [.str z]=>if z.length<=aaD then some (.int z.length,ph) else none
 | [w]=>(cy w ph).map fun ws=>(.int ws.length,ph)
 | _=>none
abbrev FH(K:aaj):List V->Hp->VK->Prop:=fun xs H Q=>(∃p ys,xs=[.ref p]/\(bD K H p ys\/bZ K H p ys)/\Q (.int ys.length) H)\/(∃z,xs=[.str z]/\z.length<=aaD/\Q (.int z.length) H)
theorem pO:gk K (FH K) fg:=by
 intro φ ph H xs vs w ph' Q hH r e k;unfold fg at e;split at e
 ·split at e
  ·rename_i hz;cases e;cases r with
   | cons r r'=>cases r;cases r';exact .inr ⟨_,rfl,hz,k φ H _ hH Step.refl (.int _)⟩
  ·cases e
 ·rename_i w0 vp;cases r with
  | cons r r'=>
   cases r';cases q:cy w0 ph with
   | none=>rw[q] at e;cases e
   | some ws=>
    rw[q] at e;cases e;obtain⟨a,ys,rfl,hs,rs⟩:=wQ hH r q;exact .inl ⟨a,ys,rfl,hs,by rw[<- rs.length];exact k φ H _ hH Step.refl (.int _)⟩
 ·cases e
theorem pv:cJ X (.builtin "len") (FH X.K):=cJ.or Nv Nw
noncomputable def kP(K:aaj)(T:String)(r:V->List V->Hp->VK->Prop)(f:W->List W->Po W):Prop:=∀{φ:Nat->Addr} {ph:PH} {H:Hp} {x:W} {xs:List W} {vx:V} {vs:List V} {w:W} {ph':PH} {Q:VK},
 aG K φ ph H->aH K φ ph.length H x vx->aY K φ ph.length H xs vs->f x xs ph=some (w,ph') →
 (∀au H' v,aG K au ph' H'->Step K φ ph.length H au ph'.length H'->aH K au ph'.length H' w v->Q v H')->r vx vs H Q
noncomputable def l6(K:aaj)(T:String)(ty:W->PH->Bool):Prop:=∀{φ:Nat->Addr} {ph:PH} {H:Hp} {x:W} {vx:V},aG K φ ph H->aH K φ ph.length H x vx->ty x ph=true->zk K T vx H
noncomputable def jB(b:PH->Bool):Po Unit:=fun ph=>if b ph=true then some ((),ph) else none
noncomputable def bG(ty:W->PH->Bool)(f:W->List W->Po W)(o:EM)(a:AM):EM:=fun σ=>aw (o σ) fun x=>aw (lift (jB (ty x))) fun _=>aw (a σ) fun xs=>lift (f x xs)
noncomputable def b8(w:W)(ph:PH):Bool:=match w with
 | .ref i=>match ph[i]? with
  | some (.lst _)=>true
  | _=>false
 | .fl _=>true
 | _=>false
theorem ez:l6 K "list" b8:=by
 intro φ ph H x vx hH rx e;unfold b8 at e;cases rx with
 | ref hi=>
  simp only at e;split at e
  ·rename_i cM hw;obtain⟨vs,hv,r⟩:=hH.hp _ _ hw;exact .inl ⟨rfl,vs,bD.of hv⟩
  ·cases e
 | fl h r=>exact .inl ⟨rfl,_,h.sq⟩
 | _=>cases e
section
variable{X:Cx}{o e:Expr}{es:List Expr}{mo:EM}{t:AM}{name:Str}{apos dg:Pos}{T id:String}{r:V->List V->Hp->VK->Prop}{ty:W->PH->Bool}{f:W->List W->Po W}
theorem R9(ht:l6 X.K T ty)(hi:kP X.K T r f){σ:L2.St}{H:Hp}{Q:VK}(h:tM X (bG ty f mo t) σ H Q):Gu X.K T r (tM X mo) (tA X t) σ H Q:=by
 obtain⟨φ,ph,ws,hH,hS,h⟩:=h;refine tM.bind hH hS h fun x ph1 aB H1 v aE s1 r1 h=>?_
 rw[cE] at h;obtain⟨_,ph2,e2,h⟩:=run_lift h;unfold jB at e2;split at e2
 ·rename_i hy;cases e2;refine⟨ht aE r1 hy,tA.bind aE (hS.mono s1) h fun xs ph2 aV H2 vs ba s2 r2 h=>?_⟩;obtain⟨w,ph',e,k⟩:=run_lift h;exact hi ba (r1.mono s2) r2 e fun ej H3 v c6 s3 r3=>k ej H3 v c6 ((s1.trans s2).trans s3) r3
 ·cases e2
theorem XS(pa:afr T)(slot:Slot T name id)(jM:typeOf (.builtin id)=pure (.type "method_descriptor"))(hm:lY X id r)(ht:l6 X.K T ty)(hi:kP X.K T r f)(ho:IE X o mo)(ha:IA X (e::es) t)
  (lH:acz o name X.env (eval o X.env)=eval o X.env:=by rfl)
  (yL:((ady dg (aaY (e::es) X.env)).all (fun x=> !x.1)&&(backToKw dg (keywordEach [] X.env)).all (fun x=>x.1.isSome)
   && decide ((e::es).length+([]:List Keyword).length+(if([]:List Keyword).isEmpty then 0 else 1)<30))=true:=by rfl)
  (lI:(apos.endLine==dg.line)=true:=by rfl) (hs:aaY (e::es) X.env=(false,eval e X.env)::aaY es X.env:=by rfl) (xH:(ady dg (aaY es X.env)).any (·.1)=false:=by rfl) :
  IE X (.Call (.Attribute o name apos) (e::es) [] dg) (bG ty f mo t):=
 PE.imp (XG pa slot jM hm ho ha lH yL lI hs xH) fun _ _ _ h=>R9 ht hi h
end
variable{i:Nat}
theorem wR{vq:List W}(hH:aG K φ ph H)(hi:ph[i]? =some (.lst vq))(r:aY K φ ph.length H ws vs) :
  aG K φ (ph.set i (.lst ws)) (upd H (φ i) (.lst vs))/\Step K φ ph.length H φ (ph.set i (.lst ws)).length (upd H (φ i) (.lst vs)):=by
 obtain⟨y,ey,my⟩:=hH.mu hi rfl;have s:=iK (K:=K) (φ:=φ) (n:=ph.length) (y:=HO.lst vs) ey my;rw[abz];exact⟨hH.put hi rfl ⟨vs,bW,r.mono s⟩,s⟩
noncomputable def cF:W->List W->Po W:=fun x xs ph=>match x,xs with
 | .ref i,[y]=>match ph[i]? with
  | some (.lst ws)=>if ws.length<aaD then some (.aC,ph.set i (.lst (ws++[y]))) else none
  | _=>none
 | _,_=>none
theorem eY:kP K "list" CZ cF:=by
 intro φ ph H x xs vx vs w ph' Q hH rx rs e k;unfold cF at e;split at e
 ·rename_i i y;split at e
  ·rename_i ws hw;split at e
   ·rename_i hz;cases e;cases rx with
    | ref hi=>
     cases rs with
     | cons ry rr=>
      cases rr;obtain⟨us,hv,r⟩:=hH.hp _ _ hw;obtain⟨q1,q2⟩:=wR hH hw (r.append (.cons ry .nil));exact⟨_,us,_,rfl,rfl,hv,by rw[<- r.length];exact hz,k φ _ _ q1 q2 .aC⟩
   ·cases e
  ·cases e
 ·cases e
noncomputable def gL:W->Po W:=fun x=>match x with
 | .int i=>ret (.int (-i))
 | _=>d6
theorem VY:GA K (rU fun i=>.int (-i)) gL:=by
 intro φ ph H x vx w ph' Q hH rx e k;unfold gL at e;split at e
 ·cases e;cases rx;exact⟨_,rfl,k φ H _ hH Step.refl (.int _)⟩
 ·cases e
noncomputable def dJ:W->W->Po W:=lZ fun i j=>i-j
theorem VZ:cU K (ir fun i j=>.int (i-j)) dJ:=XJ
noncomputable def aS:W->W->Po W:=nZ (fun _ j=>decide (j≠0)) fun i j=>i.fmod j
theorem V0:cU K (rI (fun _ j=>j≠0) fun i j=>.int (i.fmod j)) aS:=DI fun i j h=>by simpa using h
noncomputable def ED(i j:Int):Prop:=j≠0/\j.natAbs<2 ^ 64
theorem Sa:bt X (adb .FloorDiv) (rI ED fun i j=>.int (i.fdiv j)):=zf fun i j _ _ _ _ _ hc q=>floordiv_int hc.1 q (.inl (PyProof.noPylong_of_log2 (by
 have h0:j.natAbs≠0:=by have:=hc.1;omega
 have:=(Nat.log2_lt h0).mpr hc.2;omega)))
noncomputable def aZ:W->W->Po W:=nZ (fun _ j=>decide (j≠0)&&decide (j.natAbs<2 ^ 64)) fun i j=>i.fdiv j
theorem V1:cU K (rI ED fun i j=>.int (i.fdiv j)) aZ:=DI fun i j h=>by
 rw[aaw] at h;exact⟨of_decide_eq_true h.1,of_decide_eq_true h.2⟩
noncomputable def fi:W->W->Po W:=n0 fun i j=>decide (i<j)
noncomputable def l7:W->W->Po W:=n0 fun i j=>decide (i<=j)
noncomputable def l8:W->W->Po W:=n0 fun i j=>decide (j<i)
noncomputable def ZP:W->W->Po W:=n0 fun i j=>decide (j<=i)
noncomputable def mulC(i j:Int):Bool:=(decide (-(2 ^ 64)<i)&&decide (i<2 ^ 64))||(decide (-(2 ^ 64)<j)&&decide (j<2 ^ 64))
noncomputable def n9:W->W->Po W:=fun x y=>match x,y with
 | .int i,.int j=>if mulC i j=true then ret (.int (i*j)) else d6
 | _,_=>d6
theorem V2:cU K (rI qf fun i j=>.int (i*j)) n9:=by
 intro φ ph H x y vx vy w ph' Q hH rx ry e k;unfold n9 at e;split at e
 ·split at e
  ·rename_i hc;cases e;cases rx;cases ry;refine⟨_,_,rfl,rfl,?_,k φ H _ hH Step.refl (.int _)⟩;unfold mulC at hc;simp only[ado,aaw,decide_eq_true_eq] at hc;exact hc
  ·cases e
 ·cases e
noncomputable def addW:W->W->Po W:=fun x y ph=>match x,y with
 | .int i,.int j=>some (.int (i+j),ph)
 | .str i,.str j=>if i.length+j.length<=aaD then some (.str (i++j),ph) else none
 | .ref a,.ref b=>match ph[a]?,ph[b]? with
  | some (.lst xs),some (.lst ys)=>if xs.length+ys.length<=aaD then some (.ref ph.length,ph++[.lst (xs++ys)]) else none
  | _,_=>none
 | .tup xs,.tup ys=>if xs≠[]/\xs.length+ys.length<=aaD then some (.tup (xs++ys),ph) else none
 | _,_=>none
abbrev EE(K:aaj):R2:=fun x y H Q=>((ir fun i j=>.int (i+j)) x y H Q\/∃i j,x=.str i/\y=.str j/\i.length+j.length<=aaD/\Q (.str (i++j)) H)\/(FE x y H Q\/EA K x y H Q)
theorem TK:bt X (adb .Add) (EE X.K):=bt.or (bt.or Vc Pp) (bt.or Vw To)
theorem V3:cU K (EE K) addW:=by
 intro φ ph H x y vx vy w ph' Q hH rx ry e k;unfold addW at e;split at e
 ·cases e;cases rx;cases ry;exact .inl (.inl ⟨_,_,rfl,rfl,k φ H _ hH Step.refl (.int _)⟩)
 ·split at e
  ·rename_i hz;cases e;cases rx;cases ry;exact .inl (.inr ⟨_,_,rfl,rfl,hz,k φ H _ hH Step.refl (.str _)⟩)
  ·cases e
 ·split at e
  ·rename_i xs ys hx hy;split at e
   ·rename_i hz;cases e;cases rx;cases ry;obtain⟨us,hu,ru⟩:=hH.hp _ _ hx;obtain⟨vs,hv,rv⟩:=hH.hp _ _ hy;refine .inr (.inl ⟨_,_,us,vs,rfl,rfl,hu,hv,by rw[<- ru.length,<- rv.length];exact hz,fun p hp=>?_⟩);obtain⟨q1,q2,q3⟩:=j9 hH (ru.append rv) hp;exact k _ _ _ q1 q2 q3
   ·cases e
  ·cases e
 ·split at e
  ·rename_i xs ys hz;cases e;cases rx with
   | tup hx rx=>
    cases ry with
    | tup hy ry=>
     rename_i a us b vs;refine .inr (.inr ⟨a,b,us,vs,rfl,rfl,bZ.of hx,bZ.of hy,?_,by rw[<- rx.length,<- ry.length];exact hz.2,fun he=>?_,fun hn p hp=>?_⟩)
     ·rintro rfl;cases rx;exact hz.1 rfl
     ·subst he;cases ry;refine k φ H _ hH Step.refl ?_;rw[acS];exact .tup hx rx
     ·exact k φ _ _ (hH.tup hp) (jh hp) (.tup bW ((rx.append ry).mono (jh hp)))
  ·cases e
 ·cases e
noncomputable def lS:W->W->Po W:=fun x y=>match y with
 | .aC=>ret (.bl (decide (x=.aC)))
 | _=>d6
noncomputable def EF:W->W->Po W:=fun x y=>match y with
 | .aC=>ret (.bl (!decide (x=.aC)))
 | _=>d6
variable{x:W}
theorem TN(r:aH K φ n H x v):decide (x=.aC)=decide (v=.aC):=by
 cases r <;> simp
theorem V4:cU K (fun x y H Q=>y=.aC/\Q (.bl (decide (x=.aC))) H) lS:=by
 intro φ ph H x y vx vy w ph' Q hH rx ry e k;unfold lS at e;split at e
 ·cases e;cases ry;exact⟨rfl,by rw[<- TN rx];exact k φ H _ hH Step.refl (.bl _)⟩
 ·cases e
noncomputable def ig:List W->Po W:=fun xs=>match xs with
 | [.int i]=>ret (.int i)
 | [.bl b]=>ret (.int (if b then 1 else 0))
 | _=>d6
theorem xO:gk K (fun xs H Q=>(∃i,xs=[.int i]/\Q (.int i) H)\/∃k,xs=[.bl k]/\Q (.int (if k then 1 else 0)) H) ig:=by
 intro φ ph H xs vs w ph' Q hH r e k;unfold ig at e;split at e
 ·cases e;cases r with
  | cons r r'=>cases r;cases r';exact .inl ⟨_,rfl,k φ H _ hH Step.refl (.int _)⟩
 ·cases e;cases r with
  | cons r r'=>cases r;cases r';exact .inr ⟨_,rfl,k φ H _ hH Step.refl (.int _)⟩
 ·cases e
noncomputable def Y0:List W->Po W:=fun xs=>match xs with
 | [.int i]=>ret (.int (if i<0 then -i else i))
 | _=>d6
noncomputable def p3(w:W)(ph:PH):Option String:=match w with
 | .aC=>some "NoneType"
 | .bl _=>some "bool"
 | .int _=>some "int"
 | .str _=>some "str"
 | .tup _=>some "tuple"
 | .fl _=>some "list"
 | .ref i=>match ph[i]? with
  | some (.lst _)=>some "list"
  | some (.bE _)=>some "dict"
  | _=>none
 | .exc .. =>none
 | .fn .. =>none
noncomputable def dC(t c:String):Bool:=t==c||(t=="bool"&&c=="int")
noncomputable def fU(c:String)(w:W):Po W:=fun ph=>match p3 w ph with
 | some t=>some (.bl (dC t c),ph)
 | none=>none
noncomputable def dX(c:String)(m:EM):EM:=fun σ=>aw (m σ) fun w=>lift (fU c w)
inductive iR(K:aaj)(H:Hp):V->String->Prop where
 | aC:iR K H .aC "NoneType"
 | bl (x:Bool):iR K H (.bl x) "bool"
 | int (i:Int):iR K H (.int i) "int"
 | str (x:Str):iR K H (.str x) "str"
 | lst {a:Addr} {xs:List V} (e:bD K H a xs):iR K H (.ref a) "list"
 | tup {a:Addr} {xs:List V} (e:bZ K H a xs):iR K H (.ref a) "tuple"
 | dk {a:Addr} {kvs:List (Key×V)} (e:H a=some (.dK kvs)):iR K H (.ref a) "dict"
 | dt {a:Addr} {kvs:List (List Key×V)} (e:H a=some (.dT kvs)):iR K H (.ref a) "dict"
theorem TQ{w:W}{t:String}(hH:aG K φ ph H)(r:aH K φ ph.length H w v)(e:p3 w ph=some t):iR K H v t:=by
 unfold p3 at e;cases r with
 | aC=>cases e;exact .aC
 | bl b=>cases e;exact .bl b
 | int b=>cases e;exact .int b
 | str b=>cases e;exact .str b
 | tup h r=>cases e;exact .tup (bZ.of h)
 | fl h r=>cases e;exact .lst h.sq
 | ref hi=>
  simp only at e;split at e
  ·rename_i ws hw;cases e;obtain⟨vs,hv,_⟩:=hH.hp _ _ hw;exact .lst (bD.of hv)
  ·rename_i ws hw;cases e
   rcases hH.hp _ _ hw with⟨kvs,q,_⟩ | ⟨kvs,q,_⟩
   ·exact .dk q
   ·exact .dt q
  ·cases e
 | exc=>cases e
 | fn=>cases e
noncomputable def kC(K:aaj)(c:String):Prop:=∀t∈["NoneType","bool","int","str","list","tuple","dict"],aaK K (.type t) (.type c)=some (dC t c)
noncomputable def ZQ(K:aaj)(c:String):List V->Hp->VK->Prop:=fun xs H Q=>∃x t,xs=[x,.ty c]/\iR K H x t/\Q (.bl (dC t c)) H
theorem TR{c:String}(hk:kC X.K c):cJ X (.builtin "isinstance") (ZQ X.K c):=by
 intro pins s σ H xs us Q I r h;obtain⟨x,t,rfl,kv,q⟩:=h;obtain⟨u,u2,rfl,rx,rc⟩:=Vals.two r;obtain rfl:u2=Value.type c:=rc;have fin:∀tk,EP X pins σ Q (.bool (dC t c)) { s with toks:=tk }:=fun tk=>⟨.bl _,H,I.tok tk,rfl,q⟩
 cases kv with
 | aC=>cases(show u=acF from rx);exact abN PySem.W.kitx_none I.dh ach (hk _ (by decide)) (fun z=>nomatch z) fin
 | bl y=>cases(show u=adJ y from rx);exact abN PySem.W.kitx_bool I.dh ach (hk _ (by decide)) (fun z=>nomatch z) fin
 | int i=>obtain⟨t,rfl⟩:=(show ∃t,u=adk i t from rx);exact abN PySem.W.kitx_int I.dh ach (hk _ (by decide)) (fun z=>nomatch z) fin
 | str y=>obtain⟨t,rfl⟩:=(show ∃t,u=aeB y t from rx);exact abN PySem.W.kitx_str I.dh ach (hk _ (by decide)) (fun z=>nomatch z) fin
 | @lst a ys e=>
  cases(show u=abb a from rx);obtain⟨its,_,⟨o,n,h1,h2,_⟩,_⟩:=I.list e;exact abN PySem.W.kitx_list I.dh ⟨_,h1,h2⟩ (hk _ (by decide)) (fun z=>nomatch z) fin
 | @tup a ys e=>
  cases(show u=abb a from rx);obtain⟨its,_,⟨o,h1,h2,_⟩,_⟩:=I.tuple e;exact abN PySem.W.kitx_tuple I.dh ⟨_,h1,h2⟩ (hk _ (by decide)) (fun z=>nomatch z) fin
 | @dk a kvs e=>
  cases(show u=abb a from rx);obtain⟨_,_,vs,_,ob,_,_,h1,h2,_⟩:=pW I.aJ e;exact abN afu I.dh ⟨_,h1,h2.1⟩ (hk _ (by decide)) (fun z=>nomatch z) fin
 | @dt a kvs e=>
  cases(show u=abb a from rx);obtain⟨_,_,xs,_,ob,_,_,h1,h2,_⟩:=yg I.aJ e;exact abN afu I.dh ⟨_,h1,h2.1⟩ (hk _ (by decide)) (fun z=>nomatch z) fin
section
variable{X:Cx}{e:Expr}{m:EM}{p p2 pos:Pos}
theorem XT{c:Str}{cn:String}(hk:kC X.K cn)(hv:aby c=some (.type cn))(hg:Gl X "isinstance")(hm:X.mg "isinstance"=none)(fj:Gl X c)(fk:X.mg c=none)(he:IE X e m)
  (hn:c≠"__name__":=by decide) (hd:(c==("__debug__":Str))=false:=by decide)
  (hs:aaY [e,.Name c p2] X.env=[(false,eval e X.env),(false,eval (.Name c p2) X.env)]:=by rfl) (oC:aaY [.Name c p2] X.env=[(false,eval (.Name c p2) X.env)]:=by rfl)
  (hpl:(ady pos (aaY [.Name c p2] X.env)).any (·.1)=false:=by rfl) :
  IE X (.Call (.Name "isinstance" p) [e,.Name c p2] [] pos) (dX cn m):=by
 refine PE.imp (wN (TR hk) hg hm adI (pH he (pH (CU (v:=.ty cn) fj fk hv rfl hn hd) xG (by rw[oC];rfl)) (by rw[hs,oC])) (he:=by rw[hs,oC]) (hpl:=hpl)) fun σ H Q h=>?_
 obtain⟨φ,ph,ws,hH,hS,h⟩:=h;refine tM.bind hH hS h fun x ph1 aB H1 vx aE s1 rx h=>?_
 obtain⟨w,ph',e,k⟩:=run_lift h;unfold fU at e;split at e
 ·rename_i t ht;cases e;exact⟨vx,t,rfl,TQ aE rx ht,k aB H1 _ aE s1 (.bl _)⟩
 ·cases e
end
theorem Cv:kC K "int":=by
 intro t ht;simp only[abo,adf,or_false] at ht
 rcases ht with rfl | rfl | rfl | rfl | rfl | rfl | rfl <;> rfl
theorem B8:kC K "bool":=by
 intro t ht;simp only[abo,adf,or_false] at ht
 rcases ht with rfl | rfl | rfl | rfl | rfl | rfl | rfl <;> rfl
theorem Sb:kC K "str":=by
 intro t ht;simp only[abo,adf,or_false] at ht
 rcases ht with rfl | rfl | rfl | rfl | rfl | rfl | rfl <;> rfl
theorem B9:kC K "list":=by
 intro t ht;simp only[abo,adf,or_false] at ht
 rcases ht with rfl | rfl | rfl | rfl | rfl | rfl | rfl <;> rfl
theorem Pz:kC K "tuple":=by
 intro t ht;simp only[abo,adf,or_false] at ht
 rcases ht with rfl | rfl | rfl | rfl | rfl | rfl | rfl <;> rfl
noncomputable def bI{α β:Type}(f:α->Option β):List α->Option (List β)
 | []=>some []
 | a::as=>match f a,bI f as with
  | some b,some bs=>some (b::bs)
  | _,_=>none
noncomputable def dat(ph:PH):Nat->W->Option acT
 | _,.aC=>some .none
 | _,.bl b=>some (.bool b)
 | _,.int i=>some (.int i)
 | _,.str x=>if adj x=true then some (.str x) else none
 | n+1,.tup ws=>(bI (dat ph n) ws).map .tuple
 | n+1,.fl ws=>(bI (dat ph n) ws).map .list
 | n+1,.ref i=>match ph[i]? with
  | some (.lst ws)=>(bI (dat ph n) ws).map .list
  | _=>none
 | _,_=>none
section
variable{X:Cx}{pins:List (Addr×Obj)}{σ:L2.St}{H:Hp}{s:aam}{φ:Nat->Addr}{ph:PH}
noncomputable def kQ(s:aam)(n:Nat)(u:Value)(d:acT):Prop:=(∃as,Reads s.heap u d as)/\d.canLay0=true/\d.depth<=n
theorem wm{n:Nat}(ih:∀{w:W} {v:V} {u:Value} {d:acT},aH X.K φ ph.length H w v->RelV v u->dat ph n w=some d->kQ s n u d) :
  ∀{ws:List W} {vs:List V} {us:List Value} {ds:List acT},aY X.K φ ph.length H ws vs->Vals vs us->bI (dat ph n) ws=some ds →
   (∃as,ReadsAll s.heap us ds as)/\afv ds=true/\PyData.depthAll ds<=n
 | _,_,_,_,.nil,.nil,e=>by cases e;exact⟨⟨_,.nil⟩,rfl,aca _⟩
 | w::ws,_,_,ds,.cons h r,.cons hv rv,e=>by
  unfold bI at e;split at e
  ·rename_i b bs e1 e2;cases e;obtain⟨⟨as,r1⟩,c1,d1⟩:=ih h hv e1;obtain⟨⟨ZR,r2⟩,c2,d2⟩:=wm ih r rv e2;refine⟨⟨_,.cons r1 r2⟩,?_,?_⟩
   ·simp only[afv,c1,c2,afp]
   ·simp only[PyData.depthAll];omega
  ·cases e
theorem iI(I:Inv X pins σ H s)(hH:aG X.K φ ph H):∀(n:Nat) {w:W} {v:V} {u:Value} {d:acT},aH X.K φ ph.length H w v->RelV v u->dat ph n w=some d->kQ s n u d:=by
 have yQ:∀(n:Nat) (ih:∀{w:W} {v:V} {u:Value} {d:acT},aH X.K φ ph.length H w v->RelV v u->dat ph n w=some d->kQ s n u d) {ws:List W} {vs:List V} {d:acT} {a:Addr},
   aY X.K φ ph.length H ws vs->((bD X.K H a vs/\(bI (dat ph n) ws).map PyData.list=some d)\/(bZ X.K H a vs/\(bI (dat ph n) ws).map PyData.tuple=some d))->kQ s (n+1) (.ref a) d:=by
  intro n ih ws vs d a r h
  rcases h with⟨hq,e⟩ | ⟨hq,e⟩
  ·obtain⟨its,rv,⟨o,k,h1,h2,h3,h4⟩,_⟩:=I.list hq;obtain⟨ds,e1,e2⟩:=aaR.mp e;subst e2;obtain⟨⟨as,r1⟩,c1,d1⟩:=wm ih r rv e1;refine⟨⟨_,.list h1 h2 h4 (by simpa using r1)⟩,by simpa only[aec] using c1,?_⟩;simp only[PyData.depth];omega
  ·obtain⟨its,rv,⟨o,h1,h2,k,h4⟩,_⟩:=I.tuple hq;obtain⟨ds,e1,e2⟩:=aaR.mp e;subst e2;obtain⟨⟨as,r1⟩,c1,d1⟩:=wm ih r rv e1;refine⟨⟨_,.tuple h1 h2 h4 (by simpa using r1)⟩,by simpa only[aec] using c1,?_⟩;simp only[PyData.depth];omega
 intro n
 induction n with
 | zero=>
  intro w v u d r rv e;cases r with
  | aC=>cases rv;cases e;exact⟨⟨_,.none⟩,rfl,aar _⟩
  | bl b=>cases rv;cases e;exact⟨⟨_,.bool b⟩,rfl,aar _⟩
  | int i=>obtain⟨t,rfl⟩:=rv;cases e;exact⟨⟨_,.int i t⟩,rfl,aar _⟩
  | str x=>
   obtain⟨t,rfl⟩:=rv;unfold dat at e;split at e
   ·rename_i hx;cases e;exact⟨⟨_,.str x t⟩,by simpa only[aec] using hx,aar _⟩
   ·cases e
  | _=>cases e
 | succ n ih=>
  intro w v u d r rv e;cases r with
  | aC=>cases rv;cases e;exact⟨⟨_,.none⟩,rfl,aca _⟩
  | bl b=>cases rv;cases e;exact⟨⟨_,.bool b⟩,rfl,aca _⟩
  | int i=>obtain⟨t,rfl⟩:=rv;cases e;exact⟨⟨_,.int i t⟩,rfl,aca _⟩
  | str x=>
   obtain⟨t,rfl⟩:=rv;unfold dat at e;split at e
   ·rename_i hx;cases e;exact⟨⟨_,.str x t⟩,by simpa only[aec] using hx,aca _⟩
   ·cases e
  | tup h r=>cases rv;exact yQ n ih r (.inr ⟨bZ.of h,e⟩)
  | exc=>unfold dat at e;cases e
  | fn=>unfold dat at e;cases e
  | fl h r=>cases rv;exact yQ n ih r (.inl ⟨h.sq,e⟩)
  | ref hi=>
   cases rv;unfold dat at e;split at e
   ·rename_i ws hw;obtain⟨vs,hv,r⟩:=hH.hp _ _ hw;exact yQ n ih r (.inl ⟨bD.of hv,e⟩)
   ·cases e
end
noncomputable def dE(ph:PH)(x y:W):Option Bool:=match dat ph 40 x,dat ph 40 y with
 | some a,some b=>some (aaV a b)
 | _,_=>none
noncomputable def aN:W->W->Po W:=fun x y ph=>(dE ph x y).map fun b=>(.bl b,ph)
noncomputable def cO:W->W->Po W:=fun x y ph=>(dE ph x y).map fun b=>(.bl (!b),ph)
noncomputable def rD(K:aaj)(f:Bool->Bool):R2:=fun x y H Q=>∃φ ph wx wy b,aG K φ ph H/\aH K φ ph.length H wx x/\aH K φ ph.length H wy y/\dE ph wx wy=some b/\Q (.bl (f b)) H
variable{y:W}{b:Bool}
theorem wU(h:dE ph x y=some b):∃dx dy,dat ph 40 x=some dx/\dat ph 40 y=some dy/\b=aaV dx dy:=by
 unfold dE at h;split at h
 ·rename_i dx dy h1 h2;cases h;exact⟨dx,dy,h1,h2,rfl⟩
 ·cases h
theorem V5(hu:X.A.units+64<cLine):bt X (abC .Eq) (rD X.K fun b=>b):=by
 intro pins s σ H x y v u Q I rx ry h;obtain⟨φ,ph,wx,wy,b,hH,r1,r2,e,q⟩:=h;obtain⟨dx,dy,e1,e2,rfl⟩:=wU e;obtain⟨⟨as,k1⟩,c1,l1⟩:=iI I hH 40 r1 rx e1;obtain⟨⟨bs,k2⟩,c2,l2⟩:=iI I hH 40 r2 ry e2;exact SeqAt.compareEq_reads k1 k2 c1 c2 (by omega) ⟨.bl _,H,I,rfl,q⟩
theorem V6(hu:X.A.units+64<cLine):bt X (abC .NotEq) (rD X.K fun b=> !b):=by
 intro pins s σ H x y v u Q I rx ry h;obtain⟨φ,ph,wx,wy,b,hH,r1,r2,e,q⟩:=h;obtain⟨dx,dy,e1,e2,rfl⟩:=wU e;obtain⟨⟨as,k1⟩,c1,l1⟩:=iI I hH 40 r1 rx e1;obtain⟨⟨bs,k2⟩,c2,l2⟩:=iI I hH 40 r2 ry e2;exact SeqAt.compareNe_reads k1 k2 c1 c2 (by omega) ⟨.bl _,H,I,rfl,q⟩
theorem XU:cU K (rD K fun b=>b) aN:=by
 intro φ ph H x y vx vy w ph' Q hH rx ry e k;obtain⟨b,e1,e2⟩:=aaR.mp e;cases e2;exact⟨φ,ph,x,y,b,hH,rx,ry,e1,k φ H _ hH Step.refl (.bl _)⟩
theorem XW:cU K (rD K fun b=> !b) cO:=by
 intro φ ph H x y vx vy w ph' Q hH rx ry e k;obtain⟨b,e1,e2⟩:=aaR.mp e;cases e2;exact⟨φ,ph,x,y,b,hH,rx,ry,e1,k φ H _ hH Step.refl (.bl _)⟩
noncomputable def inD(ph:PH)(x y:W):Option Bool:=match cy y ph,dat ph 40 x with
 | some ws,some dx=>(bI (dat ph 40) ws).map fun ds=>ds.any fun d=>aaV d dx
 | _,_=>none
noncomputable def i8:W->W->Po W:=fun x y ph=>(inD ph x y).map fun b=>(.bl b,ph)
noncomputable def FI:W->W->Po W:=fun x y ph=>(inD ph x y).map fun b=>(.bl (!b),ph)
noncomputable def yR(K:aaj)(f:Bool->Bool):R2:=fun x y H Q=>∃φ ph wx wy b,aG K φ ph H/\aH K φ ph.length H wx x/\aH K φ ph.length H wy y/\inD ph wx wy=some b/\Q (.bl (f b)) H
open Classical in
noncomputable def jo(s:aam)(dx:acT)(u:Value):Bool:=if h:∃d,kQ s 40 u d then aaV h.choose dx else false
variable{u:Value}
theorem tj{s:aam}{dx d:acT}(h:kQ s 40 u d):jo s dx u=aaV d dx:=by
 unfold jo;have hx:∃d,kQ s 40 u d:=⟨d,h⟩
 rw[dif_pos hx];obtain⟨⟨as,r⟩,c,_⟩:=h;obtain⟨⟨as',r'⟩,c',_⟩:=hx.choose_spec;rw[SeqAt.Reads.unique _ _ _ _ _ c' r' r]
section
variable{X:Cx}{pins:List (Addr×Obj)}{σ:L2.St}{H:Hp}{s:aam}{φ:Nat->Addr}{ph:PH}
theorem xm(I:Inv X pins σ H s)(hH:aG X.K φ ph H){dx:acT}:∀{ws:List W} {vs:List V} {us:List Value} {ds:List acT},aY X.K φ ph.length H ws vs->Vals vs us->bI (dat ph 40) ws=some ds →
  (us.any (jo s dx)=ds.any fun d=>aaV d dx)/\∀u∈us,∃d,kQ s 40 u d
 | _,_,_,_,.nil,.nil,e=>by cases e;exact⟨rfl,fun _ h=>nomatch h⟩
 | w::ws,_,_,ds,.cons h r,.cons hv rv,e=>by
  unfold bI at e;split at e
  ·rename_i b bs e1 e2;cases e;have q:=iI I hH 40 h hv e1;obtain⟨r1,r2⟩:=xm I hH (dx:=dx) r rv e2;refine⟨by rw[abH,abH,r1,tj q],fun u hu=>?_⟩
   rcases abo.mp hu with rfl | hu
   ·exact⟨_,q⟩
   ·exact r2 u hu
  ·cases e
theorem TU(I:Inv X pins σ H s)(hH:aG X.K φ ph H){wx wy:W}{x y:V}{v u:Value}{b:Bool}(hu:X.A.units+64<cLine)(r1:aH X.K φ ph.length H wx x)(r2:aH X.K φ ph.length H wy y)(rx:RelV x v)(ry:RelV y u)(e:inD ph wx wy=some b) :
  ∃(a:Addr) (its:List Value) (f:Value->Bool),u=.ref a/\(s.heap.IsList a its.toArray\/s.heap.IsTuple a its.toArray)/\(∀z,z∈its.toArray->afw X.A.in1 s z v (f z))/\its.toArray.any f=b:=by
 unfold inD at e;split at e
 ·rename_i ws dx hs hd;obtain⟨ds,e1,e2⟩:=aaR.mp e;obtain⟨a,vs,rfl,hq,rs⟩:=wQ hH r2 hs;cases ry;obtain⟨⟨as,k1⟩,c1,l1⟩:=iI I hH 40 r1 rx hd;have fin:∀{its:List Value},Vals vs its->(∀z,z∈its.toArray->afw X.A.in1 s z v (jo s dx z))/\its.toArray.any (jo s dx)=b:=fun{its} rv=>by
   obtain⟨q1,q2⟩:=xm I hH (dx:=dx) rs rv e1;refine⟨fun z hz=>?_,by rw[show its.toArray.any (jo s dx)=its.any (jo s dx) by simp,q1,e2]⟩;obtain⟨d,hd⟩:=q2 z (by simpa using hz);rw[tj hd];obtain⟨⟨bs,k2⟩,c2,l2⟩:=hd;intro prog w E Q hQ;exact aeT prog w _ E s z v d dx bs as Q k2 k1 c2 c1 (by show X.A.units+1+_<_;omega) hQ
  rcases hq with hq | hq
  ·obtain⟨its,rv,pl,_⟩:=I.list hq;obtain⟨f1,f2⟩:=fin rv;exact⟨a,its,_,rfl,.inl pl.isList,f1,f2⟩
  ·obtain⟨its,rv,pl,_⟩:=I.tuple hq;obtain⟨f1,f2⟩:=fin rv;exact⟨a,its,_,rfl,.inr pl,f1,f2⟩
 ·cases e
end
theorem V7(hu:X.A.units+64<cLine):bt X (abC .In) (yR X.K fun b=>b):=by
 intro pins s σ H x y v u Q I rx ry h;obtain⟨φ,ph,wx,wy,b,hH,r1,r2,e,q⟩:=h;obtain⟨a,its,f,rfl,hq,hf,hb⟩:=TU I hH hu r1 r2 rx ry e;subst hb
 rcases hq with hq | hq
 ·exact SeqAt.in_listAt f hq hf ⟨.bl _,H,I,rfl,q⟩
 ·exact SeqAt.in_tupleAt f hq hf ⟨.bl _,H,I,rfl,q⟩
theorem XX:cU K (yR K fun b=>b) i8:=by
 intro φ ph H x y vx vy w ph' Q hH rx ry e k;obtain⟨b,e1,e2⟩:=aaR.mp e;cases e2;exact⟨φ,ph,x,y,b,hH,rx,ry,e1,k φ H _ hH Step.refl (.bl _)⟩
noncomputable def mX(env:Env)(x:Str×acU)(s:List (Str×Addr)):Sem (ForInStep (List (Str×Addr))):=
 if(x.2==aaO)=true then do
  let a <- cellOf env x.1
  pure (acd ((x.1,a)::s))
 else pure (acd s)
theorem wV(env:Env):∀(names:List (Str×acU)) (acc:List (Str×Addr)),(∀y∈names,y.2=.free->∃c,env.cells.lookup y.1=some c) →
  ∃cl,(forIn names acc (mX env):Sem (List (Str×Addr)))=pure cl/\(∀x c,cl.lookup x=some c->acc.lookup x=some c\/(env.cells.lookup x=some c/\(x,aaO)∈names)) /\
   (∀x,((∃c,acc.lookup x=some c)\/(x,aaO)∈names)->∃c,cl.lookup x=some c)
 | [],acc,_=>⟨acc,rfl,fun x c h=>.inl h,fun x h=>h.elim id fun z=>nomatch z⟩
 | (n,k)::r,acc,h=>by
  by_cases hk:k=.free
  ·subst hk;obtain⟨c,hc⟩:=h (n,.free) abF rfl;obtain⟨cl,e,h1,h2⟩:=wV env r ((n,c)::acc) fun y hy=>h y (aaU _ hy)
   refine⟨cl,?_,fun x c' hx=>?_,fun x hx=>h2 x ?_⟩
   ·rw[adQ];have eb:mX env (n,.free) acc=pure (acd ((n,c)::acc)):=by
     unfold mX;rw[if_pos (by rfl)];unfold cellOf;rw[hc];rfl
    rw[eb];exact e
   ·rcases h1 x c' hx with z | z
    ·rw[aaE] at z;cases q:x==n with
     | true=>
      rw[q] at z;cases z;have:x=n:=eq_of_beq q;subst this;exact .inr ⟨hc,abF⟩
     | false=>rw[q] at z;exact .inl z
    ·exact .inr ⟨z.1,aaU _ z.2⟩
   ·rcases hx with⟨c',hx⟩ | hx
    ·rw[aaE];cases q:x==n with
     | true=>exact .inl ⟨c,rfl⟩
     | false=>exact .inl ⟨c',hx⟩
    ·rcases abo.mp hx with z | z
     ·cases z;exact .inl ⟨c,by rw[aaE];simp⟩
     ·exact .inr z
  ·obtain⟨cl,e,h1,h2⟩:=wV env r acc fun y hy=>h y (aaU _ hy)
   refine⟨cl,?_,fun x c' hx=>?_,fun x hx=>h2 x ?_⟩
   ·rw[adQ];have eb:mX env (n,k) acc=pure (acd acc):=by
     unfold mX;rw[if_neg (by simpa using hk)]
    rw[eb];exact e
   ·rcases h1 x c' hx with z | z
    ·exact .inl z
    ·exact .inr ⟨z.1,aaU _ z.2⟩
   ·rcases hx with hx | hx
    ·exact .inl hx
    ·rcases abo.mp hx with z | z
     ·cases z;exact absurd rfl hk
     ·exact .inr z
variable{env:Env}
theorem TV{scope:Scope}(h:∀y∈scope.names,y.2=.free->∃c,env.cells.lookup y.1=some c) :
  ∃cl,closureFor scope env=pure cl/\(∀x c,cl.lookup x=some c->env.cells.lookup x=some c/\(x,aaO)∈scope.names)/\(∀x,(x,aaO)∈scope.names->∃c,cl.lookup x=some c):=by
 obtain⟨cl,e,h1,h2⟩:=wV env scope.names [] h;refine⟨cl,?_,fun x c hx=>?_,fun x hx=>h2 x (.inr hx)⟩
 ·unfold closureFor;show(forIn scope.names [] (mX env) >>= fun s=>pure s)=pure cl;rw[e];rfl
 ·rcases h1 x c hx with z | z
  ·cases z
  ·exact z
noncomputable def bM(X:Cx)(N:List Str)(scope:Scope)(cl:List (Str×Addr))(C:Addr)(aM:aam)(aU:Hp)(ex:List Addr):Cx:=
 { X with N:=N,aM:=aM,aU:=aU,env:=compEnvC scope cl C X.env,outer:=X.stack,stack:=X.stack,ex:=ex,fn:=fun _=>false,pn:=[],xe:=fun _ _=>False,kp:=fun _=>True }
noncomputable def jC(cap:List (Option Nat))(σ:L2.St):L2.St:=cap.map fun o=>o.bind fun i=>(σ[i]?).join
noncomputable def ut(wi:TI)(cap:List (Option Nat))(g:TG)(tc:TT)(te:TE):TE:=fun σ H Q=>wi σ H fun J H1=>∀D,H1 D=none->∃W:Nat->Nat->L2.St->Hp->Prop,(∃m,W 0 m (jC cap σ) (upd H1 D (.lst []))) /\
 ∀i m cq H2,W i m cq H2->(J.stop i H2/\Q (.ref D) H2)\/(J.go i H2/\∀x H3,J.qE i H2 x H3->g x cq H3 fun ja H4=>tc ja H4 fun b H5=>
  if b=true then te ja H5 fun v H6=>∃xs,H6 D=some (.lst xs)/\xs.length<aaD/\∃m',m'<m/\W (i+1) m' ja (upd H6 D (.lst (xs++[v]))) else ∃m',m'<m/\W (i+1) m' ja H5)
noncomputable def PF(X:Cx)(ifs:List Expr)(t:TT):Prop:=
 ∀(pins:List (Addr×Obj)) (s:aam) (σ:L2.St) (H:Hp) (Q:Bool->Hp->Prop),Inv X pins σ H s->t σ H Q →
  wpAny (model X.prog X.w) X.A (forIn ifs true fun c r=>if r=true then do let ok <- isTrue c X.env (eval c X.env);pure (acd ok) else pure (acd r)) (TP X pins σ Q) X.xe s
theorem V8:PF X [] (fun _ H Q=>Q true H):=fun pins s σ H Q I h=>wpAny_tests_nil ⟨H,I,h⟩
theorem vQ{env:Env}{x:Str}:∀{names:List (Str×acU)},names.lookup x=some .free →
  (names.map fun(n,k)=>if(k==aaO&&env.scope.kind==.function&&env.kindOf n==some .cell) then(n,abR) else(n,k)).lookup x=some .cell \/
  (names.map fun(n,k)=>if(k==aaO&&env.scope.kind==.function&&env.kindOf n==some .cell) then(n,abR) else(n,k)).lookup x=some .free
 | [],h=>by cases h
 | (n,k)::r,h=>by
  rw[aaM];cases q:x==n with
  | true=>
   rw[aaE,q] at h;cases h;by_cases hc:(aaO==aaO&&env.scope.kind==.function&&env.kindOf n==some .cell)=true
   ·left
    show abO x ((if(aaO==aaO&&env.scope.kind==.function&&env.kindOf n==some .cell)=true then(n,abR) else(n,aaO))::_)=_;rw[if_pos hc,aaE,q]
   ·right
    show abO x ((if(aaO==aaO&&env.scope.kind==.function&&env.kindOf n==some .cell)=true then(n,abR) else(n,aaO))::_)=_;rw[if_neg hc,aaE,q]
  | false=>
   rw[aaE,q] at h;have ih:=vQ (env:=env) h;show abO x ((if(k==aaO&&env.scope.kind==.function&&env.kindOf n==some .cell)=true then(n,abR) else(n,k))::_)=_\/abO x ((if(k==aaO&&env.scope.kind==.function&&env.kindOf n==some .cell)=true then(n,abR) else(n,k))::_)=_;by_cases hc:(k==aaO&&env.scope.kind==.function&&env.kindOf n==some .cell)=true
   ·rw[if_pos hc,aaE,q];exact ih
   ·rw[if_neg hc,aaE,q];exact ih
theorem vX{env:Env}{x:Str}{k':acU}(GD:k'=.cell\/k'=.free):∀{names:List (Str×acU)},(∀y∈names,y.2≠.cell) →
  (names.map fun(n,k)=>if(k==aaO&&env.scope.kind==.function&&env.kindOf n==some .cell) then(n,abR) else(n,k)).lookup x=some k'->names.lookup x=some .free
 | [],_,h=>by cases h
 | (n,k)::r,hc,h=>by
  have h':abO x ((if(k==aaO&&env.scope.kind==.function&&env.kindOf n==some .cell)=true then(n,abR) else(n,k))::r.map _)=some k':=h;rw[aaE];cases q:x==n with
  | true=>
   by_cases hb:(k==aaO&&env.scope.kind==.function&&env.kindOf n==some .cell)=true
   ·simp only[aaw] at hb;have:k=.free:=by simpa using hb.1.1
    rw[this]
   ·rw[if_neg hb,aaE,q] at h';cases h'
    rcases GD with z | z
    ·exact absurd z (hc (n,k') abF)
    ·rw[z]
  | false=>
   refine vX (env:=env) GD (names:=r) (fun y hy=>hc y (aaU _ hy)) ?_;by_cases hb:(k==aaO&&env.scope.kind==.function&&env.kindOf n==some .cell)=true
   ·rw[if_pos hb,aaE,q] at h';exact h'
   ·rw[if_neg hb,aaE,q] at h';exact h'
theorem mem_lookup{x:Str}{k:acU}:∀{names:List (Str×acU)},names.lookup x=some k->(x,k)∈names
 | [],h=>by cases h
 | (n,j)::r,h=>by
  rw[aaE] at h;cases q:x==n with
  | true=>rw[q] at h;cases h;rw[eq_of_beq q];exact abF
  | false=>rw[q] at h;exact aaU _ (mem_lookup h)
structure jP(X:Cx)(N:List Str)(cap:List (Option Nat))(scope:Scope):Prop where
 len:cap.length=N.length
 at_:∀(i j:Nat) (x:Str),N[i]? =some x->cap[i]? =some (some j)->X.N[j]? =some x/\scope.names.lookup x=some .free/\(X.env.kindOf x=some .cell\/X.env.kindOf x=some .free)
 free:∀y∈scope.names,y.2=.free->X.env.kindOf y.1=some .cell\/X.env.kindOf y.1=some .free
 cell:∀y∈scope.names,y.2≠.cell
 kind:scope.kind=.function
 loc:∀y∈scope.names,y.2=.local->scope.names.lookup y.1=some .local
section
variable{X:Cx}{pins:List (Addr×Obj)}{σ:L2.St}{H:Hp}{s:aam}{N:List Str}{cap:List (Option Nat)}{scope:Scope}{cl:List (Str×Addr)}{fp:List Addr}
theorem TX (I : Inv X pins σ H s) (c : jP X N cap scope) (jQ : ∀ x c, cl.lookup x = some c -> X.env.cells.lookup x = some c /\ (x, aaO) ∈ scope.names) (uO : ∀ x, (x, aaO) ∈ scope.names -> ∃ c, cl.lookup x = some c)
    (hf : ∀ b ∈ fp, b < s.heap.objs.size /\ b ≠ X.env.locals /\ b ∉ X.fs /\ (b ∈ X.ex \/ X.aM.heap.objs.size <= b) /\ (∀ x c, X.env.cells.lookup x = some c -> c ≠ b)) {mr : Heap} {m : Str -> Option Value} {tk : Nat}
    (bu : mr.Ns s.heap.objs.size m) (hk : ∀ b o, s.heap.get? b = some o -> mr.get? b = some o) : Inv (bM X N scope cl s.heap.objs.size s H fp) [] (jC cap σ) H { s with heap := mr, toks := tk } := by
  have Y1 : ∀ {x : Str}, ((bM X N scope cl s.heap.objs.size s H fp).env.kindOf x = some .cell \/ (bM X N scope cl s.heap.objs.size s H fp).env.kindOf x = some .free) -> scope.names.lookup x = some .free := fun {x} hx => by
    rcases hx with hx | hx
    · exact vX (env := X.env) (.inl rfl) c.cell hx
    · exact vX (env := X.env) (.inr rfl) c.cell hx
  have ok : (bM X N scope cl s.heap.objs.size s H fp).Ok :=
    { mod := I.ok.mod
      kind := c.kind
      glob := I.ok.glob
      blt := I.ok.blt
      above := aar _
      inj := fun x y d h1 h2 => I.ok.inj x y d (jQ x d h1).1 (jQ y d h2).1
      has := fun x hx => uO x (mem_lookup (Y1 hx))
      kG := fun x d hz => nomatch hz
      hd := I.ok.hd
      frames := I.ok.frames
      lV := .inl rfl
      qD := fun b hb => ⟨abn (hf b hb).1, fun x d hd => (hf b hb).2.2.2.2 x d (jQ x d hd).1⟩
      bs := I.bs
      iq := abe I.ok.iq I.sz
      ku := fun b o e hb => by
        rcases (hf b hb).2.2.2.1 with z | z
        · exact I.ok.ku b o e z
        · exact absurd (aav (aaG (I.ok.bs b o e).1) z) (abQ _)
      kx := fun b hb hz => by
        rcases abo.mp (I.xE b hz) with e | e
        · exact (hf b hb).2.1 e
        · exact (hf b hb).2.2.1 e
      d5 := I.stack
      iZ := I.pG }
  refine ⟨ok, rfl, I.bare, Un.kept hk, ⟨m, bu, fun i x v e1 e2 _ => ?_⟩, fun x d e => ?_, I.aJ.fresh (aar _), fun x d e => ⟨(fun z => nomatch z), (I.gf x d (jQ x d e).1).2⟩, (fun p hp => nomatch hp), I.aJ.kept hk, ⟨?_, trivial⟩⟩
  · unfold jC at e2
    rw [aaN] at e2;cases q : cap[i]? with
    | none => rw [q] at e2; cases e2
    | some o =>
      rw [q] at e2;cases o with
      | none => cases e2
      | some j =>
        have e3 : (σ[j]?).join = some v := abh e2;have e4 : σ[j]? = some (some v) := by
          cases z : σ[j]? with
          | none => rw [z] at e3; cases e3
          | some w => rw [z] at e3; exact congrArg some e3
        obtain ⟨h1, h2, h3⟩ := c.at_ i j x e1 q;obtain ⟨m0, _, hl⟩ := I.loc;obtain ⟨u, ru, lk⟩ := hl j x v h1 e4 (.inr h3);refine ⟨u, ru, ?_⟩
        rcases lk with ⟨z, _⟩ | ⟨_, d, hd, uq⟩
        · rcases h3 with z' | z' <;> (rw [z] at z'; cases z')
        · obtain ⟨d', jI⟩ := uO x (mem_lookup h2)
          have e5 := (jQ x d' jI).1;rw [hd] at e5;cases e5;obtain ⟨ob, ho, yS⟩ := uq;exact .inr ⟨vQ (env := X.env) h2, d, jI, ob, hk _ _ ho, yS⟩
  · obtain ⟨v, ob, ho, yS⟩ := I.cell x d (jQ x d e).1
    exact ⟨v, ob, hk _ _ ho, yS⟩
  · show (jC cap σ).length = N.length
    unfold jC;rw [aat];exact c.len
theorem Un.but{fs ex:List Addr}{H H':Hp}{h h1 h2:Heap}{C:Addr}(u:Un fs ex H H' h h1)(sb:∀b,b≠C->h2.get? b=h1.get? b)(hC:h.get? C=none):Un fs ex H H' h h2:=by
 have ne:∀b o,h.get? b=some o->b≠C:=fun b o e z=>by rw[z,hC] at e;cases e
 exact⟨fun b o e n h1 h2=>(sb b (ne b o e)).trans (u.keep b o e n h1 h2),fun b o e n h1 h2=>by
  obtain⟨sl,q⟩:=u.slot b o e n h1 h2;exact⟨sl,(sb b (ne b o e)).trans q⟩,u.free,fun b o e h1=>by
  obtain⟨o',q⟩:=u.there b o e h1;exact⟨o',(sb b (ne b o e)).trans q⟩,u.ff,u.dP,u.eG⟩
theorem C4{ao:L2.St}{H':Hp}{s':aam}{h':Heap}(I:Inv X pins σ H s)(J:Inv (bM X N scope cl s.heap.objs.size s H fp) [] ao H' s')(sb:adZ s.heap.objs.size s'.heap h')
  (hf:∀b∈fp,iV X pins H b):Inv X pins σ H' { s' with heap:=h' }:=by
 have hC:H' s.heap.objs.size=none:=J.free;refine I.Ey (ch:=fp) J.os (Un.but J.base sb.2 (aeR (aar _))) (fun a o e=>?_) J.bare fun b hb=>⟨(hf b hb).2.2.2.1,(hf b hb).2.1,(hf b hb).2.2.2.2.1,(hf b hb).2.2.2.2.2⟩
 refine(J.aJ a o e).jt (fun b u hb q=>(sb.2 b ?_).trans q) (fun _ q=>q) fun _ _ q=>q
 rintro rfl
 rcases hb with z | z
 ·rw[<- z,hC] at e;cases e
 ·rw[hC] at z;cases z
end
section
variable{prog:abp}{w:World}{A:abT}{R:Result->aam->Prop}{s:aam}
theorem QL{elt target iter:Expr}{ifs:List Expr}{scope:Scope}{pos:Pos}{it acc:Value}{env:Env}(J:Nat->aam->Prop)
  (turn:∀k s,J k s->wpAny (model prog w) A (pyNext it) (fun r s1=>match r with
   | none=>R (.ok .next) s1
   | some v=>wpAny (model prog w) A (adN target it v) (fun _ s2=>wpAny (model prog w) A (afA target env v) (fun _ s3=>
     wpAny (model prog w) A (forIn ifs true fun c r=>if r=true then do let ok <- isTrue c env (eval c env);pure (acd ok) else pure (acd r)) (fun ok s4=>
      if ok=true then wpAny (model prog w) A (eval elt env) (fun x s5=>wpAny (model prog w) A (call (.builtin "list.append") [acc,x]) (fun _ s6=>∃j,j<k/\J j s6) (fun _ _=>False) s5) (fun _ _=>False) s4
      else ∃j,j<k/\J j s4) (fun _ _=>False) s3) (fun _ _=>False) s2) (fun _ _=>False) s1) (fun _ _=>False) s)
  (k:Nat) (h:J k s):afd (model prog w) A (.compLoop (.ListComp elt [⟨target,iter,ifs,0⟩] scope pos) 0 it acc env) R s:=by
 have no:∀{E:Value->aam->Prop} (e:Value) (s:aam),False->E e s:=fun _ _ z=>z.elim
 refine codeAny_loop (c:=.compLoop (.ListComp elt [⟨target,iter,ifs,0⟩] scope pos) 0 it acc env) rfl J (fun k s hJ=>?_) k h;show wpAny (model prog w) A ((compTurn (.ListComp elt [⟨target,iter,ifs,0⟩] scope pos) 0 it acc env).onRaise fun x=>do aeK x env;theTreesLotGoes x) _ _ s;refine wpAny_noted ?_;rw[compTurn_list];refine aak (wpAny_standAt (aak (abB (turn k s hJ) (fun r s1 h1=>?_) no)));cases r with
 | none=>exact aaq h1
 | some v=>
  refine aak (abB h1 (fun _ s2 h2=>aak (abB h2 (fun _ s3 h3=>aak (abB h3 (fun ok s4 h4=>?_) no)) no)) no);cases ok with
  | false=>exact aaq ⟨rfl,h4⟩
  | true=>exact aak (aak (abB h4 (fun x s5 h5=>aak (abB h5 (fun _ s6 h6=>aaq (aaq ⟨rfl,h6⟩)) no)) no))
end
section
variable{X:Cx}{tg iter elt:Expr}{ifs:List Expr}{scope:Scope}{pos:Pos}{N:List Str}{cap:List (Option Nat)}{wi:TI}{g:TG}{tc:TT}{te:TE}
theorem Ca{use:Option (Value->Sem Unit)}{Q':Value->aam->Prop}{pins:List (Addr×Obj)}{s:aam}{σ:L2.St}{H:Hp}{Q:VK}{p0:Pos}(hc:X.calm=true)(c:jP X N cap scope)(hi:PI X tg iter wi)(hg:∀cl C aM aU ex,PG (bM X N scope cl C aM aU ex) tg g)(ht:∀cl C aM aU ex,PF (bM X N scope cl C aM aU ex) ifs tc)
  (he:∀cl C aM aU ex,PE (bM X N scope cl C aM aU ex) elt te) (hs:∀x,abv iter X.env x=pure x) (I:Inv X pins σ H s) (h:ut wi cap g tc te σ H Q)
  (fin:∀(s3 s6:aam) (H3 H6:Hp) (fp:List Addr) (fv:L2.St) (cl:List (Str×Addr)) (D:Addr),Inv X pins σ H3 s3->(∀b∈fp,iV X pins H3 b)->Inv (bM X N scope cl s3.heap.objs.size s3 H3 fp) [] fv H6 s6->Q (.ref D) H6 →
   compPost (model X.prog X.w) X.A X.xe use Q' (.ref D) s3.heap.objs.size (.ok .next) s6) :
  wpAny (model X.prog X.w) X.A (comprehension (.ListComp elt [⟨tg,iter,ifs,0⟩] scope pos) scope X.env p0 (newList []) false (eval iter X.env) use) Q' X.xe s:=by
 obtain⟨cl,XY,jQ,uO⟩:=TV (scope:=scope) (env:=X.env) fun y hy hf=>I.ok.has y.1 (c.free y hy hf)
 refine wpAny_comprehension_free (use:=use) rfl hs XY c.kind c.loc (abB (hi pins s σ H _ I h) (fun v s1 h1=>abB h1 (fun ze s2 h2=>?_) fun _ _ z=>z) fun _ _ z=>z);obtain⟨it,fp,tn,J,H2,rfl,I2,T,b7,f2,h2⟩:=h2;refine acV (wpAny_newFunctionEnv c.cell (by intro y hy;simp at hy) (fun mr bu zC=>?_) c.kind);have hD:H2 s2.heap.objs.size=none:=I2.fresh;obtain⟨W,⟨m0,w0⟩,turn⟩:=h2 s2.heap.objs.size hD;have I3:=I2.yM (its:=[]) (ys:=[]) (t':=s2.toks) .nil (aca _);have iy:∀b∈fp,iV X pins (upd H2 s2.heap.objs.size (.lst [])) b:=fun b hb=>by
  obtain⟨a1,a2⟩:=f2 b hb;refine⟨?_,a2⟩;obtain⟨o,ho,_⟩:=T.obj 0 _ b7 b hb;rw[bC (abn (aaG ho))];exact a1
 have GF:∀b∈fp,b<s2.heap.objs.size:=fun b hb=>by
  obtain⟨o,ho,_⟩:=T.obj 0 _ b7 b hb;exact aaG ho
 revert bu zC
 generalize ZS:({ s2 with heap:=s2.heap.push { cls:=.type "list",data:=.seq ([]:List Value).toArray },toks:=s2.toks }:aam)=s3 at I3;intro bu zC;have GH:s3.heap=s2.heap.push { cls:=.type "list",data:=.seq ([]:List Value).toArray }:=by rw[<- ZS]
 have e3:s3.heap.objs.size=s2.heap.objs.size+1:=by rw[GH,aeX]
 have GJ:∀b o,s2.heap.get? b=some o->s3.heap.get? b=some o:=fun b o e=>by rw[GH];exact aaA _ e
 have zD:∀b o,s3.heap.get? b=some o->mr.get? b=some o:=fun b o e=>zC.extBut b o (abn (aaG e)) (aaA _ e)
 have Y2:mr.Ns s3.heap.objs.size (fun x=>([]:List (Str×Value)).reverse.lookup x):=bu;have I4:=TX (fp:=fp) (tk:=s3.toks+([]:List (Str×Value)).length) I3 c jQ uO (fun b hb=>⟨by rw[e3];exact Nat.lt_succ_of_lt (GF b hb),(iy b hb).2.1,(iy b hb).2.2.1,(iy b hb).2.2.2.1,(iy b hb).2.2.2.2.1⟩) Y2 zD;have loop:∀s4:aam,s4={ s3 with heap:=mr,toks:=s3.toks+([]:List (Str×Value)).length } →
   afd (model X.prog X.w) X.A (.compLoop (.ListComp elt [⟨tg,iter,ifs,0⟩] scope pos) 0 (.ref it) (.ref s2.heap.objs.size) (compEnvC scope cl s3.heap.objs.size X.env))
    (compPost (model X.prog X.w) X.A X.xe use Q' (.ref s2.heap.objs.size) s3.heap.objs.size) s4:=by
  rintro s4 rfl;refine QL (fun m s=>∃i cq zE,Inv (bM X N scope cl s3.heap.objs.size s3 (upd H2 s2.heap.objs.size (.lst [])) fp) [] cq zE s/\tn i s.heap/\(∀b∈fp,zE b=none)/\W i m cq zE) ?_ m0
   ⟨0,jC cap σ,_,I4,T.keep _ _ _ b7 fun b hb o e=>zD b o (GJ b o e),fun b hb=>(iy b hb).1,w0⟩
  rintro k s5 ⟨i,dq,H5,I5,oB,vg,w5⟩;have zF:∀{H':Hp} {ps:List (Addr×Obj)},(∀b∈fp,H' b=none)->(∀p∈ps,∀b∈fp,p.1≠b)->∀b∈fp,iV (bM X N scope cl s3.heap.objs.size s3 (upd H2 s2.heap.objs.size (.lst [])) fp) ps H' b:=fun{H' ps} hn hp b hb=>
   ⟨hn b hb,(fun z=>by have q:=GF b hb;have z':b=s3.heap.objs.size:=z;rw[z',e3] at q;exact absurd q (Nat.not_lt.mpr (acb _))),I5.ok.kx b hb,.inl hb,fun x d hd=>(iy b hb).2.2.2.2.1 x d (jQ x d hd).1,fun p ZT=>hp p (by simpa[bM] using ZT) b hb⟩
  rcases turn i k dq H5 w5 with⟨stop,qn⟩ | ⟨go,step⟩
  ·refine abB (T.done (bM X N scope cl s3.heap.objs.size s3 (upd H2 s2.heap.objs.size (.lst [])) fp) rfl rfl rfl hc i [] s5 dq H5 _ I5 (zF vg (fun _ z=>nomatch z)) oB stop) (fun r s6 hr=>?_) fun _ _ z=>z
   obtain⟨rfl,I6⟩:=hr;exact fin s3 s6 _ H5 fp dq cl _ I3 iy I6 qn
  ·refine abB (T.item (bM X N scope cl s3.heap.objs.size s3 (upd H2 s2.heap.objs.size (.lst [])) fp) rfl rfl rfl hc i [] s5 dq H5 _ I5 (zF vg (fun _ z=>nomatch z)) oB go) (fun r s6 hr=>?_) fun _ _ z=>z
   obtain⟨u,rfl,h6⟩:=hr;refine abB h6 (fun _ s7 ⟨x,H7,I7,rx,y7,zG,ZU⟩=>?_) fun _ _ z=>z
   have ZV:=I7.pinned (zF ZU (fun _ z=>nomatch z)) (T.obj _ _ zG);have back:∀{jb:L2.St} {H8:Hp} {s8:aam},Inv (bM X N scope cl s3.heap.objs.size s3 (upd H2 s2.heap.objs.size (.lst [])) fp) ([]++pN fp s7.heap) jb H8 s8 →
     Inv (bM X N scope cl s3.heap.objs.size s3 (upd H2 s2.heap.objs.size (.lst [])) fp) [] jb H8 s8/\tn (i+1) s8.heap/\∀b∈fp,H8 b=none:=fun{jb H8 s8} I8=>by
    refine⟨I8.tf,T.keep _ _ _ zG fun b hb o e=>(I8.pin (b,o) (aba _ (aba _ (sF hb e)))).1,fun b hb=>?_⟩;obtain⟨o,e,d⟩:=T.obj _ _ zG b hb;exact(I8.pin (b,o) (aba _ (aba _ (sF hb e)))).2.1
   refine aX (hg cl _ _ _ fp _ s7 dq H7 x u _ ZV rx (step x H7 y7)) fun _ s8 ⟨jb,H8,I8,q8⟩=>?_
   refine aX (ht cl _ _ _ fp _ s8 jb H8 _ I8 q8) fun ok s9 ⟨H9,I9,q9⟩=>?_
   cases ok with
   | false=>
    obtain⟨m',hm,w9⟩:=q9;obtain⟨a1,a2,a3⟩:=back I9;exact⟨m',hm,i+1,jb,H9,a1,a2,a3,w9⟩
   | true=>
    refine aX (he cl _ _ _ fp _ s9 jb H9 _ I9 q9) fun y vr ⟨fo,GL,ZW,ZX,xs,hx,hz,m',hm,ZY⟩=>?_
    refine aX (eo (X:=bM X N scope cl s3.heap.objs.size s3 (upd H2 s2.heap.objs.size (.lst [])) fp) _ vr jb GL (.ref s2.heap.objs.size) [fo] (.ref s2.heap.objs.size) [y] (fun _ H'=>W (i+1) m' jb H') ZW rfl (.cons ZX .nil) ⟨_,xs,_,rfl,rfl,hx,hz,ZY⟩) fun _ s11 ⟨_,zH,ZZ,_,Z0⟩=>?_
    obtain⟨a1,a2,a3⟩:=back ZZ;exact⟨m',hm,i+1,jb,zH,a1,a2,a3,Z0⟩
 exact codeAny_compStart_list (loop _ rfl) (T.self _ 0 _ _ _ (T.keep _ _ _ b7 fun b hb o e=>zD b o (GJ b o e)) (loop _ rfl))
theorem TY(hc:X.calm=true)(c:jP X N cap scope)(hi:PI X tg iter wi)(hg:∀cl C aM aU ex,PG (bM X N scope cl C aM aU ex) tg g)(ht:∀cl C aM aU ex,PF (bM X N scope cl C aM aU ex) ifs tc)
  (he:∀cl C aM aU ex,PE (bM X N scope cl C aM aU ex) elt te) (hs:∀x,abv iter X.env x=pure x:=by intro _;rfl):PE X (.ListComp elt [⟨tg,iter,ifs,0⟩] scope pos) (ut wi cap g tc te):=by
 intro pins s σ H Q I h;rw[eval_ListComp];refine Ca hc c hi hg ht he hs I h fun s3 s6 H3 H6 fp fv cl D I3 iy I6 q=>?_
 obtain⟨m6,zI,_⟩:=I6.loc;exact⟨m6,zI,fun h' sb=>⟨.ref D,H6,C4 I3 I6 sb iy,rfl,q⟩⟩
theorem TZ{i:Nat}{x:Str}{pos' oa:Pos}(hN:X.N.Nodup)(gT:X.N[i]? =some x)(gu:gJ X x)(hx:X.env.scope.names.lookup x=some .local)(qM:acR (.ListComp elt [⟨tg,iter,ifs,0⟩] scope pos) (some (.Name x pos')) oa.line X.env=pure true)
  (hc:X.calm=true) (c:jP X N cap scope) (hi:PI X tg iter wi) (hg:∀cl C aM aU ex,PG (bM X N scope cl C aM aU ex) tg g) (ht:∀cl C aM aU ex,PF (bM X N scope cl C aM aU ex) ifs tc)
  (he:∀cl C aM aU ex,PE (bM X N scope cl C aM aU ex) elt te) (hs:∀x,abv iter X.env x=pure x:=by intro _;rfl) :
  PS X (.Assign [.Name x pos'] (.ListComp elt [⟨tg,iter,ifs,0⟩] scope pos) oa) (uG (ut wi cap g tc te) (yc i)):=by
 intro pins s σ H D I h;rw[exec_Assign_Name_used x pos' _ oa qM];refine aak (wpAny_standAt (aak ?_));show wpAny (model X.prog X.w) X.A (comprehension (.ListComp elt [⟨tg,iter,ifs,0⟩] scope pos) scope X.env _ (newList []) false (eval iter X.env) (some (afA (.Name x pos') X.env)) >>= fun _=>pure ()) _ _ s;refine aak (Ca hc c hi hg ht he hs I h fun s3 s6 H3 H6 fp fv cl Dl I3 iy I6 q=>?_);obtain⟨m6,zI,_⟩:=I6.loc;have Y3:s6.heap.Ns s3.heap.objs.size m6:=zI;have I7:Inv X pins σ H6 s6:=C4 (h':=s6.heap) I3 I6 ⟨rfl,fun _ _=>rfl⟩ iy;refine wpAny_assign_Name (B1 I7 hN gT (.inl hx) (v:=.ref Dl) rfl (fun s8 I8 h8=>?_) ⟨.inr hx,gu⟩);obtain⟨a,Z1,ha⟩:=h8;have fresh:H6 s3.heap.objs.size=none:=I6.free;have jJ:s3.heap.objs.size≠X.env.locals:=Nat.ne_of_gt I3.lt;have lW:∀y d,X.env.cells.lookup y=some d->d≠s3.heap.objs.size:=fun y d e=>by
  obtain⟨v,o,ho,_⟩:=I3.cell y d e;exact abn (aaG ho)
 have Z2:∀p∈X.pn++pins,p.1≠s3.heap.objs.size:=fun p hp=>abn (aaG (I3.pin p hp).1)
 have Z3:s3.heap.objs.size≠a:=by
  rcases ha with z | z
  ·rw[z];exact jJ
  ·exact adt (lW x a z)
 refine⟨m6,Y3.sameBut Z1 Z3,fun h' sb=>aaq (aaq ⟨_,H6,?_,q⟩)⟩;exact I8.turned (t':=s8.toks) (fun b o hb e=>(sb.2 b hb).trans e) fresh jJ (.inr I3.sz) lW Z2
end
noncomputable def gM(cap:List (Option Nat))(σ:aP):aP:=cap.map fun o=>o.bind fun i=>(σ[i]?).join
noncomputable def eK(m:Mo α):Mo α:=fun ph=>match m ph with
 | .ok a ph'=>.ok a ph'
 | _=>.no
theorem pD{m:Mo α}{N:α->PH->Prop}{E':XC->PH->Prop}(h:(eK m ph).Run N E):(m ph).Run N E':=by
 unfold eK at h;cases e:m ph with
 | ok a ph'=>rw[e] at h;exact h
 | ex x ph'=>rw[e] at h;exact h.elim
 | no=>rw[e] at h;exact h
noncomputable def dz(chk:PH->Bool)(g:GM)(c:TM)(e:EM)(L:Nat):List W->aP->Mo Unit
 | [],_=>fun ph=>if chk ph=true then .ok () ph else .no
 | x::xs,σ=>fun ph=>if chk ph=true then aw (eK (g x σ)) (fun σ1=>aw (eK (c σ1)) fun t=>if t=true then aw (eK (e σ1)) fun w=>aw (lift (cF (.ref L) [w])) fun _=>dz chk g c e L xs σ1 else dz chk g c e L xs σ1) ph else .no
noncomputable def dO(im:IM)(cap:List (Option Nat))(g:GM)(c:TM)(e:EM):EM:=fun σ=>aw (im σ) fun r ph=>aw (dz r.2 g c e ph.length r.1 (gM cap σ)) (fun _=>aA (.ref ph.length)) (ph++[.lst []])
section
variable{K:aaj}{φ:Nat->Addr}{n:Nat}{H:Hp}
theorem aW.cap{ws:aP}{σ:L2.St}(h:aW K φ n H ws σ):∀(cap:List (Option Nat)),aW K φ n H (gM cap ws) (jC cap σ)
 | []=>.nil
 | o::r=>by
  have ih:=aW.cap h r;unfold gM jC at ih ⊢;rw[aaM,aaM];cases o with
  | none=>exact .nn ih
  | some i=>
   cases q:ws[i]? with
   | none=>simp only[abJ,q,Option.join_none];exact .nn ih
   | some o=>
    cases o with
    | none=>simp only[abJ,q,Option.join_some];exact .nn ih
    | some w=>
     obtain⟨v,ev,rv⟩:=h.get q;simp only[abJ,q,ev,Option.join_some];exact .sm rv ih
theorem Oe{L:Nat}{w u:W}{ph ph':PH}(h:cF (.ref L) [w] ph=some (u,ph')):∃ws,ph[L]? =some (.lst ws)/\ws.length<aaD/\ph'=ph.set L (.lst (ws++[w])):=by
 unfold cF at h;simp only at h;split at h
 ·rename_i ws hw;split at h
  ·rename_i hz;cases h;exact⟨ws,hw,hz,rfl⟩
  ·cases h
 ·cases h
end
noncomputable def zJ(K:aaj)(m:EM):TE:=fun σ H Q=>∃φ ph ws,aG K φ ph H/\aW K φ ph.length H ws σ/\(m ws ph).Run (fun w ph'=>
 ∀au H' v,aG K au ph' H'->Step K φ ph.length H au ph'.length H'->aH K au ph'.length H' w v->Q v H') (fun _ _=>False)
noncomputable def l9(K:aaj)(m:TM):TT:=fun σ H Q=>∃φ ph ws,aG K φ ph H/\aW K φ ph.length H ws σ/\(m ws ph).Run (fun b ph'=>
 ∀au H',aG K au ph' H'->Step K φ ph.length H au ph'.length H'->Q b H') (fun _ _=>False)
noncomputable def zK(K:aaj)(g:GM):TG:=fun v σ H Q=>∃φ ph ws w,aG K φ ph H/\aW K φ ph.length H ws σ/\aH K φ ph.length H w v/\(g w ws ph).Run (fun cM ph'=>
 ∀au H' ao,aG K au ph' H'->Step K φ ph.length H au ph'.length H'->aW K au ph'.length H' cM ao->Q ao H') (fun _ _=>False)
section
variable{X:Cx}{e:Expr}
theorem e0{m:EM}(h:IE X e m):PE X e (zJ X.K m):=PE.imp h fun _ _ _ ⟨φ,ph,ws,a,b,c⟩=>⟨φ,ph,ws,a,b,c.mono (fun _ _ z=>z) fun _ _ z=>z.elim⟩
theorem t0{m:TM}(h:IT X e m):PT X e (l9 X.K m):=PT.imp h fun _ _ _ ⟨φ,ph,ws,a,b,c⟩=>⟨φ,ph,ws,a,b,c.mono (fun _ _ z=>z) fun _ _ z=>z.elim⟩
theorem g0{g:GM}(h:IG X e g):PG X e (zK X.K g):=PG.imp h fun _ _ _ _ ⟨φ,ph,ws,w,a,b,r,c⟩=>⟨φ,ph,ws,w,a,b,r,c.mono (fun _ _ z=>z) fun _ _ z=>z.elim⟩
end
section
variable{X:Cx}{tg iter elt:Expr}{ifs:List Expr}{scope:Scope}{pos:Pos}{N:List Str}{cap:List (Option Nat)}{im:IM}{g:GM}{c:TM}{e:EM}
theorem QM{σ:L2.St}{Q:VK}{aB:Nat->Addr}{ph1:PH}{H1:Hp}{ws:aP}{J:It}{items:List W}{chk:PH->Bool}{D:Addr}(aE:aG X.K aB ph1 H1)(hS:aW X.K aB ph1.length H1 ws σ)(hJ:zt X.K J items chk aB ph1.length H1)(hD:H1 D=none)
  (h:(dz chk g c e ph1.length items (gM cap ws) (ph1++[.lst []])).Run (fun _ ph'=>∀au H' v,aG X.K au ph' H'->Step X.K aB ph1.length H1 au ph'.length H'->aH X.K au ph'.length H' (.ref ph1.length) v->Q v H') (fun _ _=>True)) :
  ∃W:Nat->Nat->L2.St->Hp->Prop,(∃m,W 0 m (jC cap σ) (upd H1 D (.lst []))) /\
   ∀i m cq H2,W i m cq H2->(J.stop i H2/\Q (.ref D) H2)\/(J.go i H2/\∀x H3,J.qE i H2 x H3->zK X.K g x cq H3 fun ja H4=>l9 X.K c ja H4 fun b H5=>
    if b=true then zJ X.K e ja H5 fun v H6=>∃xs,H6 D=some (.lst xs)/\xs.length<aaD/\∃m',m'<m/\W (i+1) m' ja (upd H6 D (.lst (xs++[v]))) else ∃m',m'<m/\W (i+1) m' ja H5):=by
 have nl:=j9 (ws:=[]) (vs:=[]) aE .nil hD;have hl:(ph1++[PO.lst []]).length=ph1.length+1:=by simp
 rw[hl] at nl;obtain⟨ba,s2,_⟩:=nl;refine⟨fun i m cq H2=>∃aV ph2 eh,m=(items.drop i).length/\aG X.K aV ph2 H2/\aW X.K aV ph2.length H2 eh cq/\Step X.K (ext aB ph1.length D) (ph1.length+1) (upd H1 D (.lst [])) aV ph2.length H2 /\
   (dz chk g c e ph1.length (items.drop i) eh ph2).Run (fun _ ph'=>∀au H' v,aG X.K au ph' H'->Step X.K aV ph2.length H2 au ph'.length H'->aH X.K au ph'.length H' (.ref ph1.length) v->Q v H') (fun _ _=>True),
  ⟨_,ext aB ph1.length D,ph1++[PO.lst []],gM cap ws,rfl,ba,?_,by rw[hl];exact Step.refl,?_⟩,?_⟩
 ·rw[hl];exact(aW.cap (hS.mono s2) cap)
 ·exact Out.Run.mono h (fun _ ph' k au H' v r' dM rv=>k au H' v r' (s2.trans (by rw[hl] at dM;exact dM)) rv) fun _ _ _=>trivial
 rintro i m cq H2 ⟨aV,ph2,eh,rfl,zL,i7,b7,h4⟩;have Y4:aV ph1.length=D:=by rw[b7.eq _ (abD _),jk]
 cases hd:items.drop i with
 | nil=>
  rw[hd] at h4;unfold dz at h4;split at h4
  ·rename_i hc;have hn:items[i]? =none:=by
    have:items.length<=i:=by simpa using hd
    simpa using this
   refine .inl ⟨(hJ aV _ H2 zL (s2.trans b7) hc i).2 hn,h4 aV H2 _ zL Step.refl ?_⟩;rw[<- Y4];exact .ref (aav (abD _) b7.le)
  ·exact h4.elim
 | cons x xs=>
  rw[hd] at h4;unfold dz at h4;split at h4
  ·rename_i hc;have hx:items[i]? =some x:=by
    have:=congrArg (fun l=>l[0]?) hd
    simpa using this
   have l4:items.drop (i+1)=xs:=by
    have:=congrArg (fun l=>l.drop 1) hd
    simpa[List.drop_drop,afD] using this
   obtain⟨zu,hy⟩:=(hJ aV _ H2 zL (s2.trans b7) hc i).1 x hx;refine .inr ⟨zu,fun v H3 y=>?_⟩;obtain⟨c6,s3,rv⟩:=hy v H3 y;rw[cE] at h4;refine⟨aV,ph2,eh,x,c6,i7.mono s3,rv,(pD h4).mono (fun eN l5 h5 gv H5 dq gq s5 eO=>?_) fun _ _ z=>z⟩;rw[cE] at h5;refine⟨gv,l5,eN,gq,eO,(pD h5).mono (fun t zM h6 HB H6 GN s6=>?_) fun _ _ z=>z⟩;have zN:=(s3.trans s5).trans s6;have qo:=b7.trans zN;cases t with
   | false=>
    refine jy ⟨xs.length,by simp,HB,zM,eN,by rw[l4],GN,eO.mono s6,qo,?_⟩;rw[l4];exact Out.Run.mono h6 (fun _ ph' k au H' v r' dM q=>k au H' v r' (zN.trans dM) q) fun _ _ z=>z
   | true=>
    have GO:(aw (eK (e eN)) (fun w=>aw (lift (cF (.ref ph1.length) [w])) fun _=>dz chk g c e ph1.length xs eN) zM).Run _ _:=h6;rw[cE] at GO;refine jz ⟨HB,zM,eN,GN,eO.mono s6,(pD GO).mono (fun w7 Z4 h7 HC H7 v7 GP s7 r7=>?_) fun _ _ z=>z⟩;rw[cE] at h7;obtain⟨u8,ph8,e8,h8⟩:=run_lift h7;obtain⟨wsL,hL,hz,rfl⟩:=Oe e8;have Z5:=zN.trans s7;have EG:=qo.trans s7;have XZ:HC ph1.length=D:=by rw[EG.eq _ (abD _),jk]
    obtain⟨vs,hv,oG⟩:=GP.hp _ _ hL;have gU:ph1.length<Z4.length:=(aal.mp hL).1;obtain⟨q1,q2⟩:=wR GP hL (oG.append (.cons r7 .nil));rw[XZ] at hv q1 q2;refine⟨vs,hv,by rw[<- oG.length];exact hz,xs.length,by simp,HC,_,eN,by rw[l4],q1,((eO.mono s6).mono s7).mono q2,EG.trans q2,?_⟩;rw[l4];exact Out.Run.mono h8 (fun _ ph' k au H' v r' dM q=>k au H' v r' ((Z5.trans q2).trans dM) q) fun _ _ z=>z
  ·exact h4.elim
theorem Cw{σ:L2.St}{H:Hp}{Q:VK}(h:tM X (dO im cap g c e) σ H Q):ut (tI X im) cap (zK X.K g) (l9 X.K c) (zJ X.K e) σ H Q:=by
 obtain⟨φ,ph,ws,hH,hS,h⟩:=h;unfold dO at h;rw[cE] at h;refine⟨φ,ph,ws,hH,hS,h.mono (fun r ph1 h aB H1 J aE s1 hJ D hD=>?_) fun _ _ z=>z⟩;rw[cE] at h;exact QM aE (hS.mono s1) hJ hD (Out.Run.mono h (fun _ ph' k au H' v r' dM rv=>k au H' v r' (s1.trans dM) rv) fun _ _ _=>trivial)
theorem PF.imp{t t':TT}(h:PF X ifs t)(k:∀σ H Q,t' σ H Q->t σ H Q):PF X ifs t':=fun pins s σ H Q I q=>h pins s σ H Q I (k σ H Q q)
noncomputable def eA:TM:=fun _=>aA true
theorem V9:PF X [] (l9 X.K eA):=PF.imp V8 fun σ H Q h=>by
 obtain⟨φ,ph,ws,hH,hS,h⟩:=h;exact h φ H hH Step.refl
theorem T2(hc:X.calm=true)(cp:jP X N cap scope)(hi:II X tg iter im)(hg:∀cl C aM aU ex,IG (bM X N scope cl C aM aU ex) tg g)(ht:∀cl C aM aU ex,PF (bM X N scope cl C aM aU ex) ifs (l9 X.K c))
  (he:∀cl C aM aU ex,IE (bM X N scope cl C aM aU ex) elt e) (hs:∀x,abv iter X.env x=pure x:=by intro _;rfl):IE X (.ListComp elt [⟨tg,iter,ifs,0⟩] scope pos) (dO im cap g c e):=
 PE.imp (TY hc cp hi (fun cl C aM aU ex=>g0 (hg cl C aM aU ex)) ht (fun cl C aM aU ex=>e0 (he cl C aM aU ex)) hs) fun _ _ _ h=>Cw h
theorem T3{i:Nat}{x:Str}{pos' oa:Pos}(hN:X.N.Nodup)(gT:X.N[i]? =some x)(gu:gJ X x)(hx:X.env.scope.names.lookup x=some .local)
  (hc:X.calm=true) (cp:jP X N cap scope) (hi:II X tg iter im) (hg:∀cl C aM aU ex,IG (bM X N scope cl C aM aU ex) tg g) (ht:∀cl C aM aU ex,PF (bM X N scope cl C aM aU ex) ifs (l9 X.K c))
  (he:∀cl C aM aU ex,IE (bM X N scope cl C aM aU ex) elt e) (qM:acR (.ListComp elt [⟨tg,iter,ifs,0⟩] scope pos) (some (.Name x pos')) oa.line X.env=pure true:=by rfl) (hs:∀x,abv iter X.env x=pure x:=by intro _;rfl) :
  IS X (.Assign [.Name x pos'] (.ListComp elt [⟨tg,iter,ifs,0⟩] scope pos) oa) (aK (dO im cap g c e) (gN i)):=
 PS.imp (TZ hN gT gu hx qM hc cp hi (fun cl C aM aU ex=>g0 (hg cl C aM aU ex)) ht (fun cl C aM aU ex=>e0 (he cl C aM aU ex)) hs) fun D σ H h=>by
  obtain⟨φ,ph,ws,hH,hS,h⟩:=h;unfold aK at h;rw[cE] at h;exact Cw ⟨φ,ph,ws,hH,hS,h.mono (fun w ph1 h aB H1 v aE s1 r1=>h aB H1 aE s1 _ ((hS.mono s1).set r1 i)) fun _ _ z=>z⟩
end
noncomputable def Y5:List GM->List W->aP->Mo aP
 | [],[],σ=>aA σ
 | g::gs,w::ws,σ=>aw (g w σ) fun ao=>Y5 gs ws ao
 | _,_,_=>ee
section
variable{X:Cx}{tg:Expr}{es:List Expr}{g:GM}{gs:List GM}{pos:Pos}
noncomputable def FJ(o i v:W):Po Unit:=fun ph=>match o,i with
 | .ref r,.int k=>match ph[r]? with
  | some (.lst ws)=>match gp ws.length k with
   | some j=>some ((),ph.set r (.lst (ws.set j v)))
   | none=>none
  | _=>none
 | _,_=>none
end
noncomputable def jD(ws:List W)(lo hi:Option Int):List W:=(ws.drop (HT.bh ws.length 0 lo)).take (HT.bh ws.length ws.length hi-HT.bh ws.length 0 lo)
theorem xn(r:aY K φ n H ws vs)(lo hi:Option Int):aY K φ n H (jD ws lo hi) (ky vs lo hi):=by
 unfold jD ky;rw[r.length];exact(r.drop _).take _
noncomputable def oH(w:W)(lo hi:Option Int):Po W:=fun ph=>match w with
 | .tup ws=>if HT.bh ws.length 0 lo=0/\HT.bh ws.length ws.length hi=ws.length then none else some (.tup (jD ws lo hi),ph)
 | .fl ws=>some (.ref ph.length,ph++[.lst (jD ws lo hi)])
 | .ref i=>match ph[i]? with
  | some (.lst ws)=>some (.ref ph.length,ph++[.lst (jD ws lo hi)])
  | _=>none
 | _=>none
abbrev OM:=aP->Mo (Option Int)
noncomputable def fI:OM:=fun _=>aA none
noncomputable def fJ(m:EM):OM:=fun σ=>aw (m σ) fun w=>lift (match w with
 | .int i=>ret (some i)
 | _=>d6)
noncomputable def fV(m:EM)(lo hi:OM):EM:=fun σ=>aw (m σ) fun w=>aw (lo σ) fun l=>aw (hi σ) fun h=>lift (oH w l h)
noncomputable def tO(X:Cx)(m:OM):TO:=fun σ H Q=>∃φ ph ws,aG X.K φ ph H/\aW X.K φ ph.length H ws σ/\(m ws ph).Run (fun o ph'=>
 ∀au H',aG X.K au ph' H'->Step X.K φ ph.length H au ph'.length H'->Q o H') (XE X φ ph.length H)
abbrev qN(X:Cx)(e:Option Expr)(m:OM):Prop:=L2.PO X e (tO X m)
section
variable{X:Cx}{e:Expr}{lo hi:Option Expr}{m:EM}{ml mh:OM}{pos p2:Pos}
theorem T4:qN X none fI:=fun pins s σ H Q I ⟨φ,ph,ws,hH,hS,h⟩=>Tj pins s σ H Q I (h φ H hH Step.refl)
theorem T5(he:IE X e m):qN X (some e) (fJ m):=fun pins s σ H Q I ⟨φ,ph,ws,hH,hS,h⟩=>Tn he pins s σ H Q I (tM.bind hH hS h fun w ph1 aB H1 v aE s1 r1 h=>by
 obtain⟨o,ph',e,k⟩:=run_lift h;split at e
 ·cases e;cases r1;exact⟨_,rfl,k aB H1 aE s1⟩
 ·cases e)
theorem tO.bind{β:Type}{m:OM}{σ:L2.St}{H:Hp}{Q:Option Int->Hp->Prop}{φ:Nat->Addr}{ph:PH}{ws:aP}{f:Option Int->Mo β}{N:β->PH->Prop}(hH:aG X.K φ ph H)(hS:aW X.K φ ph.length H ws σ)(h:(aw (m ws) f ph).Run N (XE X φ ph.length H))
  (k:∀b ph1 aB H1,aG X.K aB ph1 H1->Step X.K φ ph.length H aB ph1.length H1->(f b ph1).Run N (XE X aB ph1.length H1)->Q b H1):tO X m σ H Q:=by
 rw[cE] at h;exact⟨φ,ph,ws,hH,hS,h.mono (fun b ph1 h1 aB H1 aE s1=>k b ph1 aB H1 aE s1 (h1.mono (fun _ _ z=>z) fun _ _ z=>z.step s1)) fun _ _ z=>z⟩
theorem X1(he:IE X e m)(hl:qN X lo ml)(hh:qN X hi mh):IE X (.Subscript e (.Slice lo hi none p2) pos) (fV m ml mh):=
 PE.imp (RY (kL.or Vq Tq) he hl hh) fun σ H Q h=>by
  obtain⟨φ,ph,ws,hH,hS,h⟩:=h;refine tM.bind hH hS h fun w ph1 aB H1 v aE s1 r1 h=>tO.bind aE (hS.mono s1) h fun l ph2 aV H2 ba s2 h=>tO.bind ba ((hS.mono s1).mono s2) h fun u dW ej H3 c6 s3 h=>?_
  obtain⟨w',ph',e,k⟩:=run_lift h;have r3:=(r1.mono s2).mono s3;have qO:=(s1.trans s2).trans s3;unfold oH at e;cases r3 with
  | tup hq r=>
   simp only at e;split at e
   ·cases e
   ·rename_i hw;cases e;refine .inl ⟨_,_,rfl,bZ.of hq,by rw[<- r.length];exact hw,fun p hp=>?_⟩;exact k ej _ _ (c6.tup hp) (qO.trans (jh hp)) (.tup bW ((xn r l u).mono (jh hp)))
  | fl hq r=>
   cases e;refine .inr ⟨_,_,rfl,hq.sq,fun p hp=>?_⟩;obtain⟨q1,q2,q3⟩:=j9 c6 (xn r l u) hp;exact k _ _ _ q1 (qO.trans q2) q3
  | ref gT=>
   simp only at e;split at e
   ·rename_i cM hw;cases e;obtain⟨vs,hv,r⟩:=c6.hp _ _ hw;refine .inr ⟨_,_,rfl,bD.of hv,fun p hp=>?_⟩;obtain⟨q1,q2,q3⟩:=j9 c6 (xn r l u) hp;exact k _ _ _ q1 (qO.trans q2) q3
   ·cases e
  | _=>cases e
end
noncomputable def nM:List W->Po W:=fun xs ph=>match xs with
 | [w]=>match cy w ph with
  | some ws=>some (.ref ph.length,ph++[.lst ws])
  | none=>none
 | _=>none
theorem T6:gk K (fun xs H Q=>∃p ys,xs=[.ref p]/\(bD K H p ys\/bZ K H p ys)/\∀l,H l=none->Q (.ref l) (upd H l (.lst ys))) nM:=by
 intro φ ph H xs vs w ph' Q hH r e k;unfold nM at e;split at e
 ·split at e
  ·rename_i w0 ws hw;cases e;cases r with
   | cons r r'=>
    cases r';obtain⟨a,ys,rfl,hs,rs⟩:=wQ hH r hw;refine⟨a,ys,rfl,hs,fun l hl=>?_⟩;obtain⟨q1,q2,q3⟩:=j9 hH rs hl;exact k _ _ _ q1 q2 q3
  ·cases e
 ·cases e
noncomputable def lB:List W->Po W:=fun xs ph=>match xs with
 | [w]=>match cy w ph with
  | some ws=>some (.tup ws,ph)
  | none=>none
 | _=>none
theorem Sd:gk K (fun xs H Q=>∃p ys,xs=[.ref p]/\((bD K H p ys/\∀l,H l=none->Q (.ref l) (upd H l (.tup ys)))\/(bZ K H p ys/\Q (.ref p) H))) lB:=by
 intro φ ph H xs vs w ph' Q hH r e k;unfold lB at e;split at e
 ·split at e
  ·rename_i w0 ws hw;cases e;cases r with
   | cons r r'=>
    cases r';obtain⟨a,ys,rfl,hs,rs⟩:=QJ hH r hw;refine⟨a,ys,rfl,?_⟩
    rcases hs with hs | hs
    ·exact .inl ⟨hs,fun l hl=>k φ _ _ (hH.tup hl) (jh hl) (.tup bW (rs.mono (jh hl)))⟩
    ·exact .inr ⟨bZ.of hs,k φ H _ hH Step.refl (.tup hs rs)⟩
  ·cases e
 ·cases e
noncomputable def X3:List W->Po W:=fun xs=>match xs with
 | [.int i,.int j]=>ret (.int (if j>i then j else i))
 | _=>d6
noncomputable def X4:List W->Po W:=fun xs=>match xs with
 | [.int i,.int j]=>ret (.int (if j<i then j else i))
 | _=>d6
noncomputable def jl(f f':W->W->Po W)(a b c:EM):EM:=fun σ=>aw (a σ) fun x=>aw (b σ) fun y=>aw (lift (f x y)) fun z=>match z with
 | .bl k=>if k=true then aw (c σ) fun u=>lift (f' y u) else aA (.bl false)
 | _=>ee
section
variable{X:Cx}{a b c:Expr}{ma mb mc:EM}{pos:Pos}{op dj:CmpOp}{r r':R2}{f f':W->W->Po W}
theorem Cb(hi:cU X.K r f)(gT:cU X.K r' f'){σ:L2.St}{H:Hp}{Q:VK}(h:tM X (jl f f' ma mb mc) σ H Q):xF r r' (tM X ma) (tM X mb) (tM X mc) σ H Q:=by
 obtain⟨φ,ph,ws,hH,hS,h⟩:=h;refine tM.bind hH hS h fun x ph1 aB H1 vx aE s1 rx h=>tM.bind aE (hS.mono s1) h fun y ph2 aV H2 vy ba s2 ry h=>?_
 rw[cE] at h;obtain⟨z,dW,e,h⟩:=run_lift h;refine hi ba (rx.mono s2) ry e fun ej H3 vz c6 s3 rz=>?_
 have Z6:=((hS.mono s1).mono s2).mono s3;cases rz with
 | bl k=>
  refine⟨k,rfl,?_⟩;cases k with
  | false=>exact jy (h ej H3 _ c6 ((s1.trans s2).trans s3) (.bl false))
  | true=>
   have h':(aw (mc ws) (fun u=>lift (f' y u)) dW).Run (fun w ph'=>∀au H' v,aG X.K au ph' H'->Step X.K φ ph.length H au ph'.length H'->aH X.K au ph'.length H' w v->Q v H') (XE X ej dW.length H3):=Out.Run.mono h (fun _ _ z=>z) fun _ _ z=>z.step s3
   refine jz (tM.bind c6 Z6 h' fun u kO oP H4 vu zv s4 ru h=>?_);obtain⟨w,ph',e',k'⟩:=run_lift h;exact gT zv ((ry.mono s3).mono s4) ru e' fun gv H5 v gq s5 r5=>k' gv H5 v gq ((((s1.trans s2).trans s3).trans s4).trans s5) r5
 | _=>exact h.elim
theorem Se(ho:bt X (abC op) r)(hi:cU X.K r f)(dn:bt X (abC dj) r')(gT:cU X.K r' f')(ha:IE X a ma)(hb:IE X b mb)(hc:IE X c mc)(hm:aeE [op,dj] [b,c]=false:=by with_unfolding_all rfl) :
  IE X (.Compare a [op,dj] [b,c] pos) (jl f f' ma mb mc):=PE.imp (RS ho dn ha hb hc hm) fun _ _ _ h=>Cb hi gT h
theorem Sf(ho:bt X (abC op) r)(hi:cU X.K r f)(dn:bt X (abC dj) r')(gT:cU X.K r' f')(ha:IE X a ma)(hb:IE X b mb)(hc:IE X c mc)(hm:aeE [op,dj] [b,c]=false:=by with_unfolding_all rfl) :
  IT X (.Compare a [op,dj] [b,c] pos) (eT (jl f f' ma mb mc)):=PT.imp (RT ho dn ha hb hc hm) fun σ H Q h=>by
 obtain⟨φ,ph,ws,hH,hS,h⟩:=h;refine Cb hi gT (tM.bind hH hS h fun x ph1 aB H1 vx aE s1 rx h=>?_);obtain⟨w,ph',e,k⟩:=run_lift h;split at e
 ·cases e;cases rx;exact⟨_,rfl,k aB H1 aE s1⟩
 ·cases e
end
structure ei(X:Cx)(N:List Str)(sc:Scope):Prop where
 hN:X.N=N
 jR:∀x,aI sc x->aI X.env.scope x
 loc:∀x,Loc sc x->Loc X.env.scope x
 gl:∀x,sc.names.lookup x=some .globalImplicit->Gl X x
 fn:∀x,Loc sc x->(X.fn x=true\/X.env.scope.names.lookup x=some .local)/\gJ X x
 nd:N.Nodup
structure BdT(X:Cx)(N:List Str)(sc:Scope)(k:Nat):Prop extends ei X N sc where
 calm:X.calm=true
 room:cL k X.A
structure Bd(X:Cx)(N:List Str)(sc:Scope)(k:Nat):Prop extends BdT X N sc k where
 yT:aeD (model X.prog X.w) X.A X.env X.xe
section
variable{X:Cx}{N:List Str}{sc:Scope}{k:Nat}{pos:Pos}
variable{x:Str}
theorem ei.var(B:ei X N sc)(i:Nat)(hN:N[i]? =some x)(hv:aI sc x)(hd:(x==("__debug__":Str))=false)(hcd:(x==("__classdict__":Str))=false):IE X (.Name x pos) (aa i):=
 VA i (hN:=by rw[B.hN];exact hN) (hv:=B.jR x hv) (hd:=hd) (hcd:=hcd)
theorem ei.name(B:ei X N sc)(i:Nat)(hN:N[i]? =some x)(hl:Loc sc x):IG X (.Name x pos) (gN i):=
 Tw (by rw[B.hN];exact B.nd) (by rw[B.hN];exact hN) (B.loc x hl) (B.fn x hl)
theorem ei.set(B:ei X N sc)(i:Nat){e:Expr}{m:EM}{pos':Pos}(hN:N[i]? =some x)(hl:Loc sc x)(he:IE X e m)(hs:acR e (some (.Name x pos')) pos.line X.env=pure false:=by rfl):IS X (.Assign [.Name x pos'] e pos) (aK m (gN i)):=
 VP (by rw[B.hN];exact B.nd) (by rw[B.hN];exact hN) (B.loc x hl) he hs (B.fn x hl)
theorem Bd.Y6(B:Bd X N sc k){iter tg:Expr}{im:IM}{g:GM}{b:SM}{body:List Stmt}(hi:II X tg iter im)(hg:IG X tg g)(hb:eM X body b)(hs:∀x,abv iter X.env x=pure x:=by intro _;rfl):IS X (.For tg iter body [] pos) (ie im g b):=
 VR B.yT B.calm hi hg hb hs
theorem Bd.Wa(B:Bd X N sc k){c:Expr}{t:TM}{b:SM}{body:List Stmt}(hc:IT X c t)(hb:eM X body b):IS X (.While c body [] pos) (fG t b):=R7 B.yT hc hb
theorem As{env:Env}{x:Str}:∀{names:List (Str×acU)},names.lookup x=some .globalImplicit →
  (names.map fun(n,k)=>if(k==aaO&&env.scope.kind==.function&&env.kindOf n==some .cell) then(n,abR) else(n,k)).lookup x=some .globalImplicit
 | [],h=>by cases h
 | (n,k)::r,h=>by
  show abO x ((if(k==aaO&&env.scope.kind==.function&&env.kindOf n==some .cell)=true then(n,abR) else(n,k))::_)=_;rw[aaE] at h;cases q:x==n with
  | true=>
   rw[q] at h;cases h;have qJ:¬((aeo==aaO&&env.scope.kind==.function&&env.kindOf n==some .cell)=true):=by
    rw[show(aeo==aaO)=false from rfl,aeV,aeV];exact aaQ
   rw[if_neg qJ,aaE,q]
  | false=>
   rw[q] at h;have ih:=As (env:=env) h;split
   ·rw[aaE,q];exact ih
   ·rw[aaE,q];exact ih
theorem Bd.bM(B:Bd X N sc k){N':List Str}{scope:Scope}{cl:List (Str×Addr)}{C:Addr}{aM:aam}{aU:Hp}{ex:List Addr}(hc:∀y∈scope.names,y.2≠.cell)(nd:N'.Nodup):Bd (bM X N' scope cl C aM aU ex) N' scope k where
 hN:=rfl
 jR:=fun x h=>by
  rcases h with h | h | h
  ·exact .inl (adF (env:=X.env) h)
  ·exact absurd rfl (hc _ (mem_lookup h))
  ·exact .inr (vQ (env:=X.env) h)
 loc:=fun x h=>by
  rcases h with h | h
  ·exact .inl (adF (env:=X.env) h)
  ·exact absurd rfl (hc _ (mem_lookup h))
 gl:=fun x h=>As (env:=X.env) h
 calm:=B.calm
 room:=B.room
 fn:=fun x h=>by
  rcases h with h | h
  ·exact⟨.inr (adF (env:=X.env) h),fun _ _ _ _ _=>trivial⟩
  ·exact absurd rfl (hc _ (mem_lookup h))
 yT:=PassesOwn.never
 nd:=nd
noncomputable def EH(sc scope:Scope)(N N':List Str)(cap:List (Option Nat)):Bool:=
 cap.length==N'.length&&(abX N'.length).all (fun i=>match cap[i]? with
  | some (some j)=>(match N'[i]? with
   | some x=>N[j]? ==some x&&scope.names.lookup x==some .free&&(sc.names.lookup x==some .cell||sc.names.lookup x==some .free)
   | none=>false)
  | _=>true)&&scope.names.all (fun y=>y.2 != .cell&&(y.2 != .free||sc.names.lookup y.1==some .cell||sc.names.lookup y.1==some .free)&&(y.2 != .local||scope.names.lookup y.1==some .local))&&scope.kind==.function
theorem Bd.cap(hN:X.N=N)(aL:X.env.scope=sc){N':List Str}{scope:Scope}{cap:List (Option Nat)}(h:EH sc scope N N' cap=true):jP X N' cap scope:=by
 unfold EH at h;simp only[aaw,abA,beq_iff_eq,bne_iff_ne,ado,ne_eq] at h;obtain⟨⟨⟨h1,h2⟩,h3⟩,h4⟩:=h;have hk:∀x,X.env.kindOf x=sc.names.lookup x:=fun x=>by unfold Env.kindOf;rw[aL]
 refine⟨h1,fun i j x e1 e2=>?_,fun y hy hf=>?_,fun y hy=>(h3 y hy).1.1,h4,fun y hy hl=>?_⟩
 ·have hi:i<N'.length:=(aal.mp e1).1;have:=h2 i (acZ.mpr hi);rw[e2,e1] at this;simp only[aaw,beq_iff_eq,ado] at this;obtain⟨⟨a1,a2⟩,a3⟩:=this;rw[hN,hk];exact⟨a1,a2,a3⟩
 ·rw[hk]
  rcases(h3 y hy).1.2 with(z | z) | z
  ·exact absurd hf z
  ·exact .inl z
  ·exact .inr z
 ·rcases(h3 y hy).2 with z | z
  ·exact absurd hl z
  ·exact z
end
noncomputable def isStar:Expr->Bool
 | .Starred .. =>true
 | _=>false
theorem eZ{e:Expr}{es:List Expr}(h:isStar e=false):aaY (e::es) env=(false,eval e env)::aaY es env:=by
 cases e <;> first | rfl | cases h
noncomputable def c9(es:List Expr):Bool:=es.all fun e=> !isStar e
theorem any_none{env:Env}{pos:Pos}:∀{es:List Expr},c9 es=true->(ady pos (aaY es env)).any (·.1)=false
 | [],_=>rfl
 | e::es,h=>by
  unfold c9 at h;rw[abS,aaw] at h;have h1:isStar e=false:=by simpa using h.1
  rw[eZ h1];show(false||(ady pos (aaY es env)).any (·.1))=false;rw[any_none (es:=es) h.2];rfl
theorem all_none{env:Env}{pos:Pos}:∀{es:List Expr},c9 es=true->(ady pos (aaY es env)).all (fun x=> !x.1)=true
 | [],_=>rfl
 | e::es,h=>by
  unfold c9 at h;rw[abS,aaw] at h;have h1:isStar e=false:=by simpa using h.1
  rw[eZ h1];show(!false&&(ady pos (aaY es env)).all (fun x=> !x.1))=true;rw[all_none (es:=es) h.2];rfl
section
variable{X:Cx}{e:Expr}{es:List Expr}{m:EM}{a:AM}{pos:Pos}
theorem Y7(h:isStar e=false)(he:IE X e m)(hr:IA X es a):IA X (e::es) (af m a):=TF he hr (eZ h)
end
section
variable{X:Cx}{k:Nat}{f:Addr}{fd:aaZ}{ps:List Str}{fm:List W->Mo W}{x:Str}{p pos:Pos}{e:Expr}{es:List Expr}{a:AM}
theorem Wb(hn:c9 (e::es)=true)(bT:(x==("__debug__":Str))=false)(F:bO X.prog X.w X.K X.mg X.base (bL X.prog X.w) k f fd ps (bV X.K X.mg ps.length fm))(hl:∀{xs:List W} {ph:PH},xs.length≠ps.length->fm xs ph=.no)(hr:cL k X.A)(hg:Gl X x)(hm:X.mg x=some (.ref f))
  (hk:aaC X.K (.ref f)=true) (hb:Binds X.K fd ps []) (ha:IA X (e::es) a):IE X (.Call (.Name x p) (e::es) [] pos) (aO fm a):=by
 unfold c9 at hn;rw[abS,aaw] at hn;exact TJ F hl hr hg hm hk hb ha bT (eZ (by simpa using hn.1)) (any_none hn.2)
variable{t:AM}{id T:String}{r:List V->Hp->VK->Prop}{fp:List W->Po W}
theorem Wc(bu:c9 (e::es)=true)(hn:x≠"__name__")(bT:(x==("__debug__":Str))=false)(hc:cJ X (.builtin id) r)(hi:gk X.K r fp)(hg:Gl X x)(hm:X.mg x=none)(hv:aby x=some (.builtin id))(ha:IA X (e::es) t):IE X (.Call (.Name x p) (e::es) [] pos) (bS fp t):=by
 unfold c9 at bu;rw[abS,aaw] at bu;exact R8 hc hi hg hm hv ha hn bT (eZ (by simpa using bu.1)) (any_none bu.2)
theorem We(bu:c9 (e::es)=true)(hn:x≠"__name__")(bT:(x==("__debug__":Str))=false)(hc:cJ X (.type T) r)(hi:gk X.K r fp)(hg:Gl X x)(hm:X.mg x=none)(hv:aby x=some (.type T))(ha:IA X (e::es) t):IE X (.Call (.Name x p) (e::es) [] pos) (bS fp t):=by
 unfold c9 at bu;rw[abS,aaw] at bu;exact QK hc hi hg hm hv ha hn bT (eZ (by simpa using bu.1)) (any_none bu.2)
end
section
variable{X:Cx}{o e:Expr}{es:List Expr}{mo:EM}{t:AM}{name:Str}{apos dg:Pos}{T id:String}{r:V->List V->Hp->VK->Prop}{ty:W->PH->Bool}{f:W->List W->Po W}
theorem Wf(bu:c9 (e::es)=true)(bH:decide ((e::es).length<30)=true)(pa:afr T)(slot:Slot T name id)(jM:typeOf (.builtin id)=pure (.type "method_descriptor"))(hm:lY X id r)(ht:l6 X.K T ty)(hi:kP X.K T r f)(ho:IE X o mo)(ha:IA X (e::es) t)
  (lH:acz o name X.env (eval o X.env)=eval o X.env:=by rfl) (lI:(apos.endLine==dg.line)=true:=by rfl):IE X (.Call (.Attribute o name apos) (e::es) [] dg) (bG ty f mo t):=by
 have yN:=all_none (env:=X.env) (pos:=dg) bu;unfold c9 at bu;rw[abS,aaw] at bu;refine XS pa slot jM hm ht hi ho ha lH ?_ lI (eZ (by simpa using bu.1)) (any_none bu.2);rw[yN,show(backToKw dg (keywordEach [] X.env)).all (fun x=>x.1.isSome)=true from rfl]
 simpa using bH
end
structure JE(X:Cx)(e:Expr)(m:EM):Prop where
 h:IE X e m
structure JT(X:Cx)(e:Expr)(m:TM):Prop where
 h:IT X e m
structure JW(X:Cx)(e:Expr)(m:TM):Prop where
 h:PW X e (tT X m)
structure JA(X:Cx)(es:List Expr)(m:AM):Prop where
 h:IA X es m
structure JS(X:Cx)(st:Stmt)(m:SM):Prop where
 h:IS X st m
structure JB(X:Cx)(st:List Stmt)(m:SM):Prop where
 h:eM X st m
structure JG(X:Cx)(e:Expr)(g:GM):Prop where
 h:IG X e g
structure JI(X:Cx)(tg iter:Expr)(im:IM):Prop where
 h:II X tg iter im
structure JO(X:Cx)(e:Option Expr)(m:OM):Prop where
 h:qN X e m
structure JF(X:Cx)(ifs:List Expr)(c:TM):Prop where
 h:PF X ifs (l9 X.K c)
section
variable{X:Cx}{N:List Str}{sc:Scope}{k:Nat}{a b c e o:Expr}{es rest:List Expr}{ma mb mc m mo:EM}{ta tb t:TM}{am:AM}{sa sb:SM}{st:Stmt}{as bs body:List Stmt}{p p2 pos pos':Pos}{g:GM}{gs:List GM}{im:IM}{tg iter:Expr}
variable{x:Str}
theorem ei.Y8(B:ei X N sc)(i:Nat)(hN:N[i]? =some x)(hv:aI sc x)(hd:(x==("__debug__":Str))=false)(hcd:(x==("__classdict__":Str))=false):JE X (.Name x pos) (aa i):=⟨B.var i hN hv hd hcd⟩
variable{j:Nat}
theorem aj{i:Int}:JE X (.Constant (.int i) j pos) (eC (.int i)):=⟨VB⟩
theorem aR:JE X (.Constant (.str x) j pos) (eC (.str x)):=⟨VC⟩
theorem gE{x:Bool}:JE X (.Constant (.bool x) j pos) (eC (.bl x)):=⟨XH⟩
theorem pP:JE X (.Constant .none j pos) (eC .aC):=⟨VD⟩
theorem nc{i:Int}{tk:Tok}(hg:Gl X x)(hm:X.mg x=some (.int i tk))(hd:(x==("__debug__":Str))=false):JE X (.Name x pos) (eC (.int i)):=⟨qj (CT (v:=.int i) hg hm ⟨_,rfl⟩ hd) fun _ _ _=>.int i⟩
theorem ny(ha:JE X a ma):JE X (.UnaryOp .USub a pos) (ix gL ma):=⟨XI Vf VY ha.h⟩
theorem Wg(ha:JE X a ma):JE X (.UnaryOp .Not a pos) (qm ma):=⟨VM ha.h⟩
theorem cI(ha:JE X a ma)(hb:JE X b mb):JE X (.BinOp a .Add b pos) (ae addW ma mb):=⟨pY TK V3 ha.h hb.h⟩
theorem gA(ha:JE X a ma)(hb:JE X b mb):JE X (.BinOp a .Sub b pos) (ae dJ ma mb):=⟨pY Vd VZ ha.h hb.h⟩
theorem bp(ha:JE X a ma)(hb:JE X b mb):JE X (.BinOp a .Mod b pos) (ae aS ma mb):=⟨pY Ta V0 ha.h hb.h⟩
theorem bU(ha:JE X a ma)(hb:JE X b mb):JE X (.BinOp a .FloorDiv b pos) (ae aZ ma mb):=⟨pY Sa V1 ha.h hb.h⟩
structure Cp(X:Cx)(op:CmpOp)(b:Expr)(f:W->W->Po W):Prop where
 ex:∃r,bt X (abC op) r/\cU X.K r f
 bm:acy op b=false
theorem hX:Cp X .Lt b fi:=⟨⟨_,Xt,xM⟩,nq _⟩
theorem yi:Cp X .LtE b l7:=⟨⟨_,Xu,xM⟩,nq _⟩
theorem EI:Cp X .Gt b l8:=⟨⟨_,Xv,xM⟩,nq _⟩
theorem BdT.eq(B:BdT X N sc k):Cp X .Eq b aN:=⟨⟨_,V5 B.room.units,XU⟩,nq _⟩
theorem BdT.ne(B:BdT X N sc k):Cp X .NotEq b cO:=⟨⟨_,V6 B.room.units,XW⟩,nq _⟩
theorem X5:Cp X .Is b lS:=⟨⟨_,Vh,V4⟩,nq _⟩
variable{f:W->W->Po W}
theorem kf{op:CmpOp}(hc:Cp X op b f)(ha:JE X a ma)(hb:JE X b mb):JE X (.Compare a [op] [b] pos) (ae f ma mb):=let ⟨_,h1,h2⟩:=hc.ex;⟨VE h1 h2 ha.h hb.h hc.bm⟩
theorem a7{op:CmpOp}(hc:Cp X op b f)(ha:JE X a ma)(hb:JE X b mb):JT X (.Compare a [op] [b] pos) (eT (ae f ma mb)):=let ⟨_,h1,h2⟩:=hc.ex;⟨VF h1 h2 ha.h hb.h hc.bm⟩
theorem Sg{op dj:CmpOp}{f':W->W->Po W}(h1:Cp X op b f)(h2:Cp X dj c f')(hm:aeE [op,dj] [b,c]=false)(ha:JE X a ma)(hb:JE X b mb)(hc:JE X c mc):JE X (.Compare a [op,dj] [b,c] pos) (jl f f' ma mb mc):=
 let ⟨_,q1,q2⟩:=h1.ex;let ⟨_,q3,q4⟩:=h2.ex;⟨Se q1 q2 q3 q4 ha.h hb.h hc.h hm⟩
theorem Sh{op dj:CmpOp}{f':W->W->Po W}(h1:Cp X op b f)(h2:Cp X dj c f')(hm:aeE [op,dj] [b,c]=false)(ha:JE X a ma)(hb:JE X b mb)(hc:JE X c mc):JT X (.Compare a [op,dj] [b,c] pos) (eT (jl f f' ma mb mc)):=
 let ⟨_,q1,q2⟩:=h1.ex;let ⟨_,q3,q4⟩:=h2.ex;⟨Sf q1 q2 q3 q4 ha.h hb.h hc.h hm⟩
theorem pQ{op:BoolOp}(ha:JE X a ma):JE X (.BoolOp op [a] pos) ma:=⟨VL ha.h⟩
theorem ue(ha:JE X a ma)(hb:JE X (.BoolOp .And (b::rest) pos) mb):JE X (.BoolOp .And (a::b::rest) pos) (lR ma mb):=⟨VJ ha.h hb.h⟩
theorem X6(ha:JE X a ma)(hb:JE X (.BoolOp .Or (b::rest) pos) mb):JE X (.BoolOp .Or (a::b::rest) pos) (vm ma mb):=⟨XN ha.h hb.h⟩
theorem gB{op:BoolOp}(ha:JT X a ta):JW X (.BoolOp op [a] pos) ta:=⟨VH ha.h⟩
theorem nz(ha:JT X a ta)(hb:JW X (.BoolOp .And (b::rest) pos) tb):JW X (.BoolOp .And (a::b::rest) pos) (df ta tb):=⟨VI ha.h hb.h⟩
theorem hZ(ha:JT X a ta)(hb:JW X (.BoolOp .Or (b::rest) pos) tb):JW X (.BoolOp .Or (a::b::rest) pos) (dc ta tb):=⟨XM ha.h hb.h⟩
theorem gO(h:JW X a ta):JT X a ta:=⟨h.h.pt⟩
theorem gC(ha:JT X a ta):JT X (.UnaryOp .Not a pos) (c4 ta):=⟨VG ha.h⟩
noncomputable def plainT:Expr->Bool
 | .Name .. =>true | .Call .. =>true | .Subscript .. =>true | .Constant .. =>true | .BinOp .. =>true
 | _=>false
theorem dG(hp:plainT a=true)(ha:JE X a ma):JT X a (cb ma):=⟨by
 cases a <;> first | cases hp;done | exact VN ha.h⟩
theorem uv(hc:JT X c ta)(ha:JE X a ma)(hb:JE X b mb):JE X (.IfExp c a b pos) (i6 ta ma mb):=⟨XO hc.h ha.h hb.h⟩
theorem ay:JA X [] ai:=⟨VU⟩
theorem ah(h:isStar e=false)(he:JE X e m)(hr:JA X es am):JA X (e::es) (af m am):=⟨Y7 h he.h hr.h⟩
theorem bP{x1:Nat}(h:JA X es am):JE X (.Tuple es x1 pos) (a9 am):=⟨VV h.h⟩
theorem cV(h:JA X es am):JE X (.List es pos) (bg am):=⟨VW h.h⟩
theorem xo:JO X none fI:=⟨T4⟩
theorem xp(he:JE X e m):JO X (some e) (fJ m):=⟨T5 he.h⟩
theorem yj{lo hi:Option Expr}{ml mh:OM}(he:JE X e m)(hl:JO X lo ml)(hh:JO X hi mh):JE X (.Subscript e (.Slice lo hi none p2) pos) (fV m ml mh):=⟨X1 he.h hl.h hh.h⟩
theorem bX:JB X [] bA:=⟨Ts⟩
theorem aQ{rs:List Stmt}(h1:JS X st sa)(h2:JB X rs sb):JB X (st::rs) (aF sa sb):=⟨R6 h1.h h2.h⟩
theorem aD(h1:JS X st sa):JB X [st] sa:=⟨Tu h1.h⟩
theorem bo(he:JE X e m):JS X (.Return (some e) pos) (a8 m):=⟨VO he.h⟩
noncomputable def uf:Expr->Bool
 | .ListComp .. =>false | .SetComp .. =>false | .DictComp .. =>false
 | _=>true
theorem wW{x:Option Expr}{n:Nat}{env:Env}(h:uf e=true):acR e x n env=pure false:=by
 cases e <;> first | rfl | cases h
theorem dr(hn:uf e=true)(he:JE X e m):JS X (.Expr e pos) (cu m):=⟨Tv he.h (wW hn)⟩
theorem bb(hc:JT X c t)(ha:JB X as sa)(hb:JB X bs sb):JS X (.If c as bs pos) (aT t sa sb):=⟨XQ hc.h ha.h hb.h⟩
theorem ei.bJ(B:ei X N sc)(i:Nat)(hN:N[i]? =some x)(hl:Loc sc x)(hn:uf e=true)(he:JE X e m):JS X (.Assign [.Name x pos'] e pos) (aK m (gN i)):=⟨B.set i hN hl he.h (wW hn)⟩
theorem iM(he:JE X e m)(hg:JG X tg g)(hs:swapsWithSole [tg] e pos.line X.env=pure false:=by rfl)(hw:swappedStores [tg] e X.env=pure none:=by rfl)
  (h1:(assignEach [tg] X.env).map (·.2)=[afA tg X.env]:=by rfl):JS X (.Assign [tg] e pos) (aK m g):=⟨VQ he.h hg.h hs hw h1⟩
theorem ei.jp(B:ei X N sc)(i:Nat)(hN:N[i]? =some x)(hl:Loc sc x):JG X (.Name x pos) (gN i):=⟨B.name i hN hl⟩
theorem Bd.yU(B:Bd X N sc k)(hi:JI X tg iter im)(hg:JG X tg g)(hb:JB X body sb)(hs:∀x,abv iter X.env x=pure x:=by intro _;rfl):JS X (.For tg iter body [] pos) (ie im g sb):=⟨B.Y6 hi.h hg.h hb.h hs⟩
theorem Bd.Wh(B:Bd X N sc k)(hc:JT X c t)(hb:JB X body sb):JS X (.While c body [] pos) (fG t sb):=⟨B.Wa hc.h hb.h⟩
theorem pw(hg:Gl X "range")(hm:X.mg "range"=none)(hn:isStar a=false)(ha:JA X [a] am):JI X tg (.Call (.Name "range" p) [a] [] pos) (eP am):=⟨QH hg hm ha.h (eZ hn)⟩
theorem bw{k:Nat}{f:Addr}{fd:aaZ}{ps:List Str}{fm:List W->Mo W}(hn:c9 (e::es)=true)(bT:(x==("__debug__":Str))=false)(F:bO X.prog X.w X.K X.mg X.base (bL X.prog X.w) k f fd ps (bV X.K X.mg ps.length fm))(hl:∀{xs:List W} {ph:PH},xs.length≠ps.length->fm xs ph=.no)(hr:cL k X.A)(hg:Gl X x)(hm:X.mg x=some (.ref f))
  (hk:aaC X.K (.ref f)=true) (hb:Binds X.K fd ps []) (ha:JA X (e::es) am):JE X (.Call (.Name x p) (e::es) [] pos) (aO fm am):=⟨Wb hn bT F hl hr hg hm hk hb ha.h⟩
theorem lC{id:String}{r:List V->Hp->VK->Prop}{fp:List W->Po W}(bu:c9 (e::es)=true)(hn:x≠"__name__")(bT:(x==("__debug__":Str))=false)(hc:cJ X (.builtin id) r)(hi:gk X.K r fp)(hg:Gl X x)(hm:X.mg x=none)(hv:aby x=some (.builtin id))(ha:JA X (e::es) am):JE X (.Call (.Name x p) (e::es) [] pos) (bS fp am):=⟨Wc bu hn bT hc hi hg hm hv ha.h⟩
theorem kg{T:String}{r:List V->Hp->VK->Prop}{fp:List W->Po W}(bu:c9 (e::es)=true)(hn:x≠"__name__")(bT:(x==("__debug__":Str))=false)(hc:cJ X (.type T) r)(hi:gk X.K r fp)(hg:Gl X x)(hm:X.mg x=none)(hv:aby x=some (.type T))(ha:JA X (e::es) am):JE X (.Call (.Name x p) (e::es) [] pos) (bS fp am):=⟨We bu hn bT hc hi hg hm hv ha.h⟩
theorem cZ{name:Str}{T id:String}{r:V->List V->Hp->VK->Prop}{ty:W->PH->Bool}{f:W->List W->Po W}(bu:c9 (e::es)=true)(bH:decide ((e::es).length<30)=true)(pa:afr T)(slot:Slot T name id)(jM:typeOf (.builtin id)=pure (.type "method_descriptor"))(hm:lY X id r)(ht:l6 X.K T ty)(hi:kP X.K T r f)(ho:JE X o mo)(ha:JA X (e::es) am)
  (lH:acz o name X.env (eval o X.env)=eval o X.env:=by rfl) (lI:(p.endLine==pos.line)=true:=by rfl):JE X (.Call (.Attribute o name p) (e::es) [] pos) (bG ty f mo am):=⟨Wf bu bH pa slot jM hm ht hi ho.h ha.h lH lI⟩
theorem ko{c:Str}{cn:String}{p2:Pos}(hk:kC X.K cn)(hv:aby c=some (.type cn))(hn:c≠"__name__")(hd:(c==("__debug__":Str))=false)(eQ:isStar e=false)(hg:Gl X "isinstance")(hm:X.mg "isinstance"=none)(fj:Gl X c)(fk:X.mg c=none)(he:JE X e m) :
  JE X (.Call (.Name "isinstance" p) [e,.Name c p2] [] pos) (dX cn m):=⟨XT hk hv hg hm fj fk he.h hn hd (by rw[eZ eQ,eZ rfl];rfl) (eZ rfl) (any_none rfl)⟩
theorem nA:JF X [] eA:=⟨V9⟩
theorem tV{scope:Scope}{ifs:List Expr}{N':List Str}{cap:List (Option Nat)}(hc:X.calm=true)(cp:jP X N' cap scope)(hi:JI X tg iter im)(hg:∀cl C aM aU ex,JG (bM X N' scope cl C aM aU ex) tg g)(ht:∀cl C aM aU ex,JF (bM X N' scope cl C aM aU ex) ifs t)
  (he:∀cl C aM aU ex,JE (bM X N' scope cl C aM aU ex) e m) (hs:∀x,abv iter X.env x=pure x:=by intro _;rfl):JE X (.ListComp e [⟨tg,iter,ifs,0⟩] scope pos) (dO im cap g t m):=
 ⟨T2 hc cp hi.h (fun cl C aM aU ex=>(hg cl C aM aU ex).h) (fun cl C aM aU ex=>(ht cl C aM aU ex).h) (fun cl C aM aU ex=>(he cl C aM aU ex).h) hs⟩
theorem C5{scope:Scope}{ifs:List Expr}{N':List Str}{cap:List (Option Nat)}{i:Nat}(hN:X.N.Nodup)(gT:X.N[i]? =some x)(gu:gJ X x)(hx:X.env.scope.names.lookup x=some .local)
  (hc:X.calm=true) (cp:jP X N' cap scope) (hi:JI X tg iter im) (hg:∀cl C aM aU ex,JG (bM X N' scope cl C aM aU ex) tg g) (ht:∀cl C aM aU ex,JF (bM X N' scope cl C aM aU ex) ifs t)
  (he:∀cl C aM aU ex,JE (bM X N' scope cl C aM aU ex) e m) (qM:acR (.ListComp e [⟨tg,iter,ifs,0⟩] scope p) (some (.Name x pos')) pos.line X.env=pure true) (hs:∀x,abv iter X.env x=pure x:=by intro _;rfl) :
  JS X (.Assign [.Name x pos'] (.ListComp e [⟨tg,iter,ifs,0⟩] scope p) pos) (aK (dO im cap g t m) (gN i)):=
 ⟨T3 hN gT gu hx hc cp hi.h (fun cl C aM aU ex=>(hg cl C aM aU ex).h) (fun cl C aM aU ex=>(ht cl C aM aU ex).h) (fun cl C aM aU ex=>(he cl C aM aU ex).h) qM hs⟩
end
open PySem PySem.Spec PyProof.Rows L2 PySem.W Builtin.ObjectAttr Builtin.Getset_descriptor
noncomputable def kD(h:Heap)(x D:Addr):Prop:=∃o,h.get? x=some o/\o.cls=.ref D
section
variable{prog:abp}{w:World}{A:abT}{E:Value->aam->Prop}{s:aam}{K:aaj}{x C D:Addr}
variable{M:Model}
theorem kD.nN{h:Heap}(I:kD h x D):Looks M h (typeOf (.ref x)) (.ref D):=let ⟨_,e,c⟩:=I;c▸(Looks.ld e).andThen .now
theorem QN{EJ:Value}{Q:Unit->aam->Prop}(X:K.In s.heap)(I:kD s.heap x D)(hB:mroIn K D (.type "BaseException")=some true)(hq:Q () s) :
  wpAny M A (checkBuiltinCall "BaseException.__getattribute__" ⟨[.ref x,EJ],[]⟩) Q E s:=by
 have hk:builtinKind "BaseException.__getattribute__"=some .slot:=by decide +kernel
 have Wi:splitId "BaseException.__getattribute__"=some ("BaseException","__getattribute__"):=by decide +kernel
 obtain⟨hh,g,d,t,os⟩:=s;have LI:Looks M hh (isInstance (.ref x) (.type "BaseException")) true:=(I.nN (M:=M)).andThen (looks_mroIn (M:=M) X hB);have ha:=F.args_bexc_ga (.ref x) EJ;simp only[checkBuiltinCall,hk,Wi];refine aak (LI.at ?_)
 repeat (first | with_reducible assumption | wp_step)
theorem PB{h:Heap}{name:Str}{a g:Value}(X:K.In h)(h1:findIn K (.ref D) name=some (some a))(h2:specialIn K a "__get__"=some (some g))(h3:takesIn K a=some true) :
  Looks M h (find (.ref x) (.ref D) name) (.bind g a):=
 (looks_findIn X h1).andThen ((show Looks M h (getOf (some a)) (some g) from looks_specialIn X h2).andThen
  ((show Looks M h (dataDescriptor? (some a) (some g)) (some (g,a)) from(looks_takesIn X h3).andThen .now).andThen (Looks.tag .now)))
theorem QO{g a:Value}{name:Str}{tk:Tok}{Q:Fin->aam->Prop}(I:kD s.heap x D)(L1:Looks (model prog w) s.heap (find (.ref x) (.ref D) name) (.bind g a))
  (h:wpAny (model prog w) A (call g [a,.ref x,.ref D]) (fun v s'=>Q (.done (.ret v)) s') E s) :
  wpAny (model prog w) A (Builtin.«object.__getattribute__» ⟨[.ref x,.str name tk],[]⟩) Q E s:=by
 obtain⟨hh,gg,d,t,os⟩:=s;have L0:=I.nN (M:=model prog w);unfold Builtin.«object.__getattribute__»;refine aak (aaq ?_)
 dsimp only
 refine aak (aaq ?_);refine aak (L0.at (aak (L1.at ?_)))
 dsimp only
 show wpAny _ _ (adM [a] (call g [a,.ref x,.ref D]) >>= PySem.ret) _ _ _;exact aak (abG (abB h (fun v s' z=>aaq z) fun _ _ z=>z))
theorem Of{R:Result->aam->Prop}{tp:Value}(X:K.In s.heap)(I:kD s.heap x D)(hm:mroIn K D (.type "object")=some true)(h:R (.ok (.ret (.ref D))) s) :
  afd (model prog w) A (.call (.builtin "getset_descriptor.__get__") ⟨[.builtin "object.__class__",.ref x,tp],[]⟩) R s:=by
 obtain⟨hh,gg,d,t,os⟩:=s;have T0:=I.nN (M:=model prog w);have T1:=looks_mroIn (M:=model prog w) X hm;refine codeAny_call_builtin KF.slot_gs.plain KF.entry_gs (KF.slot_gs.check _ _ _ _ _ _ _ _ KF.type_class (KF.args_gs _ _ _) ?_);unfold Builtin.«getset_descriptor.__get__» descrGet;rw[dga_obj];refine aak (aaq ?_);unfold descrGetter descrCheckInstance descrNameAndClass isInstance;simp only[KF.owner_class]
 repeat lk
 refine⟨Code.quiet_builtin _ (by decide +kernel),codeAny_builtin KF.entry_class ?_⟩;unfold Builtin.«object.__class__» shownTypeOf
 repeat lk
 exact h
noncomputable def qt(K:aaj)(D:Addr):Bool:=
 findIn K (.ref D) "__getattribute__"==some (some (.builtin "BaseException.__getattribute__"))&&findIn K (.ref D) "__getattr__"==some none &&
 findIn K (.ref D) "__class__"==some (some (.builtin "object.__class__"))&&specialIn K (.builtin "object.__class__") "__get__"==some (some (.builtin "getset_descriptor.__get__"))&&takesIn K (.builtin "object.__class__")==some true &&
 mroIn K D (.type "object")==some true&&mroIn K D (.type "BaseException")==some true&&(clsIn K D).isSome
structure fO(K:aaj)(D:Addr):Prop where
 ga:findIn K (.ref D) "__getattribute__"=some (some (.builtin "BaseException.__getattribute__"))
 gh:findIn K (.ref D) "__getattr__"=some none
 cl:findIn K (.ref D) "__class__"=some (some (.builtin "object.__class__"))
 cg:specialIn K (.builtin "object.__class__") "__get__"=some (some (.builtin "getset_descriptor.__get__"))
 ct:takesIn K (.builtin "object.__class__")=some true
 mo:mroIn K D (.type "object")=some true
 mb:mroIn K D (.type "BaseException")=some true
 cd:(clsIn K D).isSome=true
theorem fO.of(h:qt K D=true):fO K D:=by
 unfold qt at h;simp only[aaw,beq_iff_eq] at h;obtain⟨⟨⟨⟨⟨⟨⟨h1,h2⟩,h3⟩,h4⟩,h5⟩,h6⟩,h7⟩,h8⟩:=h;exact⟨h1,h2,h3,h4,h5,h6,h7,h8⟩
theorem T7(v:Value):bindSpecial (.builtin "BaseException.__getattribute__") v=pure (.builtin "BaseException.__getattribute__",[v]):=F.attr_ValueError.ga.bind v
theorem QP{Q:Option Value->aam->Prop}(X:K.In s.heap)(I:kD s.heap x D)(hK:fO K D)(h:Q (some (.ref D)) { s with toks:=s.toks+1 }) :
  wpAny (model prog w) A (getAttr? (.ref x) "__class__") Q E s:=by
 obtain⟨hh,gg,d,t,os⟩:=s;have L0:=I.nN (M:=model prog w);have L1:=looks_findIn (M:=model prog w) X hK.ga;have L2:=looks_findIn (M:=model prog w) X hK.gh;unfold getAttr? getAttrBy? getAttrBy;refine aak (wpAny_mkText (aak (wpAny_attempt (abG (aak (L0.at (aak (L1.at ?_))))))));show wpAny _ _ (getAttrByItsOwn _ _ _ _ _ _) _ _ _;unfold getAttrByItsOwn;refine aak (show wpAny _ _ (typeLookup (.ref D) "__getattr__") _ _ _ from L2.at ?_);refine aak (wpAny_attempt (abG ?_));show wpAny _ _ (boundAndCalled _ _ _) _ _ _;unfold boundAndCalled;rw[T7];refine aak (aaq ?_)
 dsimp only
 refine afq (codeAny_call_builtin F.attr_ValueError.ga.plain F.entry_bexc_ga (QN (s:=⟨hh,gg,d,t+1,os⟩) X I hK.mb (QO (s:=⟨hh,gg,d,t+1,os⟩) I (PB X hK.cl hK.cg hK.ct) (afq (Of (s:=⟨hh,gg,d,t+1,os⟩) X I hK.mo ?_)))))
 dsimp only
 exact aaq (aaq h)
theorem fO.isType{h:Heap}(hK:fO K D)(X:K.In h):∃c d cd sl,h.get? D=some ⟨c,d,.cls cd,sl⟩/\∀M,Looks M h (PySem.isType (.ref D)) true:=by
 have h8:=hK.cd;unfold clsIn at h8;split at h8
 ·rename_i c' d' Z7 zb ho;refine⟨c',d',Z7,zb,X _ _ ho,?_⟩;intro M A' Q' E' s' k q;unfold PySem.isType loadHead;exact aak (wpAny_loadPart (k _ _ (X _ _ ho)) (aaq q))
 ·cases h8
theorem Si(hK:fO K D):KitX K (.ref x) (.ref D) (fun h=>kD h x D) where
 ty:=fun M h X I=>I.nN (M:=M)
 it:=fun M h X _=>let ⟨_,_,_,_,_,z⟩:=hK.isType X;z M
 ne:=fun h tp dd its n sl X e=>by
  obtain⟨c,d,cd,kK,z,_⟩:=hK.isType X;rw[Bool.eq_false_iff];intro q;cases beq_iff_eq.mp q;rw[e] at z;cases z
 ca:=fun{_ _ _ _ _ _} X I q=>QP X I hK q
end
noncomputable def GQ(tb:List (Str×Bool))(w:W):Po W:=fun ph=>match w with
 | .exc c _ _=>(tb.lookup c).map fun b=>(.bl b,ph)
 | _=>none
noncomputable def jE(tb:List (Str×Bool))(m:EM):EM:=fun σ=>aw (m σ) fun w=>lift (GQ tb w)
noncomputable def cX(K:aaj)(cv:Value)(tb:List (Str×Bool)):Prop:=
 ∀c b,tb.lookup c=some b->∃C,aao K aan c=some (some (.ref C))/\fO K C/\aaK K (.ref C) cv=some b
variable{cv:Value}
theorem cX.nil:cX K cv []:=fun c b e=>by cases e
variable{C:Addr}
theorem cX.cons{tb:List (Str×Bool)}{c:Str}(h1:aao K aan c=some (some (.ref C)))(h2:fO K C)(h3:aaK K (.ref C) cv=some b)(h:cX K cv tb) :
  cX K cv ((c,b)::tb):=fun c' b' e=>by
 rw[aaE] at e;split at e
 ·rename_i q;cases e;rw[beq_iff_eq] at q;subst q;exact⟨C,h1,h2,h3⟩
 ·exact h c' b' e
noncomputable def Y9(K:aaj)(v2:V)(cv:Value):List V->Hp->VK->Prop:=fun xs H Q=>∃a o u C b,xs=[.ref a,v2]/\H a=some (.bz o u)/\o.cls=.ref C/\fO K C/\aaK K (.ref C) cv=some b/\Q (.bl b) H
theorem Sj{v2:V}(hv:∀u,RelV v2 u->u=cv):cJ X (.builtin "isinstance") (Y9 X.K v2 cv):=by
 intro pins s σ H xs us Q I r h;obtain⟨a,o,u,C,b,rfl,hH,hc,hk,e,q⟩:=h;obtain⟨u1,u2,rfl,r1,r2⟩:=Vals.two r;obtain rfl:u1=abb a:=r1;obtain rfl:=hv u2 r2;have ho:s.heap.get? a=some o:=(I.aJ a _ hH).1;exact abN (Si hk) I.dh ⟨o,ho,hc⟩ e (fun z=>nomatch z) fun tk=>⟨.bl b,H,I.tok tk,rfl,q⟩
section
variable{X:Cx}{e:Expr}{m:EM}{p p2 pos:Pos}{c:Str}{tb:List (Str×Bool)}
theorem DJ{v2:V}{cv:Value}(hv:∀u,RelV v2 u->u=cv)(hT:cX X.K cv tb)(eQ:isStar e=false)(hg:Gl X "isinstance")(hm:X.mg "isinstance"=none)(hc:PE X (.Name c p2) (tC v2))(he:IE X e m) :
  IE X (.Call (.Name "isinstance" p) [e,.Name c p2] [] pos) (jE tb m):=by
 refine PE.imp (wN (Sj hv) hg hm adI (pH he (pH hc xG rfl) (eZ eQ)) (he:=eZ eQ) (hpl:=rfl)) fun σ H Q h=>?_
 obtain⟨φ,ph,ws,hH,hS,h⟩:=h;refine tM.bind hH hS h fun x ph1 aB H1 vx aE s1 rx h=>?_
 obtain⟨w,ph',e,k⟩:=run_lift h;unfold GQ at e;cases rx with
 | exc h1 Z8 hn hk hf r=>
  obtain⟨b,eb,e2⟩:=aaR.mp e;cases e2;obtain⟨C,t1,t2,t3⟩:=hT _ _ eb;rw[t1] at hn;cases hn;exact⟨_,_,_,_,b,rfl,h1,Z8,t2,t3,k aB H1 _ aE s1 (.bl b)⟩
 | _=>cases e
theorem pR{C:Addr}(hT:cX X.K (.ref C) tb)(eQ:isStar e=false)(hg:Gl X "isinstance")(hm:X.mg "isinstance"=none)(fj:Gl X c)(fk:X.mg c=some (.ref C))(hd:(c==("__debug__":Str))=false)(he:JE X e m) :
  JE X (.Call (.Name "isinstance" p) [e,.Name c p2] [] pos) (jE tb m):=⟨DJ (v2:=.ref C) (fun _ r=>r) hT eQ hg hm (CT fj fk rfl hd) he.h⟩
theorem Wj{cn:String}(hT:cX X.K (.type cn) tb)(eQ:isStar e=false)(hg:Gl X "isinstance")(hm:X.mg "isinstance"=none)(fj:Gl X c)(fk:X.mg c=none)(hv:aby c=some (.type cn))(hn:c≠"__name__")(hd:(c==("__debug__":Str))=false)(he:JE X e m) :
  JE X (.Call (.Name "isinstance" p) [e,.Name c p2] [] pos) (jE tb m):=⟨DJ (v2:=.ty cn) (fun _ r=>r) hT eQ hg hm (CU fj fk hv rfl hn hd) he.h⟩
end
noncomputable def vt(x:XC):Mo α:=fun ph=>.ex x ph
noncomputable def pS(c:Str)(a:AM):SM:=fun σ=>aw (a σ) fun xs=>if xs.length<=1000 then vt ⟨c,[]⟩ else ee
variable{h:Heap}
theorem T8{GR:List Value}{newId:String}(d9:K.In h)(q:acB K C GR newId=true) :
  ∃bm N nm qn bs hd sn sub ab col dd k0 k1 k2 k3 k5 mN,h.get? C=some (excClassObj nm qn C N bs bm hd sn sub ab col dd k0 k1 k2 k3 k5 newId)/\h.Ns N mN/\mN "__init__"=none/\OwnTail h GR bm:=by
 unfold acB at q;split at q
 case h_2=>cases q
 case h_1 dd cd sl ho=>
  split at q
  case h_2=>cases q
  case h_1 C' bm k0 k1 k2 k3 n k5 hm hs=>
   rw[aaw,aaw,aaw,aaw,aaw] at q;obtain⟨⟨⟨⟨⟨q1,q2⟩,q3⟩,q4⟩,q5⟩,q6⟩:=q;cases beq_iff_eq.mp q1;cases beq_iff_eq.mp q2;have q3:cd.hasDel=false:=by simpa using q3
   cases cd with
   | mk nm bs mro ns qn hd sn sub ab col del=>
    cases(show mro=_ from hm);cases(show del=_ from q3);cases sl with
    | mk l=>
     cases(show l=_ from hs);exact⟨bm,ns,nm,qn,bs,hd,sn,sub,ab,col,dd,k0,k1,k2,k3,k5,_,d9 _ _ ho,.of_isNs (PySem.W.isNs_of_in d9 q5),PySem.W.nsMap_none_of_in d9 q5 (beq_iff_eq.mp q6),PySem.W.tail_of_in d9 q4⟩
abbrev nO:List Value:=[.type "ValueError",.type "Exception",.type "BaseException",.type "object"]
section
variable{X:Cx}{e:Expr}{es:List Expr}{a:AM}{np dg pos:Pos}{x:Str}{C:Addr}
theorem Sk(hq:acB X.K C nO "ValueError.__new__"=true)(hg:Gl X x)(hm:X.mg x=some (.ref C))(hc:X.calm=true)(hn:c9 (e::es)=true)(bT:(x==("__debug__":Str))=false)(ha:IA X (e::es) a) :
  IS X (.Raise (some (.Call (.Name x np) (e::es) [] dg)) none pos) (pS x a):=by
 intro pins s σ H D I h;obtain⟨φ,ph,ws,hH,hS,h⟩:=h;obtain⟨bm,N,nm,qn,bs,hd,sn,sub,ab,col,dd,k0,k1,k2,k3,k5,mN,o1,o2,o3,o4⟩:=T8 I.ok.mod.d9 hq;have jK:=hn;unfold c9 at jK;rw[abS,aaw] at jK;have h0:isStar e=false:=by simpa using jK.1
 refine wpAny_Raise_call_subU (C:=C) (N:=N) (nm:=nm) (q:=qn) (bs:=bs) (bm:=bm) (hdct:=hd) (sn:=sn) (sub:=sub) (ab:=ab) (col:=col) (dd:=dd) (k0:=k0) (k1:=k1) (k2:=k2) (k3:=k3) (k5:=k5) adX (by rfl) adX (o4.hasType (by rfl)) (I.ok.hd hc) (any_none hn) o3 (m7 I hg hm ⟨rfl,?_⟩ bT);have hA:tA X a σ H (fun vs H1=>vs.length<=1000/\∀e' s',jN X ⟨x,[]⟩ H1 e' s'->X.xe e' s'):=by
  refine tA.bind hH hS h fun xs ph1 aB H1 vs aE s1 r1 h=>?_
  by_cases hl:xs.length<=1000
  ·rw[if_pos hl] at h;exact⟨by rw[<- r1.length];exact hl,fun e' s' t=>h aB H1 e' s' aE Step.refl t⟩
  ·rw[if_neg hl] at h;exact h.elim
 have key:=ha dg pins s σ H _ I hA;rw[eZ h0] at key ⊢;refine aeS (aX key fun us s1 ⟨vs,H1,I1,r,q1,q2⟩=>⟨rfl,?_,I1.bk _ _ o1,o2.keeps I1.bk,o4.keeps I1.bk,fun h' e' zw=>?_⟩)
 ·show us.length<=_;rw[<- r.length,ael];exact abe q1 (by decide)
 ·exact q2 _ _ ⟨C,hm,rfl,.inl ⟨pins,σ,s1,us,h',e',rfl,rfl,I1,zw⟩⟩
theorem wX(hq:acB X.K C nO "ValueError.__new__"=true)(hg:Gl X x)(hm:X.mg x=some (.ref C))(hc:X.calm=true)(hn:c9 (e::es)=true)(bT:(x==("__debug__":Str))=false)(ha:JA X (e::es) a) :
  JS X (.Raise (some (.Call (.Name x np) (e::es) [] dg)) none pos) (pS x a):=⟨Sk hq hg hm hc hn bT ha.h⟩
end
open PySem PySem.Spec PyProof.Rows L2 PySem.W
structure bY(X:Cx):Prop where
 st:X.stack=X.env::X.outer
 fr:X.env.frame=some X.env.locals
 ex:X.ex=[]
variable{A:abT}
theorem PC{M:Model}{E:Value->aam->Prop}{s:aam}{base:Heap}{outer:List Env}{L e:Addr}{cls:Value}{args:List Value}{Q:Unit->aam->Prop}
  (Z9:A.frames=some (env::outer)) (hf:env.frame=some L) (GS:base.StaysIn h) (hl:h.FunFrames base (env::outer)) (hx:Heap.MadeExcOf h s.heap e cls args)
  (hQ:∀h' t,Heap.HeldW base (env::outer) e cls (.ref t) L h'->s.heap.UpToSlots h'->Q () { s with heap:=h' }):wpAny M A (aeK (.ref e) env) Q E s:=by
 obtain⟨t,he,htn,ht⟩:=hx.there;have new:base.get? e=none:=by
  cases hq:base.get? e with
  | none=>rfl
  | some o'=>have:=GS e o' hq;rw[hx.new] at this;cases this
 unfold aeK;simp only[hf];refine aak (afe (x:=.none) he rfl rfl ?_);rw[if_neg (show ¬((acF != acF)=true) by decide)];refine wpAny_entryW (a0:=.ref t) Z9 (hl.of_keeps fun b o hb _=>⟨o,hx.keeps b o hb,rfl⟩) hf he (fun b o hb=>hx.keeps b o (GS b o hb)) new rfl (show 1<6 by decide) rfl fun h' hN=>?_
 obtain⟨k1,k2,k3,k4⟩:=hN;exact hQ h' t ⟨k1,new,k2,k3⟩ k4
structure qu(X:Cx)(C a:Addr)(H':Hp)(B:Heap)(s':aam):Prop where
 ex:∃pins σ H s,Inv X pins σ H s/\s'.os=s.os/\Gz (cT X.stack) H H' s.heap B s'.heap
 bare:aek s'.gens
 aJ:cm X.prog X.w H' B
 note:∀{A:abT} {E:Value->aam->Prop} {Q:Unit->aam->Prop},A.frames=some X.stack->(∀h' a0,Heap.HeldW B X.stack a (.ref C) a0 X.env.locals h'->s'.heap.UpToSlots h'->Q () { s' with heap:=h' }) →
  wpAny (model X.prog X.w) A (aeK (.ref a) X.env) Q E s'
variable{P:abp}
theorem Sl{w:World}{a:Addr}(x:cW P w H h a o):∃ob,h.get? a=some ob:=by
 cases o with
 | lst xs=>exact⟨_,x.2.choose_spec.choose_spec.2⟩
 | tup xs=>obtain⟨_,its,_,ob,e,_⟩:=x;exact⟨ob,e⟩
 | dK kvs=>obtain⟨_,_,_,_,ob,_,_,e,_⟩:=x;exact⟨ob,e⟩
 | dT kvs=>obtain⟨_,_,_,_,ob,_,_,e,_⟩:=x;exact⟨ob,e⟩
 | dU kvs=>obtain⟨_,_,ob,_,_,e,_⟩:=x;exact⟨ob,e⟩
 | set S n=>obtain⟨ob,_,_,_,e,_⟩:=x;exact⟨ob,e⟩
 | ins C dx fs=>exact⟨_,x.2.2.2.1⟩
 | own y=>exact x
 | xd fs=>obtain⟨_,⟨ob,_,_,e,_⟩,_⟩:=x;exact⟨ob,e⟩
 | u7 lo hi=>obtain⟨_,_,_,e⟩:=x;exact⟨_,e⟩
 | bz ob u=>exact⟨ob,x.1⟩
 | fR ps=>exact⟨_,x⟩
 | met f y=>exact⟨_,x⟩
 | ext φ=>exact x.2.1
section
variable{X:Cx}{C a:Addr}{H':Hp}{B:Heap}{s':aam}{e:Value}
theorem QQ(T:bY X)(h:Made X C H' e s'):∃a B,e=.ref a/\qu X C a H' B s':=by
 obtain⟨pins,σ,s,vs,h',a,rfl,rfl,I,hx⟩:=h;have sf:=I.pG;have hl:=I.stack;have zy:∀env∈X.stack,∀b,env.frame=some b->b∈cT X.stack:=fun env he b hb=>acL.mpr ⟨env,he,hb⟩
 refine⟨a,acP s.heap (cT X.stack),rfl,⟨pins,σ,H',s,I,rfl,⟨fun b o e n hb=>abZ _ e hb,fun b o e n hb=>⟨o.slots,hx.keeps b o e⟩,fun b o e n=>n,fun b o e hb=>⟨o,abZ _ e hb⟩,fun b xs e=>e,fun b o u e=>e,fun b ps e=>⟨#[],by simpa using e⟩⟩⟩,
  I.bare,C0 I.aJ sf,fun{A E Q} hA hQ=>?_⟩
 have hl':=aey hl zy;rw[T.st] at hA;have kM:s.heap.FunFrames (acP s.heap (cT X.stack)) (X.env::X.outer):=by rw[<- T.st];exact hl'
 refine PC (base:=acP s.heap (cT X.stack)) (h:=s.heap) hA T.fr (fun b o q=>adY _ q) kM hx fun zA t f1 f2=>hQ zA (.ref t) ?_ f2
 rw[T.st];rw[T.st] at f1;exact f1
theorem QR(T:bY X){pins:List (Addr×Obj)}{σ:L2.St}{H:Hp}{s:aam}(I:Inv X pins σ H s)(h:Flew X.prog X.w X.stack H s C H' e s'):∃a B,e=.ref a/\qu X C a H' B s':=by
 obtain⟨a,a0,B,rfl,ho,pZ,gr,aJ,u⟩:=h;refine⟨a,B,rfl,⟨pins,σ,H,s,I,ho,u⟩,pZ,aJ,fun{A E Q} hA hQ=>?_⟩;rw[T.st] at hA gr;exact wpAny_looks_onW hA T.fr gr fun h' f1 f2=>hQ h' a0 (by rw[T.st];exact f1) f2
theorem took(T:bY X){x:XC}(h:jN X x H' e s'):∃C,X.mg x.cls=some (.ref C)/\x.fs=[]/\∃a B,e=.ref a/\qu X C a H' B s':=by
 obtain⟨C,hm,hf,h⟩:=h;refine⟨C,hm,hf,?_⟩
 rcases h with h | ⟨pins,σ,H,s,I,h⟩
 ·exact QQ T h
 ·exact QR T I h
theorem qu.inv(T:bY X)(K:qu X C a H' B s'){h:Heap}{a0:Value}(gr:Heap.FlyingW B X.stack a (.ref C) a0 h)(sm:s'.heap.UpToSlots h) :
  ∃pins σ oe,h.get? a=some oe/\oe.cls=.ref C/\aeZ oe=true/\H' a=none/\Inv X pins σ (upd H' a (.bz oe (.own a))) { s' with heap:=h }:=by
 obtain⟨⟨pins,σ,H,s,I,ho,u⟩,pZ,aJ,_⟩:=K;obtain⟨oe,vs,f1,f2,f3,_⟩:=gr.first;have GU:B.get? a=none:=gr.2.1;have gV:H' a=none:=by
  cases q:H' a with
  | none=>rfl
  | some o=>
   obtain⟨ob,GV⟩:=Sl (aJ a o q);rw[GU] at GV;cases GV
 have zO:∀b∈cT X.stack,∀o,s.heap.get? b=some o->∃sl,h.get? b=some { o with slots:=sl }/\∀vs,o.data≠.fields vs:=fun b hb o e=>by
  obtain⟨_,o',dn,vA⟩:=I.stack.mem hb;rw[e] at dn;cases dn;obtain⟨sl,e1⟩:=u.slot b o e (I.pG b hb) hb;obtain⟨kK,e2⟩:=sm b _ e1 vA;exact⟨kK,e2,vA⟩
 have ne:∀b o,s.heap.get? b=some o->b≠a:=fun b o e z=>by
  by_cases hb:b∈cT X.stack
  ·obtain⟨sl,e1,vA⟩:=zO b hb o e;rw[z,f1] at e1;cases e1;exact vA vs f3
  ·obtain⟨o',e1⟩:=u.there b o e hb;rw[z,GU] at e1;cases e1
 refine⟨pins,σ,oe,f1,f2,by unfold aeZ;rw[f3],gV,I.Ey (ch:=[]) ho ⟨fun b o e n hb _=>gr.1 b o (u.keep b o e n hb),fun b o e n hb _=>(zO b hb o e).imp fun sl q=>q.1,fun b o e n _=>by rw[bC (ne b o e)];exact u.free b o e n,fun b o e _=>?_,
  fun b xs e=>?_,fun b ob uu e=>?_,fun b ps e=>?_⟩ (fun b ob e=>?_) pZ fun b hb=>nomatch hb⟩
 ·by_cases hb:b∈cT X.stack
  ·obtain⟨sl,e1,_⟩:=zO b hb o e;exact⟨_,e1⟩
  ·obtain⟨o',e1⟩:=u.there b o e hb;exact⟨o',gr.1 b o' e1⟩
 ·have q:=u.ff b xs e;rw[bC (fun z=>by rw[z,gV] at q;cases q)];exact q
 ·have q:=u.dP b ob uu e;rw[bC (fun z=>by rw[z,gV] at q;cases q)];exact q
 ·obtain⟨m,q⟩:=u.eG b ps e;exact⟨m,by rw[bC (fun z=>by rw[z,gV] at q;cases q)];exact q⟩
 ·by_cases hb:b=a
  ·subst hb;rw[bW] at e;cases e;exact⟨f1,oe,f1⟩
  ·rw[bC hb] at e;refine(aJ b ob e).jt (fun c u2 _ q=>gr.1 c u2 q) (fun c q=>?_) fun c xs q=>?_
   ·rw[bC (fun z=>by rw[z,gV] at q;cases q)];exact q
   ·rw[bC (fun z=>by rw[z,gV] at q;cases q)];exact q
theorem Cc{M:Model}{A:abT}{E:Value->aam->Prop}{K:aaj}{s:aam}{D:Addr}{b:Bool}{Q:Bool->aam->Prop}(d9:K.In s.heap)(I:kD s.heap a C)(hD:fO K D)(jM:acG K (.ref D)=some (.type "type"))
  (hs:ack K (.ref C) (.ref D)=some b) (q:Q b s):wpAny M A (excMatches (.ref a) (.ref D)) Q E s:=by
 obtain⟨hh,g,d,t,os⟩:=s;have L1:=PySem.W.looks_typeIn (M:=M) d9 jM;obtain⟨_,_,_,_,_,L2'⟩:=hD.isType d9;have L2:=L2' M;have L3:PySem.W.Looks M hh (isSubtype (.ref D) (.type "BaseException")) true:=PySem.W.looks_mroIn (M:=M) d9 hD.mb;have L4:=I.nN (M:=M);have L5:=PySem.W.looks_subIn (M:=M) d9 hs;have L6:PySem.W.Looks M hh (isInstance (.ref D) (.type "tuple")) false:=L1.andThen (PySem.W.Looks.of_pure tc_notTuple);unfold excMatches;refine aak (L6.at ?_)
 dsimp only
 rw[if_neg aaQ];refine aak (aaq ?_);rw[adQ];refine aak (aak (aak ?_));unfold isExcClass;refine aak (L2.at ?_)
 dsimp only
 rw[if_pos rfl];refine L3.at ?_
 try dsimp only
 rw[if_neg (by decide)];refine aaq ?_
 dsimp only
 rw[List.forIn_nil];refine aaq (aak (L4.at ?_));rw[adQ];refine aak (aak (aak (L5.at ?_)));cases b with
 | true=>
  rw[if_pos rfl];exact aaq (aaq (aaq q))
 | false=>
  rw[if_neg aaQ];refine aaq ?_
  dsimp only
  rw[List.forIn_nil];exact aaq (aaq q)
end
section
variable{X:Cx}{pins gj pn':List (Addr×Obj)}{σ:L2.St}{H:Hp}{s:aam}{A':abT}{xe':Value->aam->Prop}{calm':Bool}
abbrev dm(X:Cx)(A':abT)(pn':List (Addr×Obj))(xe':Value->aam->Prop)(calm':Bool):Cx:={ X with A:=A',pn:=pn',xe:=xe',calm:=calm' }
theorem Wk(ok:X.Ok)(hA:A'.frames=X.A.frames)(hh:calm'=true->A'.handled=none):(dm X A' pn' xe' calm').Ok:=
 ⟨ok.mod,ok.kind,ok.glob,ok.blt,ok.above,ok.inj,ok.has,ok.kG,hh,hA.trans ok.frames,ok.lV,ok.qD,ok.bs,ok.iq,ok.ku,ok.kx,ok.d5,ok.iZ⟩
theorem pI(I:Inv X pins σ H s)(hA:A'.frames=X.A.frames)(hh:calm'=true->A'.handled=none)(hp:∀p∈pn'++gj,p∈X.pn++pins):Inv (dm X A' pn' xe' calm') gj σ H s:=
 ⟨Wk I.ok hA hh,I.os,I.bare,I.base,I.loc,I.cell,I.free,I.gf,fun p h=>I.pin p (hp p h),I.aJ,I.lk⟩
theorem wD(I:Inv (dm X A' pn' xe' calm') gj σ H s)(hA:X.A.frames=A'.frames)(hh:X.calm=true->X.A.handled=none)(hp:∀p∈X.pn++pins,p∈pn'++gj):Inv X pins σ H s:=
 pI (X:=dm X A' pn' xe' calm') (A':=X.A) (pn':=X.pn) (xe':=X.xe) (calm':=X.calm) I hA hh hp
end
variable{pos:Pos}
theorem name_goes{pins:List (Addr×Obj)}{σ:L2.St}{s:aam}{n:Str}{Q:Unit->aam->Prop}{M:Model}{E:Value->aam->Prop}(I:Inv X pins σ H s)(hN:X.N.Nodup)(hi:X.N[i]? =some n)
  (hl:X.env.scope.names.lookup n=some .local) (gu:gJ X n) (h:∀s',Inv X pins (σ.set i none) H s'->Q () s'):wpAny M A (do bindName X.env n .none;unbindBehindTheSuite X.env n pos) Q E s:=by
 obtain⟨m,hn,hlk⟩:=id I.loc;have yG:(X.env.scope.kind==.class||(X.env.scope.kind==.module&&X.env.locals != X.env.globals))=false:=by rw[I.ok.kind];rfl
 have jJ:∀b o,X.aM.heap.get? b=some o->b≠X.env.locals:=fun b o e=>abn (aav (aaG e) I.ok.above)
 refine wpAny_nameGoes_keeps hl hn yG fun h' v jK hs=>h _ ⟨I.ok,I.os,I.bare,⟨fun b o e n' hb hx=>(hs.2 b (jJ b o e)).trans (I.base.keep b o e n' hb hx),fun b o e n' hb hx=>?_,I.base.free,fun b o e hx=>?_,I.base.ff,I.base.dP,I.base.eG⟩,
  ⟨_,jK,fun j y v' e1 e2 e3=>?_⟩,fun y c e=>?_,I.free,I.gf,fun p hp=>?_,fun b ob e=>?_,⟨by rw[abz];exact I.len,gu i hi σ none I.lk.2⟩⟩
 ·obtain⟨sl,e1⟩:=I.base.slot b o e n' hb hx;exact⟨sl,(hs.2 b (jJ b o e)).trans e1⟩
 ·obtain⟨o',e1⟩:=I.base.there b o e hx;exact⟨o',(hs.2 b (jJ b o e)).trans e1⟩
 ·have hj:j≠i:=fun z=>by
   subst z;rw[List.getElem?_set] at e2;split at e2
   ·split at e2
    ·cases e2
    ·cases e2
   ·rename_i z;exact z rfl
  rw[abP (adt hj)] at e2;obtain⟨u',r',q⟩:=hlk j y v' e1 e2 e3;refine⟨u',r',?_⟩
  rcases q with⟨k,e⟩ | ⟨k,c,e,z⟩
  ·refine .inl ⟨k,?_⟩;have:y≠n:=fun e=>hj (wL hN e1 (e▸hi))
   simp[this,e]
  ·exact .inr ⟨k,c,e,z.sameBut hs (I.jH y c e)⟩
 ·obtain⟨w',z⟩:=I.cell y c e;exact⟨w',z.sameBut hs (I.jH y c e)⟩
 ·obtain⟨e,n',ne,nf,d⟩:=I.pin p hp;exact⟨(hs.2 p.1 ne).trans e,n',ne,nf,d⟩
 ·refine(I.aJ b ob e).jt (fun c w' hc q=>(hs.2 c ?_).trans q) (fun _ q=>q) fun _ _ q=>q
  rintro rfl
  rcases hc with rfl | hc
  ·rw[I.free] at e;cases e
  ·rw[I.free] at hc;cases hc
noncomputable def Fl.wo(i:Nat):Fl->Fl
 | .nx σ=>.nx (σ.set i none)
 | .bk σ=>.bk (σ.set i none)
 | .ct σ=>.ct (σ.set i none)
 | .rt w=>.rt w
noncomputable def oI(m:Mo α):Mo α:=fun ph=>match m ph with
 | .ok a ph'=>.ok a ph'
 | _=>.no
noncomputable def nB(tb:List (Str×Bool))(i:Nat)(b h:SM):SM:=fun σ ph=>match b σ ph with
 | .ex x ph'=>if tb.lookup x.cls=some true/\x.fs.isEmpty=true then oI (aw (h ((aap σ.length none).set i (some (.exc x.cls [] [])))) fun f=>aA (f.wo i)) ph' else .no
 | .ok f ph'=>.ok f ph'
 | .no=>.no
theorem aW.len{K:aaj}{φ:Nat->Addr}{n:Nat}{H:Hp}:∀{ws:aP} {vs:L2.St},aW K φ n H ws vs->ws.length=vs.length
 | _,_,.nil=>rfl
 | _,_,.sm _ r=>by rw[aaP,aaP,aW.len r]
 | _,_,.nn r=>by rw[aaP,aaP,aW.len r]
theorem aW.none{K:aaj}{φ:Nat->Addr}{n:Nat}{H:Hp}:∀(vs:L2.St),aW K φ n H (aap vs.length aff) vs
 | []=>.nil
 | _::vs=>.nn (aW.none vs)
theorem aW.unset{K:aaj}{φ:Nat->Addr}{n:Nat}{H:Hp}:∀{ws:aP} {vs:L2.St} (i:Nat) {o:Option V},aW K φ n H ws vs->aW K φ n H (ws.set i aff) (vs.set i o)
 | _,_,_,_,.nil=>.nil
 | _,_,0,_,.sm _ r=>.nn r
 | _,_,0,_,.nn r=>.nn r
 | _,_,i+1,_,.sm h r=>.sm h (aW.unset i r)
 | _,_,i+1,_,.nn r=>.nn (aW.unset i r)
structure uw(K:aaj)(D:Addr):Prop where
 ek:fO K D
 ty:acG K (.ref D)=some (.type "type")
theorem tm{a:Addr}(ha:H a=none):Step K φ n H φ n (upd H a o):=by
 refine⟨aar _,fun _ _=>rfl,fun c xs h=>?_,fun c ob u h=>by rw[bC (fun z=>by rw[z,ha] at h;cases h)];exact h⟩;rw[bC (fun z=>by rw[z,ha] at h;cases h)];exact h
noncomputable def fP(K:aaj)(D:Addr)(tb:List (Str×Bool)):Prop:=
 ∀c b,tb.lookup c=some b->∃C,aao K aan c=some (some (.ref C))/\ack K (.ref C) (.ref D)=some b
theorem fP.nil{D:Addr}:fP K D []:=fun c b e=>by cases e
theorem fP.cons{D:Addr}{tb:List (Str×Bool)}{c:Str}(h1:aao K aan c=some (some (.ref C)))(h3:ack K (.ref C) (.ref D)=some b)(h:fP K D tb) :
  fP K D ((c,b)::tb):=fun c' b' e=>by
 rw[aaE] at e;split at e
 ·rename_i q;cases e;rw[beq_iff_eq] at q;subst q;exact⟨C,h1,h3⟩
 ·exact h c' b' e
theorem wY{a:Addr}(h:aG K φ ph H)(ha:H a=none):aG K φ ph (upd H a o):=
 ⟨fun i p e=>by
  obtain⟨x,hx,_⟩:=h.at (aal.mp e).1;exact(h.hp i p e).mono (tm ha) (bC fun z=>by rw[z,ha] at hx;cases hx),h.inj,fun p hm=>(h.tb p hm).new ha⟩
section
variable{X:Cx}
theorem T9{pn':List (Addr×Obj)}{E:Value->aam->Prop}{x:XC}{H':Hp}{e:Value}{s':aam}(hh:X.calm=true->X.A.handled=none)(h:jN (dm X X.A pn' E X.calm) x H' e s'):jN (dm X X.A pn' X.xe X.calm) x H' e s':=by
 obtain⟨C,hm,hf,h⟩:=h;refine⟨C,hm,hf,?_⟩
 rcases h with⟨pins,σ,s,vs,h',a,e1,e2,I,hx⟩ | ⟨pins,σ,H,s,I,h⟩
 ·exact .inl ⟨pins,σ,s,vs,h',a,e1,e2,pI (X:=dm X X.A pn' E X.calm) I rfl hh fun _ z=>z,hx⟩
 ·exact .inr ⟨pins,σ,H,s,pI (X:=dm X X.A pn' E X.calm) I rfl hh fun _ z=>z,h⟩
variable{body ia:List Stmt}{iD:Stmt}{c n:Str}{i:Nat}{tb:List (Str×Bool)}{D:Addr}{np lT pos:Pos}{mb mh:SM}
theorem QS(T:bY X)(X7:X.calm=true)(fj:Gl X c)(fk:X.mg c=some (.ref D))(bT:(c==("__debug__":Str))=false)(hk:uw X.K D)(hT:fP X.K D tb)(hN:X.N.Nodup)(hi:X.N[i]? =some n)(hl:X.env.scope.names.lookup n=some .local)(gu:gJ X n)
  (hb:∀pn E,eM (dm X X.A pn E X.calm) body mb) (hh:∀a E,eM (dm X (X.A.mark (some (.ref a))) X.pn E false) (iD::ia) mh) :
  IS X (.Try body [.ExceptHandler (some (.Name c np)) (some n) (iD::ia) lT] [] [] pos) (nB tb i mb mh):=by
 intro pins s σ H Dn I h;obtain⟨φ,ph,ws,hH,hS,h⟩:=h;have me:=I.ok.hd
 let X0:Cx:=dm X X.A (X.pn++pins) X.xe X.calm
 let E1:Value->aam->Prop:=fun e s'=>∃x ph' au H',mb ws ph=.ex x ph'/\aG X.K au ph' H'/\Step X.K φ ph.length H au ph'.length H'/\jN X0 x H' e s'
 have I1:Inv (dm X X.A (X.pn++pins) E1 X.calm) [] σ H s:=pI I rfl me fun p hp=>by simpa using hp
 have back:∀{ao:L2.St} {H':Hp} {s':aam},Inv (dm X X.A (X.pn++pins) E1 X.calm) [] ao H' s'->Inv X pins ao H' s':=fun{ao H' s'} J=>wD J rfl me fun p hp=>by simpa using hp
 have yk:tS (dm X X.A (X.pn++pins) E1 X.calm) mb Dn σ H:=by
  refine⟨φ,ph,ws,hH,hS,?_⟩;unfold nB at h;cases q:mb ws ph with
  | ok f ph'=>rw[q] at h;exact h
  | no=>rw[q] at h;exact h
  | ex x ph'=>exact fun au H' e s' r st th=>⟨x,ph',au,H',q,r,st,T9 me th⟩
 refine wpAny_Try_except (abB (hb (X.pn++pins) E1 [] s σ H Dn I1 yk) (fun f s1 z=>?_) fun e s1 z=>?_)
 ·cases f with
  | next=>
   obtain⟨ao,H',J,q⟩:=z;exact acQ ⟨ao,H',back J,q⟩
  | brk=>obtain⟨ao,H',J,q⟩:=z;exact⟨ao,H',back J,q⟩
  | cont=>obtain⟨ao,H',J,q⟩:=z;exact⟨ao,H',back J,q⟩
  | ret u=>obtain⟨v,ao,H',J,r,q⟩:=z;exact⟨v,ao,H',back J,r,q⟩
 ·obtain⟨x,ph',au,H',q,rH,st,th⟩:=z;unfold nB at h;rw[q] at h
  dsimp only at h
  by_cases hx:tb.lookup x.cls=some true/\x.fs.isEmpty=true
  case neg=>rw[if_neg hx] at h;exact h.elim
  rw[if_pos hx] at h;obtain⟨C,zP,zB,a,B,rfl,K⟩:=took (X:=X0) ⟨T.st,T.fr,T.ex⟩ th;obtain⟨C',tn,yV⟩:=hT _ _ hx.1;have qv:=aaB I.ok.mod.d9 I.ok.mod.glob tn;have yW:X.mg x.cls=some (.ref C):=zP;rw[yW] at qv;cases qv;refine K.note (A:=X.A) I.ok.frames fun h4 a0 yl qP=>?_
  refine wpAny_landsW yl fun h5 qQ qR=>?_
  obtain⟨X8,dq,zQ,zR,zS,_,gV,J5⟩:=K.inv (X:=X0) ⟨T.st,T.fr,T.ex⟩ qQ (qP.trans qR)
  let X2:Cx:=dm X (X.A.mark (some (.ref a))) X.pn (fun _ _=>False) false
  have to2:∀{p5:List (Addr×Obj)} {ao:L2.St} {H2:Hp} {s':aam},Inv X0 p5 ao H2 s'->Inv X2 pins ao H2 s':=fun{p5 ao H2 s'} J=>pI (X:=X0) J rfl (fun z=>nomatch z) fun p hp=>abI _ hp
  have qS:=to2 J5;refine wpAny_handleBy_cons (codeAny_handlers_test (m7 (X:=X2) qS fj fk ?_ bT)) (by intro z;cases z);refine Cc qS.dh ⟨zQ,zR,zS⟩ hk.ek hk.ty yV (codeAny_handlers_suite_as ?_);refine lands_againW qQ fun h6 zT zU=>?_
  obtain⟨X9,fv,qT,ge6,GW,GX,_,J6⟩:=K.inv (X:=X0) ⟨T.st,T.fr,T.ex⟩ zT ((qP.trans qR).trans zU);have zV:=to2 J6;refine wM (X:=X2) zV hN hi (.inl hl) (v:=.ref a) rfl (fun s7 J7=>?_) ⟨.inr hl,gu⟩;have bH:ws.length=fv.length:=by rw[hS.len,I.len];exact J6.len.symm
  let D':Ends:={ nx:=fun ao H'=>Dn.nx (ao.set i none) H',bk:=fun ao H'=>Dn.bk (ao.set i none) H',ct:=fun ao H'=>Dn.ct (ao.set i none) H',rt:=Dn.rt }
  have xP:tS X2 mh D' (fv.set i (some (.ref a))) (upd H' a (.bz qT (.own a))):=by
   refine⟨au,ph',(aap ws.length none).set i (some (.exc x.cls [] [])),wY rH gV,aW.set (ws:=aap ws.length none) (.exc bW GW tn GX (.inl ⟨rfl,rfl⟩) .nil) i (by rw[bH];exact aW.none fv),?_⟩;unfold oI aw at h;cases q2:mh ((aap ws.length none).set i (some (.exc x.cls [] []))) ph' with
   | no=>rw[q2] at h;exact h.elim
   | ex y p2=>rw[q2] at h;exact h.elim
   | ok f p2=>
    rw[q2] at h;intro aV H2 r2 s2;have h2:=h aV H2 r2 ((st.trans (tm gV)).trans s2);cases f with
    | nx cM=>exact fun ao r=>h2 (ao.set i none) (aW.unset i r)
    | bk cM=>exact fun ao r=>h2 (ao.set i none) (aW.unset i r)
    | ct cM=>exact fun ao r=>h2 (ao.set i none) (aW.unset i r)
    | rt w=>exact h2
  have jq:∀{ao:L2.St} {H2:Hp} {s':aam},Inv X2 pins ao H2 s'->Inv X pins ao H2 s':=fun{ao H2 s'} J=>wD J rfl me fun p hp=>hp
  refine abB (hh a (fun _ _=>False) pins s7 _ _ D' J7 xP) (fun f s8 z=>?_) fun _ _ z=>z.elim
  cases f with
  | next=>
   obtain⟨ao,H2,J8,q8⟩:=z;exact name_goes (jq J8) hN hi hl gu fun s9 J9=>⟨_,H2,J9,q8⟩
  | brk=>
   obtain⟨ao,H2,J8,q8⟩:=z;exact name_goes (jq J8) hN hi hl gu fun s9 J9=>⟨_,H2,J9,q8⟩
  | cont=>
   obtain⟨ao,H2,J8,q8⟩:=z;exact name_goes (jq J8) hN hi hl gu fun s9 J9=>⟨_,H2,J9,q8⟩
  | ret u=>
   obtain⟨v,ao,H2,J8,r8,q8⟩:=z;exact name_goes (jq J8) hN hi hl gu fun s9 J9=>⟨v,_,H2,J9,r8,q8⟩
theorem QT{N:List Str}{sc:Scope}{k:Nat}(B:BdT X N sc k)(T:bY X)(aL:X.env.scope=sc)(fj:Gl X c)(fk:X.mg c=some (.ref D))(bT:(c==("__debug__":Str))=false)(hk:uw X.K D)(hT:fP X.K D tb)(i:Nat)(hi:N[i]? =some n)(hl:sc.names.lookup n=some .local)
  (hb:∀{X':Cx},X'.K=X.K->X'.mg=X.mg->X'.prog=X.prog->X'.w=X.w->X'.base=X.base->BdT X' N sc k->JB X' body mb) (hh:∀{X':Cx},X'.K=X.K->X'.mg=X.mg->ei X' N sc->JB X' (iD::ia) mh) :
  JS X (.Try body [.ExceptHandler (some (.Name c np)) (some n) (iD::ia) lT] [] [] pos) (nB tb i mb mh):=
 ⟨QS T B.calm fj fk bT hk hT (by rw[B.hN];exact B.nd) (by rw[B.hN];exact hi) (by rw[aL];exact hl) (B.fn n (.inl hl)).2
  (fun pn E=>(hb (X':=dm X X.A pn E X.calm) rfl rfl rfl rfl rfl ⟨⟨B.hN,B.jR,B.loc,B.gl,B.fn,B.nd⟩,B.calm,B.room⟩).h)
  (fun a E=>(hh (X':=dm X (X.A.mark (some (.ref a))) X.pn E false) rfl rfl ⟨B.hN,B.jR,B.loc,B.gl,B.fn,B.nd⟩).h)⟩
end
noncomputable def qU(ph:PH)(x y:W):Option Nat:=match(if b8 x ph=true then cy x ph else none),dat ph 40 y with
 | some ws,some dy=>(bI (dat ph 40) ws).bind fun ds=>ds.findIdx? fun d=>aaV d dy
 | _,_=>none
noncomputable def nC(x:W)(ys:List W):Po W:=fun ph=>match ys with
 | [y]=>(qU ph x y).map fun(j:Nat)=>(W.int ((j:Nat):Int),ph)
 | _=>none
noncomputable def DK(K:aaj):V->List V->Hp->VK->Prop:=fun x ys H Q=>∃(φ:Nat->Addr) (ph:PH) (wx wy:W) (y:V) (j:Nat),ys=[y]/\aG K φ ph H/\aH K φ ph.length H wx x/\aH K φ ph.length H wy y/\qU ph wx wy=some j/\Q (.int j) H
theorem DL{X:Cx}{pins:List (Addr×Obj)}{σ:L2.St}{H:Hp}{s:aam}{φ:Nat->Addr}{ph:PH}(I:Inv X pins σ H s)(hH:aG X.K φ ph H){dx:acT}:∀{ws:List W} {vs:List V} {us:List Value} {ds:List acT},aY X.K φ ph.length H ws vs->Vals vs us->bI (dat ph 40) ws=some ds →
  us.findIdx? (jo s dx)=ds.findIdx? fun d=>aaV d dx
 | _,_,_,_,.nil,.nil,e=>by cases e;rfl
 | w::ws,_,_,ds,.cons h r,.cons hv rv,e=>by
  unfold bI at e;split at e
  ·rename_i b bs e1 e2;cases e;have q:=iI I hH 40 h hv e1;rw[List.findIdx?_cons,List.findIdx?_cons,DL I hH r rv e2,tj q]
  ·cases e
theorem Ua(hH:aG K φ ph H)(r:aH K φ ph.length H x v)(h:b8 x ph=true)(e:cy x ph=some ws):∃a vs,v=.ref a/\bD K H a vs/\aY K φ ph.length H ws vs:=by
 unfold b8 at h;unfold cy at e;cases r with
 | fl hq r=>cases e;exact⟨_,_,rfl,hq.sq,r⟩
 | ref hi=>
  simp only at e;split at e
  ·rename_i cM hw;cases e;obtain⟨vs,hv,r⟩:=hH.hp _ _ hw;exact⟨_,vs,rfl,bD.of hv,r⟩
  ·cases e
 | _=>cases h
theorem Sm(hu:X.A.units+64<cLine):lY X "list.index" (DK X.K):=by
 intro pins s σ H x xs v us Q I rx rv h;obtain⟨φ,ph,wx,wy,y,j,rfl,hH,r1,r2,e,q⟩:=h;obtain⟨u,rfl,ru⟩:=rv.one;unfold qU at e;split at e
 ·rename_i ws dy hs hd;have hL:b8 wx ph=true:=by
   cases z:b8 wx ph with
   | true=>rfl
   | false=>rw[z,if_neg aaQ] at hs;cases hs
  rw[if_pos hL] at hs;obtain⟨ds,e1,e2⟩:=Option.bind_eq_some_iff.mp e;obtain⟨a,vs,rfl,hq,rs⟩:=Ua hH r1 hL hs;cases rx;obtain⟨its,oG,⟨o,n,ho,hc,hdn,fq⟩,hz⟩:=I.list hq;obtain⟨oc,od,odt,i5⟩:=o;cases(show oc=_ from hc);cases(show odt=_ from fq);obtain⟨⟨as,k1⟩,c1,l1⟩:=iI I hH 40 r2 ru hd;have q2:=(xm I hH (dx:=dy) rs oG e1).2;rw[<- DL I hH rs oG e1,List.findIdx?_eq_some_iff_getElem] at e2;obtain⟨hj,hit,qJ⟩:=e2;have bH:its.length<=sizeLine:=by rw[<- oG.length];exact hz
  refine aeQ F.slot_list_index ⟨_,ho,rfl⟩ F.entry_list_index (F.args_list_index_2 _ _) (SeqAt.list_indexAt a its.toArray n od i5 u (jo s dy) j (by simpa using hj) ?_ (by simpa using hit) fun m hm hmj=>?_) ⟨ho,fun z hz'=>?_,.int _,H,I.tok _,⟨_,rfl⟩,q⟩
  ·have:(j:Int)<its.length:=by exact_mod_cast hj
   have h2:((its.length:Nat):Int)<=(aaD:Nat):=by exact_mod_cast bH
   have h3:((aaD:Nat):Int)<=2 ^ 62:=by rw[ael];decide
   omega
  ·have:=qJ m hmj
   simpa using this
  ·obtain⟨d,jI⟩:=q2 z (by simpa using hz');rw[tj jI];obtain⟨⟨bs,k2⟩,c2,l2⟩:=jI;intro prog w E Q hQ;exact aeT prog w _ E s z u d dy bs as Q k2 k1 c2 c1 (by show X.A.units+1+_<_;omega) hQ
 ·cases e
theorem Sn:kP K "list" (DK K) nC:=by
 intro φ ph H x xs vx vs w ph' Q hH rx rs e k;unfold nC at e;split at e
 ·obtain⟨j,e1,e2⟩:=aaR.mp e;cases e2;cases rs with
  | cons r0 r1=>
   cases r1;exact⟨φ,ph,x,_,_,j,rfl,hH,rx,r0,e1,k φ H _ hH Step.refl (.int _)⟩
 ·cases e
theorem cR{w:World}{mg:Str->Option Value}{base:Heap}{x qual:Str}{st:Stmt}{f:Addr}{fd:aaZ}{N ps:List Str}{k np:Nat}{body:SM}(hn:N.length=n)(hp:ps.length=np)(F:cz K x qual st f fd)(S:cC N ps (ag st))
  (pV:∀{X:Cx},X.prog=P->X.w=w->X.K=K->X.mg=mg->X.base=base->Bd X N (ag st) k->bY X->X.env.scope=ag st->JB X (bf st) body):bO P w K mg base (bL P w) (k+1) f fd ps (bV K mg np (fM body n np)):=by
 subst hn hp;exact VX F S fun cG A outer s H E hr=>(pV (X:=jx (bL P w) P w K mg base N qual (ag st) f cG A outer s H E) rfl rfl rfl rfl rfl ⟨⟨⟨rfl,fun _ z=>z,fun _ z=>z,fun _ z=>z,fun _ _=>⟨.inl rfl,fun _ _ _ _ _=>trivial⟩,S.nd⟩,rfl,hr⟩,PassesOwn.leaving⟩ ⟨rfl,rfl,rfl⟩ rfl).h
theorem Lo:aby "ValueError"=some (.type "ValueError"):=by kernel_rfl
noncomputable def lJ(K:aaj)(b:Addr):Bool:=(iL K).any fun p=>p.2.2==b
theorem Cy{b:Addr}(h:lJ K b=true):∃p∈iL K,p.2.2=b:=by
 obtain⟨p,h1,h2⟩:=adg.mp h;exact⟨p,h1,eq_of_beq h2⟩
theorem QU{p:Str×Addr×Addr}(h:p∈iL K):lJ K p.2.2=true:=adg.mpr ⟨p,h,beq_self_eq_true _⟩
noncomputable def H0(K:aaj)(a:Addr)(o:Obj)(xs:List V):Hp:=fun b=>if lJ K b=true then some (.fR #[]) else if b=a/\K.lookup a=none then some (.bz o (.lst xs)) else none
section
variable{Pg:abp}{w:World}{K:aaj}{mg mb:Str->Option Value}{k:Nat}{fa a:Addr}{fd:aaZ}{x:Str}{bB:aam}{vs:List Value}{ns:List Int}{fm:List W->Mo W}
theorem So(KX:K.In bB.heap)(bu:bB.heap.Ns aan mg)(hb:bB.heap.Ns adK mb)(vn:∀x:Str,x≠"__name__"->mb x=aby x)(Za:bB.heap.NoLimit)
  (hbm:∃bm ob,mg "__builtins__"=some (.ref bm)/\bm≠adK/\bB.heap.get? bm=some ob/\ob.cls=.type "module"/\ob.dict=some adK/\ob.data=.plain) (hg:bB.gens= #[])
  (hT:∀p∈iL K,aed bB.heap p.2.1 p.2.2/\bB.heap.get? p.2.2=some (acI #[])) (hK:afa K=true)
  (ha:bB.heap.get? a=some { cls:=.type "list",data:=.seq vs.toArray }) (hi:IntsAre vs ns) (hl:ns.length<=63) (hr:cL k callerA)
  (F:∀base:Heap,K.In base->base.Ns aan mg->bO Pg w K mg base (bL Pg w) k fa fd [x] (bV K mg 1 fm)) (Ya:∀(s:aam) (u:Value),BindsTo s fd ⟨[u],[]⟩ [(x,u)])
  (good:∃ph',fm [.fl (ns.map W.int)] []=.ok (.bl true) ph') :
  afd (model Pg w) callerA (.call (.ref fa) ⟨[.ref a],[]⟩) (fun r s'=>r=.ok (.ret (.bool true))/\OldK bB.heap s'.heap/\s'.os=bB.os/\aek s'.gens) bB:=by
 have rv:=B6 hi;have Zb:=hi.length;have kM:ns.length<=sizeLine:=abe hl (by decide);have tabOf:∀{b:Addr},lJ K b=true->bB.heap.get? b=some (acI #[]):=fun h=>by
  obtain⟨p,h1,rfl⟩:=Cy h;exact(hT p h1).2
 have free:∀{b:Addr} {o:Obj},bB.heap.get? b=some o->o≠acI #[]->(b=a->K.lookup a≠none)->H0 K a { cls:=.type "list",data:=.seq vs.toArray } (ns.map V.int) b=none:=fun{b o} e n1 n2=>by
  unfold H0;rw[if_neg (fun h=>n1 (abh (e.symm.trans (tabOf h)))),if_neg (fun h=>n2 h.1 h.2)]
 have ym:∀{b:Addr} {o:Obj},bB.heap.get? b=some o->o.cls≠.none->o.cls≠.type "list"->H0 K a { cls:=.type "list",data:=.seq vs.toArray } (ns.map V.int) b=none:=fun{b o} e n1 n2=>free e (fun z=>n1 (by rw[z])) fun z=>by
  subst z;rw[ha] at e;cases e;exact absurd rfl n2
 have yn:∀{b:Addr} {o:Obj} {es:Array acE} {ep:Nat},bB.heap.get? b=some o->o.data=.dict es ep->H0 K a { cls:=.type "list",data:=.seq vs.toArray } (ns.map V.int) b=none:=fun{b o es ep} e d=>free e (fun z=>by rw[z] at d;cases d) fun z=>by
  subst z;rw[ha] at e;cases e;have d':Data.seq vs.toArray _=Data.dict es ep:=d;cases d'
 have na:lJ K a=false:=by
  cases q:lJ K a with
  | false=>rfl
  | true=>have:=tabOf q;rw[ha] at this;cases this
 revert free ym yn
 generalize eH:H0 K a { cls:=.type "list",data:=.seq vs.toArray } (ns.map V.int)=H;intro free ym yn;have DM:∀b u,H b=some u->(lJ K b=true/\u=.fR #[])\/(b=a/\u=.bz { cls:=.type "list",data:=.seq vs.toArray } (.lst (ns.map V.int))):=fun b u e=>by
  rw[<- eH] at e;unfold H0 at e;split at e
  ·rename_i h;cases e;exact .inl ⟨h,rfl⟩
  ·split at e
   ·rename_i h;cases e;exact .inr ⟨h.1,rfl⟩
   ·cases e
 have aJ:cm Pg w H bB.heap:=fun b u e=>by
  rcases DM b u e with⟨h,rfl⟩ | ⟨rfl,rfl⟩
  ·exact tabOf h
  ·exact⟨ha,by rw[aat];exact kM,vs,_,rv,ha⟩
 have tb:∀p∈iL K,kB H p.1 p.2.2:=fun p hp=>⟨#[],by rw[<- eH];exact if_pos (QU hp),trivial,fun pos v e=>nomatch e⟩
 have hS:uK K H a (ns.map V.int):=by
  cases q:K.lookup a with
  | some o=>
   have e:=KX a o q;rw[ha] at e;cases e;exact .inr ⟨_,vs.toArray,_,q,rfl,rfl,rfl,by rw[aax,Zb];exact kM,by simpa using rv⟩
  | none=>exact .inl ⟨_,by rw[<- eH];unfold H0;rw[if_neg (by rw[na];simp),if_pos ⟨rfl,q⟩]⟩
 have zW:∀{b:Addr} {o:Obj},bB.heap.get? b=some o->H b=none->(ju bB.heap H).get? b=some o:=fun e n=>RM e n
 have vB:∀{b:Addr} {m:Str->Option Value},bB.heap.Ns b m->(ju bB.heap H).Ns b m:=fun{b m} ⟨o,es,ep,e,d,r⟩=>⟨o,es,ep,zW e (yn e d),d,r⟩
 have GY:K.In (ju bB.heap H):=fun b o e=>zW (KX b o e) (free (KX b o e) (fun z=>by
  have h2:=abA.mp hK (b,o) (PySem.W.mem_of_lookupK e);subst z;exact absurd (show false=true from h2) aaQ) fun z q=>by rw[<- z,e] at q;cases q)
 have hM:Mod K mg (ju bB.heap H):=⟨GY,vB bu,⟨mb,vB hb,vn⟩,let ⟨mc,h1,h2⟩:=Za;⟨mc,vB h1,h2⟩,
  let ⟨bm,ob,b1,b2,b3,b4,b5⟩:=hbm;⟨bm,ob,b1,b2,zW b3 (ym b3 (by rw[b4];exact fun z=>nomatch z) (by rw[b4];exact fun z=>absurd (Value.type.inj z) (by decide))),b4,b5⟩⟩
 have e0:lO Pg w K mg (ju bB.heap H) callerA [] bB H:=⟨rfl,hM,fun b o e=>S2 e,Nat.le_of_eq (Qu _ _),trivial,fun b hb=>absurd (show b∈([]:List Addr) from hb) (by simp),aJ,.of_eq hg⟩
 obtain⟨ph',eg⟩:=good;refine aeH ((F _ GY (vB bu)).run callerA [] bB H ⟨[.ref a],[]⟩ [.ref a] [.ref a] (fun v _=>v=.bl true) (fun _ _ _=>False) hr e0 (Ya bB (.ref a)) (.cons rfl .nil)
  ⟨rfl,fun _=>0,[],[.fl (ns.map W.int)],⟨fun i o e=>by simp at e,fun i j hi=>absurd hi (by simp),tb⟩,.cons (.fl hS (C1 ns)) .nil,?_⟩) fun r s' h=>?_
 ·rw[eg];intro au H' v _ _ r;cases r;rfl
 ·cases r with
  | error e=>obtain⟨_,_,_,z⟩:=h;exact z.elim
  | ok fl=>
   cases fl with
   | next=>exact acH h
   | brk=>exact acH h
   | cont=>exact acH h
   | ret u=>
    obtain⟨v,H',os,bare,un,FK,r',q⟩:=h;have q':v=.bl true:=q;subst q';obtain rfl:u=adJ true:=r';refine⟨rfl,⟨fun b o e=>?_,fun b o e=>un.there b o e (by simp)⟩,os,bare⟩;cases q:H b with
    | none=>exact .inl (un.keep b o e q (fun z=>absurd (show b∈([]:List Addr) from z) (by simp)) (by simp))
    | some u=>
     rcases DM b u q with⟨h1,rfl⟩ | ⟨rfl,rfl⟩
     ·obtain⟨more,z⟩:=un.eG b _ q;have e2:s'.heap.get? b=some (acI (#[]++more)):=FK b _ z;obtain⟨p,hp,rfl⟩:=Cy h1;have e3:=(hT p hp).2;rw[e] at e3;cases e3;exact .inr (.inl ⟨((hT p hp).1.tab (hT p hp).2).isCodeTable,rfl,#[],more,rfl,e2⟩)
     ·obtain⟨e2,_⟩:=FK _ _ (un.dP _ _ _ q);rw[ha] at e;cases e;exact .inl e2
end
theorem Ub{l:aeL}{q:abp}{loose:List Str}{XP:(Str->Option Value)->Heap->Prop}{YP:World->Heap->Prop}{d:DefRec}{K:Params->aaj}{x:Str}{fm:List W->Mo W}(k:Nat)
  (good:∀ns:List Int,ns.length<=63->∃ph',fm [.fl (ns.map W.int)] []=.ok (.bl true) ph') (hn:l.most=some 63) (qK:d.params.defaults=[]) (hr:cL k callerA) (hY:∀(w:World) (h:Heap),YP w h->(K w.params).In h)
  (hK:∀w:World,afa (K w.params)=true) (hT:∀(w:World) (h:Heap),YP w h->∀p∈iL (K w.params),aed h p.2.1 p.2.2/\h.get? p.2.2=some (acI #[]))
  (F:∀(w:World) (mg:Str->Option Value) (fa:Addr) (h:Heap),(K w.params).In h->h.Ns aan mg->mg d.name=some (.ref fa) →
   ∃fd:aaZ,(∀(s:aam) (u:Value),BindsTo s fd ⟨[u],[]⟩ [(x,u)])/\∀base:Heap,(K w.params).In base->base.Ns aan mg->bO l.prog w (K w.params) mg base (bL l.prog w) k fa fd [x] (bV (K w.params) mg 1 fm)) :
  PySem.W.WalkO q loose XP YP l.row.toRowW d [] (fun f vs=>PySem.call f vs):=by
 refine Gw.Oc hn qK fun w aM bB mg mb fa o pm cd doc a vs ns G Y ho hd hcd hmg lP yf bH hg=>?_
 have KX:=hY w _ Y;obtain⟨fd,hb,hF⟩:=F w mg fa _ KX G.T.g hmg;exact So KX G.T.g G.T.b G.T.builtins G.T.nolimit G.T.bmain hg (hT w _ Y) (hK w) lP yf bH hr hF hb (good ns bH)
noncomputable def vC:W->Option Bool
 | .bl b=>some b
 | _=>none
noncomputable def og(w:W)(ph:PH):Option (List Bool):=if b8 w ph=true then(cy w ph).bind (bI vC) else none
noncomputable def aag:List W->Po W:=fun xs ph=>match xs with
 | [w]=>(og w ph).map fun bs=>(.bl (bs.any id),ph)
 | _=>none
noncomputable def kE:List W->Po W:=fun xs ph=>match xs with
 | [w]=>(og w ph).map fun bs=>(.bl (bs.all id),ph)
 | _=>none
section
variable{X:Cx}
theorem Uc(bs:List Bool):((abX bs.length).all fun i=>(bs[i]?).getD true)=bs.all id:=by
 rw[Bool.eq_iff_iff,abA,abA];constructor
 ·intro h b hb;obtain⟨i,hi,q⟩:=List.getElem_of_mem hb;have:=h i (acZ.mpr hi);simp only[abx hi,aes,q] at this;exact this
 ·intro h i hi;have hi:=acZ.mp hi;simp only[abx hi,aes];exact h _ (List.getElem_mem hi)
theorem Sq{h h':Heap}{o:Obj}(hk:∀b x,b∉[h.objs.size]->(h.push o).get? b=some x->h'.get? b=some x):∀b x,h.get? b=some x->h'.get? b=some x:=
 fun b x e=>hk b x (fun hm=>by rw[abc.mp hm] at e;exact abQ _ (aaG e)) (aaA _ e)
theorem BM(hc:X.calm=true):cJ X (.builtin "all") (fun xs H Q=>∃p,∃bs:List Bool,xs=[.ref p]/\bD X.K H p (bs.map V.bl)/\Q (.bl (bs.all id)) H):=by
 intro pins s σ H xs us Q I r h;obtain⟨p,bs,rfl,hq,q⟩:=h;obtain⟨u,rfl,rx⟩:=vals1 r;cases rx;obtain⟨its,r',pl,hz⟩:=I.list hq;have bH:=r'.length;rw[aat] at bH;have gU:p<s.heap.objs.size:=by obtain⟨_,e,_⟩:=pl.isList;exact aaG e
 refine call_all_walk (wpAny_pyIter_list pl.isList ?_);refine⟨s.heap.objs.size,[s.heap.objs.size,p],[s.heap.objs.size],its.toArray.size,_,_,fun i=>(bs[i]?).getD true,rfl,Walks.list (A:=X.A.in1) (I.ok.hd hc) _ p (abn gU) its.toArray,
  ⟨⟨_,abk _ rfl,rfl,rfl⟩,pl.isList.push _⟩,fun i v s' Q' E' hP hQ=>?_,fun h' tk hk=>?_⟩
 ·have hP:its[i]? =some v:=by simpa using hP
  have hi:i<bs.length:=by rw[bH];exact(aal.mp hP).1
  obtain⟨u,hu,ru⟩:=r'.get (i:=i) (x:=.bl bs[i]) (by simp[hi]);rw[hP] at hu;cases hu;have ru:v=.bool bs[i]:=ru;subst ru;simp only[abx hi,aes] at hQ;exact abE hQ
 ·rw[aax,<- bH,Uc];exact⟨.bl _,H,I.kept (Sq hk),rfl,q⟩
theorem xr{K:aaj}{φ:Nat->Addr}{n:Nat}{H:Hp}:∀{ws:List W} {vs:List V} {bs:List Bool},aY K φ n H ws vs->bI vC ws=some bs->vs=bs.map V.bl
 | _,_,_,.nil,e=>by cases e;rfl
 | w::ws,_,bs,.cons h r,e=>by
  unfold bI at e;split at e
  ·rename_i b ZR e1 e2;cases e;have q:=xr r e2;unfold vC at e1;cases h <;> cases e1
   rw[q];rfl
  ·cases e
theorem Sr{K:aaj}{φ:Nat->Addr}{ph:PH}{H:Hp}{w:W}{v:V}{bs:List Bool}(hH:aG K φ ph H)(r:aH K φ ph.length H w v)(e:og w ph=some bs):∃p,v=.ref p/\bD K H p (bs.map V.bl):=by
 unfold og at e;split at e
 ·rename_i hL;cases r with
  | ref hi=>
   unfold b8 at hL;simp only at hL;split at hL
   ·rename_i ws hw;obtain⟨vs,hv,rs⟩:=hH.hp _ _ hw;simp only[cy,hw,abJ] at e;rw[xr rs e] at hv;exact⟨_,rfl,bD.of hv⟩
   ·cases hL
  | fl h rs=>
   simp only[cy,abJ] at e;have q:=xr rs e;subst q;exact⟨_,rfl,h.sq⟩
  | _=>cases hL
 ·cases e
theorem DN{K:aaj}:gk K (fun xs H Q=>∃p,∃bs:List Bool,xs=[.ref p]/\bD K H p (bs.map V.bl)/\Q (.bl (bs.all id)) H) kE:=by
 intro φ ph H xs vs w ph' Q hH r e k;unfold kE at e;split at e
 ·rename_i x;cases q:og x ph with
  | none=>rw[q] at e;cases e
  | some bs=>
   rw[q] at e;cases e;cases r with
   | cons r r'=>
    cases r';obtain⟨p,rfl,hs⟩:=Sr hH r q;exact⟨p,bs,rfl,hs,k φ H _ hH Step.refl (.bl _)⟩
 ·cases e
end
noncomputable def ux(w:W):Po (List W×(PH->Bool)):=fun ph=>match w with
 | .tup ws=>some ((ws,fun _=>true),ph)
 | w=>qp w ph
noncomputable def gF(m:EM):IM:=fun σ=>aw (m σ) fun w=>lift (ux w)
variable{m:EM}
theorem Yb{σ:L2.St}{R:It->Hp->Prop}(h:tI X (gF m) σ H R):tI X (uN m) σ H R\/tI X (yh m) σ H R:=by
 obtain⟨φ,ph,ws,hH,hS,h⟩:=h;unfold gF at h;rw[cE] at h;cases q:m ws ph with
 | no=>rw[q] at h;exact h.elim
 | ex x ph'=>
  refine .inl ⟨φ,ph,ws,hH,hS,?_⟩;unfold uN;rw[cE,q];rw[q] at h;exact h
 | ok w ph'=>
  rw[q] at h;have h:(lift (ux w) ph').Run _ _:=h;by_cases hw:∃us,w=.tup us
  ·obtain⟨us,rfl⟩:=hw;refine .inr ⟨φ,ph,ws,hH,hS,?_⟩;unfold yh;rw[cE,q];exact h
  ·refine .inl ⟨φ,ph,ws,hH,hS,?_⟩;unfold uN;rw[cE,q];have e:ux w=qp w:=by
    funext p
    cases w <;> first | rfl | exact absurd ⟨_,rfl⟩ hw
   rw[e] at h;exact h
theorem tW{tg e:Expr}(hl:JE X e m):JI X tg e (gF m):=⟨by
 intro pins s σ H R I h
 rcases Yb h with h | h
 ·exact TC hl.h pins s σ H R I h
 ·exact VS hl.h pins s σ H R I h⟩
theorem Cd{e:Expr}{gens:List Comprehension}{scope:Scope}{p pos':Pos}{x:Str}{line:Nat}(hk:env.scope.kind=.function)(hx:env.scope.names.lookup x=some .local)(hl:(pos'.line==p.line)=true)
  (hn:(scope.names.any fun y=>y.1==x&&(y.2==.local||y.2==.cell))=false):acR (.ListComp e gens scope p) (some (.Name x pos')) line env=pure true:=by
 have e1:(env.kindOf x==some .local)=true:=by unfold Env.kindOf;rw[hx];rfl
 have e2:(env.blockKind==.function)=true:=by unfold Env.blockKind;rw[hk];rfl
 show pure (env.blockKind==.function&&env.kindOf x==some .local&&pos'.line==p.line&& !(scope.names.any fun y=>y.1==x&&(y.2==.local||y.2==.cell)))=_;rw[e1,e2,hl,hn];rfl
noncomputable def newD:Po W:=fun ph=>some (.ref ph.length,ph++[.bE []])
noncomputable def uP:EM:=fun _=>lift newD
theorem Ss{p:Addr}(hH:aG K φ ph H)(hp:H p=none) :
  aG K (ext φ ph.length p) (ph++[.bE []]) (upd H p (.dK []))/\Step K φ ph.length H (ext φ ph.length p) (ph++[PO.bE []]).length (upd H p (.dK []))/\aH K (ext φ ph.length p) (ph++[PO.bE []]).length (upd H p (.dK [])) (.ref ph.length) (.ref p):=by
 have hl:(ph++[PO.bE []]).length=ph.length+1:=by simp
 rw[hl];have s:=pC (K:=K) (φ:=φ) (n:=ph.length) (o:=HO.dK []) hp;refine⟨hH.new hp (.inl ⟨[],bW,.nil⟩),s,?_⟩;have q:aH K (ext φ ph.length p) (ph.length+1) (upd H p (.dK [])) (.ref ph.length) (.ref (ext φ ph.length p ph.length)):=.ref (abD _);rw[jk] at q;exact q
theorem DO:JE X (.Dict [] [] pos) uP:=⟨PE.imp R4 fun σ H Q h p hp=>by
 obtain⟨φ,ph,ws,hH,hS,h⟩:=h;obtain⟨w,ph',e,k⟩:=run_lift h;cases e;obtain⟨q1,q2,q3⟩:=Ss hH hp;exact k _ _ _ q1 q2 q3⟩
theorem tu{a b:Key}(h:bR a=bR b):a=b:=by
 cases a <;> cases b <;> simp_all [bR]
theorem sS:∀{a b:List Key},a.map bR=b.map bR->a=b
 | [],[],_=>rfl
 | [],_::_,e=>by simp at e
 | _::_,[],e=>by simp at e
 | x::xs,y::ys,e=>by
  rw[aaM,aaM] at e;injection e with e1 e2
  rw[tu e1,sS e2]
noncomputable def qw:W->Option Key
 | .int i=>some (.inl i)
 | .str x=>some (.inr x)
 | _=>none
noncomputable def yX:W->Option (List Key)
 | .tup ws=>bI qw ws
 | _=>none
variable{k:Key}
theorem xt{w:W}(h:qw w=some k):w=bR k:=by
 cases w <;> simp only[qw] at h <;> first | (cases h;done) | (cases h;rfl)
theorem Cz:∀{ws:List W} {ks:List Key},bI qw ws=some ks->ws=ks.map bR
 | [],ks,h=>by cases h;rfl
 | w::ws,ks,h=>by
  unfold bI at h;split at h
  ·rename_i b bs e1 e2;cases h;rw[xt e1,Cz e2];rfl
  ·cases h
theorem C6{w:W}{ks:List Key}(h:yX w=some ks):w=.tup (ks.map bR):=by
 cases w <;> simp only[yX] at h <;> first | (cases h;done) | rw[Cz h]
theorem yo(r:aH K φ n H (bR k) v):v=kV k:=by
 cases k with
 | inl i=>cases r;rfl
 | inr x=>cases r;rfl
theorem DP{K:aaj}{φ:Nat->Addr}{n:Nat}{H:Hp}:∀{ks:List Key} {vs:List V},aY K φ n H (ks.map bR) vs->vs=ks.map kV
 | [],_,r=>by cases r;rfl
 | k::ks,_,r=>by
  cases r with
  | cons h r=>rw[yo h,DP r];rfl
theorem DQ{ks:List Key}(r:aH K φ n H (.tup (ks.map bR)) v):∃b,v=.ref b/\H b=some (.tup (ks.map kV)):=by
 cases r with
 | tup h r=>rw[DP r] at h;exact⟨_,rfl,h⟩
noncomputable def bQ(kws:List (W×W))(k:W):Option W:=(kws.find? fun p=>decide (p.1=k)).map (·.2)
noncomputable def cK(kws:List (W×W))(k w:W):List (W×W):=if(kws.any fun p=>decide (p.1=k))=true then kws.map (fun p=>if p.1=k then(p.1,w) else p) else kws++[(k,w)]
noncomputable def iW(K:aaj)(φ:Nat->Addr)(n:Nat)(H:Hp):Option W->Option V->Prop
 | none,none=>True
 | some w,some v=>aH K φ n H w v
 | _,_=>False
section
variable{K:aaj}{φ:Nat->Addr}{n:Nat}{H:Hp}
theorem Wl{a b:Key}:decide (bR a=bR b)=decide (a=b):=by
 rw[decide_eq_decide];exact⟨tu,fun e=>by rw[e]⟩
theorem Ud{a b:List Key}:decide (W.tup (a.map bR)=W.tup (b.map bR))=decide (a=b):=by
 rw[decide_eq_decide];exact⟨fun e=>sS (W.tup.inj e),fun e=>by rw[e]⟩
theorem cj.val(k:Key):∀{kws:List (W×W)} {kvs:List (Key×V)},cj K φ n H kws kvs->iW K φ n H (bQ kws (bR k)) (gK kvs k)
 | _,_,.nil=>trivial
 | _,_,.cons (k:=j) (w:=w) (v:=v) h r=>by
  unfold bQ;rw[abi];by_cases e:j=k
  ·rw[decide_eq_true (congrArg bR e),pA (p:=(j,v)) e];exact h
  ·rw[decide_eq_false (fun z=>e (tu z)),pB (p:=(j,v)) e];exact cj.val k r
theorem cw.val(k:List Key):∀{kws:List (W×W)} {kvs:List (List Key×V)},cw K φ n H kws kvs->iW K φ n H (bQ kws (.tup (k.map bR))) (gK kvs k)
 | _,_,.nil=>trivial
 | _,_,.cons (k:=j) (w:=w) (v:=v) h r=>by
  unfold bQ;rw[abi];by_cases e:j=k
  ·rw[decide_eq_true (by rw[e]),pA (p:=(j,v)) e];exact h
  ·rw[decide_eq_false (fun z=>e (sS (W.tup.inj z))),pB (p:=(j,v)) e];exact cw.val k r
theorem cj.len:∀{kws:List (W×W)} {kvs:List (Key×V)},cj K φ n H kws kvs->kws.length=kvs.length
 | _,_,.nil=>rfl
 | _,_,.cons _ r=>by rw[aaP,aaP,cj.len r]
theorem cw.len:∀{kws:List (W×W)} {kvs:List (List Key×V)},cw K φ n H kws kvs->kws.length=kvs.length
 | _,_,.nil=>rfl
 | _,_,.cons _ r=>by rw[aaP,aaP,cw.len r]
theorem cj.any(k:Key):∀{kws:List (W×W)} {kvs:List (Key×V)},cj K φ n H kws kvs->(kws.any fun p=>decide (p.1=bR k))=kvs.any fun p=>decide (p.1=k)
 | _,_,.nil=>rfl
 | _,_,.cons (k:=j) _ r=>by
  rw[abH,abH,cj.any k r];show(decide (bR j=bR k)||_)=(decide (j=k)||_);rw[Wl]
theorem cw.any(k:List Key):∀{kws:List (W×W)} {kvs:List (List Key×V)},cw K φ n H kws kvs->(kws.any fun p=>decide (p.1=.tup (k.map bR)))=kvs.any fun p=>decide (p.1=k)
 | _,_,.nil=>rfl
 | _,_,.cons (k:=j) _ r=>by
  rw[abH,abH,cw.any k r];show(decide (W.tup (j.map bR)=W.tup (k.map bR))||_)=(decide (j=k)||_);rw[Ud]
theorem cj.ic(k:Key){w:W}{v:V}(q:aH K φ n H w v):∀{kws:List (W×W)} {kvs:List (Key×V)},cj K φ n H kws kvs->cj K φ n H (kws.map fun p=>if p.1=bR k then(p.1,w) else p) (kvs.map fun p=>if p.1=k then(p.1,v) else p)
 | _,_,.nil=>.nil
 | _,_,.cons (k:=j) h r=>by
  rw[aaM,aaM];by_cases e:j=k
  ·rw[if_pos (show bR j=bR k by rw[e]),if_pos (show j=k from e)];exact .cons q (cj.ic k q r)
  ·rw[if_neg (show ¬bR j=bR k from fun z=>e (tu z)),if_neg (show ¬j=k from e)];exact .cons h (cj.ic k q r)
theorem cw.ic(k:List Key){w:W}{v:V}(q:aH K φ n H w v):∀{kws:List (W×W)} {kvs:List (List Key×V)},cw K φ n H kws kvs->cw K φ n H (kws.map fun p=>if p.1=.tup (k.map bR) then(p.1,w) else p) (kvs.map fun p=>if p.1=k then(p.1,v) else p)
 | _,_,.nil=>.nil
 | _,_,.cons (k:=j) h r=>by
  rw[aaM,aaM];by_cases e:j=k
  ·rw[if_pos (show W.tup (j.map bR)=W.tup (k.map bR) by rw[e]),if_pos (show j=k from e)];exact .cons q (cw.ic k q r)
  ·rw[if_neg (show ¬W.tup (j.map bR)=W.tup (k.map bR) from fun z=>e (sS (W.tup.inj z))),if_neg (show ¬j=k from e)];exact .cons h (cw.ic k q r)
theorem cj.snoc(k:Key){w:W}{v:V}(q:aH K φ n H w v):∀{kws:List (W×W)} {kvs:List (Key×V)},cj K φ n H kws kvs->cj K φ n H (kws++[(bR k,w)]) (kvs++[(k,v)])
 | _,_,.nil=>.cons q .nil
 | _,_,.cons h r=>.cons h (cj.snoc k q r)
theorem cw.snoc(k:List Key){w:W}{v:V}(q:aH K φ n H w v):∀{kws:List (W×W)} {kvs:List (List Key×V)},cw K φ n H kws kvs->cw K φ n H (kws++[(.tup (k.map bR),w)]) (kvs++[(k,v)])
 | _,_,.nil=>.cons q .nil
 | _,_,.cons h r=>.cons h (cw.snoc k q r)
theorem cj.put(k:Key){w:W}{v:V}(q:aH K φ n H w v){kws:List (W×W)}{kvs:List (Key×V)}(r:cj K φ n H kws kvs):cj K φ n H (cK kws (bR k) w) (putK kvs k v):=by
 unfold cK putK;rw[r.any k];by_cases e:(kvs.any fun kv=>decide (kv.1=k))=true
 ·rw[if_pos e,if_pos e];exact r.ic k q
 ·rw[if_neg e,if_neg e];exact r.snoc k q
theorem cw.put(k:List Key){w:W}{v:V}(q:aH K φ n H w v){kws:List (W×W)}{kvs:List (List Key×V)}(r:cw K φ n H kws kvs):cw K φ n H (cK kws (.tup (k.map bR)) w) (putK kvs k v):=by
 unfold cK putK;rw[r.any k];by_cases e:(kvs.any fun kv=>decide (kv.1=k))=true
 ·rw[if_pos e,if_pos e];exact r.ic k q
 ·rw[if_neg e,if_neg e];exact r.snoc k q
end
section
variable{X:Cx}{pins:List (Addr×Obj)}{σ:L2.St}{H:Hp}{s:aam}{a:Addr}
theorem lD(I:Inv X pins σ H s)(e:H a=some (.dK [])):Inv X pins σ (upd H a (.dT [])) s:=by
 obtain⟨z,hd,vs,rel,o,es,ep,h1,h2,h3,h4,h5,h6⟩:=pW I.aJ e;cases rel;have he:es.toList=[]:=by
  generalize es.toList=l at h5;cases h5;rfl
 exact I.write (x:=a) (e:=a) (h':=s.heap) (t':=s.toks) (o:=.dT []) (by rw[e];trivial) (.inl rfl) (fun _ _ _ q=>q) ⟨o,h1⟩ ⟨aca _,hd,[],.nil,o,es,ep,h1,h2,h3,by rw[he];rfl,afb⟩
theorem kh(I:Inv X pins σ H s)(e:H a=some (.dT [])):Inv X pins σ (upd H a (.dK [])) s:=by
 obtain⟨z,hd,xs,rel,o,es,ep,h1,h2,h3,h4,h5,h6⟩:=yg I.aJ e;cases rel;have he:es= #[]:=by
  have:es.toList=[]:=h4
  simpa using this
 subst he;exact I.write (x:=a) (e:=a) (h':=s.heap) (t':=s.toks) (o:=.dK []) (by rw[e];trivial) (.inl rfl) (fun _ _ _ q=>q) ⟨o,h1⟩ ⟨aca _,hd,[],.nil,o,#[],ep,h1,h2,h3,fun x hx=>by simp at hx,.nil,afb⟩
theorem mY{o u:HO}(e:H a=some o):upd (upd H a u) a o=H:=by
 rw[xi]
 funext b
 unfold upd;split
 ·rename_i q;rw[q,e]
 ·rfl
end
noncomputable def uy(H:Hp)(a:Addr)(y:V)(o:Option V):Prop:=fL H a y o\/(o=none/\((H a=some (.dK [])/\∃(k:List Key) (b:Addr),y=.ref b/\H b=some (.tup (k.map kV)))\/(H a=some (.dT [])/\∃k:Key,y=kV k)))
noncomputable def EK(H:Hp)(a:Addr)(y v:V)(H':Hp):Prop:=uJ H a y v H'\/(H a=some (.dK [])/\∃(k:List Key) (b:Addr),y=.ref b/\H b=some (.tup (k.map kV))/\H'=upd H a (.dT [(k,v)]))\/(H a=some (.dT [])/\∃k:Key,y=kV k/\H'=upd H a (.dK [(k,v)]))
section
variable{X:Cx}
theorem Wm(hu:X.A.units+1<cLine):bt X (abC .In) (fun y x H Q=>∃a o,x=.ref a/\uy H a y o/\Q (.bl o.isSome) H):=by
 intro pins s σ H y x u v Q I ry rx h;obtain⟨a,o,rfl,g,q⟩:=h;cases rx
 rcases g with g | ⟨rfl,⟨e,k,b,ey,eb⟩ | ⟨e,k,ey⟩⟩
 ·exact yO hu I g ry fun s3 I3=>⟨.bl o.isSome,H,I3,rfl,q⟩
 ·subst ey;have g:fL (upd H a (.dT [])) a (.ref b) none:=.inr ⟨[],k,b,.inl bW,rfl,by rw[bC (km eb e (fun z=>nomatch z))];exact eb,rfl⟩;exact yO hu (lD I e) g ry fun s3 I3=>⟨.bl false,H,by have:=kh I3 bW;rwa [mY e] at this,rfl,q⟩
 ·subst ey;have g:fL (upd H a (.dK [])) a (kV k) none:=.inl ⟨[],k,.inl bW,rfl,rfl⟩;exact yO hu (kh I e) g ry fun s3 I3=>⟨.bl false,H,by have:=lD I3 bW;rwa [mY e] at this,rfl,q⟩
theorem set_dict(hu:X.A.units+1<cLine):jw X (fun o i v H Q=>∃a H',o=.ref a/\EK H a i v H'/\Q H'):=by
 intro pins s σ H o i v ov iv u Q I ro ri rv h;obtain⟨a,H',rfl,g,q⟩:=h;cases ro
 rcases g with g | ⟨e,k,b,ey,eb,eH⟩ | ⟨e,k,ey,eH⟩
 ·exact wC hu I g ri rv fun s3 I3=>⟨H',I3,q⟩
 ·subst ey eH;have g:uJ (upd H a (.dT [])) a (.ref b) v (upd (upd H a (.dT [])) a (.dT (putK [] k v))):=.inr ⟨[],k,b,bW,rfl,by rw[bC (km eb e (fun z=>nomatch z))];exact eb,by decide,rfl⟩;refine wC hu (lD I e) g ri rv fun s3 I3=>⟨_,?_,q⟩
  rw[xi] at I3;exact I3
 ·subst ey eH;have g:uJ (upd H a (.dK [])) a (kV k) v (upd (upd H a (.dK [])) a (.dK (putK [] k v))):=.inl ⟨[],k,bW,rfl,by decide,rfl⟩;refine wC hu (kh I e) g ri rv fun s3 I3=>⟨_,?_,q⟩
  rw[xi] at I3;exact I3
theorem Ue(hu:X.A.units+1<cLine):iu X (fun x y H Q=>∃a v,x=.ref a/\fL H a y (some v)/\Q v H):=by
 intro value slice pins s σ H x y v u Q I rx ry h hs;obtain⟨a,w,rfl,g,q⟩:=h;cases rx;have hT:=Od I g;unfold subscriptTail;refine aak ?_;rw[getitemInPython_of_ne hT.not_modules];refine aak (adp hT PySem.F.slot_dict_getitem.lookup ?_);have fin:wpAny (model X.prog X.w) X.A (subscripted slice false (.ref a) u) (fun r Af=>wpAny (model X.prog X.w) X.A (letTemporaryGo value (.ref a) r >>= fun _=>pure r) (EP X pins σ Q) X.xe Af) X.xe s:=by
  rw[hs];exact wpAny_operating (QG hu I g ry fun w' s3 I3 ed=>aak (wpAny_letTemporaryGo (aaq ⟨w,H,I3,ed,q⟩)))
 first
  | exact aaq (aak fin)
  | exact aak (aaq (aak fin))
  | exact aak fin
end
noncomputable def mf:W->Bool
 | .tup _=>true
 | _=>false
noncomputable def fK(kws:List (W×W))(x:W):Bool:=((qw x).isSome&&kws.all fun p=> !mf p.1)||((yX x).isSome&&kws.all fun p=>mf p.1)
noncomputable def eD(y:W)(ph:PH):Option (Nat×List (W×W)):=match y with
 | .ref i=>match ph[i]? with
  | some (.bE kws)=>some (i,kws)
  | _=>none
 | _=>none
section
variable{K:aaj}{φ:Nat->Addr}{ph:PH}{H:Hp}
variable{kws:List (W×W)}
theorem cj.GZ{kvs:List (Key×V)}{n:Nat}(r:cj K φ n H kws kvs)(h:kws.all (fun p=>mf p.1)=true):kws=[]/\kvs=[]:=by
 cases r with
 | nil=>exact⟨rfl,rfl⟩
 | cons h' r=>
  rename_i k w v kws kvs;rw[abS] at h;have:mf (bR k)=true:=by simp only[aaw] at h;exact h.1
  cases k <;> cases this
theorem cw.yY{kvs:List (List Key×V)}{n:Nat}(r:cw K φ n H kws kvs)(h:kws.all (fun p=> !mf p.1)=true):kws=[]/\kvs=[]:=by
 cases r with
 | nil=>exact⟨rfl,rfl⟩
 | cons h' r=>
  rw[abS] at h;have h:=(aaw _ _▸h).1;cases h
variable{v:V}{i:Nat}
theorem mV{y:W}(hH:aG K φ ph H)(r:aH K φ ph.length H y v)(e:eD y ph=some (i,kws)):y=.ref i/\i<ph.length/\ph[i]? =some (.bE kws)/\v=.ref (φ i):=by
 unfold eD at e;cases r with
 | ref hi=>
  simp only at e;split at e
  ·rename_i Zc hw;cases e;exact⟨rfl,hi,hw,rfl⟩
  ·cases e
 | _=>cases e
theorem tx{x:W}(hH:aG K φ ph H)(hd:ph[i]? =some (.bE kws))(r:aH K φ ph.length H x v)(hk:fK kws x=true):∃o,uy H (φ i) v o/\iW K φ ph.length H (bQ kws x) o:=by
 unfold fK at hk;rw[ado,aaw,aaw] at hk
 rcases hk with⟨h1,h2⟩ | ⟨h1,h2⟩
 ·obtain⟨k,hk⟩:=abf.mp h1;have:=xt hk;subst this;have:=yo r;subst this
  rcases hH.hp _ _ hd with⟨kvs,q,rd⟩ | ⟨kvs,q,rd⟩
  ·exact⟨_,.inl (.inl ⟨kvs,k,.inl q,rfl,rfl⟩),rd.val k⟩
  ·obtain⟨rfl,rfl⟩:=rd.yY h2;exact⟨none,.inr ⟨rfl,.inr ⟨q,k,rfl⟩⟩,trivial⟩
 ·obtain⟨ks,hk⟩:=abf.mp h1;have:=C6 hk;subst this;obtain⟨b,rfl,hb⟩:=DQ r
  rcases hH.hp _ _ hd with⟨kvs,q,rd⟩ | ⟨kvs,q,rd⟩
  ·obtain⟨rfl,rfl⟩:=rd.GZ h2;exact⟨none,.inr ⟨rfl,.inl ⟨q,ks,b,rfl,hb⟩⟩,trivial⟩
  ·exact⟨_,.inl (.inr ⟨kvs,ks,b,.inl q,rfl,hb,rfl⟩),rd.val ks⟩
theorem Su{x w:W}{u:V}(hH:aG K φ ph H)(hi:i<ph.length)(hd:ph[i]? =some (.bE kws))(r:aH K φ ph.length H x v)(rw:aH K φ ph.length H w u)(hk:fK kws x=true)(hz:kws.length<aaD) :
  ∃H',EK H (φ i) v u H'/\aG K φ (ph.set i (.bE (cK kws x w))) H'/\Step K φ ph.length H φ (ph.set i (.bE (cK kws x w))).length H':=by
 obtain⟨y,ey,my⟩:=hH.mu hd rfl;rw[abz];unfold fK at hk;rw[ado,aaw,aaw] at hk
 rcases hk with⟨h1,h2⟩ | ⟨h1,h2⟩
 ·obtain⟨k,hk⟩:=abf.mp h1;have:=xt hk;subst this;have:=yo r;subst this
  rcases hH.hp _ _ hd with⟨kvs,q,rd⟩ | ⟨kvs,q,rd⟩
  ·have s:=iK (K:=K) (φ:=φ) (n:=ph.length) (y:=HO.dK (putK kvs k u)) ey my;exact⟨_,.inl (.inl ⟨kvs,k,q,rfl,by rw[<- rd.len];exact hz,rfl⟩),hH.put hd rfl (.inl ⟨_,bW,(rd.put k rw).mono s⟩),s⟩
  ·obtain⟨rfl,rfl⟩:=rd.yY h2;have s:=iK (K:=K) (φ:=φ) (n:=ph.length) (y:=HO.dK [(k,u)]) ey my;exact⟨_,.inr (.inr ⟨q,k,rfl,rfl⟩),hH.put hd rfl (.inl ⟨_,bW,((cj.nil).put k rw).mono s⟩),s⟩
 ·obtain⟨ks,hk⟩:=abf.mp h1;have:=C6 hk;subst this;obtain⟨b,rfl,hb⟩:=DQ r
  rcases hH.hp _ _ hd with⟨kvs,q,rd⟩ | ⟨kvs,q,rd⟩
  ·obtain⟨rfl,rfl⟩:=rd.GZ h2;have s:=iK (K:=K) (φ:=φ) (n:=ph.length) (y:=HO.dT [(ks,u)]) ey my;exact⟨_,.inr (.inl ⟨q,ks,b,rfl,hb,rfl⟩),hH.put hd rfl (.inr ⟨_,bW,((cw.nil).put ks rw).mono s⟩),s⟩
  ·have s:=iK (K:=K) (φ:=φ) (n:=ph.length) (y:=HO.dT (putK kvs ks u)) ey my;exact⟨_,.inl (.inr ⟨kvs,ks,b,q,rfl,hb,by rw[<- rd.len];exact hz,rfl⟩),hH.put hd rfl (.inr ⟨_,bW,(rd.put ks rw).mono s⟩),s⟩
end
noncomputable def mj:W->W->Po W:=fun x y ph=>match eD y ph with
 | some p=>if fK p.2 x=true then some (.bl (bQ p.2 x).isSome,ph) else none
 | none=>i8 x y ph
noncomputable def Zd:W->W->Po W:=fun x y ph=>match eD y ph with
 | some p=>if fK p.2 x=true then some (.bl (!(bQ p.2 x).isSome),ph) else none
 | none=>FI x y ph
noncomputable def ak:W->W->Po W:=fun x y ph=>match eD x ph with
 | some p=>if fK p.2 y=true then(bQ p.2 y).map fun w=>(w,ph) else none
 | none=>dD x y ph
noncomputable def qx(o i v:W):Po Unit:=fun ph=>match eD o ph with
 | some p=>if fK p.2 i=true/\p.2.length<aaD then some ((),ph.set p.1 (.bE (cK p.2 i v))) else none
 | none=>FJ o i v ph
theorem iW.isSome{K:aaj}{φ:Nat->Addr}{n:Nat}{H:Hp}{a:Option W}{b:Option V}(h:iW K φ n H a b):a.isSome=b.isSome:=by
 cases a <;> cases b <;> first | rfl | exact h.elim
theorem Yc:cU K (fun x y H Q=>yR K (fun b=>b) x y H Q\/∃a o,y=.ref a/\uy H a x o/\Q (.bl o.isSome) H) mj:=by
 intro φ ph H x y vx vy w ph' Q hH rx ry e k;unfold mj at e;split at e
 ·rename_i p hp;obtain⟨i,kws⟩:=p;obtain⟨rfl,hi,hd,rfl⟩:=mV hH ry hp;split at e
  ·rename_i hk;cases e;obtain⟨o,g,ro⟩:=tx hH hd rx hk;exact .inr ⟨_,o,rfl,g,by rw[<- ro.isSome];exact k φ H _ hH Step.refl (.bl _)⟩
  ·cases e
 ·exact .inl (XX hH rx ry e k)
theorem Yd:cU K (fun x y H Q=>zj K x y H Q\/∃a v,x=.ref a/\fL H a y (some v)/\Q v H) ak:=by
 intro φ ph H x y vx vy w ph' Q hH rx ry e k;unfold ak at e;split at e
 ·rename_i p hp;obtain⟨i,kws⟩:=p;obtain⟨rfl,hi,hd,rfl⟩:=mV hH rx hp;split at e
  ·rename_i hk;cases q:bQ kws y with
   | none=>rw[q] at e;cases e
   | some u=>
    rw[q] at e;cases e;obtain⟨o,g,ro⟩:=tx hH hd ry hk;rw[q] at ro;cases o with
    | none=>exact ro.elim
    | some v=>
     rcases g with g | ⟨z,_⟩
     ·exact .inr ⟨_,v,rfl,g,k φ H _ hH Step.refl ro⟩
     ·cases z
  ·cases e
 ·exact .inl (XR hH rx ry e k)
section
variable{X:Cx}{a b o i:Expr}{ma mb mo mi:EM}{pos:Pos}{N:List Str}{sc:Scope}{k:Nat}
theorem BdT.Wn(B:BdT X N sc k)(hp:xl b)(ha:JE X a ma)(hb:JE X b mb):JE X (.Subscript a b pos) (ae ak ma mb):=
 ⟨PE.imp (XD (iu.or Vt (Ue (hW B.room))) ha.h hb.h hp) fun _ _ _ h=>tU Yd h⟩
theorem BdT.Ze(B:BdT X N sc k)(h:acy .In b=false):Cp X .In b mj:=⟨⟨_,bt.or (V7 B.room.units) (Wm (hW B.room)),Yc⟩,h⟩
theorem jw.or{t t':qe}(h:jw X t)(h':jw X t'):jw X (fun o i v H Q=>t o i v H Q\/t' o i v H Q):=by
 intro pins s σ H o i v ov iv u Q I ro ri rv q
 rcases q with q | q
 ·exact h pins s σ H o i v ov iv u Q I ro ri rv q
 ·exact h' pins s σ H o i v ov iv u Q I ro ri rv q
noncomputable def iS(o i:EM):GM:=fun v σ=>aw (o σ) fun ow=>aw (i σ) fun iw=>aw (lift (qx ow iw v)) fun _=>aA σ
theorem BdT.ng(B:BdT X N sc k)(ho:JE X o mo)(hi:JE X i mi)(ha:∀v,afA (.Subscript o i pos) X.env v=(do
   let ov <- adM [v] (eval o X.env)
   let iv <- adM [v,ov] (eval i X.env)
   standAt pos
   adM [v,ov,iv] (setItem ov iv v)
   release [v,ov,iv] []):=by intro _;rfl):JG X (.Subscript o i pos) (iS mo mi):=
 ⟨PG.imp (DE ho.h hi.h (jw.or set_list (set_dict (hW B.room))) ha) fun v σ H Q h=>by
  obtain⟨φ,ph,ws,w,hH,hS,rv,h⟩:=h;refine tM.bind hH hS h fun ow ph1 aB H1 vo aE s1 ro h=>tM.bind aE (hS.mono s1) h fun iw ph2 aV H2 vi ba s2 ri h=>?_
  rw[cE] at h;obtain⟨_,dW,e,k⟩:=run_lift h;have vD:=ro.mono s2;have vE:=(rv.mono s1).mono s2;unfold qx at e;split at e
  ·rename_i p hp;obtain⟨r,kws⟩:=p;obtain⟨rfl,hr,hd,rfl⟩:=mV ba vD hp;split at e
   ·rename_i hk;cases e;obtain⟨H',g,q1,q2⟩:=Su ba hr hd ri vE hk.1 hk.2;exact .inr ⟨_,H',rfl,g,k aV _ σ q1 ((s1.trans s2).trans q2) (((hS.mono s1).mono s2).mono q2)⟩
   ·cases e
  ·unfold FJ at e;split at e
   ·rename_i r k';split at e
    ·rename_i cM hw;split at e
     ·rename_i j hj;cases e;cases vD with
      | ref gU=>
       cases ri;obtain⟨us,hu,ru⟩:=ba.hp _ _ hw;obtain⟨q1,q2⟩:=wR ba hw (ru.set vE j);exact .inl ⟨_,us,_,j,rfl,rfl,hu,by rw[<- ru.length];exact hj,k aV _ σ q1 ((s1.trans s2).trans q2) (((hS.mono s1).mono s2).mono q2)⟩
     ·cases e
    ·cases e
   ·cases e⟩
end
noncomputable def aah:W->Option Int
 | .int i=>some i
 | _=>none
noncomputable def p4(f:Nat->Int):Nat->Int
 | 0=>f 0
 | k+1=>if f (k+1)<p4 f k then f (k+1) else p4 f k
section
variable{X:Cx}
theorem Sv(f:Nat->Int):∀k,f (argBest (fun i j=>decide (f i<f j)) k)=p4 f k
 | 0=>rfl
 | k+1=>by
  have ih:=Sv f k;unfold argBest p4;rw[ih];by_cases h:f (k+1)<p4 f k
  ·simp[h]
  ·simp[h,ih]
end
noncomputable def b0:W->W->Po W:=fun x y ph=>match x,y with
 | .ref i,.int k=>match ph[i]? with
  | some (.lst ws)=>if -(2 ^ 63)<=k/\k<2 ^ 63/\ws.length*k.toNat<=aaD then some (.ref ph.length,ph++[.lst (aap k.toNat ws).flatten]) else none
  | _=>none
 | x,y=>n9 x y ph
theorem aY.rep{K:aaj}{φ:Nat->Addr}{n:Nat}{H:Hp}{ws:List W}{vs:List V}(r:aY K φ n H ws vs):∀k:Nat,aY K φ n H (aap k ws).flatten (aap k vs).flatten
 | 0=>.nil
 | k+1=>by
  rw[abm,abm,abM,abM];exact r.append (aY.rep r k)
theorem Wo:cU K (fun x y H Q=>(rI qf fun i j=>.int (i*j)) x y H Q\/FF x y H Q) b0:=by
 intro φ ph H x y vx vy w ph' Q hH rx ry e k;unfold b0 at e;split at e
 ·rename_i i j;split at e
  ·rename_i ws hw;split at e
   ·rename_i hz;cases e;cases rx with
    | ref hi=>
     cases ry;obtain⟨us,hu,ru⟩:=hH.hp _ _ hw;refine .inr ⟨_,_,us,rfl,rfl,hu,hz.1,hz.2.1,by rw[<- ru.length];exact hz.2.2,fun p hp=>?_⟩;obtain⟨q1,q2,q3⟩:=j9 hH (ru.rep j.toNat) hp;exact k _ _ _ q1 q2 q3
   ·cases e
  ·cases e
 ·exact .inl (V2 hH rx ry e k)
theorem gb{a b:Expr}{ma mb:EM}(ha:JE X a ma)(hb:JE X b mb):JE X (.BinOp a .Mult b pos) (ae b0 ma mb):=⟨pY (bt.or Ve Vx) Wo ha.h hb.h⟩
noncomputable def Ye:HO->Prop
 | .dK _=>True
 | .dT _=>True
 | _=>False
section
variable{K:aaj}{φ:Nat->Addr}{n:Nat}{H:Hp}{d:Addr}{o:Obj}{u:HO}(e:H d=some (.bz o u))(hu:Ye u)(hc:o.cls=.type "dict")
include e hu hc
omit hc in
end
noncomputable def Wq(kws:List (W×W)):List W:=kws.map fun p=>.tup [p.1,p.2]
noncomputable def Yf(i:Nat)(kws:List (W×W))(L:Nat):Mo W:=fun ph=>if ph[i]? =some (.oE kws) then .ok (.ref L) (ph.set i (.bE kws)) else .no
noncomputable def aad(m:EM)(cap:List (Option Nat))(g:GM)(c:TM)(e:EM):EM:=fun σ=>aw (m σ) fun w ph=>match eD w ph with
 | some p=>aw (dz (fun _=>true) g c e ph.length (Wq p.2) (gM cap σ)) (fun _=>Yf p.1 p.2 ph.length) (ph.set p.1 (.oE p.2)++[.lst []])
 | none=>.no
noncomputable def d7(w:W)(ph:PH):Bool:=(eD w ph).isSome
theorem ki:l6 K "dict" d7:=by
 intro φ ph H x vx hH rx e;unfold d7 at e;obtain⟨⟨i,kws⟩,hp⟩:=abf.mp e;obtain⟨rfl,hi,hd,rfl⟩:=mV hH rx hp
 rcases hH.hp i _ hd with⟨kvs,q,_⟩ | ⟨kvs,q,_⟩
 ·exact .inr (.inr (.inl ⟨rfl,.inl ⟨kvs,q⟩⟩))
 ·exact .inr (.inr (.inl ⟨rfl,.inr ⟨kvs,q⟩⟩))
noncomputable def FL:V->List V->Hp->VK->Prop:=fun x ys H Q=>∃a y o,x=.ref a/\uy H a y o/\((ys=[y]/\Q (o.getD .aC) H)\/∃d,ys=[y,d]/\Q (o.getD d) H)
noncomputable def d8:W->List W->Po W:=fun x xs ph=>match eD x ph with
 | some p=>match xs with
  | [y]=>if fK p.2 y=true then some ((bQ p.2 y).getD .aC,ph) else none
  | [y,z]=>if fK p.2 y=true then some ((bQ p.2 y).getD z,ph) else none
  | _=>none
 | none=>none
theorem iW.getD{K:aaj}{φ:Nat->Addr}{n:Nat}{H:Hp}{a:Option W}{b:Option V}{z:W}{y:V}(h:iW K φ n H a b)(r:aH K φ n H z y):aH K φ n H (a.getD z) (b.getD y):=by
 cases a <;> cases b <;> first | exact r | exact h | exact h.elim
theorem kj(hu:X.A.units+1<cLine):lY X "dict.get" FL:=by
 intro pins s σ H x xs v us Q I rx rv h;obtain⟨a,y,o,rfl,g,h⟩:=h;obtain rfl:v=abb a:=rx
 rcases h with⟨rfl,q⟩ | ⟨d,rfl,q⟩
 ·obtain⟨u,rfl,ru⟩:=rv.one
  rcases g with g | ⟨rfl,⟨e,k,b,ey,eb⟩ | ⟨e,k,ey⟩⟩
  ·exact xI hu I g ru fun w' s' I' r'=>⟨_,H,I',r',q⟩
  ·subst ey;have g:fL (upd H a (.dT [])) a (.ref b) none:=.inr ⟨[],k,b,.inl bW,rfl,by rw[bC (km eb e (fun z=>nomatch z))];exact eb,rfl⟩;exact xI hu (lD I e) g ru fun w' s3 I3 r'=>⟨_,H,by have:=kh I3 bW;rwa [mY e] at this,r',q⟩
  ·subst ey;have g:fL (upd H a (.dK [])) a (kV k) none:=.inl ⟨[],k,.inl bW,rfl,rfl⟩;exact xI hu (kh I e) g ru fun w' s3 I3 r'=>⟨_,H,by have:=lD I3 bW;rwa [mY e] at this,r',q⟩
 ·obtain⟨u,u2,rfl,ru,rd⟩:=Vals.two rv
  rcases g with g | ⟨rfl,⟨e,k,b,ey,eb⟩ | ⟨e,k,ey⟩⟩
  ·exact xJ hu I g ru rd fun w' s' I' r'=>⟨_,H,I',r',q⟩
  ·subst ey;have g:fL (upd H a (.dT [])) a (.ref b) none:=.inr ⟨[],k,b,.inl bW,rfl,by rw[bC (km eb e (fun z=>nomatch z))];exact eb,rfl⟩;exact xJ hu (lD I e) g ru rd fun w' s3 I3 r'=>⟨_,H,by have:=kh I3 bW;rwa [mY e] at this,r',q⟩
  ·subst ey;have g:fL (upd H a (.dK [])) a (kV k) none:=.inl ⟨[],k,.inl bW,rfl,rfl⟩;exact xJ hu (kh I e) g ru rd fun w' s3 I3 r'=>⟨_,H,by have:=lD I3 bW;rwa [mY e] at this,r',q⟩
theorem kl:kP K "dict" FL d8:=by
 intro φ ph H x xs vx vs w ph' Q hH rx rs e k;unfold d8 at e;split at e
 ·rename_i p hp;obtain⟨i,kws⟩:=p;obtain⟨rfl,hi,hd,rfl⟩:=mV hH rx hp;split at e
  ·split at e
   ·rename_i hk;cases e;cases rs with
    | cons r0 rr=>
     cases rr;obtain⟨o,g,ro⟩:=tx hH hd r0 hk;exact⟨_,_,o,rfl,g,.inl ⟨rfl,k φ H _ hH Step.refl (ro.getD .aC)⟩⟩
   ·cases e
  ·split at e
   ·rename_i hk;cases e;cases rs with
    | cons r0 rr=>
     cases rr with
     | cons r1 rr=>
      cases rr;obtain⟨o,g,ro⟩:=tx hH hd r0 hk;exact⟨_,_,o,rfl,g,.inr ⟨_,rfl,k φ H _ hH Step.refl (ro.getD r1)⟩⟩
   ·cases e
  ·cases e
 ·cases e
noncomputable def iT(f:Str)(w:W):List (Str×W)->List (Str×W)
 | []=>[(f,w)]
 | (g,x)::r=>if g=f then(g,w)::r else(g,x)::iT f w r
section
variable{K:aaj}{φ:Nat->Addr}{n:Nat}{H:Hp}
theorem dQ.lookup(f:Str):∀{ws:List (Str×W)} {vs:List (Str×V)},dQ K φ n H ws vs->iW K φ n H (ws.lookup f) (vs.lookup f)
 | _,_,.nil=>trivial
 | _,_,.cons (f:=g) h r=>by
  rw[aaE,aaE];cases f==g with
  | true=>exact h
  | false=>exact dQ.lookup f r
theorem dQ.len:∀{ws:List (Str×W)} {vs:List (Str×V)},dQ K φ n H ws vs->ws.length=vs.length
 | _,_,.nil=>rfl
 | _,_,.cons _ r=>by rw[aaP,aaP,dQ.len r]
theorem dQ.put(f:Str){w:W}{v:V}(q:aH K φ n H w v):∀{ws:List (Str×W)} {vs:List (Str×V)},dQ K φ n H ws vs->dQ K φ n H (iT f w ws) (da f v vs)
 | _,_,.nil=>.cons q .nil
 | _,_,.cons (f:=g) h r=>by
  unfold iT da;by_cases e:g=f
  ·rw[if_pos e,if_pos e];exact .cons q r
  ·rw[if_neg e,if_neg e];exact .cons h (dQ.put f q r)
end
noncomputable def oh(c f:Str)(w:W):Po W:=fun ph=>match w with
 | .ref i=>match ph[i]? with
  | some (.obj c' fs)=>if c'=c then(fs.lookup f).map fun x=>(x,ph) else none
  | _=>none
 | _=>none
noncomputable def b6(c f:Str)(m:EM):EM:=fun σ=>aw (m σ) fun w=>lift (oh c f w)
noncomputable def oi(c f:Str)(x y:W):Po Unit:=fun ph=>match x with
 | .ref i=>match ph[i]? with
  | some (.obj c' fs)=>if c'=c/\fs.length<1000 then some ((),ph.set i (.obj c' (iT f y fs))) else none
  | _=>none
 | _=>none
noncomputable def dA(c f:Str)(o v:EM):SM:=fun σ=>aw (v σ) fun y=>aw (o σ) fun x=>aw (lift (oi c f x y)) fun _=>aA (.nx σ)
noncomputable def Yg:W->Mo W->Mo W
 | .aC,m=>m
 | _,_=>ee
section
variable{X:Cx}{e o value:Expr}{m mo mv:EM}{c f:Str}{C:Addr}{pos pos' p:Pos}
theorem Wr(bu:aao X.K aan c=some (some (.ref C)))(hc:fS X.K C)(hn:du X.K C f)(he:IE X e m)(hb:acz e f X.env (eval e X.env)=eval e X.env:=by rfl):IE X (.Attribute e f pos) (b6 c f m):=by
 refine PE.imp (Vj he hb) fun σ H Q h=>?_
 obtain⟨φ,ph,ws,hH,hS,h⟩:=h;refine tM.bind hH hS h fun x ph1 aB H1 vx aE s1 rx h=>?_
 obtain⟨w,ph',e,k⟩:=run_lift h;unfold oh at e;cases rx with
 | ref hi=>
  simp only at e;split at e
  ·rename_i c' fs hw;split at e
   ·rename_i kI;subst kI;obtain⟨C',dx,vs,q1,q2,r⟩:=aE.hp _ _ hw;rw[bu] at q1;cases q1;have ro:=r.lookup f;cases q:fs.lookup f with
    | none=>rw[q] at e;cases e
    | some y=>
     rw[q] at e ro;cases e;cases q':vs.lookup f with
     | none=>rw[q'] at ro;exact ro.elim
     | some v=>rw[q'] at ro;exact⟨_,C,dx,vs,v,rfl,q2,hc,hn,q',k aB H1 v aE s1 ro⟩
   ·cases e
  ·cases e
 | _=>cases e
theorem Ws(bu:aao X.K aan c=some (some (.ref C)))(hc:fS X.K C)(hn:du X.K C f)(ho:IE X o mo)(hv:IE X value mv)(hs:acR value (some (.Attribute o f pos')) pos.line X.env=pure false):IS X (.Assign [.Attribute o f pos'] value pos) (dA c f mo mv):=by
 refine PS.imp (Vk ho hv hs) fun D σ H h=>?_
 obtain⟨φ,ph,ws,hH,hS,h⟩:=h;refine tM.bind hH hS h fun y ph1 aB H1 vy aE s1 ry h=>tM.bind aE (hS.mono s1) h fun x ph2 aV H2 vx ba s2 rx h=>?_
 rw[cE] at h;obtain⟨_,dW,e,k⟩:=run_lift h;have ry':=ry.mono s2;unfold oi at e;cases rx with
 | ref hi=>
  simp only at e;split at e
  ·rename_i c' fs hw;split at e
   ·rename_i kI;obtain⟨rfl,hz⟩:=kI;cases e;obtain⟨C',dx,vs,q1,q2,r⟩:=ba.hp _ _ hw;rw[bu] at q1;cases q1;have s3:=iK (K:=X.K) (φ:=aV) (n:=ph2.length) (y:=HO.ins C dx (da f vy vs)) q2 trivial;refine⟨_,C,dx,vs,rfl,q2,hc,hn,by rw[<- r.len];exact hz,?_⟩;have c6:=ba.put hw rfl (x:=HO.ins C dx (da f vy vs)) (o:=.obj c' (iT f y fs)) ⟨C,dx,_,bu,bW,(r.put f ry').mono s3⟩;exact k aV _ c6 (by rw[abz];exact(s1.trans s2).trans s3) σ (by rw[abz];exact((hS.mono s1).mono s2).mono s3)
   ·cases e
  ·cases e
 | _=>cases e
theorem dN(bu:aao X.K aan c=some (some (.ref C)))(hc:fS X.K C)(hn:du X.K C f)(he:JE X e m)(hb:acz e f X.env (eval e X.env)=eval e X.env:=by rfl):JE X (.Attribute e f pos) (b6 c f m):=⟨Wr bu hc hn he.h hb⟩
theorem gD(bu:aao X.K aan c=some (some (.ref C)))(hc:fS X.K C)(hn:du X.K C f)(hnc:uf value=true)(ho:JE X o mo)(hv:JE X value mv):JS X (.Assign [.Attribute o f pos'] value pos) (dA c f mo mv):=⟨Ws bu hc hn ho.h hv.h (wW hnc)⟩
end
noncomputable def oj:W->W->Po W:=lZ fun i j=>i+j
noncomputable def yZ:W->W->Po W:=lZ fun i j=>i-j
noncomputable def bF(x:Str):Bool:= !(x==("__debug__":Str))&& !(x==("__classdict__":Str))
section
variable{X:Cx}{N:List Str}{sc:Scope}{k:Nat}{b:Expr}
theorem ei.jv{pos:Pos}(B:ei X N sc)(i:Nat){x:Str}(hN:N[i]? =some x)(hv:aI sc x)(hk:bF x=true):JE X (.Name x pos) (aa i):=by
 unfold bF at hk;rw[aaw] at hk;exact B.Y8 i hN hv (by simpa using hk.1) (by simpa using hk.2)
theorem BdT.ak{pos:Pos}{a:Expr}{ma mb:EM}(B:BdT X N sc k)(ha:JE X a ma)(hb:JE X b mb)(hp:xl b:=by intro _ _;rfl):JE X (.Subscript a b pos) (ae ak ma mb):=B.Wn hp ha hb
end
section
variable{prog:abp}{w:World}{A:abT}{E:Value->aam->Prop}{s:aam}
theorem QV{b:Bool}{Q:Int->aam->Prop}(h:Q (hashInt (if b then 1 else 0)) { s with toks:=s.toks+1 }):wpAny (model prog w) A (pyHash (.bool b)) Q E s:=by
 have hr:=rawHash_range (if b then 1 else 0);have tb:s.TypeIs (.bool b) "bool":=rfl;have hv:[adJ b].any Value.onHeap=false:=rfl;show wpAny _ _ (adR (.bool b)) Q E s;unfold adR;refine aak ?_;rw[cRoomFor,if_neg (by rw[hv];exact aaQ)];refine aaq (aak (adp tb acK.lookup ?_));rw[if_neg (by rw[beq_builtin_none];exact aaQ)];refine aak (adp tb acK.lookup ?_);show wpAny _ _ (adE (.bool b) "__hash__" _ >>= _) Q E s;refine aak (acO tb acK (ade acK tb PySem.F.entry_int_hash (show wpAny _ _ (do PySem.ret (<- mkInt (rawHash (if b then 1 else 0)))) _ _ s from wpAny_ret_mkInt ?_) (PySem.F.args_int_hash_1 _)));show wpAny _ _ (if(decide (-(2:Int) ^ 63<=rawHash (if b then 1 else 0))&&decide (rawHash (if b then 1 else 0)<2 ^ 63))=true then _ else _) Q E _;rw[if_pos (by rw[decide_eq_true hr.1,decide_eq_true hr.2];rfl)];exact aaq h
theorem QW{Q:Int->aam->Prop}(h:Q 0xFCA86420 { s with toks:=s.toks+1 }):wpAny (model prog w) A (pyHash .none) Q E s:=by
 have tb:s.TypeIs .none "NoneType":=rfl;have hv:[acF].any Value.onHeap=false:=rfl;show wpAny _ _ (adR .none) Q E s;unfold adR;refine aak ?_;rw[cRoomFor,if_neg (by rw[hv];exact aaQ)];refine aaq (aak (adp tb acg.lookup ?_));rw[if_neg (by rw[beq_builtin_none];exact aaQ)];refine aak (adp tb acg.lookup ?_);show wpAny _ _ (adE .none "__hash__" _ >>= _) Q E s;refine aak (acO tb acg (ade acg tb PySem.F.entry_NoneType_hash (show wpAny _ _ (do PySem.ret (<- mkInt 0xFCA86420)) _ _ s from wpAny_ret_mkInt ?_) (PySem.F.args_NoneType_hash_1 _)));show wpAny _ _ (if(decide (-(2:Int) ^ 63<=(0xFCA86420:Int))&&decide ((0xFCA86420:Int)<2 ^ 63))=true then _ else _) Q E _;rw[if_pos (by decide)];exact aaq h
noncomputable def Quiet(prog:abp)(w:World)(A:abT)(E:Value->aam->Prop)(s:aam)(v:Value):Prop:=∀Q:Bool->aam->Prop,Q true s->wpAny (model prog w) A (eqIsQuiet 8 v) Q E s
theorem Ce{v:Value}(h:carriedByValue v=true):Quiet prog w A E s v:=by
 intro Q hq;cases v <;> first | exact aaq hq | exact absurd h (by simp[carriedByValue])
variable{es:Array acE}{h:Int}
theorem BN{i:Nat}(hi:i∈abU es.size (fun i=>es[i]?.map (·.hash)) h):∃e,es[i]? =some e/\e.hash=h:=by
 rw[abU,adL] at hi;obtain⟨_,q⟩:=hi;cases z:es[i]? with
 | none=>rw[z] at q;cases q
 | some e=>rw[z] at q;exact⟨e,rfl,by simpa using q⟩
theorem PD{i:Nat}{e:acE}(h1:es[i]? =some e)(h2:e.hash=h):i∈abU es.size (fun i=>es[i]?.map (·.hash)) h:=by
 rw[abU,adL,acZ];exact⟨(Array.getElem?_eq_some_iff.mp h1).1,by rw[h1];simp[h2]⟩
noncomputable def G2(es:Array acE)(h:Int)(c:Nat->Bool):Option Nat->Prop
 | none=>∀i e,es[i]? =some e->e.hash=h->c i=false
 | some j=>(∃e,es[j]? =some e/\e.hash=h)/\c j=true/\∀i e,es[i]? =some e->e.hash=h->c i=true->i=j
theorem Wt{d:Addr}{o:Obj}{ep:Nat}{key:Value}{c:Nat->Bool}{r:Option Nat}{ps:List Nat}{Q:Option Nat->aam->Prop}(ho:s.heap.get? d=some o)(hd:o.data=.dict es ep)
  (he:∀(i:Nat) (e:acE),es[i]? =some e->e.hash=h->afw A s e.key key (c i)) (mem:∀i∈ps,∃e,es[i]? =some e/\e.hash=h) (fin:(∀i∈ps,c i=false)->r=none) (hit:∀i∈ps,c i=true->r=some i) (hQ:Q r s) :
  wpAny (model prog w) A (dictWalkPlain d key h es ps) Q E s:=by
 unfold dictWalkPlain;refine aak ?_;refine aet _ (fun rest b s'=>s'=s/\b=(none,())/\∃done,ps=done++rest/\∀i∈done,c i=false) _ ?_ ?_ _ _ ⟨rfl,rfl,[],rfl,fun i hi=>nomatch hi⟩
 ·rintro x rest b s' ⟨rfl,rfl,done,hp,hc⟩;have hx:x∈ps:=by rw[hp];simp
  obtain⟨e,e1,e2⟩:=mem x hx;rw[e1];show wpAny _ _ (if(e.hash==h)=true then _ else _) _ _ _;rw[if_pos (by rw[e2];simp)];refine aak (adS ho hd (aak (he x e e1 e2 prog w _ _ (aak (adS ho hd ?_)))));show wpAny _ _ (if(ep != ep)=true then _ else _) _ _ _;rw[if_neg (by simp)];cases q:c x with
  | true=>
   show wpAny _ _ (if true=true then _ else _) _ _ _;rw[if_pos rfl];refine aak (aei (aaq ?_));rw[hit x hx q] at hQ;exact aaq hQ
  | false=>
   show wpAny _ _ (if false=true then _ else _) _ _ _;rw[if_neg aaQ];refine aak (aei (aaq ⟨rfl,rfl,done++[x],by rw[hp];simp,fun i hi=>?_⟩))
   rcases abu.mp hi with hi | hi
   ·exact hc i hi
   ·rw[abc.mp hi];exact q
 ·rintro b s' ⟨rfl,rfl,done,hp,hc⟩;rw[fin fun i hi=>hc i (by rw[hp] at hi;simpa using hi)] at hQ;exact aaq hQ
noncomputable def FN(key:Value):Prop:=(∃b,key=.ref b)\/key=.none\/(∃b,key=.bool b)\/∃i t,key=.int i t
theorem Wu{d:Addr}{o:Obj}{ep:Nat}{key:Value}{c:Nat->Bool}{r:Option Nat}{Q:Option Nat->aam->Prop}(ho:s.heap.get? d=some o)(hd:o.data=.dict es ep)(qg:FN key)
    (he:∀(i:Nat) (e:acE),es[i]? =some e->e.hash=h->afw A s e.key key (c i)) (Yh:∀(i:Nat) (e:acE),es[i]? =some e->e.key=key->e.hash=h) (hq:Quiet prog w A E s key) (hqs:∀(i:Nat) (e:acE),es[i]? =some e->Quiet prog w A E s e.key) (hr:G2 es h c r) (hQ:Q r s) :
    wpAny (model prog w) A (dictFind d key h) Q E s:=by
  have fin:(∀i∈abU es.size (fun i=>es[i]?.map (·.hash)) h,c i=false)->r=none:=fun hc=>by
    cases r with
    | none=>rfl
    | some j=>
      obtain⟨⟨e,h1,h2⟩,h3,_⟩:=hr;have:=hc j (PD h1 h2);rw[h3] at this;cases this
  have hit:∀i∈abU es.size (fun i=>es[i]?.map (·.hash)) h,c i=true->r=some i:=fun i hi hc=>by
    obtain⟨e,h1,h2⟩:=BN hi;cases r with
    | none=>rw[hr i e h1 h2] at hc;cases hc
    | some j=>rw[hr.2.2 i e h1 h2 hc]
  have G3:∀v∈(abU es.size (fun i=>es[i]?.map (·.hash)) h).filterMap (fun i=>es[i]?.map (·.key)),Quiet prog w A E s v:=fun v hv=>by
    obtain⟨i,_,q⟩:=acL.mp hv;cases z:es[i]? with
    | none=>rw[z] at q;cases q
    | some e=>rw[z] at q;cases q;exact hqs i e z
  have uQ:¬(es.any fun e=>e.key==key&&e.hash != h)=true:=by
    rw[Array.any_eq_true];rintro⟨i,hi,q⟩;rw[aaw,beq_iff_eq,bne_iff_ne] at q;exact q.2 (Yh i es[i] (Array.getElem?_eq_getElem hi) q.1)
  unfold dictFind;refine abG (aak (wpAny_dictEntries ho hd ?_));generalize G4:abU es.size (fun i=>es[i]?.map (·.hash)) h=ps at fin hit G3;have mem:∀i∈ps,∃e,es[i]? =some e/\e.hash=h:=fun i hi=>BN (G4▸hi)
  have tell:∀{P:Bool->aam->Prop},P false s->wpAny (model prog w) A (tableMayTell key (ps.filterMap fun i=>es[i]?.map (·.key))) P E s:=fun{P} hP=>by
    unfold tableMayTell;split
    · exact aaq hP
    · refine aak (hq _ ?_)
      simp only[if_false,Bool.not_true,adq];refine aak ?_;refine aet _ (fun rest b s'=>s'=s/\b=(none,())/\∀v∈rest,Quiet prog w A E s v) _ ?_ ?_ _ _ ⟨rfl,rfl,G3⟩
      · rintro x rest b s' ⟨rfl,rfl,hv⟩
        refine aak (hv x abF _ ?_);simp only[if_false,Bool.not_true,adq];exact aaq ⟨rfl,rfl,fun v q=>hv v (aaU _ q)⟩
      · rintro b s' ⟨rfl,rfl,_⟩
        exact aaq hP
  rcases qg with⟨b,rfl⟩ | rfl | ⟨b,rfl⟩ | ⟨n,tk,rfl⟩ <;>
  ( dsimp only
    refine adT (fun _=>Wt ho hd he mem fin hit hQ) (fun _=>?_)
    try refine adT (fun z=>absurd z uQ) (fun _=>?_)
    refine adT (fun _=>aak (aaq ?_)) (fun _=>aak (tell ?_)) <;>
    ( rw[if_neg (by simp)]
      refine aak ?_;refine aet _ (fun rest b s'=>s'=s/\∃done ol,b=(none,ol)/\ps=done++rest/\((ol=none/\∀i∈done,c i=false)\/∃j∈done,ol=some j/\c j=true)) _ ?_ ?_ _ _ ⟨rfl,[],none,rfl,rfl,.inl ⟨rfl,fun i hi=>nomatch hi⟩⟩
      · rintro x rest b s' ⟨rfl,done,ol,rfl,hp,hc⟩
        have hx:x∈ps:=by rw[hp];simp
        have nd:ps.Nodup:=by rw[<- G4,abU];exact List.Nodup.sublist (List.filter_sublist ..) List.nodup_range
        obtain⟨e,e1,e2⟩:=mem x hx;rw[e1]
        dsimp only
        rw[if_pos (by rw[e2];simp)];refine aak (adS ho hd (aak (he x e e1 e2 prog w _ _ (aak (adS ho hd ?_)))));rw[if_neg (by simp)];have xd:x∉done:=by
          rw[hp,List.nodup_append] at nd;exact fun z=>nd.2.2 x z x (by simp) rfl
        cases q:c x with
        | true=>
          rw[if_pos rfl]
          rcases hc with⟨rfl,hc⟩ | ⟨j,hj,_,qV⟩
          · simp only[Option.isSome_none,adq,if_false]
            refine aak (aei ?_);refine adT (fun _=>aaq ?_) (fun _=>aaq ⟨rfl,done++[x],some x,rfl,by rw[hp];simp,.inr ⟨x,by simp,rfl,q⟩⟩);rw[hit x hx q] at hQ;exact aaq hQ
          · have z1:=hit x hx q
            rw[hit j (by rw[hp];simp[hj]) qV] at z1;cases z1;exact absurd hj xd
        | false=>
          rw[if_neg aaQ];refine aak (aei ?_);rw[if_neg (by simp)];refine aaq ⟨rfl,done++[x],ol,rfl,by rw[hp];simp,?_⟩
          rcases hc with⟨z,hc⟩ | ⟨j,hj,z,qV⟩
          · refine .inl ⟨z,fun i hi=>?_⟩
            rcases abu.mp hi with hi | hi
            · exact hc i hi
            · rw[abc.mp hi];exact q
          · exact .inr ⟨j,by simp[hj],z,qV⟩
      · rintro b s' ⟨rfl,done,ol,rfl,hp,hc⟩
        rw[acS] at hp;subst hp
        rcases hc with⟨rfl,hc⟩ | ⟨j,hj,rfl,qV⟩
        · rw[fin hc] at hQ
          exact aaq hQ
        · rw[hit j hj qV] at hQ
          exact aaq hQ))
end
noncomputable def qW:Key->Value->Bool
 | .inl i,.bool b=>i==(if b then 1 else 0)
 | k,v=>lG k v
theorem jg{v:Value}(h:qW k v=true):(∃i t,k=aeb i/\v=adk i t)\/(∃x t,k=afc x/\v=aeB x t)\/∃b,k=aeb (if b then 1 else 0)/\v=adJ b:=by
 unfold qW at h;split at h
 ·rename_i i b;exact .inr (.inr ⟨b,by rw[eq_of_beq h],rfl⟩)
 ·rcases gY h with q | q
  ·exact .inl q
  ·exact .inr (.inl q)
noncomputable def lK(prog:abp)(w:World):PySem.KeyKind prog w Key where
 is:=qW
 hash:=kr w
 inj:=fun v a b ha hb=>by
  rcases jg ha with⟨i,t,rfl,rfl⟩ | ⟨x,t,rfl,rfl⟩ | ⟨c,rfl,rfl⟩ <;> rcases jg hb with⟨j,u,rfl,e⟩ | ⟨y,u,rfl,e⟩ | ⟨d,rfl,e⟩ <;> first | (cases e;done) | (cases e;rfl)
 byValue:=fun k v h=>by
  rcases jg h with⟨i,t,rfl,rfl⟩ | ⟨x,t,rfl,rfl⟩ | ⟨c,rfl,rfl⟩ <;> rfl
 pyHash:=fun hv h=>by
  rcases jg hv with⟨i,t,rfl,rfl⟩ | ⟨x,t,rfl,rfl⟩ | ⟨c,rfl,rfl⟩
  ·exact wpAny_pyHash_int h
  ·exact wpAny_pyHash_str h
  ·exact QV h
 eqBool:=fun hu hv h=>by
  rcases jg hu with⟨i,t,rfl,rfl⟩ | ⟨x,t,rfl,rfl⟩ | ⟨c,rfl,rfl⟩
  ·rcases jg hv with⟨j,u,rfl,rfl⟩ | ⟨y,u,rfl,rfl⟩ | ⟨d,rfl,rfl⟩
   ·rw[uc] at h;exact wpAny_eqBool_int h
   ·rw[xC] at h;exact afi i t y u _ _ _ _ h
   ·rw[uc] at h;exact SeqAt.EqAt.int_bool i t d _ _ _ _ h
  ·rcases jg hv with⟨j,u,rfl,rfl⟩ | ⟨y,u,rfl,rfl⟩ | ⟨d,rfl,rfl⟩
   ·rw[xD] at h;exact afj x t j u _ _ _ _ h
   ·rw[DD] at h;exact wpAny_eqBool_str h
   ·rw[xD] at h;exact SeqAt.EqAt.str_bool x t d _ _ _ _ h
  ·rcases jg hv with⟨j,u,rfl,rfl⟩ | ⟨y,u,rfl,rfl⟩ | ⟨d,rfl,rfl⟩
   ·rw[uc] at h;exact SeqAt.EqAt.bool_int c j u _ _ _ _ h
   ·rw[xC] at h;exact SeqAt.EqAt.bool_str c y u _ _ _ _ h
   ·have e:decide ((aeb (if c then 1 else 0):Key)=aeb (if d then 1 else 0))=(c==d):=by cases c <;> cases d <;> decide
    rw[e] at h;exact SeqAt.EqAt.bool_bool c d _ _ _ _ h
 «strs»:=fun k x t v h=>by
  rcases jg h with⟨i,u,rfl,e⟩ | ⟨y,u,rfl,e⟩ | ⟨c,rfl,e⟩
  ·exact nomatch e
  ·injection e with e1 _
   subst e1;cases v <;> rfl
  ·exact nomatch e
theorem jr(h:uA v=some k)(r:RelV v u):qW k u=true:=by
 cases v with
 | int i=>cases h;obtain⟨t,rfl⟩:=r;exact BZ i t
 | bl b=>cases h;obtain rfl:u=adJ b:=r;simp[qW]
 | str x=>cases h;obtain⟨t,rfl⟩:=r;exact B0 x t
 | _=>cases h
theorem DR{P:abp}{w:World}:∀{ts:List V} {us:List Value} {ks:List Key},ip ts=some ks->Vals ts us->ItemsAre (lK P w) ks us
 | [],_,ks,h,.nil=>by cases h;exact .nil
 | v::vs,_,ks,h,.cons r t=>by
  unfold ip at h;split at h
  ·rename_i k G5 h1 h2;cases h;exact .cons (jr h1 r) (DR h2 t)
  ·cases h
noncomputable def UK(P:abp)(w:World)(H:Hp)(v:V)(h:Int):Prop:=(∃k,uA v=some k/\h=kr w k)\/(v=.aC/\h=0xFCA86420)\/∃b ts ks,v=.ref b/\H b=some (.tup ts)/\ip ts=some ks/\h=adx (cN P w) ks
section
variable{X:Cx}{pins:List (Addr×Obj)}{σ:L2.St}{H:Hp}{s:aam}{A:abT}{E:Value->aam->Prop}{v:V}{u:Value}{h:Int}
theorem UK.tup{b:Addr}{ts:List V}{ks:List Key}(I:Inv X pins σ H s)(e:H b=some (.tup ts))(hk:ip ts=some ks):IsTupleKey (lK X.prog X.w) s.heap ks b:=by
 obtain⟨_,its,r,o,h1,h2,n,h3⟩:=(show cW X.prog X.w H s.heap b (.tup ts) from I.aJ b _ e)
 exact⟨o,its.toArray,n,h1,h2,h3,by simpa using DR hk r⟩
theorem UK.hash{Q:Int->aam->Prop}(I:Inv X pins σ H s)(k:UK X.prog X.w H v h)(r:RelV v u)(hu:A.units<cLine)(hQ:∀t,Q h { s with toks:=t }):wpAny (model X.prog X.w) A (pyHash u) Q E s:=by
 rcases k with⟨k,h1,rfl⟩ | ⟨rfl,rfl⟩ | ⟨b,ts,ks,rfl,h1,h2,rfl⟩
 ·exact(lK X.prog X.w).pyHash (jr h1 r) (hQ _)
 ·obtain rfl:u=Value.none:=r;exact QW (hQ _)
 ·obtain rfl:u=abb b:=r;exact wpAny_pyHash_tuple (knd:=lK X.prog X.w) hu (UK.tup I h1 h2) (hQ _)
theorem UK.quiet(I:Inv X pins σ H s)(k:UK X.prog X.w H v h)(r:RelV v u):Quiet X.prog X.w A E s u:=by
 rcases k with⟨k,h1,rfl⟩ | ⟨rfl,rfl⟩ | ⟨b,ts,ks,rfl,h1,h2,rfl⟩
 ·exact Ce ((lK X.prog X.w).byValue k u (jr h1 r))
 ·obtain rfl:u=Value.none:=r;exact Ce rfl
 ·obtain rfl:u=abb b:=r;exact fun Q hq=>wpAny_eqIsQuiet_tuple (knd:=lK X.prog X.w) (UK.tup I h1 h2) hq
theorem UK.same{v':V}{h':Int}(k:UK X.prog X.w H v h)(k':UK X.prog X.w H v' h')(r:L2.RelV v u)(r':L2.RelV v' u):h=h':=by
 rcases k with⟨k,h1,rfl⟩ | ⟨rfl,rfl⟩ | ⟨b,ts,ks,rfl,h1,h2,rfl⟩ <;> rcases k' with⟨k',q1,rfl⟩ | ⟨rfl,rfl⟩ | ⟨b',ts',G5,rfl,q1,q2,rfl⟩
 ·rw[(lK X.prog X.w).inj u k k' (jr h1 r) (jr q1 r')]
 ·have:=jr h1 r;rw[show u=acF from r'] at this;cases k <;> cases this
 ·have:=jr h1 r;rw[show u=abb b' from r'] at this;cases k <;> cases this
 ·have:=jr q1 r';rw[show u=acF from r] at this;cases k' <;> cases this
 ·rfl
 ·have e:acF=abb b':=(show u=acF from r).symm.trans r';cases e
 ·have:=jr q1 r';rw[show u=abb b from r] at this;cases k' <;> cases this
 ·have e:abb b=Value.none:=(show u=abb b from r).symm.trans r';cases e
 ·have e:abb b=abb b':=(show u=abb b from r).symm.trans r';cases e;rw[h1] at q1;cases q1;rw[h2] at q2;cases q2;rfl
end
noncomputable def kA:W->Option Key
 | .int i=>some (.inl i)
 | .bl b=>some (.inl (if b then 1 else 0))
 | .str x=>some (.inr x)
 | _=>none
noncomputable def vF:List W->Option (List Key)
 | []=>some []
 | v::vs=>match kA v,vF vs with
  | some k,some ks=>some (k::ks)
  | _,_=>none
noncomputable def kW:W->Option (Option (Key ⊕ List Key))
 | .aC=>some none
 | .tup ws=>(vF ws).map fun ks=>some (.inr ks)
 | .int i=>some (some (.inl (.inl i)))
 | .bl b=>some (some (.inl (.inl (if b then 1 else 0))))
 | _=>none
noncomputable def hQ(P:abp)(w:World):Option (Key ⊕ List Key)->Int
 | none=>0xFCA86420
 | some (.inl k)=>kr w k
 | some (.inr ks)=>adx (cN P w) ks
section
variable{K:aaj}{φ:Nat->Addr}{n:Nat}{H:Hp}
theorem Zf{x:W}{v:V}{k:Key}(r:aH K φ n H x v)(h:kA x=some k):uA v=some k:=by
 cases r <;> first | exact h | cases h
theorem EL:∀{xs:List W} {vs:List V} {ks:List Key},aY K φ n H xs vs->vF xs=some ks->ip vs=some ks
 | [],_,ks,.nil,h=>h
 | x::xs,_,ks,.cons r t,h=>by
  unfold vF at h;split at h
  ·rename_i k G5 h1 h2;cases h;unfold ip;rw[Zf r h1,EL t h2]
  ·cases h
theorem p6{P:abp}{w:World}{x:W}{v:V}{q:Option (Key ⊕ List Key)}(r:aH K φ n H x v)(h:kW x=some q):UK P w H v (hQ P w q):=by
 cases r with
 | aC=>cases h;exact .inr (.inl ⟨rfl,rfl⟩)
 | bl b=>cases h;exact .inl ⟨_,rfl,rfl⟩
 | int i=>cases h;exact .inl ⟨_,rfl,rfl⟩
 | str x=>cases h
 | tup h0 r0=>
  obtain⟨ks,e1,e2⟩:=aaR.mp h;subst e2;exact .inr (.inr ⟨_,_,ks,rfl,h0,EL r0 e1,rfl⟩)
 | fl=>cases h
 | ref=>cases h
 | exc=>cases h
 | fn=>cases h
theorem c5.len:∀{kws:List (W×W)} {kvs:List (V×V)},c5 K φ n H kws kvs->kws.length=kvs.length
 | _,_,.nil=>rfl
 | _,_,.cons _ _ r=>congrArg (· +1) (c5.len r)
theorem c5.get:∀{kws:List (W×W)} {kvs:List (V×V)} {i:Nat} {q:V×V},c5 K φ n H kws kvs->kvs[i]? =some q->∃p,kws[i]? =some p/\aH K φ n H p.1 q.1/\aH K φ n H p.2 q.2
 | _,_,_,_,.nil,e=>by simp at e
 | _,_,0,_,.cons hk h _,e=>by simp at e;subst e;exact⟨_,rfl,hk,h⟩
 | _,_,i+1,q,.cons _ _ r,e=>by
  obtain⟨p,h1,h2⟩:=c5.get (i:=i) (q:=q) r (by simpa using e);exact⟨p,by simpa using h1,h2⟩
theorem c5.snoc{k w:W}{u v:V}(hk:aH K φ n H k u)(h:aH K φ n H w v):∀{kws:List (W×W)} {kvs:List (V×V)},c5 K φ n H kws kvs->c5 K φ n H (kws++[(k,w)]) (kvs++[(u,v)])
 | _,_,.nil=>.cons hk h .nil
 | _,_,.cons a b r=>.cons a b (c5.snoc hk h r)
theorem c5.modify{w:W}{v:V}(h:aH K φ n H w v):∀{kws:List (W×W)} {kvs:List (V×V)} (j:Nat),c5 K φ n H kws kvs->c5 K φ n H (kws.modify j fun p=>(p.1,w)) (kvs.modify j fun p=>(p.1,v))
 | _,_,j,.nil=>by simp;exact .nil
 | _,_,0,.cons a b r=>.cons a h r
 | _,_,j+1,.cons a b r=>.cons a b (c5.modify h j r)
end
theorem acf.modify{α β:Type}{F:α->β->Prop}{f:α->α}{g:β->β}(hf:∀a b,F a b->F (f a) (g b)):∀{l:List α} {m:List β} (j:Nat),acf F l m->acf F (l.modify j f) (m.modify j g)
 | _,_,j,.nil=>by simp;exact .nil
 | _,_,0,.cons a r=>.cons (hf _ _ a) r
 | _,_,j+1,.cons a r=>.cons a (acf.modify hf j r)
theorem acf.EN{α β:Type}{F:α->β->Prop}{a:α}{b:β}(h:F a b):∀{l:List α} {m:List β},acf F l m->acf F (l++[a]) (m++[b])
 | _,_,.nil=>.cons h .nil
 | _,_,.cons a r=>.cons a (acf.EN h r)
theorem afE{α β:Type}{F:α->β->Prop}:∀{l:List α} {m:List β} {i:Nat} {b:β},acf F l m->m[i]? =some b->∃a,l[i]? =some a/\F a b
 | _,_,_,_,.nil,e=>by simp at e
 | _,_,0,_,.cons h _,e=>by simp at e;subst e;exact⟨_,rfl,h⟩
 | _,_,i+1,b,.cons _ r,e=>by
  obtain⟨a,h1,h2⟩:=afE (i:=i) (b:=b) r (by simpa using e);exact⟨a,by simpa using h1,h2⟩
theorem acf.left{α β:Type}{F:α->β->Prop}:∀{l:List α} {m:List β} {i:Nat} {a:α},acf F l m->l[i]? =some a->∃b,m[i]? =some b/\F a b
 | _,_,_,_,.nil,e=>by simp at e
 | _,_,0,_,.cons h _,e=>by simp at e;subst e;exact⟨_,rfl,h⟩
 | _,_,i+1,a,.cons _ r,e=>by
  obtain⟨b,h1,h2⟩:=acf.left (i:=i) (a:=a) r (by simpa using e);exact⟨b,by simpa using h1,h2⟩
theorem BO{k w:W}:∀{kws:List (W×W)} {j:Nat} {p:W×W},(kws.map (·.1)).Nodup->kws[j]? =some p->p.1=k->kws.map (fun p=>if p.1=k then(p.1,w) else p)=kws.modify j fun p=>(p.1,w)
 | [],_,_,_,e,_=>by simp at e
 | q::kws,0,p,nd,e,ek=>by
  simp at e;subst e
  rw[aaM,acp] at nd;rw[aaM,if_pos ek];have:kws.map (fun p=>if p.1=k then(p.1,w) else p)=kws:=by
   have:=acC (f:=fun p:W×W=>if p.1=k then(p.1,w) else p) (g:=id) (l:=kws) (fun a ha=>by
    rw[if_neg];rfl;intro z;exact nd.1 (by rw[ek,<- z];exact adU ha))
   rw[this,List.map_id]
  rw[this];rfl
 | q::kws,j+1,p,nd,e,ek=>by
  rw[aaM,acp] at nd;have e':kws[j]? =some p:=by simpa using e
  have ne:¬q.1=k:=fun z=>nd.1 (by rw[z,<- ek];exact adU (aaW e'))
  rw[aaM,if_neg ne,BO nd.2 e' ek];rfl
noncomputable def gW(ph:PH)(kws:List (W×W))(y:W):Bool:=(kW y).isSome&&kws.all fun p=>(kW p.1).isSome&&decide (dE ph p.1 y=some (decide (p.1=y)))
section
variable{X:Cx}{pins:List (Addr×Obj)}{σ:L2.St}{H:Hp}{s:aam}{A:abT}{E:Value->aam->Prop}{φ:Nat->Addr}{ph:PH}{i:Nat}{kws:List (W×W)}{y:W}{v:V}{u:Value}
theorem Ug{q:Option (Key ⊕ List Key)}{K:aaj}{n:Nat}(r:aH K φ n H y v)(h:kW y=some q)(ru:L2.RelV v u):FN u:=by
 cases r with
 | aC=>exact .inr (.inl ru)
 | bl b=>exact .inr (.inr (.inl ⟨b,ru⟩))
 | int i=>obtain⟨t,rfl⟩:=ru;exact .inr (.inr (.inr ⟨i,t,rfl⟩))
 | str x=>cases h
 | tup h0 r0=>exact .inl ⟨_,ru⟩
 | fl=>cases h
 | ref=>cases h
 | exc=>cases h
 | fn=>cases h
theorem tX(I:Inv X pins σ H s)(hH:aG X.K φ ph H)(hd:ph[i]? =some (.cc kws)):∃kvs o es ep,H (φ i)=some (.dU kvs)/\c5 X.K φ ph.length H kws kvs/\(kws.map (·.1)).Nodup/\kvs.length<=aaD/\(φ i==abW)=false/\s.heap.get? (φ i)=some o/\o.ExactDict/\o.data=.dict es ep /\
  acf (fun(p:V×V) (e:acE)=>L2.RelV p.1 e.key/\L2.RelV p.2 e.val/\((∃k,uA p.1=some k/\e.hash=kr X.w k)\/∃b ts ks,p.1=.ref b/\H b=some (.tup ts)/\ip ts=some ks/\e.hash=adx (cN X.prog X.w) ks)) kvs es.toList:=by
 obtain⟨kvs,e,r,nd⟩:=hH.hp _ _ hd;obtain⟨z,y,o,es,ep,h1,h2,h3,h4⟩:=(show cW X.prog X.w H s.heap (φ i) (.dU kvs) from I.aJ _ _ e)
 exact⟨kvs,o,es,ep,e,r,nd,z,y,h1,h2,h3,h4⟩
theorem C7{o:Obj}{es:Array acE}{ep:Nat}{kvs:List (V×V)}{q:Option (Key ⊕ List Key)}{Q:Option Nat->aam->Prop}(hu:A.units+64<cLine)(I:Inv X pins σ H s)(hH:aG X.K φ ph H)(r:c5 X.K φ ph.length H kws kvs)(nd:(kws.map (·.1)).Nodup)(ho:s.heap.get? (φ i)=some o)(hd:o.data=.dict es ep)
  (pr:acf (fun(p:V×V) (e:acE)=>L2.RelV p.1 e.key/\L2.RelV p.2 e.val/\((∃k,uA p.1=some k/\e.hash=kr X.w k)\/∃b ts ks,p.1=.ref b/\H b=some (.tup ts)/\ip ts=some ks/\e.hash=adx (cN X.prog X.w) ks)) kvs es.toList)
  (ry:aH X.K φ ph.length H y v) (ru:L2.RelV v u) (hy:kW y=some q) (hk:∀p∈kws,(kW p.1).isSome=true/\dE ph p.1 y=some (decide (p.1=y)))
  (hn:(∀p∈kws,p.1≠y)->Q none s) (hs:∀j p kv e,kws[j]? =some p->p.1=y->kvs[j]? =some kv->es[j]? =some e->aH X.K φ ph.length H p.2 kv.2->L2.RelV kv.2 e.val->Q (some j) s) :
  wpAny (model X.prog X.w) A (dictFind (φ i) u (hQ X.prog X.w q)) Q E s:=by
 have vw:∀(j:Nat) (e:acE),es[j]? =some e->∃p kv,kws[j]? =some p/\kvs[j]? =some kv/\aH X.K φ ph.length H p.1 kv.1/\aH X.K φ ph.length H p.2 kv.2/\L2.RelV kv.1 e.key/\L2.RelV kv.2 e.val/\UK X.prog X.w H kv.1 e.hash:=fun j e he=>by
  obtain⟨kv,h1,h2,h3,h4⟩:=afE pr (i:=j) (b:=e) (by simpa using he);obtain⟨p,g1,g2,g3⟩:=r.get h1;exact⟨p,kv,g1,h1,g2,g3,h2,h3,h4.elim .inl fun z=>.inr (.inr z)⟩
 have G6:UK X.prog X.w H v (hQ X.prog X.w q):=p6 ry hy;have fin:∀(rr:Option Nat),G2 es (hQ X.prog X.w q) (fun j=>match kws[j]? with | some p=>decide (p.1=y) | none=>false) rr->Q rr s->wpAny (model X.prog X.w) A (dictFind (φ i) u (hQ X.prog X.w q)) Q E s:=fun rr hh hq=>by
  refine Wu ho hd (Ug ry hy ru) (fun j e he G7=>?_) (fun j e he ek=>?_) (UK.quiet I G6 ru) (fun j e he=>?_) hh hq
  ·obtain⟨p,kv,g1,g2,g3,g4,g5,g6,g7⟩:=vw j e he;obtain⟨_,eq⟩:=hk p (aaW g1);obtain⟨dx,dy,e1,e2,eb⟩:=wU eq;obtain⟨⟨as,k1⟩,c1,l1⟩:=iI I hH 40 g3 g5 e1;obtain⟨⟨bs,k2⟩,c2,l2⟩:=iI I hH 40 ry ru e2;simp only[g1,eb];exact SeqAt.eqAt_reads dx dy A s _ _ _ _ k1 k2 c1 c2 (by omega)
  ·obtain⟨p,kv,g1,g2,g3,g4,g5,g6,g7⟩:=vw j e he;exact UK.same (u:=u) g7 G6 (ek▸g5) ru
  ·obtain⟨p,kv,g1,g2,g3,g4,g5,g6,g7⟩:=vw j e he;exact UK.quiet I g7 g5
 by_cases hm:∃p∈kws,p.1=y
 ·obtain⟨p,hp,ft⟩:=hm;obtain⟨j,hj⟩:=adz.mp hp;have bH:j<kvs.length:=by rw[<- r.len];exact(aal.mp hj).1
  obtain⟨e,he,_⟩:=acf.left pr (i:=j) (a:=kvs[j]) (by simp[bH]);have zX:es[j]? =some e:=by simpa using he
  obtain⟨p',kv,g1,g2,g3,g4,g5,g6,g7⟩:=vw j e zX;rw[hj] at g1;cases g1;refine fin (some j) ⟨⟨e,zX,?_⟩,?_,fun k e' Zg G7 hc=>?_⟩ (hs j p kv e hj ft g2 zX g4 g6)
  ·have:UK X.prog X.w H kv.1 (hQ X.prog X.w q):=p6 g3 (ft▸hy);exact UK.same (u:=e.key) g7 this g5 g5
  ·simp only[hj,ft,decide_true]
  ·obtain⟨p2,kv2,f1,_⟩:=vw k e' Zg;simp only[f1,decide_eq_true_eq] at hc;have G8:(kws.map (·.1))[k]? =some y:=by rw[aaN,f1];simp[hc]
   have hk2:(kws.map (·.1))[j]? =some y:=by rw[aaN,hj];simp[ft]
   exact(List.getElem?_inj (aal.mp G8).1 nd).mp (G8.trans hk2.symm)
 ·refine fin none (fun k e he G7=>?_) (hn fun p hp ft=>hm ⟨p,hp,ft⟩);obtain⟨p2,kv2,f1,_⟩:=vw k e he;simp only[f1,decide_eq_false_iff_not];exact fun z=>hm ⟨p2,aaW f1,z⟩
theorem DS(h:gW ph kws y=true):(∃q,kW y=some q)/\∀p∈kws,(kW p.1).isSome=true/\dE ph p.1 y=some (decide (p.1=y)):=by
 unfold gW at h;rw[aaw,abA] at h;exact⟨abf.mp h.1,fun p hp=>by
  have:=h.2 p hp;rw[aaw,decide_eq_true_eq] at this;exact this⟩
theorem PJ(h:∀p∈kws,p.1≠y):bQ kws y=none:=by
 unfold bQ;rw[List.find?_eq_none.mpr fun p hp=>by simpa using h p hp];rfl
theorem BP:∀{kws:List (W×W)} {j:Nat} {p:W×W},(kws.map (·.1)).Nodup->kws[j]? =some p->p.1=y->bQ kws y=some p.2
 | [],_,_,_,e,_=>by simp at e
 | q::kws,0,p,nd,e,ek=>by
  simp at e;subst e
  simp[bQ,ek]
 | q::kws,j+1,p,nd,e,ek=>by
  rw[aaM,acp] at nd;have e':kws[j]? =some p:=by simpa using e
  have ne:¬q.1=y:=fun z=>nd.1 (by rw[z,<- ek];exact adU (aaW e'))
  have:=BP nd.2 e' ek;unfold bQ at this ⊢;rw[List.find?_cons_of_neg (by simpa using ne)];exact this
theorem Wv{Q:Option Value->aam->Prop}(hu:A.units+64<cLine)(I:Inv X pins σ H s)(hH:aG X.K φ ph H)(hd:ph[i]? =some (.cc kws))(ry:aH X.K φ ph.length H y v)(ru:L2.RelV v u)(hk:gW ph kws y=true)
  (h:∀s' ow ov,Inv X pins σ H s'->iW X.K φ ph.length H (bQ kws y) ov->L2.eF ov ow->Q ow s'):wpAny (model X.prog X.w) A (dictGet (φ i) u) Q E s:=by
 obtain⟨⟨q,hy⟩,zY⟩:=DS hk;obtain⟨kvs,o,es,ep,e0,r,nd,z,oJ,ho,hx,fq,pr⟩:=tX I hH hd;unfold dictGet
 try with_reducible refine abG ?_
 refine aak (UK.hash I (p6 ry hy) ru (by omega) fun t=>?_);have I':=I.tok t;refine aak (C7 (s:={ s with toks:=t }) hu I' hH r nd ho fq pr ry ru hy zY (fun hn=>?_) fun j p kv e hj ft hkv he oK G9=>?_)
 ·exact aaq (h _ none none I' (by rw[PJ hn];trivial) trivial)
 ·refine aak (wpAny_dictEntries (s:={ s with toks:=t }) ho fq ?_);rw[he];exact aaq (h _ (some e.val) (some kv.2) I' (by rw[BP nd hj ft];exact oK) G9)
end
theorem Cf{w:W}{kws:List (W×W)}(nd:(kws.map (·.1)).Nodup):((cK kws y w).map (·.1)).Nodup:=by
 unfold cK;split
 ·have:(kws.map fun p=>if p.1=y then(p.1,w) else p).map (·.1)=kws.map (·.1):=by
   rw[adA];exact acC fun a _=>by simp only[Function.comp];split <;> rfl
  rw[this];exact nd
 ·rename_i h;rw[acv,List.nodup_append];refine⟨nd,by simp,fun a ha b hb e=>h ?_⟩;simp only[aaM,aea,abc] at hb;obtain⟨p,hp,ft⟩:=abV.mp ha;rw[adg];exact⟨p,hp,by simp[ft,e,hb]⟩
section
variable{X:Cx}{pins:List (Addr×Obj)}{σ:L2.St}{H:Hp}{s:aam}{A:abT}{E:Value->aam->Prop}{φ:Nat->Addr}{ph:PH}{i:Nat}{kws:List (W×W)}{y w:W}{v vv:V}{u r:Value}
theorem Ww{q:Key ⊕ List Key}{Q:Unit->aam->Prop}(hu:A.units+64<cLine)(I:Inv X pins σ H s)(hH:aG X.K φ ph H)(hd:ph[i]? =some (.cc kws))(ry:aH X.K φ ph.length H y v)(ru:L2.RelV v u)(oK:aH X.K φ ph.length H w vv)(rr:L2.RelV vv r)(hk:gW ph kws y=true)(hy:kW y=some (some q))(hz:kws.length<aaD)
  (h:∀s' H',Inv X pins σ H' s'->aG X.K φ (ph.set i (.cc (cK kws y w))) H'->Step X.K φ ph.length H φ (ph.set i (.cc (cK kws y w))).length H'->Q () s'):wpAny (model X.prog X.w) A (dictSet (φ i) u r) Q E s:=by
 obtain⟨_,zY⟩:=DS hk;obtain⟨kvs,o,es,ep,e0,rel,nd,z,oJ,ho,hx,fq,pr⟩:=tX I hH hd;obtain⟨yy,ey,my⟩:=hH.mu hd rfl;have qg:(∃k,uA v=some k/\hQ X.prog X.w (some q)=kr X.w k)\/∃b ts ks,v=.ref b/\H b=some (.tup ts)/\ip ts=some ks/\hQ X.prog X.w (some q)=adx (cN X.prog X.w) ks:=by
  rcases(p6 (P:=X.prog) (w:=X.w) ry hy) with q1 | ⟨rfl,_⟩ | q1
  ·exact .inl q1
  ·cases ry;cases hy
  ·exact .inr q1
 have keep:∀(x:HO) (b:Addr) (ts:List V),H b=some (.tup ts)->upd H (φ i) x b=some (.tup ts):=fun x b ts hb=>by
  rw[bC (km hb e0 (fun z=>nomatch z))];exact hb
 unfold dictSet
 try with_reducible refine abG ?_
 refine aak (UK.hash I (p6 ry hy) ru (by omega) fun t=>?_);have I':=I.tok t;unfold dictSetHashed
 try with_reducible refine abG ?_
 refine aak (C7 (s:={ s with toks:=t }) hu I' hH rel nd ho fq pr ry ru hy zY (fun hn=>?_) fun j p kv e hj ft hkv he rw1 G9=>?_)
 ·have hes:es.size<=sizeLine:=by
   have e1:kvs.length=es.toList.length:=adH pr;have e2:es.toList.length=es.size:=acx;omega
  have st:=iK (K:=X.K) (φ:=φ) (n:=ph.length) (y:=HO.dU (kvs++[(v,vv)])) ey my;have zZ:cK kws y w=kws++[(y,w)]:=by
   unfold cK;rw[if_neg];rw[adg];rintro⟨p,hp,ft⟩;exact hn p hp (by simpa using ft)
  refine aak (aei (wpAny_updateDictKeys (hz:=hes) (s:={ s with toks:=t }) ho fq (h _ _ (tR I' (by rw[e0];exact ach) (afh ..) ⟨_,aci _ ho (adi (adG fq _))⟩ (ob:=.dU (kvs++[(v,vv)]))
   ⟨?_,oJ,_,_,ep+1,aci _ ho (adi (adG fq _)),hx.mapDictKeys _,adG fq _,?_⟩) ?_ ?_)))
  ·rw[aas,<- rel.len];simp;omega
  ·rw[Array.toList_push];refine acf.EN ⟨ru,rr,qg.imp_right fun⟨b,ts,ks,h1,h2,h3⟩=>⟨b,ts,ks,h1,keep _ _ _ h2,h3⟩⟩ (acf.nW pr fun p q z=>⟨z.1,z.2.1,z.2.2.imp_right fun⟨b,ts,ks,h1,h2,h3⟩=>⟨b,ts,ks,h1,keep _ _ _ h2,h3⟩⟩)
  ·refine hH.put hd rfl ⟨_,bW,?_,Cf nd⟩;rw[zZ];exact(rel.snoc ry oK).mono st
  ·rw[abz];exact st
 ·have st:=iK (K:=X.K) (φ:=φ) (n:=ph.length) (y:=HO.dU (kvs.modify j fun p=>(p.1,vv))) ey my;have zZ:cK kws y w=kws.modify j fun p=>(p.1,w):=by
   unfold cK;rw[if_pos (by rw[adg];exact⟨p,aaW hj,by simpa using ft⟩)];exact BO nd hj ft
  refine aak (aei (aak (wpAny_updateDict (s:={ s with toks:=t }) ho fq (wpAny_point (h _ _ (tR I' (by rw[e0];exact ach) (afh ..) ⟨_,aci _ ho (adi (aeu fq _))⟩ (ob:=.dU (kvs.modify j fun p=>(p.1,vv)))
   ⟨?_,oJ,_,_,ep,aci _ ho (adi (aeu fq _)),hx.mapDict _,aeu fq _,?_⟩) ?_ ?_)))))
  ·rw[List.length_modify];exact z
  ·rw[Array.toList_modify];refine acf.modify (fun p e z=>⟨z.1,rr,z.2.2⟩) j (acf.nW pr fun p q z=>⟨z.1,z.2.1,z.2.2.imp_right fun⟨b,ts,ks,h1,h2,h3⟩=>⟨b,ts,ks,h1,keep _ _ _ h2,h3⟩⟩)
  ·refine hH.put hd rfl ⟨_,bW,?_,Cf nd⟩;rw[zZ];exact(rel.modify oK j).mono st
  ·rw[abz];exact st
theorem C8(I:Inv X pins σ H s)(hH:aG X.K φ ph H)(hd:ph[i]? =some (.cc kws)):s.TypeIs (.ref (φ i)) "dict":=by
 obtain⟨kvs,o,es,ep,e0,rel,nd,z,oJ,ho,hx,fq,pr⟩:=tX I hH hd;exact⟨o,ho,hx.1⟩
end
noncomputable def y8:Po W:=fun ph=>some (.ref ph.length,ph++[.cc []])
noncomputable def uR:EM:=fun _=>lift y8
theorem C9{k:Nat}(r:cL k A):A.units+65<cLine:=by have:=r.un;omega
theorem Sw{w:World}(h:Heap)(hb:abW<h.objs.size):cW P w H (h.push { cls:=.type "dict",data:=.dict #[] }) h.objs.size (.dU []):=
 ⟨aca _,beq_eq_false_iff_ne.mpr (adt (abn hb)),_,#[],0,abk _ rfl,⟨rfl,rfl,rfl⟩,rfl,.nil⟩
noncomputable def Wx:TE:=fun _ H Q=>∀p,H p=none->Q (.ref p) (upd H p (.dU []))
theorem Sx:PE X (.Dict [] [] pos) Wx:=fun pins s σ H Q I h=>
 wpAny_Dict_empty ⟨.ref s.heap.objs.size,_,I.laid (a:=s.heap.objs.size) (o:=.dU []) (t':=s.toks) (fun _ _ q=>aaA _ q) (aar _) (Sw s.heap I.big),rfl,h _ (I.aJ.fresh (aar _))⟩
theorem Wy:JE X (.Dict [] [] pos) uR:=⟨PE.imp Sx fun σ H Q h p hp=>by
 obtain⟨φ,ph,ws,hH,hS,h⟩:=h;obtain⟨w,ph',e,k⟩:=run_lift h;cases e;have hl:(ph++[PO.cc []]).length=ph.length+1:=by simp
 have s:=pC (K:=X.K) (φ:=φ) (n:=ph.length) (o:=HO.dU []) hp;have q:aH X.K (ext φ ph.length p) (ph.length+1) (upd H p (.dU [])) (.ref ph.length) (.ref (ext φ ph.length p ph.length)):=.ref (abD _);rw[jk] at q;exact k _ _ _ (hH.new hp ⟨[],bW,.nil,afb⟩) (by rw[hl];exact s) (by rw[hl];exact q)⟩
noncomputable def lL(y:W)(ph:PH):Option (Nat×List (W×W)):=match y with
 | .ref i=>match ph[i]? with
  | some (.cc kws)=>some (i,kws)
  | _=>none
 | _=>none
theorem wF{kws:List (W×W)}(hH:aG K φ ph H)(r:aH K φ ph.length H y v)(e:lL y ph=some (i,kws)):y=.ref i/\i<ph.length/\ph[i]? =some (.cc kws)/\v=.ref (φ i):=by
 unfold lL at e;split at e
 ·split at e
  ·rename_i j Zc hw;cases e;cases r with
   | ref hi=>exact⟨rfl,hi,hw,rfl⟩
  ·cases e
 ·cases e
noncomputable def qy(w:W)(ph:PH):Bool:=(lL w ph).isSome
theorem Wz:l6 K "dict" qy:=by
 intro φ ph H x vx hH rx e;unfold qy at e;obtain⟨⟨i,kws⟩,hp⟩:=abf.mp e;obtain⟨rfl,hi,hd,rfl⟩:=wF hH rx hp;obtain⟨kvs,q,_⟩:=hH.hp i _ hd;exact .inr (.inr (.inr (.inr ⟨rfl,kvs,q⟩)))
noncomputable def EO(K:aaj):V->List V->Hp->VK->Prop:=fun x ys H Q=>∃φ ph i kws y v d,aG K φ ph H/\x=.ref (φ i)/\ph[i]? =some (.cc kws)/\aH K φ ph.length H y v/\gW ph kws y=true/\ys=[v,d]/\∀ov,iW K φ ph.length H (bQ kws y) ov->Q (ov.getD d) H
noncomputable def qz:W->List W->Po W:=fun x xs ph=>match lL x ph with
 | some p=>match xs with
  | [y,z]=>if gW ph p.2 y=true then some ((bQ p.2 y).getD z,ph) else none
  | _=>none
 | none=>none
theorem Uh(hu:X.A.units+65<cLine):lY X "dict.get" (EO X.K):=by
 intro pins s σ H x xs v us Q I rx rv h;obtain⟨φ,ph,i,kws,y,vy,d,hH,rfl,hd,ry,hk,rfl,q⟩:=h;obtain rfl:v=abb (φ i):=rx;obtain⟨u,u2,rfl,ru,rd⟩:=Vals.two rv;have hT:=C8 I hH hd;obtain⟨_,_,_,_,_,_,_,_,oJ,_⟩:=tX I hH hd;refine ade aaT hT ace (show wpAny _ _ (dictGet (φ i) u >>= _) _ _ s from aak (Wv (by show X.A.units+1+64<cLine;omega) I hH hd ry ru hk fun s' ow ov I' ro ed=>?_)) (adn _ _ _);have qq:=q ov ro;cases ow with
 | some w'=>
  cases ov with
  | none=>exact ed.elim
  | some vv=>exact aaq ⟨w',rfl,vv,H,I',ed,qq⟩
 | none=>
  cases ov with
  | none=>
   show wpAny _ _ (Builtin.Dict.missed (φ i) u >>= _) _ _ _;exact aak (wpAny_missed_other oJ (aaq ⟨u2,rfl,d,H,I',rd,qq⟩))
  | some vv=>exact ed.elim
theorem WA:kP K "dict" (EO K) qz:=by
 intro φ ph H x xs vx vs w ph' Q hH rx rs e k;unfold qz at e;split at e
 ·rename_i p hp;obtain⟨i,kws⟩:=p;obtain⟨rfl,hi,hd,rfl⟩:=wF hH rx hp;split at e
  ·split at e
   ·rename_i hk;cases e;cases rs with
    | cons r0 rr=>
     cases rr with
     | cons r1 rr=>
      cases rr;exact⟨φ,ph,i,kws,_,_,_,hH,rfl,hd,r0,hk,rfl,fun ov ro=>k φ H _ hH Step.refl (ro.getD r1)⟩
   ·cases e
  ·cases e
 ·cases e
noncomputable def qA(o i v:W):Po Unit:=fun ph=>match lL o ph with
 | some p=>if gW ph p.2 i=true/\(kW i).bind id≠none/\p.2.length<aaD then some ((),ph.set p.1 (.cc (cK p.2 i v))) else none
 | none=>none
noncomputable def Yi(K:aaj):qe:=fun o i v H Q=>∃φ ph j kws y w,aG K φ ph H/\o=.ref (φ j)/\ph[j]? =some (.cc kws)/\aH K φ ph.length H y i/\aH K φ ph.length H w v/\gW ph kws y=true/\(kW y).bind id≠none/\kws.length<aaD /\
 ∀H',aG K φ (ph.set j (.cc (cK kws y w))) H'->Step K φ ph.length H φ (ph.set j (.cc (cK kws y w))).length H'->Q H'
theorem QX(hu:X.A.units+65<cLine):jw X (Yi X.K):=by
 intro pins s σ H o i v ov iv u Q I ro ri rv h;obtain⟨φ,ph,j,kws,y,w,hH,rfl,hd,ry,oK,hk,hy,hz,q⟩:=h;obtain rfl:ov=abb (φ j):=ro;have z4:∃q,kW y=some (some q):=by
  cases e:kW y with
  | none=>rw[e] at hy;exact absurd rfl hy
  | some z=>cases z with
   | none=>rw[e] at hy;exact absurd rfl hy
   | some q=>exact⟨q,rfl⟩
 obtain⟨q0,z4⟩:=z4;have hT:=C8 I hH hd;unfold setItem
 try with_reducible refine abG ?_
 refine aak (wpAny_sequenceKey hT (by decide) ?_);refine aak (wpAny_callSpecial?_slot (name:=aaz "__setitem__") hT slot_dict_setitem
  (ade slot_dict_setitem hT entry_dict_setitem ?_ (args_dict_setitem _ _ _)))
 show wpAny _ _ (Builtin.Dict.notOrdered "__setitem__" ⟨[.ref (φ j),iv,u],[]⟩ >>= _) _ _ s;refine aak (wpAny_notOrdered_dict hT ?_);show wpAny _ _ (dictSet (φ j) iv u >>= _) _ _ s;exact aak (Ww (by show X.A.units+1+64<cLine;omega) I hH hd ry ri oK rv hk z4 hz fun s' H' I' h1 h2=>aaq ⟨.none,rfl,aaq ⟨H',I',q H' h1 h2⟩⟩)
noncomputable def lM(o i:EM):GM:=fun v σ=>aw (o σ) fun ow=>aw (i σ) fun iw=>aw (lift (qA ow iw v)) fun _=>aA σ
section
variable{X:Cx}{o i:Expr}{mo mi:EM}{pos:Pos}{N:List Str}{sc:Scope}{k:Nat}
theorem BdT.tY(B:BdT X N sc k)(ho:JE X o mo)(hi:JE X i mi)(ha:∀v,afA (.Subscript o i pos) X.env v=(do
   let ov <- adM [v] (eval o X.env)
   let iv <- adM [v,ov] (eval i X.env)
   standAt pos
   adM [v,ov,iv] (setItem ov iv v)
   release [v,ov,iv] []):=by intro _;rfl):JG X (.Subscript o i pos) (lM mo mi):=
 ⟨PG.imp (DE ho.h hi.h (QX (C9 B.room)) ha) fun v σ H Q h=>by
  obtain⟨φ,ph,ws,w,hH,hS,rv,h⟩:=h;refine tM.bind hH hS h fun ow ph1 aB H1 vo aE s1 ro h=>tM.bind aE (hS.mono s1) h fun iw ph2 aV H2 vi ba s2 ri h=>?_
  rw[cE] at h;obtain⟨_,dW,e,k⟩:=run_lift h;have vD:=ro.mono s2;have vE:=(rv.mono s1).mono s2;unfold qA at e;split at e
  ·rename_i p hp;obtain⟨r,kws⟩:=p;obtain⟨rfl,hr,hd,rfl⟩:=wF ba vD hp;split at e
   ·rename_i hk;cases e;exact⟨aV,ph2,r,kws,iw,w,ba,rfl,hd,ri,vE,hk.1,hk.2.1,hk.2.2,fun H' q1 q2=>k aV _ σ q1 ((s1.trans s2).trans q2) (((hS.mono s1).mono s2).mono q2)⟩
   ·cases e
  ·cases e⟩
end
theorem CA:∀{xs:List V} {us:List Value},xs.length=us.length->(∀(j:Nat) x u,xs[j]? =some x->us[j]? =some u->L2.RelV x u)->Vals xs us
 | [],[],_,_=>.nil
 | [],_::_,h,_=>by simp at h
 | _::_,[],h,_=>by simp at h
 | x::xs,u::us,h,k=>.cons (k 0 x u rfl rfl) (CA (by simpa using h) fun j y v h1 h2=>k (j+1) y v (by simpa using h1) (by simpa using h2))
theorem QY{w:World}(h:(cN P w).is k u=true):L2.RelV (kV k) u:=by
 rcases gY h with⟨i,t,rfl,rfl⟩ | ⟨x,t,rfl,rfl⟩
 ·exact⟨t,rfl⟩
 ·exact⟨t,rfl⟩
section
variable{X:Cx}{pins:List (Addr×Obj)}{σ:L2.St}{H:Hp}{s:aam}
theorem Ui(I:Inv X pins σ H s){d:Addr}{kvs:List (Key×V)}(hd:H d=some (.dK kvs)\/(H d=some (.dT [])/\kvs=[])):∃vs,KV kvs vs/\s.heap.DictOf (cN X.prog X.w) d vs/\(d==abW)=false/\kvs.length<=sizeLine:=by
 rcases hd with e | ⟨e,rfl⟩
 ·obtain⟨z,y,vs,rel,dd⟩:=pW I.aJ e;exact⟨vs,rel,dd,y,z⟩
 ·obtain⟨z,y,vs,rel,dd⟩:=pW (kvs:=[]) (kh I e).aJ bW;exact⟨vs,rel,dd,y,z⟩
theorem QZ{kvs:List (Key×V)}{vs:List (Key×Value)}{acc:Array Value}(rel:KV kvs vs)(uS:ItemsOf (fun i v=>∃k x,vs[i]? =some (k,x)/\(cN X.prog X.w).is k v=true) acc vs.length):Vals (kvs.map fun kv=>kV kv.1) acc.toList:=by
 have hk:=rel.keys;refine CA (by have e1:=rel.length;have e2:=uS.1;have e3:acc.toList.length=acc.size:=acx;rw[aat];omega) fun j x u h1 h2=>?_
 obtain⟨k,y,e,hi⟩:=uS.2 j u (by simpa using h2);rw[aaN] at h1;obtain⟨kv,e1,rfl⟩:=aaR.mp h1;have e2:(kvs.map (·.1))[j]? =some kv.1:=by rw[aaN,e1];rfl
 rw[hk,aaN,e] at e2;have e3:k=kv.1:=by simpa using e2
 rw[<- e3];exact QY hi
end
noncomputable def xQ:List V->Hp->VK->Prop:=fun xs H Q=>∃d kvs,xs=[.ref d]/\(H d=some (.dK kvs)\/(H d=some (.dT [])/\kvs=[]))/\∀p,H p=none->Q (.ref p) (upd H p (.lst (kvs.map fun kv=>kV kv.1)))
section
variable{X:Cx}
theorem PK(hc:X.calm=true):cJ X (.type "list") xQ:=by
 intro pins s σ H xs us Q I r h;obtain⟨d,kvs,rfl,hd,h⟩:=h;obtain⟨u,rfl,rx⟩:=vals1 r;obtain rfl:u=abb d:=rx;obtain⟨vs,rel,dd,y,z⟩:=Ui I hd;obtain⟨ep,jS⟩:=dd.dictAt;refine PySem.W.kdl_call (PySem.W.kdl_dict (knd:=cN X.prog X.w) (kvs:=vs) (ep:=ep) y) (I.ok.hd hc) jS (by rw[<- rel.length];exact z) fun h' tk acc c hk hD uS=>⟨.ref s.heap.objs.size,_,I.laid (t':=tk) (a:=s.heap.objs.size) (o:=.lst (kvs.map fun kv=>kV kv.1)) (fun b u q=>hk b u q) (aar _) ⟨by simpa using z,acc.toList,c,QZ rel uS,by simpa using hD⟩,rfl,h _ (I.aJ.fresh (aar _))⟩
end
noncomputable def yp(kws:List (W×W)):Option (List W):=if kws.all (fun p=> !mf p.1)=true then some (kws.map (·.1)) else none
noncomputable def gm:List W->Po W:=fun xs ph=>match xs with
 | [w]=>match eD w ph with
  | some p=>(yp p.2).map fun ks=>(.ref ph.length,ph++[.lst ks])
  | none=>nM [w] ph
 | _=>none
section
variable{K:aaj}{φ:Nat->Addr}{n:Nat}{H:Hp}
theorem CB:∀{kws:List (W×W)} {kvs:List (Key×V)},cj K φ n H kws kvs->aY K φ n H (kws.map (·.1)) (kvs.map fun kv=>kV kv.1)
 | _,_,.nil=>.nil
 | _,_,.cons (k:=k) h r=>.cons (by cases k with | inl i=>exact .int i | inr x=>exact .str x) (CB r)
theorem Q0{ph:PH}{y:W}{v:V}{p:Nat×List (W×W)}{ks:List W}(hH:aG K φ ph H)(r:aH K φ ph.length H y v)(e:eD y ph=some p)(hk:yp p.2=some ks) :
  ∃d kvs,v=.ref d/\(H d=some (.dK kvs)\/(H d=some (.dT [])/\kvs=[]))/\aY K φ ph.length H ks (kvs.map fun kv=>kV kv.1):=by
 unfold yp at hk;split at hk
 ·rename_i ha;cases hk;obtain⟨rfl,hi,hd,rfl⟩:=mV (i:=p.1) (kws:=p.2) hH r e
  rcases hH.hp _ _ hd with⟨kvs,q,rd⟩ | ⟨kvs,q,rt⟩
  ·exact⟨_,kvs,rfl,.inl q,CB rd⟩
  ·obtain⟨e1,e2⟩:=rt.yY ha;subst e2;rw[e1];exact⟨_,[],rfl,.inr ⟨q,rfl⟩,.nil⟩
 ·cases hk
end
theorem tZ:gk K (fun xs H Q=>(∃p ys,xs=[.ref p]/\(bD K H p ys\/bZ K H p ys)/\∀l,H l=none->Q (.ref l) (upd H l (.lst ys)))\/xQ xs H Q) gm:=by
 intro φ ph H xs vs w ph' Q hH r e k;unfold gm at e;split at e
 ·rename_i x;cases hd:eD x ph with
  | none=>rw[hd] at e;exact .inl (T6 hH r e k)
  | some p=>
   rw[hd] at e;obtain⟨ks,hk,e⟩:=aaR.mp e;cases e;cases r with
   | cons r rn=>
    cases rn;obtain⟨d,kvs,rfl,hdk,rr⟩:=Q0 hH r hd hk;refine .inr ⟨d,kvs,rfl,hdk,fun p hp=>?_⟩;obtain⟨q1,q2,q3⟩:=j9 hH rr hp;exact k _ _ _ q1 q2 q3
 ·cases e
theorem sG(hc:X.calm=true):cJ X (.type "list") (fun xs H Q=>(∃p ys,xs=[.ref p]/\(bD X.K H p ys\/bZ X.K H p ys)/\∀l,H l=none->Q (.ref l) (upd H l (.lst ys)))\/xQ xs H Q):=cJ.or Nx (PK hc)
open PySem L2
section
variable{α β γ:Type}
theorem pJ(a:α)(f:α->Mo β):aw (aA a) f=f a:=rfl
theorem Dd(f:α->Mo β):aw (ee:Mo α) f=ee:=rfl
theorem De(x:XC)(f:α->Mo β):aw (vt x:Mo α) f=vt x:=rfl
theorem hG(m:Mo α)(f:α->Mo β)(g:β->Mo γ):aw (aw m f) g=aw m fun a=>aw (f a) g:=by
 funext ph;unfold aw;cases m ph <;> rfl
theorem Df{c:Prop}[Decidable c](a b:Mo α)(f:α->Mo β):aw (if c then a else b) f=if c then aw a f else aw b f:=by split <;> rfl
theorem cs{m:Mo α}{f:α->Mo β}{ph ph':PH}{a:α}(h:m ph=.ok a ph'):aw m f ph=f a ph':=by unfold aw;rw[h]
theorem DT(a:α)(ph:PH):aA a ph=.ok a ph:=rfl
theorem DU(x:XC)(ph:PH):(vt x:Mo α) ph=.ex x ph:=rfl
theorem CC(a:α):lift (ret a)=aA a:=rfl
theorem DV{c:Prop}[Decidable c](a b:Mo α)(ph:PH):(if c then a else b) ph=if c then a ph else b ph:=by split <;> rfl
end
theorem DW(w:W)(σ:aP):aa 0 (some w::σ)=aA w:=rfl
theorem DX(i:Nat)(x:Option W)(σ:aP):aa (i+1) (x::σ)=aa i σ:=rfl
theorem yq(w:W)(σ:aP):eC w σ=aA w:=rfl
theorem EQ(i:Nat)(w:W)(σ:aP):gN i w σ=aA (σ.set i (some w)):=rfl
theorem fH(f:W->W->Po W)(a b:EM)(σ:aP):ae f a b σ=aw (a σ) fun x=>aw (b σ) fun y=>lift (f x y):=rfl
theorem DY(f:W->Po W)(a:EM)(σ:aP):ix f a σ=aw (a σ) fun x=>lift (f x):=rfl
theorem lN(m:EM)(σ:aP):eT m σ=aw (m σ) fun w=>lift (match w with
 | .bl b=>ret b
 | _=>d6):=rfl
theorem Dg(m:EM)(σ:aP):cb m σ=aw (m σ) fun w=>lift (n6 w):=rfl
theorem wZ(a b:TM)(σ:aP):df a b σ=aw (a σ) fun c=>if c=true then b σ else aA false:=rfl
theorem xu(a b:TM)(σ:aP):dc a b σ=aw (a σ) fun c=>if c=true then aA true else b σ:=rfl
theorem CD(a:TM)(σ:aP):c4 a σ=aw (a σ) fun c=>aA (!c):=rfl
theorem DZ(t:TM)(a b:EM)(σ:aP):i6 t a b σ=aw (t σ) fun c=>if c=true then a σ else b σ:=rfl
theorem nh(a b:SM)(σ:aP):aF a b σ=aw (a σ) fun f=>match f with
 | .nx ao=>b ao
 | f=>aA f:=rfl
theorem ug(t:TM)(a b:SM)(σ:aP):aT t a b σ=aw (t σ) fun c=>if c=true then a σ else b σ:=rfl
theorem t5(e:EM)(σ:aP):a8 e σ=aw (e σ) fun w=>aA (.rt w):=rfl
theorem CF(σ:aP):bA σ=aA (.nx σ):=rfl
theorem pE(e:EM)(σ:aP):cu e σ=aw (e σ) fun _=>aA (.nx σ):=rfl
theorem pK(e:EM)(g:GM)(σ:aP):aK e g σ=aw (e σ) fun w=>aw (g w σ) fun ao=>aA (.nx ao):=rfl
theorem w6(f:List W->Mo W)(a:AM)(σ:aP):aO f a σ=aw (a σ) f:=rfl
theorem wG(f:List W->Po W)(a:AM)(σ:aP):bS f a σ=aw (a σ) fun xs=>lift (f xs):=rfl
theorem t6(σ:aP):ai σ=aA []:=rfl
theorem tD(e:EM)(r:AM)(σ:aP):af e r σ=aw (e σ) fun w=>aw (r σ) fun ws=>aA (w::ws):=rfl
theorem Dh(a:AM)(σ:aP):a9 a σ=aw (a σ) fun ws=>lift (jA ws):=rfl
theorem jj(a:AM)(σ:aP):bg a σ=aw (a σ) fun ws=>lift (qr ws):=rfl
theorem D0(c:String)(m:EM)(σ:aP):dX c m σ=aw (m σ) fun w=>lift (fU c w):=rfl
theorem xv(a b:EM)(σ:aP):lR a b σ=aw (a σ) fun w=>match w with
 | .bl c=>if c=true then b σ else aA (.bl false)
 | _=>ee:=rfl
theorem D1(a b:EM)(σ:aP):vm a b σ=aw (a σ) fun w=>match w with
 | .bl c=>if c=true then aA (.bl true) else b σ
 | _=>ee:=rfl
theorem Di(a:EM)(σ:aP):qm a σ=aw (a σ) fun w=>match w with
 | .bl c=>aA (.bl (!c))
 | _=>ee:=rfl
theorem px(f f':W->W->Po W)(a b c:EM)(σ:aP):jl f f' a b c σ=aw (a σ) fun x=>aw (b σ) fun y=>aw (lift (f x y)) fun z=>match z with
 | .bl k=>if k=true then aw (c σ) fun u=>lift (f' y u) else aA (.bl false)
 | _=>ee:=rfl
theorem ka(ty:W->PH->Bool)(f:W->List W->Po W)(o:EM)(a:AM)(σ:aP):bG ty f o a σ=aw (o σ) fun x=>aw (lift (jB (ty x))) fun _=>aw (a σ) fun xs=>lift (f x xs):=rfl
theorem Dj(w:W):dH (.rt w)=aA w:=rfl
theorem Dk(σ:aP):dH (.nx σ)=aA .aC:=rfl
theorem fQ(b:SM)(n:Nat)(x:W):fM b n 1 [x]=aw (b (some x::aap (n-1) none)) dH:=rfl
theorem gP(b:SM)(n:Nat)(x y:W):fM b n 2 [x,y]=aw (b (some x::some y::aap (n-2) none)) dH:=rfl
theorem gn(b:SM)(n:Nat)(x y z:W):fM b n 3 [x,y,z]=aw (b (some x::some y::some z::aap (n-3) none)) dH:=rfl
theorem uT(b:SM)(n:Nat)(x y z u:W):fM b n 4 [x,y,z,u]=aw (b (some x::some y::some z::some u::aap (n-4) none)) dH:=rfl
theorem ER(i j:Int):lift (addW (.int i) (.int j))=aA (.int (i+j)):=rfl
theorem ES(i j:Int):lift (dJ (.int i) (.int j))=aA (.int (i-j)):=rfl
theorem ET(i:Int):lift (gL (.int i))=aA (.int (-i)):=rfl
variable{j:Int}
theorem yr{i:Int}(h:mulC i j=true):lift (n9 (.int i) (.int j))=aA (.int (i*j)):=by
 unfold n9;simp only[h,if_true];rfl
theorem Yj{i:Int}(h:j≠0):lift (aS (.int i) (.int j))=aA (.int (i.fmod j)):=by
 unfold aS nZ;simp only[ne_eq,h,not_false_eq_true,decide_true,if_true];rfl
theorem yt{i:Int}(h:j≠0)(h':j.natAbs<2 ^ 64):lift (aZ (.int i) (.int j))=aA (.int (i.fdiv j)):=by
 unfold aZ nZ;simp only[ne_eq,h,h',not_false_eq_true,decide_true,afp,if_true];rfl
theorem FO(i j:Int):lift (fi (.int i) (.int j))=aA (.bl (decide (i<j))):=rfl
theorem FP(i j:Int):lift (l7 (.int i) (.int j))=aA (.bl (decide (i<=j))):=rfl
theorem FQ(i j:Int):lift (l8 (.int i) (.int j))=aA (.bl (decide (j<i))):=rfl
theorem FR(i j:Int):lift (ZP (.int i) (.int j))=aA (.bl (decide (j<=i))):=rfl
theorem EU(i:Int):lift (ig [.int i])=aA (.int i):=rfl
theorem D2(b:Bool):lift (ig [.bl b])=aA (.int (if b then 1 else 0)):=rfl
theorem EV(i:Int):lift (Y0 [.int i])=aA (.int (if i<0 then -i else i)):=rfl
theorem EW(i j:Int):lift (X3 [.int i,.int j])=aA (.int (if j>i then j else i)):=rfl
theorem EX(i j:Int):lift (X4 [.int i,.int j])=aA (.int (if j<i then j else i)):=rfl
theorem FT(b:Bool):lift (match W.bl b with
 | .bl b=>ret b
 | _=>d6)=aA b:=rfl
theorem D3(b:Bool):lift (n6 (.bl b))=aA b:=rfl
theorem D4(i:Int):lift (n6 (.int i))=aA (i != 0):=rfl
theorem D5(ws:List W):lift (n6 (.tup ws))=aA (!ws.isEmpty):=rfl
theorem nP(i j:Int):lift (aN (.int i) (.int j))=aA (.bl (decide (i=j))):=by
 funext ph;unfold aN dE lift;simp only[dat];rfl
theorem uz(i j:Int):lift (cO (.int i) (.int j))=aA (.bl (!decide (i=j))):=by
 funext ph;unfold cO dE lift;simp only[dat];rfl
theorem so(s:String):adj (aaz s)=true:=by
 unfold adj;rw[ads];simp only[List.all_toArray,abA,abV,decide_eq_true_eq];rintro n ⟨c,_,rfl⟩;have h:=c.valid;simp only[UInt32.isValidChar,Nat.isValidChar] at h;show c.val.toNat<_;omega
theorem uh{a b:String}:aaz a=aaz b↔a=b:=by
 constructor
 ·intro h;rw[ads,ads] at h;have h:=congrArg afz (Str.mk.inj h);simp only[List.toList_toArray] at h;have mi:∀l l':List Char,l.map Char.toNat=l'.map Char.toNat->l=l':=by
   intro l
   induction l with
   | nil=>intro l' h;cases l' with
    | nil=>rfl
    | cons _ _=>cases h
   | cons x l ih=>intro l' h;cases l' with
    | nil=>cases h
    | cons y l'=>
     have:=afo h;rw[ih l' this.2,Char.ext (UInt32.toNat_inj.mp this.1)]
  have q:a.toList=b.toList:=mi _ _ h;exact String.toList_inj.mp q
 ·intro h;rw[h]
theorem Yk{a b:Str}(ha:adj a=true)(hb:adj b=true):lift (aN (.str a) (.str b))=aA (.bl (decide (a=b))):=by
 funext ph;unfold aN dE lift;simp only[dat,ha,hb,if_true];rfl
theorem Yl{a b:Str}(ha:adj a=true)(hb:adj b=true):lift (cO (.str a) (.str b))=aA (.bl (!decide (a=b))):=by
 funext ph;unfold cO dE lift;simp only[dat,ha,hb,if_true];rfl
theorem EY(a b:String):lift (aN (.str (aaz a)) (.str (aaz b)))=aA (.bl (decide (a=b))):=by
 rw[Yk (so a) (so b)];simp only[uh]
theorem EZ(a b:String):lift (cO (.str (aaz a)) (.str (aaz b)))=aA (.bl (!decide (a=b))):=by
 rw[Yl (so a) (so b)];simp only[uh]
theorem E2(a b:Bool):lift (cO (.bl a) (.bl b))=aA (.bl (!(a==b))):=by
 funext ph;unfold cO dE lift;simp only[dat];rfl
theorem qB(c:String)(w:W)(t:String)(h:∀ph,p3 w ph=some t):lift (fU c w)=aA (.bl (dC t c)):=by
 funext ph;unfold lift fU;rw[h];rfl
theorem om(c:String)(i:Int):lift (fU c (.int i))=aA (.bl (dC "int" c)):=qB _ _ _ fun _=>rfl
theorem uU(c:String)(b:Bool):lift (fU c (.bl b))=aA (.bl (dC "bool" c)):=qB _ _ _ fun _=>rfl
theorem uV(c:String):lift (fU c .aC)=aA (.bl (dC "NoneType" c)):=qB _ _ _ fun _=>rfl
theorem uW(c:String)(x:Str):lift (fU c (.str x))=aA (.bl (dC "str" c)):=qB _ _ _ fun _=>rfl
theorem uX(c:String)(ws:List W):lift (fU c (.tup ws))=aA (.bl (dC "tuple" c)):=qB _ _ _ fun _=>rfl
theorem ui{c:String}(h:ph[i]? =some (.lst ws)):lift (fU c (.ref i)) ph=.ok (.bl (dC "list" c)) ph:=by
 unfold lift fU p3;simp only[h]
theorem FU:dC "int" "int"=true:=by decide +kernel
theorem FV:dC "int" "bool"=false:=by decide +kernel
theorem FX:dC "bool" "int"=true:=by decide +kernel
theorem FY:dC "bool" "bool"=true:=by decide +kernel
theorem FZ:dC "NoneType" "int"=false:=by decide +kernel
theorem F0:dC "str" "int"=false:=by decide +kernel
theorem F1:dC "list" "int"=false:=by decide +kernel
theorem F2:dC "list" "list"=true:=by decide +kernel
theorem F3:dC "tuple" "tuple"=true:=by decide +kernel
theorem D6:lift (jA [])=aA (.tup []):=rfl
theorem D7(a:W):lift (jA [a])=aA (.tup [a]):=rfl
theorem D8(a b:W):lift (jA [a,b])=aA (.tup [a,b]):=rfl
theorem D9(a b c:W):lift (jA [a,b,c])=aA (.tup [a,b,c]):=rfl
theorem Ea(a b c d:W):lift (jA [a,b,c,d])=aA (.tup [a,b,c,d]):=rfl
theorem Eb(a b c d e:W):lift (jA [a,b,c,d,e])=aA (.tup [a,b,c,d,e]):=rfl
theorem E3(a:W)(l:List W):lift (dD (.tup (a::l)) (.int 0))=aA a:=by
 funext ph;unfold lift dD cH gp;simp[cy,aA]
theorem E4(a b:W)(l:List W):lift (dD (.tup (a::b::l)) (.int 1))=aA b:=by
 funext ph;unfold lift dD cH gp;simp[cy,aA];rw[if_pos (by omega)];simp
theorem E5(a b c:W)(l:List W):lift (dD (.tup (a::b::c::l)) (.int 2))=aA c:=by
 funext ph;unfold lift dD cH gp;simp[cy,aA];rw[if_pos (by omega)];simp
theorem E6(a b c d:W)(l:List W):lift (dD (.tup (a::b::c::d::l)) (.int 3))=aA d:=by
 funext ph;unfold lift dD cH gp;simp[cy,aA];rw[if_pos (by omega)];simp
theorem E7(a b c d e:W)(l:List W):lift (dD (.tup (a::b::c::d::e::l)) (.int 4))=aA e:=by
 funext ph;unfold lift dD cH gp;simp[cy,aA];rw[if_pos (by omega)];simp
noncomputable def nQ:W->Bool
 | .aC=>true
 | _=>false
theorem Ec(w:W):lift (EF w .aC)=aA (.bl (!nQ w)):=by
 unfold EF;cases w <;> rfl
theorem E8(w:W):lift (lS w .aC)=aA (.bl (nQ w)):=by
 unfold lS;cases w <;> rfl
theorem Dm(i:Int):nQ (.int i)=false:=rfl
theorem Do:nQ .aC=true:=rfl
theorem Dp(ws:List W):nQ (.tup ws)=false:=rfl
theorem Dq(i:Nat):nQ (.ref i)=false:=rfl
noncomputable def Ex(ph ph':PH):Prop:=∃m,ph'=ph++m
theorem Ex.refl(ph:PH):Ex ph ph:=⟨[],by simp⟩
theorem Ex.trans{a b c:PH}(h:Ex a b)(h':Ex b c):Ex a c:=by
 obtain⟨m,rfl⟩:=h;obtain⟨m',rfl⟩:=h';exact⟨m++m',by simp⟩
theorem Ex.one(ph:PH)(o:PO):Ex ph (ph++[o]):=⟨[o],rfl⟩
theorem Ex.get{a b:PH}(h:Ex a b){o:PO}(e:a[i]? =some o):b[i]? =some o:=by
 obtain⟨m,rfl⟩:=h;rw[aaS (aal.mp e).1];exact e
theorem bN(ph:PH)(o:PO):(ph++[o])[ph.length]? =some o:=by simp
theorem small(h:n<=1000000):n<=sizeLine:=abe h (by decide)
section
variable{β:Type}{ph:PH}{i:Nat}{ws:List W}
theorem nD(ws:List W)(ph:PH)(h:ws.length<=aaD):lift (qr ws) ph=.ok (.ref ph.length) (ph++[.lst ws]):=by
 unfold lift qr;rw[if_pos h]
theorem WB(h:ph[i]? =some (.lst ws)){k:Int}{w:W}(hk:cH ws k=some w):lift (dD (.ref i) (.int k)) ph=.ok w ph:=by
 unfold lift dD;simp only[cy,h,abJ,hk,abq]
theorem t7(h:ph[i]? =some (.lst ws)):lift (fg [.ref i]) ph=.ok (.int ws.length) ph:=by
 unfold lift fg;simp only[cy,h,abq]
theorem xw(h:ph[i]? =some (.lst ws)):b8 (.ref i) ph=true:=by unfold b8;simp only[h]
theorem t8(h:ph[i]? =some (.lst ws)):lift (jB (b8 (.ref i))) ph=.ok () ph:=by
 unfold lift jB;rw[if_pos (xw h)]
theorem sH(h:ph[i]? =some (.lst ws))(hz:ws.length<aaD)(w:W):lift (cF (.ref i) [w]) ph=.ok .aC (ph.set i (.lst (ws++[w]))):=by
 unfold lift cF;simp only[h,hz,if_true]
theorem Sy(h:ph[i]? =some (.lst ws)):lift (nM [.ref i]) ph=.ok (.ref ph.length) (ph++[.lst ws]):=by
 unfold lift nM;simp only[cy,h]
theorem ly{j:Nat}{us:List W}(h:ph[i]? =some (.lst ws))(h':ph[j]? =some (.lst us))(hz:ws.length+us.length<=aaD):lift (addW (.ref i) (.ref j)) ph=.ok (.ref ph.length) (ph++[.lst (ws++us)]):=by
 unfold lift addW;simp only[h,h',hz,if_true]
end
theorem mP(a b:Int)(h:0<b):0<=a.fmod b/\a.fmod b<b:=by
 rw[Int.fmod_eq_emod_of_nonneg _ (by omega)];exact⟨Int.emod_nonneg _ (by omega),Int.emod_lt_of_pos _ h⟩
theorem gc(ws:List α)(k:Nat)(h:k<ws.length):cH ws (k:Int)=ws[k]? :=by
 unfold cH gp;rw[if_pos (by omega),if_pos (by omega)];rfl
theorem Zh(ws:List W):lift (fg [.fl ws])=aA (.int ws.length):=by funext ph;rfl
theorem ixF{i:Int}{w:W}(h:cH ws i=some w):lift (dD (.fl ws) (.int i))=aA w:=by
 funext ph;unfold lift dD;simp only[cy,abJ,h,abq];rfl
theorem w8{chk:PH->Bool}{g:GM}{b:SM}(R:W->PH->Prop)(I:Nat->aP->PH->Prop):∀(items:List W) (k:Nat) (σ:aP) (ph:PH),
  (∀j σ ph,I j σ ph->chk ph=true) →
  (∀j x σ ph,items[j]? =some x->I (k+j) σ ph->∃σ1 ph1,g x σ ph=.ok σ1 ph1/\∃f ph2,b σ1 ph1=.ok f ph2/\((∃cq,(f=.nx cq\/f=.ct cq)/\I (k+j+1) cq ph2)\/∃w,f=.rt w/\R w ph2)) →
  I k σ ph->(∃ao ph',dB chk g b items σ ph=.ok (.nx ao) ph'/\I (k+items.length) ao ph')\/∃w ph',dB chk g b items σ ph=.ok (.rt w) ph'/\R w ph'
 | [],k,σ,ph,hc,hs,h0=>by
  refine .inl ⟨σ,ph,?_,h0⟩;unfold dB;rw[if_pos (hc _ _ _ h0)]
 | x::xs,k,σ,ph,hc,hs,h0=>by
  obtain⟨σ1,ph1,e1,f,ph2,e2,h⟩:=hs 0 x σ ph rfl h0;have e:dB chk g b (x::xs) σ ph=(match f with
   | .nx ao=>dB chk g b xs ao
   | .ct ao=>dB chk g b xs ao
   | .bk ao=>aA (.nx ao)
   | .rt w=>aA (.rt w)) ph2:=by
   conv=>lhs;unfold dB
   rw[if_pos (hc _ _ _ h0),cs e1,cs e2]
   all_goals (cases f <;> rfl)
  rcases h with⟨cq,hf,hI⟩ | ⟨w,rfl,hR⟩
  ·have e:dB chk g b (x::xs) σ ph=dB chk g b xs cq ph2:=by
    rcases hf with rfl | rfl <;> exact e
   rw[e];have ih:=w8 R I xs (k+1) cq ph2 hc (fun j y σ ph hj hI=>by
    have:=hs (j+1) y σ ph (by simpa using hj) (by rw[show k+(j+1)=k+1+j by omega];exact hI);rw[show k+(j+1)+1=k+1+j+1 by omega] at this;exact this) hI
   rw[show k+1+xs.length=k+(x::xs).length by simp;omega] at ih;exact ih
  ·exact .inr ⟨w,ph2,e,hR⟩
theorem CG{chk:PH->Bool}{g:GM}{b:SM}(I:Nat->aP->PH->Prop)(items:List W)(σ:aP)(ph:PH)
  (hc:∀j σ ph,I j σ ph->chk ph=true)
  (hs:∀j x σ ph,items[j]? =some x->I j σ ph->∃σ1 ph1,g x σ ph=.ok σ1 ph1/\∃f ph2,b σ1 ph1=.ok f ph2/\∃cq,(f=.nx cq\/f=.ct cq)/\I (j+1) cq ph2)
  (h0:I 0 σ ph):∃ao ph',dB chk g b items σ ph=.ok (.nx ao) ph'/\I items.length ao ph':=by
 have:=w8 (fun _ _=>False) I items 0 σ ph hc (fun j x σ ph hj hI=>by
  rw[acw] at hI ⊢;obtain⟨σ1,ph1,e1,f,ph2,e2,h⟩:=hs j x σ ph hj hI;exact⟨σ1,ph1,e1,f,ph2,e2,.inl h⟩) h0
 rw[acw] at this
 rcases this with h | ⟨_,_,_,h⟩
 ·exact h
 ·exact h.elim
theorem wH{chk:PH->Bool}{g:GM}{c:TM}{e:EM}(L:Nat)(I:Nat->List W->aP->PH->Prop):∀(items:List W) (k:Nat) (acc:List W) (σ:aP) (ph:PH),
  (∀j acc σ ph,I j acc σ ph->chk ph=true) →
  (∀j x acc σ ph,items[j]? =some x->I (k+j) acc σ ph->∃σ1 ph1,g x σ ph=.ok σ1 ph1/\∃t ph2,c σ1 ph1=.ok t ph2/\((t=false/\I (k+j+1) acc σ1 ph2)\/(t=true/\∃w dW,e σ1 ph2=.ok w dW/\dW[L]? =some (.lst acc)/\acc.length<aaD/\I (k+j+1) (acc++[w]) σ1 (dW.set L (.lst (acc++[w])))))) →
  I k acc σ ph->∃qC ao ph',dz chk g c e L items σ ph=.ok () ph'/\I (k+items.length) qC ao ph'
 | [],k,acc,σ,ph,hc,hs,h0=>by
  refine⟨acc,σ,ph,?_,h0⟩;unfold dz;rw[if_pos (hc _ _ _ _ h0)]
 | x::xs,k,acc,σ,ph,hc,hs,h0=>by
  obtain⟨σ1,ph1,e1,t,ph2,e2,h⟩:=hs 0 x acc σ ph rfl h0;have next:∀y9 kO,I (k+1) y9 σ1 kO->∃qC ao ph',dz chk g c e L xs σ1 kO=.ok () ph'/\I (k+(x::xs).length) qC ao ph':=fun y9 kO hI=>by
   have ih:=wH L I xs (k+1) y9 σ1 kO hc (fun j y acc σ ph hj hI=>by
    have:=hs (j+1) y acc σ ph (by simpa using hj) (by rw[show k+(j+1)=k+1+j by omega];exact hI);rw[show k+(j+1)+1=k+1+j+1 by omega] at this;exact this) hI
   rw[show k+1+xs.length=k+(x::xs).length by simp;omega] at ih;exact ih
  have n1:eK (g x σ) ph=.ok σ1 ph1:=by unfold eK;rw[e1]
  have n2:eK (c σ1) ph1=.ok t ph2:=by unfold eK;rw[e2]
  rcases h with⟨rfl,hI⟩ | ⟨rfl,w,dW,e3,hL,hz,hI⟩
  ·have e:dz chk g c e L (x::xs) σ ph=dz chk g c e L xs σ1 ph2:=by
    conv=>lhs;unfold dz
    rw[if_pos (hc _ _ _ _ h0),cs n1,cs n2];rfl
   rw[e];exact next _ _ hI
  ·have n3:eK (e σ1) ph2=.ok w dW:=by unfold eK;rw[e3]
   have e:dz chk g c e L (x::xs) σ ph=dz chk g c e L xs σ1 (dW.set L (.lst (acc++[w]))):=by
    conv=>lhs;unfold dz
    rw[if_pos (hc _ _ _ _ h0),cs n1,cs n2];show aw (eK (e σ1)) _ ph2=_;rw[cs n3];exact cs (sH hL hz w)
   rw[e];exact next _ _ hI
theorem CH(im:IM)(cap:List (Option Nat))(g:GM)(c:TM)(e:EM)(σ:aP):dO im cap g c e σ=aw (im σ) fun r ph=>aw (dz r.2 g c e ph.length r.1 (gM cap σ)) (fun _=>aA (.ref ph.length)) (ph++[.lst []]):=rfl
theorem Uj(ph m:PH)(o o':PO):(ph++[o]++m).set ph.length o'=ph++[o']++m:=by
 rw[acs,adB _ _ (aar _)];simp
variable{σ:aP}
theorem xa(as:List α)(h:α->W){im:IM}{cap:List (Option Nat)}{g:GM}{c:TM}{e:EM}{ph0:PH}{chk:PH->Bool}(z5:im σ ph0=.ok (as.map h,chk) ph)(z6:∀ph',Ex ph ph'->chk ph'=true)(hz:as.length<=aaD)
  (F:α->Option W) (S:aP->Prop) (h0:S (gM cap σ))
  (step:∀x∈as,∀σ H,S σ->Ex ph H->∃σ1,g (h x) σ H=.ok σ1 H/\S σ1/\∃t H1,c σ1 H=.ok t H1/\Ex H H1/\((t=false/\F x=none)\/(t=true/\∃w H2,e σ1 H1=.ok w H2/\Ex H1 H2/\F x=some w))) :
  ∃ph',dO im cap g c e σ ph0=.ok (.ref ph.length) ph'/\Ex (ph++[.lst (as.filterMap F)]) ph':=by
 rw[CH,cs z5];have key:=wH (chk:=chk) (g:=g) (c:=c) (e:=e) ph.length (fun k acc σ H=>S σ/\acc=(as.take k).filterMap F/\Ex (ph++[.lst acc]) H) (as.map h) 0 [] (gM cap σ) (ph++[.lst []])
  (fun j acc σ H hI=>z6 _ ((Ex.one _ _).trans hI.2.2))
  (fun j y acc σ H hj hI=>by
   rw[acw] at hI ⊢;obtain⟨hS,ha,hE⟩:=hI;rw[aaN] at hj;cases hx:as[j]? with
   | none=>rw[hx] at hj;cases hj
   | some x=>
    rw[hx] at hj;cases hj;have tk:(as.take (j+1)).filterMap F=acc++(F x).toList:=by
     rw[List.take_add_one,hx,List.filterMap_append,ha];cases hF:F x <;> simp[hF]
    obtain⟨σ1,e1,l0,t,H1,e2,x2,h⟩:=step x (aaW hx) σ H hS ((Ex.one _ _).trans hE);refine⟨σ1,H,e1,t,H1,e2,?_⟩
    rcases h with⟨rfl,hF⟩ | ⟨rfl,w,H2,e3,x3,hF⟩
    ·exact .inl ⟨rfl,l0,by rw[tk,hF];simp,hE.trans x2⟩
    ·have x4:=(hE.trans x2).trans x3;refine .inr ⟨rfl,w,H2,e3,x4.get (bN _ _),?_,l0,by rw[tk,hF];rfl,?_⟩
     ·have hl:acc.length<=j:=by
       rw[ha];exact abe (List.length_filterMap_le _ _) (by simp;omega)
      have:=(aal.mp hx).1;omega
     ·obtain⟨m,rfl⟩:=x4;rw[Uj];exact⟨m,rfl⟩)
  ⟨h0,by simp,Ex.refl _⟩
 obtain⟨acc,ao,ph',e1,_,ha,hE⟩:=key;refine⟨ph',?_,?_⟩
 ·show aw (dz chk g c e ph.length (as.map h) (gM cap σ)) _ _=_;rw[cs e1];rfl
 ·rw[acw,aat,List.take_length] at ha;rw[<- ha];exact hE
theorem Uk{α β:Type}(f:α->β):∀l:List α,l.filterMap (fun a=>some (f a))=l.map f
 | []=>rfl
 | a::l=>by
  rw[List.filterMap_cons_some (f:=fun a=>some (f a)) (b:=f a) rfl,Uk f l];rfl
theorem sT(h:m σ ph=.ok (.ref i) ph')(hi:ph'[i]? =some (.lst ws)):gF m σ ph=.ok (ws,fun p=>decide (p[i]? =some (.lst ws))) ph':=by
 unfold gF;rw[cs h];unfold lift ux qp;simp only[hi]
theorem pT{m:AM}(h:m σ ph=.ok [.int j] ph')(h1: -(2 ^ 62)<=j)(h2:j<2 ^ 62):eP m σ ph=.ok (eJ 0 j.toNat,fun _=>true) ph':=by
 unfold eP;rw[cs h];unfold lift yP;simp only[h1,h2,and_self,if_true]
theorem Sz{lo:Int}{k:Nat}{w:W}(h:(eJ lo n)[k]? =some w):k<n/\w=.int (lo+(k:Int)):=by
 unfold eJ at h;rw[aaN] at h;cases q:(abX n)[k]? with
 | none=>rw[q] at h;cases h
 | some j=>
  rw[q] at h;obtain⟨hi,e⟩:=aal.mp q;rw[List.getElem_range] at e;subst e;rw[acW] at hi;cases h;exact⟨hi,rfl⟩
theorem xb(lo:Int)(n:Nat):(eJ lo n).length=n:=by unfold eJ;simp
theorem Ed{ds:List acT}{d:acT}(h1:bI (dat ph 40) ws=some ds)(h2:dat ph 40 x=some d):lift (i8 x (.tup ws)) ph=.ok (.bl (ds.any fun e=>aaV e d)) ph:=by
 unfold lift i8 inD;simp only[cy,h1,h2,abq]
theorem yu(a b:Str):aaV (.str a) (.str b)=decide (a=b):=by
 unfold aaV;rfl
theorem E9(a b:Int):aaV (.int a) (.int b)=decide (a=b):=by
 unfold aaV;rfl
theorem WC(a b c d:acT):aaV (.tuple [a,b]) (.tuple [c,d])=(aaV a c&&aaV b d):=by
 simp only[aaV,acX,Bool.and_true]
theorem ji{α β γ:Type}(f:β->Option γ)(g:α->β)(h:α->γ)(hf:∀a,f (g a)=some (h a)):∀l:List α,bI f (l.map g)=some (l.map h)
 | []=>rfl
 | a::l=>by
  show bI f (g a::l.map g)=_;unfold bI;rw[hf a,ji f g h hf l];rfl
theorem Dr(x:String)(ss:List String):lift (i8 (.str (aaz x)) (.tup (ss.map fun s=>.str (aaz s))))=aA (.bl (ss.any fun s=>decide (s=x))):=by
 funext ph
 rw[Ed (ji _ _ (fun s=>PyData.str (aaz s)) (fun s=>by simp only[dat,so,if_true]) ss) (d:=.str (aaz x)) (by simp only[dat,so,if_true])];rw[List.any_map];simp only[afx,yu,uh];rfl
theorem Fb(x a b:String):lift (i8 (.str (aaz x)) (.tup [.str (aaz a),.str (aaz b)]))=aA (.bl (decide (a=x)||decide (b=x))):=by
 have:=Dr x [a,b];simp only[aaM,aea,abH,List.any_nil,afn] at this;exact this
theorem Fc(x a b c:String):lift (i8 (.str (aaz x)) (.tup [.str (aaz a),.str (aaz b),.str (aaz c)]))=aA (.bl (decide (a=x)||(decide (b=x)||decide (c=x)))):=by
 have:=Dr x [a,b,c];simp only[aaM,aea,abH,List.any_nil,afn] at this;exact this
theorem Ds{bs:List Bool}(h:ph[i]? =some (.lst (bs.map W.bl))):lift (kE [.ref i]) ph=.ok (.bl (bs.all id)) ph:=by
 unfold lift kE og;simp only[xw h,if_true,cy,h,abJ,ji vC W.bl id (fun _=>rfl),abq,List.map_id_fun,id]
theorem Fd(ws:List W)(y:W):ak (.tup ws) y=dD (.tup ws) y:=rfl
theorem Fe(ws:List W)(y:W):ak (.fl ws) y=dD (.fl ws) y:=rfl
theorem Ff(x:Str)(y:W):ak (.str x) y=dD (.str x) y:=rfl
theorem Fg(x:W)(ws:List W):mj x (.tup ws)=i8 x (.tup ws):=rfl
theorem Fh(x:W)(ws:List W):mj x (.fl ws)=i8 x (.fl ws):=rfl
theorem Ee(x:W)(ws:List W):Zd x (.tup ws)=FI x (.tup ws):=rfl
theorem xR(i:Int)(y:W):b0 (.int i) y=n9 (.int i) y:=by
 funext ph;unfold b0;cases y <;> rfl
theorem xc(o i:EM)(v:W)(σ:aP):iS o i v σ=aw (o σ) fun ow=>aw (i σ) fun iw=>aw (lift (qx ow iw v)) fun _=>aA σ:=rfl
section
variable{ph:PH}{i:Nat}{ws:List W}{kws:List (W×W)}
theorem Fi(h:ph[i]? =some (.lst ws)):eD (.ref i) ph=none:=by unfold eD;simp only[h]
theorem yv(h:ph[i]? =some (.bE kws)):eD (.ref i) ph=some (i,kws):=by unfold eD;simp only[h]
theorem fE(h:ph[i]? =some (.lst ws)){k:Int}{w:W}(hk:cH ws k=some w):lift (ak (.ref i) (.int k)) ph=.ok w ph:=by
 have:=WB h hk;unfold lift at this ⊢;unfold ak;rw[Fi h];exact this
theorem SA(h:ph[i]? =some (.bE kws)){k:W}(hk:fK kws k=true)(hz:kws.length<aaD)(v:W):lift (qx (.ref i) k v) ph=.ok () (ph.set i (.bE (cK kws k v))):=by
 unfold lift qx;simp only[yv h,hk,hz,and_self,if_true]
theorem CI(h:ph[i]? =some (.lst ws)){k:Int}(h1: -(2 ^ 63)<=k)(h2:k<2 ^ 63)(hz:ws.length*k.toNat<=aaD):lift (b0 (.ref i) (.int k)) ph=.ok (.ref ph.length) (ph++[.lst (aap k.toNat ws).flatten]):=by
 unfold lift b0;simp only[h,h1,h2,hz,and_self,if_true]
end
theorem Dt(σ:aP):uP σ=lift newD:=rfl
theorem CJ(kws:List (W×W))(k j v:W):bQ (cK kws k v) j=if j=k then some v else bQ kws j:=by
 have uQ:∀l:List (W×W),(l.any fun p=>decide (p.1=k))=(bQ l k).isSome:=by
  intro l
  induction l with
  | nil=>rfl
  | cons p l ih=>
   rw[abH];unfold bQ;rw[abi];by_cases h:p.1=k
   ·simp[h]
   ·simp only[decide_eq_false h,Bool.false_or];exact ih
 unfold cK;by_cases h:(kws.any fun p=>decide (p.1=k))=true
 ·rw[if_pos h];rw[uQ] at h;have key:∀l:List (W×W),bQ (l.map fun p=>if p.1=k then(p.1,v) else p) j=(bQ l j).map fun x=>if j=k then v else x:=by
   intro l
   induction l with
   | nil=>rfl
   | cons p l ih=>
    unfold bQ;rw[aaM,abi,abi];by_cases hp:p.1=k
    ·rw[if_pos hp];by_cases hj:p.1=j
     ·simp[hj,<- hp]
     ·simp only[decide_eq_false hj];exact ih
    ·rw[if_neg hp];by_cases hj:p.1=j
     ·simp only[decide_eq_true hj,abq];rw[if_neg (fun z=>hp (hj.trans z))]
     ·simp only[decide_eq_false hj];exact ih
  rw[key];by_cases hj:j=k
  ·subst hj;rw[if_pos rfl];obtain⟨x,hx⟩:=abf.mp h;rw[hx];simp
  ·rw[if_neg hj];cases bQ kws j <;> simp[hj]
 ·rw[if_neg h];rw[uQ] at h;have key:∀l:List (W×W),bQ l k=none->bQ (l++[(k,v)]) j=if j=k then some v else bQ l j:=by
   intro l
   induction l with
   | nil=>
    intro _;unfold bQ;by_cases hj:k=j
    ·simp[hj]
    ·rw[if_neg (fun z=>hj z.symm)];simp[hj]
   | cons p l ih=>
    intro hn;have Ha:¬p.1=k:=fun z=>by
     unfold bQ at hn;rw[abi] at hn;simp[z] at hn
    have jK:bQ l k=none:=by
     unfold bQ at hn;rw[abi] at hn;simp only[decide_eq_false Ha] at hn;exact hn
    unfold bQ;rw[List.cons_append,abi,abi];by_cases hj:p.1=j
    ·simp only[decide_eq_true hj,abq];rw[if_neg (fun z=>Ha (hj.trans z))]
    ·simp only[decide_eq_false hj];exact ih jK
  refine key kws ?_;cases q:bQ kws k with
  | none=>rfl
  | some x=>rw[q] at h;exact(h rfl).elim
theorem uY(b:SM)(n:Nat)(x y z u v:W):fM b n 5 [x,y,z,u,v]=aw (b (some x::some y::some z::some u::some v::aap (n-5) none)) dH:=rfl
theorem F4(b:SM)(n:Nat)(x y z u v w:W):fM b n 6 [x,y,z,u,v,w]=aw (b (some x::some y::some z::some u::some v::some w::aap (n-6) none)) dH:=rfl
theorem xf{t:TM}{b:SM}:∀(n:Nat) (σ:aP) (ph:PH),(cY t b n σ ph).n8=false->cY t b (n+1) σ ph=cY t b n σ ph
 | 0,σ,ph,h=>by cases h
 | n+1,σ,ph,h=>by
  have h':(aw (t σ) (fun c=>if c=true then aw (b σ) fun f=>match f with
   | .nx ao=>cY t b n ao
   | .ct ao=>cY t b n ao
   | .bk ao=>aA (.nx ao)
   | .rt w=>aA (.rt w)
   else aA (.nx σ)) ph).n8=false:=h
  show aw (t σ) (fun c=>if c=true then aw (b σ) fun f=>match f with
   | .nx ao=>cY t b (n+1) ao
   | .ct ao=>cY t b (n+1) ao
   | .bk ao=>aA (.nx ao)
   | .rt w=>aA (.rt w)
   else aA (.nx σ)) ph=aw (t σ) (fun c=>if c=true then aw (b σ) fun f=>match f with
   | .nx ao=>cY t b n ao
   | .ct ao=>cY t b n ao
   | .bk ao=>aA (.nx ao)
   | .rt w=>aA (.rt w)
   else aA (.nx σ)) ph
  cases e1:t σ ph with
  | no=>unfold aw;rw[e1]
  | ex x p=>unfold aw;rw[e1]
  | ok c p=>
   rw[cs e1] at h' ⊢;rw[cs e1];cases c with
   | false=>rfl
   | true=>
    simp only[if_true] at h' ⊢;cases e2:b σ p with
    | no=>unfold aw;rw[e2]
    | ex x q=>unfold aw;rw[e2]
    | ok f q=>
     rw[cs e2] at h' ⊢;rw[cs e2];cases f with
     | nx ao=>exact xf n ao q h'
     | ct ao=>exact xf n ao q h'
     | bk ao=>rfl
     | rt w=>rfl
theorem Ef{t:TM}{b:SM}{m:Nat}(hm:n<=m)(h:(cY t b n σ ph).n8=false):cY t b m σ ph=cY t b n σ ph:=by
 induction m with
 | zero=>
  have:n=0:=by omega
  rw[this]
 | succ m ih=>
  by_cases e:n=m+1
  ·rw[e]
  ·have:=ih (by omega);rw[xf m σ ph (by rw[this];exact h),this]
theorem c0(ph:PH)(n:Nat)(i:Int):dat ph n (.int i)=some (.int i):=by cases n <;> rfl
theorem Be:∀ds:List acT,(∀d∈ds,aaV d d=true)->acX ds ds=true
 | [],_=>by unfold acX;rfl
 | d::ds,h=>by
  simp only[acX,h d (by simp),Be ds (fun e he=>h e (by simp[he])),afp]
theorem CK{α β:Type}{f:α->Option β}:∀{l:List α} {m:List β},bI f l=some m->∀b∈m,∃a∈l,f a=some b
 | [],m,h,b,hb=>by cases h;cases hb
 | a::l,m,h,b,hb=>by
  unfold bI at h;split at h
  ·rename_i b' m' e1 e2;cases h
   rcases abo.mp hb with rfl | hb
   ·exact⟨a,by simp,e1⟩
   ·obtain⟨c,hc,e⟩:=CK e2 b hb;exact⟨c,by simp[hc],e⟩
  ·cases h
theorem SD:∀(n:Nat) (w:W) (d:acT),dat ph n w=some d->aaV d d=true:=by
 intro n
 induction n with
 | zero=>
  intro w d h;cases w <;> simp only[dat] at h <;> first | (cases h;simp[aaV];done) | skip
  ·split at h
   ·cases h;simp[aaV]
   ·cases h
  all_goals cases h
 | succ n ih=>
  have key:∀(ws:List W) (ds:List acT),bI (dat ph n) ws=some ds->acX ds ds=true:=fun ws ds h=>
   Be ds fun d hd=>let ⟨w,_,e⟩:=CK h d hd;ih w d e
  intro w d h;cases w with
  | aC=>cases h;simp[aaV]
  | bl b=>cases h;simp[aaV]
  | int i=>cases h;simp[aaV]
  | str x=>
   simp only[dat] at h;split at h
   ·cases h;simp[aaV]
   ·cases h
  | tup ws=>
   simp only[dat] at h;cases q:bI (dat ph n) ws with
   | none=>rw[q] at h;cases h
   | some ds=>rw[q] at h;cases h;simp only[aaV,key ws ds q]
  | fl ws=>
   simp only[dat] at h;cases q:bI (dat ph n) ws with
   | none=>rw[q] at h;cases h
   | some ds=>rw[q] at h;cases h;simp only[aaV,key ws ds q]
  | ref i=>
   simp only[dat] at h;split at h
   ·rename_i ws hw;cases q:bI (dat ph n) ws with
    | none=>rw[q] at h;cases h
    | some ds=>rw[q] at h;cases h;simp only[aaV,key ws ds q]
   ·cases h
  | exc c ns ws=>simp only[dat] at h;cases h
  | fn x ws=>simp only[dat] at h;cases h
theorem Ym(h:dE ph x y=some b):lift (aN x y) ph=.ok (.bl b) ph:=by
 unfold lift aN;simp only[h,abq]
theorem uB(h:dE ph x y=some b):lift (cO x y) ph=.ok (.bl (!b)) ph:=by
 unfold lift cO;simp only[h,abq]
theorem Du{α β:Type}{f:α->Option β}:∀l:List α,(∀a∈l,∃b,f a=some b)->∃m,bI f l=some m
 | [],_=>⟨[],rfl⟩
 | a::l,h=>by
  obtain⟨b,e⟩:=h a (by simp);obtain⟨m,e'⟩:=Du l fun c hc=>h c (by simp[hc])
  exact⟨b::m,by unfold bI;rw[e,e']⟩
theorem uj{d:acT}(h1:dat ph 40 x=some d)(h2:dat ph 40 y=some d):dE ph x y=some true:=by
 unfold dE;rw[h1,h2];simp only[SD 40 _ _ h1]
theorem eq_nil{j:Nat}{ds:List acT}(hi:ph[i]? =some (.lst ws))(hj:ph[j]? =some (.lst []))(hd:bI (dat ph 39) ws=some ds):dE ph (.ref i) (.ref j)=some ws.isEmpty:=by
 unfold dE;have e1:dat ph 40 (.ref i)=some (.list ds):=by simp only[dat,hi,hd,abq]
 have e2:dat ph 40 (.ref j)=some (.list []):=by simp only[dat,hj,bI,abq]
 rw[e1,e2];cases ws with
 | nil=>cases hd;simp[aaV,acX]
 | cons w ws=>
  unfold bI at hd;split at hd
  ·cases hd;simp[aaV,acX]
  ·cases hd
section
variable{ph:PH}{i:Nat}{c f:Str}{fs:List (Str×W)}{w y:W}{kws:List (W×W)}
theorem Dv(h:ph[i]? =some (.obj c fs))(hl:fs.lookup f=some w):lift (oh c f (.ref i)) ph=.ok w ph:=by
 unfold lift oh;simp only[h,hl];rfl
theorem Dw(h:ph[i]? =some (.obj c fs))(hz:fs.length<1000):lift (oi c f (.ref i) y) ph=.ok () (ph.set i (.obj c (iT f y fs))):=by
 unfold lift oi;simp only[h];rw[if_pos ⟨trivial,hz⟩]
theorem Ul(h:ph[i]? =some (.bE kws)):lift (jB (d7 (.ref i))) ph=.ok () ph:=by
 unfold lift jB d7;rw[yv h];rfl
theorem Um(h:ph[i]? =some (.bE kws)){k z:W}(hk:fK kws k=true):lift (d8 (.ref i) [k,z]) ph=.ok ((bQ kws k).getD z) ph:=by
 unfold lift d8;simp only[yv h,hk,if_true]
end
theorem PL{j:Nat}(x:String)(ss:List String)(h:ph[i]? =some (.lst (ss.map fun s=>.str (aaz s))))(hj:ss.findIdx? (fun s=>decide (s=x))=some j):lift (nC (.ref i) [.str (aaz x)]) ph=.ok (.int j) ph:=by
 have e1:cy (.ref i) ph=some (ss.map fun s=>W.str (aaz s)):=by unfold cy;simp only[h]
 have e2:bI (dat ph 40) (ss.map fun s=>W.str (aaz s))=some (ss.map fun s=>PyData.str (aaz s)):=ji _ _ _ (fun s=>by simp only[dat,so,if_true]) ss;have e3:dat ph 40 (.str (aaz x))=some (.str (aaz x)):=by simp only[dat,so,if_true]
 have e4:qU ph (.ref i) (.str (aaz x))=some j:=by
  unfold qU;rw[if_pos (xw h),e1,e3];simp only[e2,abJ];rw[List.findIdx?_map,<- hj]
  congr 1
  funext s
  simp only[afx,yu,uh]
 unfold lift nC;simp only[e4,abq]
theorem Eg(h:ph[i]? =some (.lst ws))(k:Nat):lift (oH (.ref i) none (some (k:Int))) ph=.ok (.ref ph.length) (ph++[.lst (ws.take k)]):=by
 have:jD ws none (some (k:Int))=ws.take k:=by
  unfold jD HT.bh;simp;rw[if_neg (by omega)];omega
 unfold lift oH;simp only[h,this]
section
variable{ph:PH}{i:Nat}{kws:List (W×W)}
theorem SE(o i:EM)(v:W)(σ:aP):lM o i v σ=aw (o σ) fun ow=>aw (i σ) fun iw=>aw (lift (qA ow iw v)) fun _=>aA σ:=rfl
theorem Uo(σ:aP):uR σ=lift y8:=rfl
theorem Up(ph:PH):lift y8 ph=.ok (.ref ph.length) (ph++[.cc []]):=rfl
theorem yw(h:ph[i]? =some (.cc kws)):lL (.ref i) ph=some (i,kws):=by unfold lL;simp only[h]
theorem Uq(h:ph[i]? =some (.cc kws)):lift (jB (qy (.ref i))) ph=.ok () ph:=by
 unfold lift jB qy;rw[yw h];rfl
theorem Ur(h:ph[i]? =some (.cc kws)){k z:W}(hk:gW ph kws k=true):lift (qz (.ref i) [k,z]) ph=.ok ((bQ kws k).getD z) ph:=by
 unfold lift qz;simp only[yw h,hk,if_true]
theorem SF(h:ph[i]? =some (.cc kws)){k:W}(hk:gW ph kws k=true)(hn:(kW k).bind id≠none)(hz:kws.length<aaD)(v:W):lift (qA (.ref i) k v) ph=.ok () (ph.set i (.cc (cK kws k v))):=by
 unfold lift qA;simp only[yw h];rw[if_pos ⟨hk,hn,hz⟩]
theorem Us{ws:List W}(h:ph[i]? =some (.lst ws))(k:Nat):lift (oH (.ref i) (some (k:Int)) none) ph=.ok (.ref ph.length) (ph++[.lst (ws.drop k)]):=by
 have:jD ws (some (k:Int)) none=ws.drop k:=by
  unfold jD HT.bh;simp;rw[if_neg (by omega)];by_cases hk:k<=ws.length
  ·rw[Nat.min_eq_left hk,List.take_of_length_le (by simp)]
  ·rw[Nat.min_eq_right (by omega),aez (aar _),aez (by omega),List.take_nil]
 unfold lift oH;simp only[h,this]
end
section
variable{X:Cx}{pins:List (Addr×Obj)}{σ:L2.St}{H:Hp}{s:aam}
noncomputable def jT(sc:Scope)(n:Str):Scope:={ sc with names:=sc.names.map fun p=>if p.1==n then(p.1,.free) else p }
theorem BQ{n x:Str}:∀{l:List (Str×acU)},(l.map fun p=>if p.1==n then(p.1,aaO) else p).lookup x=if x==n then(l.lookup x).map fun _=>.free else l.lookup x
 | []=>by simp
 | p::l=>by
  rw[aaM];obtain⟨y,k⟩:=p;have ih:=BQ (n:=n) (x:=x) (l:=l);by_cases hy:y=n
  ·subst hy;simp only[beq_self_eq_true,if_true];rw[aaE,aaE,ih];by_cases hx:x=y
   ·subst hx;simp
   ·have:(x==y)=false:=by simpa using hx
    simp[this]
  ·have Hb:(y==n)=false:=by simpa using hy
   simp only[Hb,adq,if_false];rw[aaE,aaE,ih];by_cases hx:x=y
   ·subst hx;simp[Hb]
   ·have:(x==y)=false:=by simpa using hx
    simp[this]
end
noncomputable def uC(j:Nat)(w:W)(σ:aP):aP:=(aap σ.length none).set j (some w)
noncomputable def nR(tb:List (Str×Bool))(j:Nat)(b h:SM):SM:=fun σ=>match σ[j]? with
 | some (some w)=>fun ph=>match b σ ph with
  | .ex x ph'=>if tb.lookup x.cls=some true/\x.fs.isEmpty=true then oI (h (uC j w σ)) ph' else .no
  | .ok f ph'=>.ok f ph'
  | .no=>.no
 | _=>ee
section
variable{X:Cx}
abbrev jF(X:Cx)(pn':List (Addr×Obj))(E:Value->aam->Prop)(j:Nat)(v:V):Cx:={ X with pn:=pn',xe:=E,kp:=fun σ=>X.kp σ/\σ[j]? =some (some v) }
variable{σ:L2.St}{H:Hp}{E:Value->aam->Prop}
theorem Ut{pins gj pn':List (Addr×Obj)}{s:aam}{j:Nat}{v:V}(I:Inv X pins σ H s)(hv:σ[j]? =some (some v))(hp:∀p∈pn'++gj,p∈X.pn++pins):Inv (jF X pn' E j v) gj σ H s:=
 ⟨⟨I.ok.mod,I.ok.kind,I.ok.glob,I.ok.blt,I.ok.above,I.ok.inj,I.ok.has,I.ok.kG,I.ok.hd,I.ok.frames,I.ok.lV,I.ok.qD,I.ok.bs,I.ok.iq,I.ok.ku,I.ok.kx,I.ok.d5,I.ok.iZ⟩,I.os,I.bare,I.base,I.loc,I.cell,I.free,I.gf,fun p h=>I.pin p (hp p h),I.aJ,⟨I.lk.1,I.lk.2,hv⟩⟩
theorem Cg{pins gj pn':List (Addr×Obj)}{s:aam}{j:Nat}{v:V}{A':abT}{xe':Value->aam->Prop}{calm':Bool}{pn2:List (Addr×Obj)}(I:Inv (jF X pn' E j v) gj σ H s)(hA:A'.frames=X.A.frames)(hh:calm'=true->A'.handled=none)(hp:∀p∈pn2++pins,p∈pn'++gj):Inv (dm X A' pn2 xe' calm') pins σ H s:=
 ⟨⟨I.ok.mod,I.ok.kind,I.ok.glob,I.ok.blt,I.ok.above,I.ok.inj,I.ok.has,I.ok.kG,hh,hA.trans I.ok.frames,I.ok.lV,I.ok.qD,I.ok.bs,I.ok.iq,I.ok.ku,I.ok.kx,I.ok.d5,I.ok.iZ⟩,I.os,I.bare,I.base,I.loc,I.cell,I.free,I.gf,fun p h=>I.pin p (hp p h),I.aJ,⟨I.lk.1,I.lk.2.1⟩⟩
theorem Eh{Y:Cx}{pins:List (Addr×Obj)}{s:aam}(I:Inv Y pins σ H s):Inv { Y with xe:=E } pins σ H s:=
 ⟨⟨I.ok.mod,I.ok.kind,I.ok.glob,I.ok.blt,I.ok.above,I.ok.inj,I.ok.has,I.ok.kG,I.ok.hd,I.ok.frames,I.ok.lV,I.ok.qD,I.ok.bs,I.ok.iq,I.ok.ku,I.ok.kx,I.ok.d5,I.ok.iZ⟩,I.os,I.bare,I.base,I.loc,I.cell,I.free,I.gf,I.pin,I.aJ,I.lk⟩
theorem WD{Y:Cx}{x:XC}{H':Hp}{e:Value}{s':aam}(h:jN Y x H' e s'):jN { Y with xe:=E } x H' e s':=by
 obtain⟨C,hm,hf,h⟩:=h;refine⟨C,hm,hf,?_⟩
 rcases h with⟨pins,σ,s,vs,h',a,e1,e2,I,hx⟩ | ⟨pins,σ,H,s,I,h⟩
 ·exact .inl ⟨pins,σ,s,vs,h',a,e1,e2,Eh I,hx⟩
 ·exact .inr ⟨pins,σ,H,s,Eh I,h⟩
theorem WE{j:Nat}{o:Option V}(h:σ[j]? =some o):σ.set j o=σ:=by
 obtain⟨hl,e⟩:=aal.mp h;rw[<- e];exact List.set_getElem_self hl
variable{body ia:List Stmt}{iD:Stmt}{c n:Str}{j:Nat}{tb:List (Str×Bool)}{D:Addr}{np lT pos:Pos}{mb mh:SM}
theorem WG(T:bY X)(X7:X.calm=true)(fj:Gl X c)(fk:X.mg c=some (.ref D))(bT:(c==("__debug__":Str))=false)(hk:uw X.K D)(hT:fP X.K D tb)
  (hb:∀(pn:List (Addr×Obj)) (K0 E0:Value->aam->Prop) (v:V),eM (jF X pn (fun e s'=>wpAny (model X.prog X.w) X.A (aeK e X.env) (fun _ eL=>K0 e eL) E0 s') j v) body mb) (hh:∀a E,eM (dm X (X.A.mark (some (.ref a))) X.pn E false) (iD::ia) mh) :
  IS X (.Try body [.ExceptHandler (some (.Name c np)) none (iD::ia) lT] [] [] pos) (nR tb j mb mh):=by
 intro pins s σ H Dn I h;obtain⟨φ,ph,ws,hH,hS,h⟩:=h;have me:=I.ok.hd;unfold nR at h;cases ew:ws[j]? with
 | none=>simp only[ew] at h;exact h.elim
 | some ow=>
 cases ow with
 | none=>simp only[ew] at h;exact h.elim
 | some wj=>
 simp only[ew] at h;obtain⟨va,ev,ra⟩:=hS.get ew
 let X0:Cx:=jF X (X.pn++pins) X.xe j va
 let K0:Value->aam->Prop:=fun e rg=>wpAny (model X.prog X.w) X.A (setFlight e none) (fun _ Af=>wpAny (model X.prog X.w) X.A (handleBy e X.env [.ExceptHandler (some (.Name c np)) none (iD::ia) lT]) (SP X pins Dn) X.xe Af) X.xe rg
 let E1:Value->aam->Prop:=fun e s'=>wpAny (model X.prog X.w) X.A (aeK e X.env) (fun _ eL=>K0 e eL) X.xe s'
 have I1:Inv (jF X (X.pn++pins) E1 j va) [] σ H s:=Ut I ev fun p hp=>by simpa using hp
 have back:∀{ao:L2.St} {H':Hp} {s':aam},Inv (jF X (X.pn++pins) E1 j va) [] ao H' s'->Inv X pins ao H' s':=fun{ao H' s'} J=>Cg (A':=X.A) (xe':=X.xe) (calm':=X.calm) (pn2:=X.pn) J rfl me fun p hp=>by simpa using hp
 have yk:tS (jF X (X.pn++pins) E1 j va) mb Dn σ H:=by
  refine⟨φ,ph,ws,hH,hS,?_⟩;cases q:mb ws ph with
  | ok f ph'=>rw[q] at h;exact h
  | no=>rw[q] at h;exact h
  | ex x ph'=>
   rw[q] at h
   dsimp only at h
   intro au H' e s' rH st th;by_cases hx:tb.lookup x.cls=some true/\x.fs.isEmpty=true
   case neg=>rw[if_neg hx] at h;exact h.elim
   rw[if_pos hx] at h;have th:jN X0 x H' e s':=WD (E:=X.xe) th;obtain⟨C,zP,zB,a,B,rfl,K⟩:=took (X:=X0) ⟨T.st,T.fr,T.ex⟩ th;obtain⟨C',tn,yV⟩:=hT _ _ hx.1;have qv:=aaB I.ok.mod.d9 I.ok.mod.glob tn;have yW:X.mg x.cls=some (.ref C):=zP;rw[yW] at qv;cases qv;refine K.note (A:=X.A) I.ok.frames fun h4 a0 yl qP=>?_
   refine wpAny_landsW yl fun h5 qQ qR=>?_
   obtain⟨X8,dq,zQ,zR,zS,_,gV,J5⟩:=K.inv (X:=X0) ⟨T.st,T.fr,T.ex⟩ qQ (qP.trans qR)
   let X2:Cx:=dm X (X.A.mark (some (.ref a))) X.pn (fun _ _=>False) false
   have to2:∀{p5:List (Addr×Obj)} {ao:L2.St} {H2:Hp} {s':aam},Inv X0 p5 ao H2 s'->Inv X2 pins ao H2 s':=fun{p5 ao H2 s'} J=>Cg J rfl (fun z=>nomatch z) fun p hp=>abI _ hp
   have qS:=to2 J5;refine wpAny_handleBy_cons (codeAny_handlers_test (m7 (X:=X2) qS fj fk ?_ bT)) (by intro z;cases z);refine Cc qS.dh ⟨zQ,zR,zS⟩ hk.ek hk.ty yV (codeAny_handlers_suite ?_);refine lands_againW qQ fun h6 zT zU=>?_
   obtain⟨X9,fv,qT,ge6,GW,GX,_,J6⟩:=K.inv (X:=X0) ⟨T.st,T.fr,T.ex⟩ zT ((qP.trans qR).trans zU);have zV:=to2 J6;have bH:ws.length=fv.length:=by rw[hS.len,I.len];exact J6.len.symm
   have hj6:fv[j]? =some (some va):=J6.lk.2.2;have Hc:=st.trans (tm (K:=X.K) (φ:=au) (n:=ph'.length) (o:=HO.bz qT (.own a)) gV);have rs:aW X.K au ph'.length (upd H' a (.bz qT (.own a))) (uC j wj ws) fv:=by
    have:=aW.set (ws:=aap ws.length none) (ra.mono Hc) j (by rw[bH];exact aW.none fv);rw[WE hj6] at this;exact this
   have xP:tS X2 mh Dn fv (upd H' a (.bz qT (.own a))):=by
    refine⟨au,ph',uC j wj ws,wY rH gV,rs,?_⟩;unfold oI at h;cases q2:mh (uC j wj ws) ph' with
    | no=>rw[q2] at h;exact h.elim
    | ex y p2=>rw[q2] at h;exact h.elim
    | ok f p2=>
     rw[q2] at h;exact fun aV H2 r2 s2=>h aV H2 r2 (Hc.trans s2)
   have jq:∀{ao:L2.St} {H2:Hp} {s':aam},Inv X2 pins ao H2 s'->Inv X pins ao H2 s':=fun{ao H2 s'} J=>wD J rfl me fun p hp=>hp
   refine abB (hh a (fun _ _=>False) pins _ _ _ Dn zV xP) (fun f s8 z=>?_) fun _ _ z=>z.elim
   cases f with
   | next=>obtain⟨ao,H2,J8,q8⟩:=z;exact⟨_,H2,jq J8,q8⟩
   | brk=>obtain⟨ao,H2,J8,q8⟩:=z;exact⟨_,H2,jq J8,q8⟩
   | cont=>obtain⟨ao,H2,J8,q8⟩:=z;exact⟨_,H2,jq J8,q8⟩
   | ret u=>obtain⟨v,ao,H2,J8,r8,q8⟩:=z;exact⟨v,_,H2,jq J8,r8,q8⟩
 refine wpAny_Try_except (abB (hb (X.pn++pins) K0 X.xe va [] s σ H Dn I1 yk) (fun f s1 z=>?_) fun e s1 z=>z);cases f with
 | next=>
  obtain⟨ao,H',J,q⟩:=z;exact acQ ⟨ao,H',back J,q⟩
 | brk=>obtain⟨ao,H',J,q⟩:=z;exact⟨ao,H',back J,q⟩
 | cont=>obtain⟨ao,H',J,q⟩:=z;exact⟨ao,H',back J,q⟩
 | ret u=>obtain⟨v,ao,H',J,r,q⟩:=z;exact⟨v,ao,H',back J,r,q⟩
end
noncomputable def p7(c:Str)(fm:List W->Mo W)(a:AM):EM:=fun σ=>aw (a σ) fun ws ph=>aw (eK (fm (.ref ph.length::ws))) (fun w=>Yg w (aA (.ref ph.length))) (ph++[.obj c []])
noncomputable def kq(g:W->W->Po W)(c f:Str)(o v:EM):SM:=fun σ=>aw (o σ) fun x=>aw (lift (oh c f x)) fun y=>aw (v σ) fun z=>aw (lift (g y z)) fun u=>aw (lift (oi c f x u)) fun _=>aA (.nx σ)
section
variable{X:Cx}{e o value:Expr}{es:List Expr}{m mo mv:EM}{a:AM}{c f:Str}{C:Addr}{pos pos' uH p:Pos}
variable{k:Nat}
theorem Uu{g:Addr}{fd:aaZ}{ps:List Str}{fm:List W->Mo W}(bu:aao X.K aan c=some (some (.ref C)))(M:Mk X.K C g)(F:bO X.prog X.w X.K X.mg X.base (bL X.prog X.w) k g fd ps (bV X.K X.mg ps.length fm))(hl:∀{xs:List W} {ph:PH},xs.length≠ps.length->fm xs ph=.no)(hr:cL (k+1) X.A)
  (hg:Gl X c) (hm:X.mg c=some (.ref C)) (hb:Binds X.K fd ps []) (bT:(c==("__debug__":Str))=false) (hn:c9 (e::es)=true) (ha:IA X (e::es) a):IE X (.Call (.Name c p) (e::es) [] pos) (p7 c fm a):=by
 unfold c9 at hn;rw[abS,aaw] at hn;refine PE.imp (Tg (E:=fun _ _ _=>False) (dvs:=[]) M F hr hg hm hb .nil (fun pins σ H s e s' I z=>by obtain⟨_,_,_,z⟩:=z;exact z.elim) ha bT (eZ (by simpa using hn.1)) (any_none (by unfold c9;exact hn.2))) fun σ H Q h=>?_
 obtain⟨φ,ph,ws,hH,hS,h⟩:=h;unfold p7 at h;refine tA.bind hH hS h fun xs ph1 aB H1 vs aE st1 Hd h=>?_
 rw[cE] at h;intro x dx hx He vp;rw[acS];have Hf:upd H1 dx (.own x) x=none:=by rw[bC (adt vp)];exact hx
 have z7:(ph1++[PO.obj c []]).length=ph1.length+1:=by simp
 have s1:=tm (K:=X.K) (φ:=aB) (n:=ph1.length) (o:=HO.own x) He;have s2:=pC (K:=X.K) (φ:=aB) (n:=ph1.length) (o:=HO.ins C dx []) Hf;have ba:=(wY (o:=HO.own x) aE He).new Hf (o:=PO.obj c []) (x:=HO.ins C dx []) ⟨C,dx,[],bu,bW,.nil⟩;have q:aH X.K (ext aB ph1.length x) (ph1.length+1) (upd (upd H1 dx (.own x)) x (.ins C dx [])) (.ref ph1.length) (.ref (ext aB ph1.length x ph1.length)):=.ref (abD _);rw[jk] at q;have bH:xs.length=vs.length:=Hd.length;by_cases hz:(W.ref ph1.length::xs).length=ps.length
 case neg=>
  have h:=pD (E':=fun _ _=>False) h;rw[hl hz] at h;exact h.elim
 refine⟨by rw[aaP] at hz ⊢;omega,ext aB ph1.length x,ph1++[.obj c []],.ref ph1.length::xs,ba,.cons (by rw[z7];exact q) (by rw[z7];exact(Hd.mono s1).mono s2),(pD (E':=fun _ _=>False) h).mono (fun w ph' h au H' v hH' s' rv=>?_) fun _ _ z=>acH z⟩;rw[z7] at s';cases rv with
 | aC=>exact⟨rfl,h au H' _ hH' (st1.trans ((s1.trans s2).trans s')) (q.mono s')⟩
 | _=>exact h.elim
theorem Uv{g:Addr}{fd:aaZ}{ps:List Str}{fm:List W->Mo W}(bu:aao X.K aan c=some (some (.ref C)))(M:Mk X.K C g)(F:bO X.prog X.w X.K X.mg X.base (bL X.prog X.w) k g fd ps (bV X.K X.mg ps.length fm))(hl:∀{xs:List W} {ph:PH},xs.length≠ps.length->fm xs ph=.no)(hr:cL (k+1) X.A)
  (hg:Gl X c) (hm:X.mg c=some (.ref C)) (hb:Binds X.K fd ps []) (bT:(c==("__debug__":Str))=false) (hn:c9 (e::es)=true) (ha:JA X (e::es) a):JE X (.Call (.Name c p) (e::es) [] pos) (p7 c fm a):=⟨Uu bu M F hl hr hg hm hb bT hn ha.h⟩
noncomputable def uZ(g:W->W->Po W)(rd:V->V->Hp->VK->Prop):Prop:=∀{y z w:W} {ph ph':PH},g y z ph=some (w,ph')->∃i j k:Int,y=.int i/\z=.int j/\w=.int k/\ph'=ph/\∀H Q,Q (.int k) H->rd (.int i) (.int j) H Q
theorem Uw{g:W->W->Po W}{op:afl}{rd:V->V->Hp->VK->Prop}(qG:qh X op rd)(ho:uZ g rd)(bu:aao X.K aan c=some (some (.ref C)))(hc:fS X.K C)(hn:du X.K C f)(lP:IE X o mo)(hv:IE X value mv):IS X (.AugAssign (.Attribute o f uH) op value pos) (kq g c f mo mv):=by
 refine PS.imp (QB lP hv qG) fun D σ H h=>?_
 obtain⟨φ,ph,ws,hH,hS,h⟩:=h;refine tM.bind hH hS h fun x ph1 aB H1 vx aE s1 rx h=>?_
 rw[cE] at h;obtain⟨y,aai,e1,h⟩:=run_lift h;unfold oh at e1;cases rx with
 | @ref i hi=>
  simp only at e1;split at e1
  ·rename_i c' fs hw;split at e1
   ·rename_i kI;subst kI;obtain⟨C',dx,vs,q1,q2,r⟩:=aE.hp _ _ hw;rw[bu] at q1;cases q1;have ro:=r.lookup f;cases q:fs.lookup f with
    | none=>rw[q] at e1;cases e1
    | some y0=>
     rw[q] at e1 ro;cases e1;cases q':vs.lookup f with
     | none=>rw[q'] at ro;exact ro.elim
     | some v=>
      rw[q'] at ro;refine⟨_,C,dx,vs,v,rfl,q2,hc,hn,q',?_⟩;refine tM.bind aE (hS.mono s1) h fun z ph2 aV H2 vz ba s2 rz h=>?_
      rw[cE] at h;obtain⟨u,dW,e3,h⟩:=run_lift h;obtain⟨a1,a2,a3,rfl,rfl,rfl,rfl,Gx⟩:=ho e3;cases rz;cases ro;refine Gx _ _ ?_;rw[cE] at h;obtain⟨_,kO,e4,k⟩:=run_lift h;unfold oi at e4;simp only at e4;split at e4
      ·rename_i c2 fs2 fT;split at e4
       ·rename_i Zi;obtain⟨rfl,hz⟩:=Zi;cases e4;obtain⟨C2,vG,z8,p1,p2,r2⟩:=ba.hp _ _ fT;rw[bu] at p1;cases p1;have hφ:aB i=aV i:=(s2.eq i hi).symm;have s3:=iK (K:=X.K) (φ:=aV) (n:=dW.length) (y:=HO.ins C vG (da f (.int a3) z8)) p2 trivial;have c6:=ba.put fT rfl (x:=HO.ins C vG (da f (.int a3) z8)) (o:=.obj c2 (iT f (.int a3) fs2)) ⟨C,vG,_,bu,bW,(r2.put f (.int a3)).mono s3⟩;rw[hφ];exact⟨vG,z8,p2,by rw[<- r2.len];exact hz,k aV _ c6 (by rw[abz];exact(s1.trans s2).trans s3) σ (by rw[abz];exact((hS.mono s1).mono s2).mono s3)⟩
       ·cases e4
      ·cases e4
   ·cases e1
  ·cases e1
 | _=>cases e1
theorem xx{g:W->W->Po W}{op:afl}{rd:V->V->Hp->VK->Prop}(qG:qh X op rd)(ho:uZ g rd)(bu:aao X.K aan c=some (some (.ref C)))(hc:fS X.K C)(hn:du X.K C f)(lP:JE X o mo)(hv:JE X value mv):JS X (.AugAssign (.Attribute o f uH) op value pos) (kq g c f mo mv):=⟨Uw qG ho bu hc hn lP.h hv.h⟩
theorem Fj:uZ oj Fw:=fun{y z w ph ph'} h=>by
 unfold oj lZ at h;split at h
 ·cases h;exact⟨_,_,_,rfl,rfl,rfl,rfl,fun H Q q=>⟨_,_,rfl,rfl,q⟩⟩
 ·cases h
theorem Yn:uZ yZ Fx:=fun{y z w ph ph'} h=>by
 unfold yZ lZ at h;split at h
 ·cases h;exact⟨_,_,_,rfl,rfl,rfl,rfl,fun H Q q=>⟨_,_,rfl,rfl,q⟩⟩
 ·cases h
variable{sc:Scope}
theorem nE{n x:Str}{kd:acU}(h:(jT sc n).names.lookup x=some kd):(x=n/\kd=.free)\/(x≠n/\sc.names.lookup x=some kd):=by
 unfold jT at h;simp only[BQ] at h;by_cases hx:x=n
 ·subst hx;simp only[beq_self_eq_true,if_true] at h;obtain⟨_,_,h⟩:=aaR.mp h;exact .inl ⟨rfl,h.symm⟩
 ·have:(x==n)=false:=by simpa using hx
  rw[this] at h;exact .inr ⟨hx,h⟩
theorem Bd.Zj{N:List Str}{j:Nat}{n:Str}{v:V}{pn:List (Addr×Obj)}{E:Value->aam->Prop}(B:Bd X N sc k)(hj:N[j]? =some n)(hv:aI sc n)(hp:aeD (model X.prog X.w) X.A X.env E):Bd (jF X pn E j v) N (jT sc n) k:=by
 have ql:∀x,Loc (jT sc n) x->x≠n/\Loc sc x:=fun x h=>by
  rcases h with h | h
  ·rcases nE h with⟨_,z⟩ | ⟨z,h⟩
   ·cases z
   ·exact⟨z,.inl h⟩
  ·rcases nE h with⟨_,z⟩ | ⟨z,h⟩
   ·cases z
   ·exact⟨z,.inr h⟩
 exact⟨⟨⟨B.hN,fun x h=>by
   rcases h with h | h | h
   ·rcases nE h with⟨_,z⟩ | ⟨_,h⟩
    ·cases z
    ·exact B.jR x (.inl h)
   ·rcases nE h with⟨_,z⟩ | ⟨_,h⟩
    ·cases z
    ·exact B.jR x (.inr (.inl h))
   ·rcases nE h with⟨z,_⟩ | ⟨_,h⟩
    ·rw[z];exact B.jR n hv
    ·exact B.jR x (.inr (.inr h)),fun x h=>B.loc x (ql x h).2,fun x h=>by
   rcases nE h with⟨_,z⟩ | ⟨_,h⟩
   ·cases z
   ·exact B.gl x h,fun x h=>⟨(B.fn x (ql x h).2).1,fun i hi σ o hk=>⟨(B.fn x (ql x h).2).2 i hi σ o hk.1,by
   have hi:X.N[i]? =some x:=hi;rw[B.hN] at hi;rw[abP (fun z=>(ql x h).1 (by rw[z,hj] at hi;exact(abh hi).symm))];exact hk.2⟩⟩,B.nd⟩,B.calm,B.room⟩,hp⟩
variable{body ia:List Stmt}{iD:Stmt}{n:Str}{tb:List (Str×Bool)}{D:Addr}{np lT:Pos}{mb mh:SM}
theorem WH{N:List Str}(B:Bd X N sc k)(T:bY X)(aL:X.env.scope=sc)(fj:Gl X c)(fk:X.mg c=some (.ref D))(bT:(c==("__debug__":Str))=false)(hk:uw X.K D)(hT:fP X.K D tb)(j:Nat)(hj:N[j]? =some n)(hv:aI sc n)
  (hb:∀{X':Cx},X'.K=X.K->X'.mg=X.mg->Bd X' N (jT sc n) k->bY X'->X'.env.scope=sc->JB X' body mb) (hh:∀{X':Cx},X'.K=X.K->X'.mg=X.mg->ei X' N sc->JB X' (iD::ia) mh) :
  JS X (.Try body [.ExceptHandler (some (.Name c np)) none (iD::ia) lT] [] [] pos) (nR tb j mb mh):=
 ⟨WG T B.calm fj fk bT hk hT (fun pn K0 E0 v=>(hb (X':=jF X pn _ j v) rfl rfl (B.Zj hj hv PassesOwn.looking) ⟨T.st,T.fr,T.ex⟩ aL).h)
  (fun a E=>(hh (X':=dm X (X.A.mark (some (.ref a))) X.pn E false) rfl rfl ⟨B.hN,B.jR,B.loc,B.gl,B.fn,B.nd⟩).h)⟩
end
theorem Ux(e:iL K=[]):∀p∈iL K,aed h p.2.1 p.2.2/\h.get? p.2.2=some (acI #[]):=fun p hp=>by
 rw[e] at hp;exact nomatch hp
end IL
local macro_rules | `(tactic| ac_nf) => `(tactic| try simp only [IL.pJ, IL.De, IL.Dd, IL.hG, IL.Df, IL.DW, IL.DX, IL.yq, IL.EQ, IL.fH, IL.DY, IL.lN, IL.Dg, IL.wZ, IL.xu, IL.CD, IL.DZ, IL.nh, IL.ug, IL.t5, IL.CF, IL.pE, IL.pK, IL.w6, IL.wG, IL.t6, IL.tD, IL.Dh, IL.jj, IL.D0, IL.xv, IL.D1, IL.Di, IL.px, IL.ka, IL.Dj, IL.Dk, IL.fQ, IL.gP, IL.gn, IL.uT, IL.ER, IL.ES, IL.ET, IL.FO, IL.FP, IL.FQ, IL.FR, IL.EU, IL.D2, IL.EV, IL.EW, IL.EX, IL.FT, IL.D3, IL.D4, IL.D5, IL.nP, IL.uz, IL.CC, IL.DT, IL.DU, IL.DV, decide_true, decide_false, Bool.false_eq_true, Bool.not_true, Bool.not_false, IL.EY, IL.EZ, IL.E2, IL.om, IL.uU, IL.uV, IL.uW, IL.uX, IL.FU, IL.FV, IL.FX, IL.FY, IL.FZ, IL.F0, IL.F1, IL.F2, IL.F3, IL.D6, IL.D7, IL.D8, IL.D9, IL.Ea, IL.Eb, IL.E3, IL.E4, IL.E5, IL.E6, IL.E7, IL.Ec, IL.E8, IL.Dm, IL.Do, IL.Dp, IL.Dq, IL.uY, IL.F4, IL.Fd, IL.Fe, IL.Ff, IL.Fg, IL.Fh, IL.Ee, IL.xR, IL.xc, IL.Dt, IL.Fb, IL.Fc, Bool.or_false, Bool.false_or, Bool.or_true, Bool.true_or, Bool.and_true, Bool.true_and, Bool.and_false, Bool.false_and, Nat.reduceSub, List.reduceReplicate, List.set_cons_zero, List.set_cons_succ, if_true, if_false, ↓reduceIte, String.reduceEq, reduceCtorEq])
local macro_rules | `(tactic| push_cast [$as:simpLemma,*]) => `(tactic| try simp only [IL.pJ, IL.De, IL.Dd, IL.hG, IL.Df, IL.DW, IL.DX, IL.yq, IL.EQ, IL.fH, IL.DY, IL.lN, IL.Dg, IL.wZ, IL.xu, IL.CD, IL.DZ, IL.nh, IL.ug, IL.t5, IL.CF, IL.pE, IL.pK, IL.w6, IL.wG, IL.t6, IL.tD, IL.Dh, IL.jj, IL.D0, IL.xv, IL.D1, IL.Di, IL.px, IL.ka, IL.Dj, IL.Dk, IL.fQ, IL.gP, IL.gn, IL.uT, IL.ER, IL.ES, IL.ET, IL.FO, IL.FP, IL.FQ, IL.FR, IL.EU, IL.D2, IL.EV, IL.EW, IL.EX, IL.FT, IL.D3, IL.D4, IL.D5, IL.nP, IL.uz, IL.CC, IL.DT, IL.DU, IL.DV, decide_true, decide_false, Bool.false_eq_true, Bool.not_true, Bool.not_false, IL.EY, IL.EZ, IL.E2, IL.om, IL.uU, IL.uV, IL.uW, IL.uX, IL.FU, IL.FV, IL.FX, IL.FY, IL.FZ, IL.F0, IL.F1, IL.F2, IL.F3, IL.D6, IL.D7, IL.D8, IL.D9, IL.Ea, IL.Eb, IL.E3, IL.E4, IL.E5, IL.E6, IL.E7, IL.Ec, IL.E8, IL.Dm, IL.Do, IL.Dp, IL.Dq, IL.uY, IL.F4, IL.Fd, IL.Fe, IL.Ff, IL.Fg, IL.Fh, IL.Ee, IL.xR, IL.xc, IL.Dt, IL.Fb, IL.Fc, Bool.or_false, Bool.false_or, Bool.or_true, Bool.true_or, Bool.and_true, Bool.true_and, Bool.and_false, Bool.false_and, Nat.reduceSub, List.reduceReplicate, List.set_cons_zero, List.set_cons_succ, if_true, if_false, ↓reduceIte, String.reduceEq, reduceCtorEq, $as,*])
local macro_rules | `(term| nofun) => `(by decide +kernel)
namespace IL.K29
open PySem PySem.Spec PyProof.Rows L2
theorem iX(us:List Value)(hl:us.length=1):∃a,us=[a]:=List.length_eq_one_iff.mp hl
theorem kF(us:List Value)(hl:us.length=2):∃a1 a2,us=[a1,a2]:=by
 cases us with
 | nil=>cases hl
 | cons a1 us=>
  obtain⟨a2,rfl⟩:=iX us (aeM hl);exact⟨a1,a2,rfl⟩
theorem iY(us:List Value)(hl:us.length=3):∃a1 a2 a3,us=[a1,a2,a3]:=by
 cases us with
 | nil=>cases hl
 | cons a1 us=>
  obtain⟨a2,a3,rfl⟩:=kF us (aeM hl);exact⟨a1,a2,a3,rfl⟩
theorem F5(us:List Value)(hl:us.length=4):∃a1 a2 a3 a4,us=[a1,a2,a3,a4]:=by
 cases us with
 | nil=>cases hl
 | cons a1 us=>
  obtain⟨a2,a3,a4,rfl⟩:=iY us (aeM hl);exact⟨a1,a2,a3,a4,rfl⟩
theorem Zk(us:List Value)(hl:us.length=5):∃a1 a2 a3 a4 a5,us=[a1,a2,a3,a4,a5]:=by
 cases us with
 | nil=>cases hl
 | cons a1 us=>
  obtain⟨a2,a3,a4,a5,rfl⟩:=F5 us (aeM hl);exact⟨a1,a2,a3,a4,a5,rfl⟩
def top(i:Nat):Stmt:=PySem.Challenge.pw_boxwright_k29_last_runs.main.body.getD i (.Pass ⟨0,0,0,0⟩)
abbrev gw:Stmt:=top 26
abbrev fx:Stmt:=top 29
abbrev iF:Stmt:=top 27
abbrev cQ:Stmt:=top 28
abbrev cB:Stmt:=top 30
abbrev eW:Stmt:=top 38
abbrev fy:Stmt:=top 9
abbrev d0:Stmt:=top 21
abbrev iE:Stmt:=top 23
abbrev fZ:Stmt:=inClass (top 15) 0
abbrev hU:Stmt:=top 16
abbrev ib:Stmt:=top 10
abbrev f7:Stmt:=top 11
abbrev fA:Stmt:=top 12
abbrev hO:Stmt:=top 17
abbrev iG:Stmt:=top 18
abbrev fb:Stmt:=top 19
abbrev dF:Stmt:=top 20
abbrev fB:Stmt:=top 24
abbrev eV:Stmt:=top 37
abbrev iJ:Stmt:=top 31
abbrev fC:Stmt:=top 32
abbrev fW:Stmt:=top 33
abbrev cD:Stmt:=top 34
abbrev de:Stmt:=top 36
abbrev fY:Stmt:=top 35
abbrev bj:Stmt:=top 39
noncomputable def fX:SM:=(aF (aT (eT (ae fi (aa 1) (bS fg (af (aa 0) ai)))) (a8 (ae ak (aa 0) (aa 1))) bA) (a8 (eC (.int (0)))))
noncomputable def c8:List W->Mo W:=fM fX 2 2
noncomputable def jZ:SM:=(aF (aT (df (eT (ae cO (aa 3) (bg ai))) (eT (ae aN (ae aS (aa 0) (eC (.int (2)))) (eC (.int (1)))))) (a8 (ae ak (aa 3) (ae aS (ae aZ (aa 0) (eC (.int (2)))) (bS fg (af (aa 3) ai))))) bA) (a8 (ae addW (ae addW (aa 1) (eC (.int (1)))) (ae aS (ae aZ (aa 0) (eC (.int (2)))) (ae dJ (aa 2) (aa 1))))))
noncomputable def kZ:List W->Mo W:=fM jZ 4 4
noncomputable def jd:SM:=(aF (aT (eT (ae aN (ae aS (aa 0) (eC (.int (4)))) (eC (.int (3))))) (a8 (ae ak (bg (af (eC (.int (2147483647))) (af (ix gL (eC (.int (2147483648)))) (af (eC (.int (65536))) (af (ix gL (eC (.int (1)))) (af (eC (.int (46341))) (af (ix gL (eC (.int (65537)))) (af (eC (.int (1))) (af (eC (.int (0))) ai))))))))) (ae aS (ae aZ (aa 0) (eC (.int (4)))) (eC (.int (8)))))) bA) (aF (aT (eT (ae aN (ae aS (aa 0) (eC (.int (4)))) (eC (.int (2))))) (a8 (ae dJ (ae aS (ae b0 (ae aZ (aa 0) (eC (.int (4)))) (eC (.int (48271)))) (eC (.int (4294967296)))) (eC (.int (2147483648))))) bA) (aF (aT (eT (ae aN (ae aS (aa 0) (eC (.int (4)))) (eC (.int (1))))) (a8 (ae dJ (ae aS (ae aZ (aa 0) (eC (.int (4)))) (eC (.int (100003)))) (eC (.int (1000))))) bA) (a8 (ae dJ (ae aS (ae aZ (aa 0) (eC (.int (4)))) (eC (.int (19)))) (eC (.int (6))))))))
noncomputable def jX:List W->Mo W:=fM jd 1 1
noncomputable def lb:SM:=(aF (aK (ae aS (aa 0) (eC (.int (12)))) (gN 3)) (aF (aK (ae aS (ae b0 (ae aZ (aa 0) (eC (.int (12)))) (eC (.int (48271)))) (eC (.int (2147483647)))) (gN 4)) (aF (aK (ae aS (aa 4) (aa 1)) (gN 5)) (aF (aK (ae aS (ae aZ (aa 4) (eC (.int (9)))) (aa 1)) (gN 6)) (aF (aK (ae aS (ae aZ (aa 4) (eC (.int (81)))) (aa 2)) (gN 7)) (aF (aT (eT (ae fi (aa 3) (eC (.int (5))))) (aF (aK (ae ak (bg (af (eC (.str "sum")) (af (eC (.str "less")) (af (eC (.str "times")) (af (eC (.str "part")) (af (eC (.str "below")) (af (eC (.str "alike")) ai))))))) (ae aS (ae aZ (aa 4) (eC (.int (486)))) (eC (.int (6))))) (gN 8)) (a8 (a9 (af (eC (.str "do")) (af (aa 5) (af (aa 8) (af (aa 6) (af (ae aS (ae aZ (aa 4) (eC (.int (2916)))) (aa 1)) ai)))))))) bA) (aF (aK (bg (af (a9 (af (eC (.str "put")) (af (aa 5) (af (aO jX (af (ae aZ (aa 4) (eC (.int (9)))) ai)) ai)))) (af (a9 (af (eC (.str "move")) (af (aa 5) (af (aa 6) ai)))) (af (a9 (af (eC (.str "pull")) (af (aa 5) (af (aa 7) ai)))) (af (a9 (af (eC (.str "push")) (af (aa 7) (af (aa 5) ai)))) ai))))) (gN 9)) (aF (aK (ae addW (aa 9) (bg (af (a9 (af (eC (.str "take")) (af (aa 5) ai))) (af (a9 (af (eC (.str "tell")) (af (aa 5) ai))) (af (a9 (af (eC (.str "turn")) ai)) ai))))) (gN 9)) (a8 (ae ak (aa 9) (ae dJ (aa 3) (eC (.int (5))))))))))))))
noncomputable def vY:List W->Mo W:=fM lb 10 3
noncomputable def rp:SM:=(aF (aK (ae aS (ae b0 (ae addW (aO c8 (af (aa 0) (af (ae addW (aa 5) (aa 8)) ai))) (ae b0 (eC (.int (7919))) (aa 8))) (eC (.int (48271)))) (eC (.int (2147483647)))) (gN 9)) (aF (aK (aO kZ (af (ae aZ (aa 9) (eC (.int (160)))) (af (aa 8) (af (aa 1) (af (aa 7) ai))))) (gN 10)) (aT (df (cb (aa 4)) (eT (ae aN (aa 8) (eC (.int (0)))))) (aF (cu (bG b8 cF (aa 7) (af (aa 8) ai))) (cu (bG b8 cF (aa 6) (af (a9 (af (eC (.str "turn")) ai)) ai)))) (aT (df (cb (aa 4)) (eT (ae aN (aa 8) (ae dJ (aa 1) (eC (.int (1))))))) (cu (bG b8 cF (aa 6) (af (a9 (af (eC (.str "go")) (af (eC (.int (0))) ai))) ai))) (aT (eT (ae fi (ae aS (aa 9) (eC (.int (16)))) (eC (.int (2))))) (cu (bG b8 cF (aa 6) (af (a9 (af (eC (.str "if")) (af (ae aS (ae aZ (aa 9) (eC (.int (16)))) (aa 2)) (af (aa 10) ai)))) ai))) (aT (eT (ae aN (ae aS (aa 9) (eC (.int (16)))) (eC (.int (2))))) (cu (bG b8 cF (aa 6) (af (ae ak (bg (af (a9 (af (eC (.str "go")) (af (aa 10) ai))) (af (a9 (af (eC (.str "end")) ai)) ai))) (bS ig (af (ae aN (ae aS (ae aZ (aa 9) (eC (.int (16)))) (eC (.int (4)))) (eC (.int (1)))) ai))) ai))) (aT (eT (ae aN (ae aS (aa 9) (eC (.int (16)))) (eC (.int (3))))) (aF (cu (bG b8 cF (aa 7) (af (aa 8) ai))) (cu (bG b8 cF (aa 6) (af (a9 (af (eC (.str "turn")) ai)) ai)))) (aT (eT (ae fi (ae aS (aa 9) (eC (.int (16)))) (eC (.int (6))))) (cu (bG b8 cF (aa 6) (af (a9 (af (eC (.str "tell")) (af (ae aS (ae aZ (aa 9) (eC (.int (16)))) (aa 2)) ai))) ai))) (aT (eT (ae fi (ae aS (aa 9) (eC (.int (16)))) (eC (.int (8))))) (cu (bG b8 cF (aa 6) (af (a9 (af (eC (.str "push")) (af (ae aS (ae aZ (aa 9) (eC (.int (16)))) (aa 3)) (af (ae aS (ae aZ (aa 9) (eC (.int (160)))) (aa 2)) ai)))) ai))) (aT (eT (ae fi (ae aS (aa 9) (eC (.int (16)))) (eC (.int (10))))) (cu (bG b8 cF (aa 6) (af (a9 (af (eC (.str "pull")) (af (ae aS (ae aZ (aa 9) (eC (.int (16)))) (aa 2)) (af (ae aS (ae aZ (aa 9) (eC (.int (160)))) (aa 3)) ai)))) ai))) (aT (eT (ae fi (ae aS (aa 9) (eC (.int (16)))) (eC (.int (12))))) (cu (bG b8 cF (aa 6) (af (a9 (af (eC (.str "take")) (af (ae aS (ae aZ (aa 9) (eC (.int (16)))) (aa 2)) ai))) ai))) (cu (bG b8 cF (aa 6) (af (aO vY (af (ae aZ (aa 9) (eC (.int (16)))) (af (aa 2) (af (aa 3) ai)))) ai))))))))))))))
noncomputable def k8:SM:=(aF (aK (eC (.int (3))) (gN 5)) (aF (aK (bg ai) (gN 6)) (aF (aK (bg ai) (gN 7)) (aF (ie (eP (af (aa 1) ai)) (gN 8) rp) (a8 (ae addW (aa 6) (bg (af (a9 (af (eC (.str "end")) ai)) ai))))))))
noncomputable def rQ:List W->Mo W:=fM k8 11 5
noncomputable def kU:SM:=(aF (aK (dO (eP (af (ae aS (aa 1) (eC (.int (9)))) ai)) [none,some 0] (gN 0) eA (aO jX (af (aO c8 (af (aa 1) (af (ae addW (eC (.int (27))) (aa 0)) ai))) ai))) (gN 2)) (aF (aT (eT (ae mj (ae aS (ae aZ (aa 1) (eC (.int (90)))) (eC (.int (9)))) (a9 (af (eC (.int (1))) (af (eC (.int (2))) ai))))) (aF (aK (dO (eP (af (ae aS (ae aZ (aa 1) (eC (.int (6750)))) (eC (.int (61)))) ai)) [none,some 1] (gN 0) eA (ae aS (ae b0 (ae addW (ae addW (aa 1) (eC (.int (1)))) (ae b0 (ae b0 (eC (.int (1009))) (aa 0)) (aa 0))) (eC (.int (48271)))) (eC (.int (2147483647))))) (gN 3)) (aK (ae addW (aa 2) (dO (gF (aa 3)) [none] (gN 0) eA (aO jX (af (aa 0) ai)))) (gN 2))) bA) (a8 (aa 2))))
noncomputable def rC:List W->Mo W:=fM kU 4 2
noncomputable def j2:SM:=(aF (aT (dc (c4 (cb (dX "int" (aa 0)))) (cb (dX "bool" (aa 0)))) (a8 (eC (.bl false))) bA) (a8 (jl l7 fi (ix gL (eC (.int (2147483648)))) (aa 0) (eC (.int (2147483648))))))
noncomputable def mL:List W->Mo W:=fM j2 1 1
noncomputable def iH:SM:=(aF (aT (dc (c4 (cb (dX "list" (aa 0)))) (c4 (cb (bS kE (af (dO (gF (aa 0)) [none] (gN 0) eA (aO mL (af (aa 0) ai))) ai))))) (pS "BadRun" (af (eC (.str "inputs that are no list of numbers")) ai)) bA) (aT (dc (c4 (cb (aO mL (af (aa 1) ai)))) (c4 (eT (jl l7 l7 (eC (.int (0))) (aa 1) (eC (.int (10000))))))) (pS "BadRun" (af (eC (.str "turns that are no whole number from 0 to 10000")) ai)) bA))
noncomputable def gz:List W->Mo W:=fM iH 2 2
noncomputable def gX:SM:=(aF (aT (eT (ae aN (ae ak (aa 0) (eC (.int (0)))) (eC (.str "put")))) (a8 (a9 (af (eC (.str "set")) (af (ae ak (aa 0) (eC (.int (1)))) (af (ae ak (aa 0) (eC (.int (2)))) ai))))) bA) (aF (aT (eT (ae aN (ae ak (aa 0) (eC (.int (0)))) (eC (.str "move")))) (a8 (a9 (af (eC (.str "copy")) (af (ae ak (aa 0) (eC (.int (1)))) (af (ae ak (aa 0) (eC (.int (2)))) ai))))) bA) (aF (aT (eT (ae aN (ae ak (aa 0) (eC (.int (0)))) (eC (.str "pull")))) (a8 (a9 (af (eC (.str "copy")) (af (ae ak (aa 0) (eC (.int (1)))) (af (a9 (af (eC (.str "slot")) (af (ae ak (aa 0) (eC (.int (2)))) ai))) ai))))) bA) (aF (aT (eT (ae aN (ae ak (aa 0) (eC (.int (0)))) (eC (.str "push")))) (a8 (a9 (af (eC (.str "copy")) (af (a9 (af (eC (.str "slot")) (af (ae ak (aa 0) (eC (.int (1)))) ai))) (af (ae ak (aa 0) (eC (.int (2)))) ai))))) bA) (a8 (aa 0))))))
noncomputable def jc:List W->Mo W:=fM gX 1 1
noncomputable def lm:SM:=(aF (dA "Run" "inputs" (aa 0) (bS gm (af (aa 1) ai))) (aF (dA "Run" "turns_left" (aa 0) (aa 2)) (aF (dA "Run" "at" (aa 0) (eC (.int (0)))) (aF (dA "Run" "holds" (aa 0) uR) (aF (dA "Run" "told" (aa 0) (bg ai)) (aF (dA "Run" "takes" (aa 0) (eC (.int (0)))) (dA "Run" "word" (aa 0) (eC .aC))))))))
noncomputable def pf:List W->Mo W:=fM lm 3 3
noncomputable def hV:SM:=(a8 (bG qy qz (b6 "Run" "holds" (aa 0)) (af (aa 1) (af (eC (.int (0))) ai))))
noncomputable def gd:List W->Mo W:=fM hV 2 2
noncomputable def iU:SM:=(a8 (ae dJ (ae aS (ae addW (aa 0) (eC (.int (2147483648)))) (ae b0 (eC (.int (2))) (eC (.int (2147483648))))) (eC (.int (2147483648)))))
noncomputable def nS:List W->Mo W:=fM iU 1 1
noncomputable def kb:SM:=(aF (aT (eT (ae aN (aa 1) (eC (.int (0))))) (pS "ByNought" (af (eC (.str "part by nought")) ai)) bA) (a8 (aO nS (af (ae aZ (aa 0) (aa 1)) ai))))
noncomputable def xg:List W->Mo W:=fM kb 2 2
noncomputable def j5:SM:=(aF (aT (eT (ae aN (aa 0) (eC (.str "sum")))) (a8 (aO nS (af (ae addW (aa 1) (aa 2)) ai))) bA) (aF (aT (eT (ae aN (aa 0) (eC (.str "less")))) (a8 (aO nS (af (ae dJ (aa 1) (aa 2)) ai))) bA) (aF (aT (eT (ae aN (aa 0) (eC (.str "times")))) (a8 (aO nS (af (ae b0 (aa 1) (aa 2)) ai))) bA) (aF (aT (eT (ae aN (aa 0) (eC (.str "part")))) (a8 (aO xg (af (aa 1) (af (aa 2) ai)))) bA) (aF (aT (eT (ae aN (aa 0) (eC (.str "below")))) (a8 (i6 (eT (ae fi (aa 1) (aa 2))) (eC (.int (1))) (eC (.int (0))))) bA) (a8 (i6 (eT (ae aN (aa 1) (aa 2))) (eC (.int (1))) (eC (.int (0))))))))))
noncomputable def mQ:List W->Mo W:=fM j5 3 3
noncomputable def lz:SM:=(aF (kq oj "Run" "takes" (aa 0) (eC (.int (1)))) (aF (aT (eT (ae l8 (b6 "Run" "takes" (aa 0)) (bS fg (af (b6 "Run" "inputs" (aa 0)) ai)))) (a8 (eC (.int (0)))) bA) (a8 (ae ak (b6 "Run" "inputs" (aa 0)) (ae dJ (b6 "Run" "takes" (aa 0)) (eC (.int (1))))))))
noncomputable def t9:List W->Mo W:=fM lz 1 1
noncomputable def lg:SM:=(aF (aT (eT (ae aN (b6 "Run" "turns_left" (aa 0)) (eC (.int (0))))) (dA "Run" "word" (aa 0) (eC (.str "dry"))) bA) (kq yZ "Run" "turns_left" (aa 0) (eC (.int (1)))))
noncomputable def si:List W->Mo W:=fM lg 1 1
noncomputable def lx:SM:=(aF (kq oj "Run" "at" (aa 0) (eC (.int (1)))) (aT (eT (ae aN (ae ak (aa 1) (eC (.int (0)))) (eC (.str "set")))) (aK (ae ak (aa 1) (eC (.int (2)))) (lM (b6 "Run" "holds" (aa 0)) (ae ak (aa 1) (eC (.int (1)))))) (aT (eT (ae aN (ae ak (aa 1) (eC (.int (0)))) (eC (.str "copy")))) (aK (aO gd (af (aa 0) (af (ae ak (aa 1) (eC (.int (2)))) ai))) (lM (b6 "Run" "holds" (aa 0)) (ae ak (aa 1) (eC (.int (1)))))) (aT (eT (ae aN (ae ak (aa 1) (eC (.int (0)))) (eC (.str "do")))) (aK (aO mQ (af (ae ak (aa 1) (eC (.int (2)))) (af (aO gd (af (aa 0) (af (ae ak (aa 1) (eC (.int (3)))) ai))) (af (aO gd (af (aa 0) (af (ae ak (aa 1) (eC (.int (4)))) ai))) ai)))) (lM (b6 "Run" "holds" (aa 0)) (ae ak (aa 1) (eC (.int (1)))))) (aT (eT (ae aN (ae ak (aa 1) (eC (.int (0)))) (eC (.str "take")))) (aK (aO t9 (af (aa 0) ai)) (lM (b6 "Run" "holds" (aa 0)) (ae ak (aa 1) (eC (.int (1)))))) (aT (eT (ae aN (ae ak (aa 1) (eC (.int (0)))) (eC (.str "tell")))) (cu (bG b8 cF (b6 "Run" "told" (aa 0)) (af (aO gd (af (aa 0) (af (ae ak (aa 1) (eC (.int (1)))) ai))) ai))) (aT (eT (ae aN (ae ak (aa 1) (eC (.int (0)))) (eC (.str "turn")))) (cu (aO si (af (aa 0) ai))) (aT (eT (ae aN (ae ak (aa 1) (eC (.int (0)))) (eC (.str "if")))) (dA "Run" "at" (aa 0) (i6 (eT (ae cO (aO gd (af (aa 0) (af (ae ak (aa 1) (eC (.int (1)))) ai))) (eC (.int (0))))) (ae ak (aa 1) (eC (.int (2)))) (b6 "Run" "at" (aa 0)))) (aT (eT (ae aN (ae ak (aa 1) (eC (.int (0)))) (eC (.str "go")))) (dA "Run" "at" (aa 0) (ae ak (aa 1) (eC (.int (1))))) (dA "Run" "word" (aa 0) (eC (.str "done"))))))))))))
noncomputable def mZ:List W->Mo W:=fM lx 2 2
noncomputable def gy:SM:=(cu (aO mZ (af (aa 3) (af (i6 (eT (ae fi (b6 "Run" "at" (aa 3)) (bS fg (af (aa 0) ai)))) (ae ak (aa 0) (b6 "Run" "at" (aa 3))) (a9 (af (eC (.str "end")) ai))) ai))))
noncomputable def ls:SM:=(aF (aK (p7 "Run" pf (af (aa 1) (af (aa 2) ai))) (gN 3)) (aF (nR [("ByNought",true)] 3 (fG (eT (ae lS (b6 "Run" "word" (aa 3)) (eC .aC))) gy) (dA "Run" "word" (aa 3) (eC (.str "nought")))) (a8 (a9 (af (b6 "Run" "word" (aa 3)) (af (b6 "Run" "told" (aa 3)) (af (b6 "Run" "takes" (aa 3)) ai)))))))
noncomputable def wI:List W->Mo W:=fM ls 4 3
noncomputable def g8:SM:=(aF (cu (aO gz (af (aa 1) (af (aa 2) ai)))) (a8 (aO wI (af (dO (gF (aa 0)) [none] (gN 0) eA (aO jc (af (aa 0) ai))) (af (aa 1) (af (aa 2) ai))))))
noncomputable def g9:List W->Mo W:=fM g8 3 3
noncomputable def kT:SM:=(aF (aK (bg (af (a9 (af (eC (.str "take")) (af (eC (.int (1))) ai))) (af (a9 (af (eC (.str "tell")) (af (eC (.int (1))) ai))) (af (a9 (af (eC (.str "turn")) ai)) (af (a9 (af (eC (.str "go")) (af (eC (.int (0))) ai))) (af (a9 (af (eC (.str "end")) ai)) ai)))))) (gN 2)) (a8 (ae aN (aO g9 (af (aa 2) (af (bS gm (af (aa 1) ai)) (af (aa 0) ai)))) (a9 (af (eC (.str "dry")) (af (fV (ae addW (aa 1) (ae b0 (bg (af (eC (.int (0))) ai)) (ae addW (aa 0) (eC (.int (1)))))) fI (fJ (ae addW (aa 0) (eC (.int (1)))))) (af (ae addW (aa 0) (eC (.int (1)))) ai)))))))
noncomputable def vS:List W->Mo W:=fM kT 3 2
noncomputable def j6:SM:=(a8 (ae dJ (aa 0) (ae b0 (ae aZ (ae addW (aa 0) (eC (.int (2147483648)))) (eC (.int (4294967296)))) (eC (.int (4294967296))))))
noncomputable def pz:List W->Mo W:=fM j6 1 1
noncomputable def lq:SM:=(aF (aT (dc (eT (ae aN (aa 0) (eC (.str "below")))) (eT (ae aN (aa 0) (eC (.str "alike"))))) (a8 (bS ig (af (vm (lR (ae fi (aa 1) (aa 2)) (ae aN (aa 0) (eC (.str "below")))) (lR (ae aN (aa 1) (aa 2)) (ae aN (aa 0) (eC (.str "alike"))))) ai))) bA) (aF (aT (eT (ae aN (aa 0) (eC (.str "part")))) (a8 (aO pz (af (ae aZ (aa 1) (aa 2)) ai))) bA) (a8 (aO pz (af (ae ak (bg (af (ae addW (aa 1) (aa 2)) (af (ae dJ (aa 1) (aa 2)) (af (ae b0 (aa 1) (aa 2)) ai)))) (bG b8 nC (bg (af (eC (.str "sum")) (af (eC (.str "less")) (af (eC (.str "times")) ai)))) (af (aa 0) ai))) ai)))))
noncomputable def wt:List W->Mo W:=fM lq 3 3
noncomputable def k9:SM:=(aT (eT (ae aN (ae ak (aa 0) (eC (.int (0)))) (eC (.str "put")))) (aK (ae ak (aa 0) (eC (.int (2)))) (iS (aa 1) (ae ak (aa 0) (eC (.int (1)))))) (aT (eT (ae aN (ae ak (aa 0) (eC (.int (0)))) (eC (.str "move")))) (aK (bG d7 d8 (aa 1) (af (ae ak (aa 0) (eC (.int (2)))) (af (eC (.int (0))) ai))) (iS (aa 1) (ae ak (aa 0) (eC (.int (1)))))) (aT (eT (ae aN (ae ak (aa 0) (eC (.int (0)))) (eC (.str "pull")))) (aK (bG d7 d8 (aa 2) (af (ae ak (aa 0) (eC (.int (2)))) (af (eC (.int (0))) ai))) (iS (aa 1) (ae ak (aa 0) (eC (.int (1)))))) (aT (eT (ae aN (ae ak (aa 0) (eC (.int (0)))) (eC (.str "push")))) (aK (bG d7 d8 (aa 1) (af (ae ak (aa 0) (eC (.int (2)))) (af (eC (.int (0))) ai))) (iS (aa 2) (ae ak (aa 0) (eC (.int (1)))))) (aK (aO wt (af (ae ak (aa 0) (eC (.int (2)))) (af (bG d7 d8 (aa 1) (af (ae ak (aa 0) (eC (.int (3)))) (af (eC (.int (0))) ai))) (af (bG d7 d8 (aa 1) (af (ae ak (aa 0) (eC (.int (4)))) (af (eC (.int (0))) ai))) ai)))) (iS (aa 1) (ae ak (aa 0) (eC (.int (1))))))))))
noncomputable def oU:List W->Mo W:=fM k9 3 3
noncomputable def mz:SM:=(aF (aK (ae ak (aa 0) (aa 7)) (gN 9)) (aF (aK (ae addW (aa 7) (eC (.int (1)))) (gN 7)) (aF (aT (eT (ae aN (ae ak (aa 9) (eC (.int (0)))) (eC (.str "end")))) (a8 (a9 (af (eC (.str "done")) (af (aa 5) (af (aa 6) ai))))) bA) (aF (aT (df (eT (ae aN (ae ak (aa 9) (eC (.int (0)))) (eC (.str "turn")))) (eT (ae aN (aa 2) (eC (.int (0)))))) (a8 (a9 (af (eC (.str "dry")) (af (aa 5) (af (aa 6) ai))))) bA) (aF (aT (df (eT (ae aN (ae ak (aa 9) (eC (.int (0)))) (eC (.str "do")))) (df (eT (ae aN (ae ak (aa 9) (eC (.int (2)))) (eC (.str "part")))) (eT (ae aN (bG d7 d8 (aa 3) (af (ae ak (aa 9) (eC (.int (4)))) (af (eC (.int (0))) ai))) (eC (.int (0))))))) (a8 (a9 (af (eC (.str "nought")) (af (aa 5) (af (aa 6) ai))))) bA) (aT (eT (ae aN (ae ak (aa 9) (eC (.int (0)))) (eC (.str "turn")))) (aK (ae dJ (aa 2) (eC (.int (1)))) (gN 2)) (aT (eT (ae aN (ae ak (aa 9) (eC (.int (0)))) (eC (.str "take")))) (aF (aK (ae ak (ae addW (aa 1) (ae b0 (bg (af (eC (.int (0))) ai)) (ae addW (aa 6) (eC (.int (1)))))) (aa 6)) (iS (aa 3) (ae ak (aa 9) (eC (.int (1)))))) (aK (ae addW (aa 6) (eC (.int (1)))) (gN 6))) (aT (eT (ae aN (ae ak (aa 9) (eC (.int (0)))) (eC (.str "tell")))) (cu (bG b8 cF (aa 5) (af (bG d7 d8 (aa 3) (af (ae ak (aa 9) (eC (.int (1)))) (af (eC (.int (0))) ai))) ai))) (aT (eT (ae aN (ae ak (aa 9) (eC (.int (0)))) (eC (.str "go")))) (aK (ae ak (aa 9) (eC (.int (1)))) (gN 7)) (aT (eT (ae aN (ae ak (aa 9) (eC (.int (0)))) (eC (.str "if")))) (aK (ae ak (bg (af (aa 7) (af (ae ak (aa 9) (eC (.int (2)))) ai))) (bS ig (af (ae cO (bG d7 d8 (aa 3) (af (ae ak (aa 9) (eC (.int (1)))) (af (eC (.int (0))) ai))) (eC (.int (0)))) ai))) (gN 7)) (cu (aO oU (af (aa 9) (af (aa 3) (af (aa 4) ai)))))))))))))))
noncomputable def kX:SM:=(aF (aK uP (gN 3)) (aF (aK uP (gN 4)) (aF (aK (bg ai) (gN 5)) (aF (aK (eC (.int (0))) (gN 6)) (aF (aK (eC (.int (0))) (gN 7)) (aF (ie (eP (af (eC (.int (9000))) ai)) (gN 8) mz) (a8 (a9 (af (eC (.str "long")) (af (aa 5) (af (aa 6) ai)))))))))))
noncomputable def oR:List W->Mo W:=fM kX 10 3
noncomputable def j0:SM:=(aF (nB [("BadRun",true),("ByNought",true)] 3 (cu (aO g9 (af (aa 0) (af (aa 1) (af (aa 2) ai))))) (aF (aT (dc (cb (jE [("BadRun",false),("ByNought",false)] (aa 3))) (dc (cb (jE [("BadRun",false),("ByNought",false)] (aa 3))) (dc (cb (jE [("BadRun",false),("ByNought",true)] (aa 3))) (cb (jE [("BadRun",false),("ByNought",false)] (aa 3)))))) (a8 (eC (.bl false))) bA) (a8 (lR (jE [("BadRun",true),("ByNought",false)] (aa 3)) (jE [("BadRun",true),("ByNought",true)] (aa 3)))))) (a8 (eC (.bl false))))
noncomputable def oV:List W->Mo W:=fM j0 4 3
noncomputable def j3:SM:=(a8 (lR (dX "int" (aa 0)) (qm (dX "bool" (aa 0)))))
noncomputable def lh:List W->Mo W:=fM j3 1 1
noncomputable def tE:SM:=(aF (aK (aO g9 (af (ae ak (aa 10) (eC (.int (0)))) (af (ae ak (aa 10) (eC (.int (1)))) (af (aa 8) ai)))) (gN 14)) (aF (aT (dc (c4 (cb (dX "tuple" (aa 14)))) (dc (eT (ae cO (aa 14) (aa 9))) (eT (ae cO (aa 10) (bg (af (aa 6) (af (aa 7) ai))))))) (a8 (eC (.bl false))) bA) (aF (aT (dc (c4 (cb (dX "str" (ae ak (aa 14) (eC (.int (0))))))) (dc (c4 (cb (dX "list" (ae ak (aa 14) (eC (.int (1))))))) (c4 (cb (aO lh (af (ae ak (aa 14) (eC (.int (2)))) ai)))))) (a8 (eC (.bl false))) bA) (aF (aT (c4 (cb (bS kE (af (dO (gF (ae ak (aa 14) (eC (.int (1))))) [none] (gN 0) eA (aO lh (af (aa 0) ai))) ai)))) (a8 (eC (.bl false))) bA) (cu (bG b8 cF (ae ak (aa 14) (eC (.int (1)))) (af (eC (.int (0))) ai)))))))
noncomputable def nT:SM:=(aF (aK (ae aS (aO c8 (af (aa 0) (af (eC (.int (0))) ai))) (eC (.int (24)))) (gN 1)) (aF (aK (ae addW (eC (.int (2))) (ae aS (aO c8 (af (aa 0) (af (eC (.int (1))) ai))) (eC (.int (8))))) (gN 2)) (aF (aK (ae addW (eC (.int (1))) (ae aS (ae aZ (aO c8 (af (aa 0) (af (eC (.int (1))) ai))) (eC (.int (8)))) (eC (.int (60))))) (gN 3)) (aF (aT (eT (ae l8 (ae aS (ae aZ (aO c8 (af (aa 0) (af (eC (.int (1))) ai))) (eC (.int (480)))) (eC (.int (3)))) (eC (.int (0))))) (aF (aK (eC (.int (2))) (gN 2)) (aK (eC (.int (1))) (gN 3))) bA) (aF (aK (aO c8 (af (aa 0) (af (eC (.int (2))) ai))) (gN 4)) (aF (aK (ae aN (ae aS (ae aZ (aa 4) (eC (.int (90)))) (eC (.int (9)))) (eC (.int (1)))) (gN 5)) (aF (aK (aO rQ (af (aa 0) (af (aa 1) (af (aa 2) (af (aa 3) (af (aa 5) ai)))))) (gN 6)) (aF (aK (aO rC (af (aa 0) (af (aa 4) ai))) (gN 7)) (aF (aK (ae aS (ae aZ (aa 4) (eC (.int (9)))) (eC (.int (10)))) (gN 8)) (aF (aT (cb (aa 5)) (aK (ae addW (eC (.int (10))) (ae aS (ae aZ (aa 4) (eC (.int (810)))) (eC (.int (31))))) (gN 8)) bA) (aF (aT (eT (ae aN (ae aS (ae aZ (aa 4) (eC (.int (90)))) (eC (.int (9)))) (eC (.int (2))))) (a8 (aO vS (af (ae addW (eC (.int (41))) (ae aS (ae aZ (aa 4) (eC (.int (810)))) (eC (.int (460))))) (af (aa 7) ai)))) bA) (aF (aK (aO oR (af (aa 6) (af (aa 7) (af (aa 8) ai)))) (gN 9)) (aF (aK (bg (af (bS gm (af (aa 6) ai)) (af (bS gm (af (aa 7) ai)) ai))) (gN 10)) (aF (aK (ae aS (ae aZ (aa 4) (eC (.int (6750)))) (ae addW (bS fg (af (aa 7) ai)) (eC (.int (1))))) (gN 11)) (aF (aK (ae ak (bg (af (eC (.bl true)) (af (eC (.str "1")) (af (eC .aC) (af (eC (.int (2147483648))) (af (ix gL (eC (.int (2147483649)))) ai)))))) (ae aS (ae aZ (aa 4) (eC (.int (90)))) (eC (.int (5))))) (gN 12)) (aF (aT (c4 (cb (aO oV (af (ae ak (aa 10) (eC (.int (0)))) (af (ae ak (bg (af (ae addW (ae addW (fV (aa 7) fI (fJ (aa 11))) (bg (af (aa 12) ai))) (fV (aa 7) (fJ (aa 11)) fI)) (af (bS lB (af (aa 7) ai)) (af (eC .aC) ai)))) (ae aS (ae aZ (aa 4) (eC (.int (450)))) (eC (.int (3))))) (af (aa 8) ai)))))) (a8 (eC (.bl false))) bA) (aF (aT (c4 (cb (aO oV (af (ae ak (aa 10) (eC (.int (0)))) (af (ae ak (aa 10) (eC (.int (1)))) (af (ae ak (bg (af (ix gL (eC (.int (1)))) (af (eC (.int (10001))) (af (eC (.bl true)) (af (eC .aC) (af (eC (.str "1")) ai)))))) (ae aS (ae aZ (aa 4) (eC (.int (1350)))) (eC (.int (5))))) ai)))))) (a8 (eC (.bl false))) bA) (aF (aT (eT (ae cO (aO g9 (af (bg (af (a9 (af (eC (.str "turn")) ai)) (af (a9 (af (eC (.str "end")) ai)) ai))) (af (bg ai) (af (eC (.int (10000))) ai)))) (a9 (af (eC (.str "done")) (af (bg ai) (af (eC (.int (0))) ai)))))) (a8 (eC (.bl false))) bA) (aF (ie (eP (af (eC (.int (2))) ai)) (gN 13) tE) (a8 (eC (.bl true))))))))))))))))))))))
noncomputable def p8:List W->Mo W:=fM nT 15 1
set_option genInjectivity false in
structure Tx(K:aaj)(mg:Str->Option Value) where
 a_law_cell_at:Addr
 rR:aaZ
 gx:cz K "_law_cell_at" "_law_cell_at" gw a_law_cell_at rR
 j1:mg "_law_cell_at"=some (.ref a_law_cell_at)
 fX:Binds K rR ["_law_script","_law_k"] []
 a_law_goal_by:Addr
 rS:aaZ
 mF:cz K "_law_goal_by" "_law_goal_by" fx a_law_goal_by rS
 A7:mg "_law_goal_by"=some (.ref a_law_goal_by)
 jZ:Binds K rS ["_law_more","_law_place","_law_many","_law_turns"] []
 a_law_number_by:Addr
 rE:aaZ
 jY:cz K "_law_number_by" "_law_number_by" iF a_law_number_by rE
 rF:mg "_law_number_by"=some (.ref a_law_number_by)
 jd:Binds K rE ["_law_cell"] []
 a_law_row_by:Addr
 r6:aaZ
 mI:cz K "_law_row_by" "_law_row_by" cQ a_law_row_by r6
 Bf:mg "_law_row_by"=some (.ref a_law_row_by)
 lb:Binds K r6 ["_law_cell","_law_boxes","_law_slots"] []
 a_law_last_by:Addr
 rT:aaZ
 mG:cz K "_law_last_by" "_law_last_by" cB a_law_last_by rT
 A8:mg "_law_last_by"=some (.ref a_law_last_by)
 k8:Binds K rT ["_law_script","_law_many","_law_boxes","_law_slots","_law_loops"] []
 a_law_inputs_by:Addr
 rG:aaZ
 mD:cz K "_law_inputs_by" "_law_inputs_by" eW a_law_inputs_by rG
 AQ:mg "_law_inputs_by"=some (.ref a_law_inputs_by)
 kU:Binds K rG ["_law_script","_law_cell"] []
 a_is_number:Addr
 sj:aaZ
 li:cz K "is_number" "is_number" fy a_is_number sj
 wa:mg "is_number"=some (.ref a_is_number)
 j2:Binds K sj ["thing"] []
 a_need_run:Addr
 sJ:aaZ
 mR:cz K "need_run" "need_run" d0 a_need_run sJ
 BR:mg "need_run"=some (.ref a_need_run)
 iH:Binds K sJ ["inputs","turns"] []
 a_as_row_over_names:Addr
 rj:aaZ
 mw:cz K "as_row_over_names" "as_row_over_names" iE a_as_row_over_names rj
 Au:mg "as_row_over_names"=some (.ref a_as_row_over_names)
 gX:Binds K rj ["row"] []
 a_Run_init:Addr
 sL:aaZ
 pj:cz K "__init__" "Run.__init__" fZ a_Run_init sL
 lm:Binds K sL ["self","inputs","turns"] []
 a_held:Addr
 uk:aaZ
 iN:cz K "held" "held" hU a_held uk
 nF:mg "held"=some (.ref a_held)
 hV:Binds K uk ["run","name"] []
 a_fit:Addr
 uD:aaZ
 js:cz K "fit" "fit" ib a_fit uD
 p9:mg "fit"=some (.ref a_fit)
 iU:Binds K uD ["number"] []
 a_parted:Addr
 tH:aaZ
 m3:cz K "parted" "parted" f7 a_parted tH
 CL:mg "parted"=some (.ref a_parted)
 kb:Binds K tH ["one","other"] []
 a_reckoned:Addr
 sM:aaZ
 mS:cz K "reckoned" "reckoned" fA a_reckoned sM
 BS:mg "reckoned"=some (.ref a_reckoned)
 j5:Binds K sM ["word","one","other"] []
 a_taken:Addr
 ua:aaZ
 ni:cz K "taken" "taken" hO a_taken ua
 Dx:mg "taken"=some (.ref a_taken)
 lz:Binds K ua ["run"] []
 a_make_turn:Addr
 sk:aaZ
 mM:cz K "make_turn" "make_turn" iG a_make_turn sk
 Bv:mg "make_turn"=some (.ref a_make_turn)
 lg:Binds K sk ["run"] []
 a_do_row:Addr
 tJ:aaZ
 m5:cz K "do_row" "do_row" fb a_do_row tJ
 CM:mg "do_row"=some (.ref a_do_row)
 lx:Binds K tJ ["run","row"] []
 a_outcome:Addr
 sU:aaZ
 mW:cz K "outcome" "outcome" dF a_outcome sU
 Ci:mg "outcome"=some (.ref a_outcome)
 ls:Binds K sU ["rows","inputs","turns"] []
 a_last_run:Addr
 sN:aaZ
 jf:cz K "last_run" "last_run" fB a_last_run sN
 pk:mg "last_run"=some (.ref a_last_run)
 g8:Binds K sN ["rows","inputs","turns"] []
 a_law_many_turns:Addr
 rq:aaZ
 mC:cz K "_law_many_turns" "_law_many_turns" eV a_law_many_turns rq
 AI:mg "_law_many_turns"=some (.ref a_law_many_turns)
 kT:Binds K rq ["_law_turns","_law_inputs"] []
 a_law_fit:Addr
 sV:aaZ
 lu:cz K "_law_fit" "_law_fit" iJ a_law_fit sV
 wJ:mg "_law_fit"=some (.ref a_law_fit)
 j6:Binds K sV ["_law_number"] []
 a_law_deed:Addr
 sO:aaZ
 mT:cz K "_law_deed" "_law_deed" fC a_law_deed sO
 BU:mg "_law_deed"=some (.ref a_law_deed)
 lq:Binds K sO ["_law_word","_law_one","_law_other"] []
 a_law_box_row:Addr
 rV:aaZ
 mH:cz K "_law_box_row" "_law_box_row" fW a_law_box_row rV
 A9:mg "_law_box_row"=some (.ref a_law_box_row)
 k9:Binds K rV ["_law_row","_law_boxes","_law_slots"] []
 a_law_last_run:Addr
 rK:aaZ
 mE:cz K "_law_last_run" "_law_last_run" cD a_law_last_run rK
 AU:mg "_law_last_run"=some (.ref a_law_last_run)
 kX:Binds K rK ["_law_rows","_law_inputs","_law_turns"] []
 a_law_refused:Addr
 rW:aaZ
 la:cz K "_law_refused" "_law_refused" de a_law_refused rW
 vV:mg "_law_refused"=some (.ref a_law_refused)
 j0:Binds K rW ["_law_rows","_law_inputs","_law_turns"] []
 a_law_whole:Addr
 sr:aaZ
 lj:cz K "_law_whole" "_law_whole" fY a_law_whole sr
 wb:mg "_law_whole"=some (.ref a_law_whole)
 j3:Binds K sr ["_law_found"] []
 a_law:Addr
 uE:aaZ
 qa:cz K "law" "law" bj a_law uE
 Yo:mg "law"=some (.ref a_law)
 nT:Binds K uE ["_law_script"] []
 Bg:mg "ValueError"=none
 yx:mg "all"=none
 xS:mg "bool"=none
 nU:mg "int"=none
 eX:mg "isinstance"=none
 nV:mg "len"=none
 lE:mg "list"=none
 nj:mg "range"=none
 Fm:mg "str"=none
 xy:mg "tuple"=none
 pU:Tok
 nG:mg "HALF"=some (.int (2147483648) pU)
 oX:Tok
 Bh:mg "MOST_TURNS"=some (.int (10000) oX)
 fD:Addr
 j7:aao K aan "BadRun"=some (some (.ref fD))
 sW:mg "BadRun"=some (.ref fD)
 lw:fO K fD
 wK:acB K fD nO "ValueError.__new__"=true
 gG:Addr
 b9:aao K aan "Run"=some (some (.ref gG))
 Ei:mg "Run"=some (.ref gG)
 cf:fS K gG
 mk_Run:Mk K gG a_Run_init
 j8:du K gG "at"
 lc:du K gG "holds"
 rX:du K gG "inputs"
 mJ:du K gG "takes"
 su:du K gG "told"
 rl:du K gG "turns_left"
 ll:du K gG "word"
 d3:Addr
 je:aao K aan "ByNought"=some (some (.ref d3))
 sx:mg "ByNought"=some (.ref d3)
 j4:fO K d3
 Bw:acB K d3 nO "ValueError.__new__"=true
 Bx:acG K (.ref d3)=some (.type "type")
 lr:Addr
 Og:aao K aan "BoxError"=some (some (.ref lr))
 By:mg "BoxError"=some (.ref lr)
 Bz:fO K lr
 BA:acG K (.ref lr)=some (.type "type")
 pq:Addr
 Oh:aao K aan "BadBoxes"=some (some (.ref pq))
 BB:mg "BadBoxes"=some (.ref pq)
 oY:Addr
 M4:aao K aan "BadProgram"=some (some (.ref oY))
 Ba:mg "BadProgram"=some (.ref oY)
 pF:Addr
 Q1:aao K aan "NoText"=some (some (.ref pF))
 Cj:mg "NoText"=some (.ref pF)
 Al:ack K (.ref d3) (.ref d3)=some true
 Am:ack K (.ref d3) (.ref lr)=some true
 Ax:ack K (.ref fD) (.ref lr)=some true
 An:aaK K (.ref d3) (.ref pq)=some false
 Ay:aaK K (.ref fD) (.ref pq)=some false
 Ai:aaK K (.ref d3) (.ref oY)=some false
 Ao:aaK K (.ref fD) (.ref oY)=some false
 Ap:aaK K (.ref d3) (.ref d3)=some true
 Az:aaK K (.ref fD) (.ref d3)=some false
 AA:aaK K (.ref d3) (.ref pF)=some false
 AJ:aaK K (.ref fD) (.ref pF)=some false
 AB:aaK K (.ref d3) (.ref fD)=some false
 AK:aaK K (.ref fD) (.ref fD)=some true
 Aj:aaK K (.ref d3) (.type "ValueError")=some true
 Aq:aaK K (.ref fD) (.type "ValueError")=some true
def Tx.cast{K K':aaj}{mg Hg:Str->Option Value}(h1:K'=K)(h2:Hg=mg)(T:Tx K mg):Tx K' Hg:=by subst h1 h2;exact T
variable{X:Cx}{N N':List Str}{sc:Scope}{k:Nat}
theorem oo{scope:Scope}{tg:Expr}{g:GM}(B:Bd X N sc k)(T:Tx X.K X.mg)(hc:∀y∈scope.names,y.2≠.cell)(nd:N'.Nodup)(h:∀{Y:Cx},Bd Y N' scope k->Tx Y.K Y.mg->JG Y tg g)(cl:List (Str×Addr))(C:Addr)(aM:aam)(aU:Hp)(ex:List Addr):JG (bM X N' scope cl C aM aU ex) tg g:=h (B.bM hc nd) T
variable{t:TM}
theorem oq{scope:Scope}{ifs:List Expr}(B:Bd X N sc k)(T:Tx X.K X.mg)(hc:∀y∈scope.names,y.2≠.cell)(nd:N'.Nodup)(h:∀{Y:Cx},Bd Y N' scope k->Tx Y.K Y.mg->JF Y ifs t)(cl:List (Str×Addr))(C:Addr)(aM:aam)(aU:Hp)(ex:List Addr):JF (bM X N' scope cl C aM aU ex) ifs t:=h (B.bM hc nd) T
theorem ou{scope:Scope}{e:Expr}{m:EM}(B:Bd X N sc k)(T:Tx X.K X.mg)(hc:∀y∈scope.names,y.2≠.cell)(nd:N'.Nodup)(h:∀{Y:Cx},Bd Y N' scope k->Tx Y.K Y.mg->JE Y e m)(cl:List (Str×Addr))(C:Addr)(aM:aam)(aU:Hp)(ex:List Addr):JE (bM X N' scope cl C aM aU ex) e m:=h (B.bM hc nd) T
theorem rY:bF "_law_script"=true:=nofun
theorem tK:bF "_law_k"=true:=nofun
theorem wc:bF "_law_more"=true:=nofun
theorem vZ:bF "_law_place"=true:=nofun
theorem we:bF "_law_many"=true:=nofun
theorem mK:bF "_law_turns"=true:=nofun
theorem mO:bF "_law_cell"=true:=nofun
theorem oZ:bF "_law_boxes"=true:=nofun
theorem pb:bF "_law_slots"=true:=nofun
theorem Oi:bF "_law_kind"=true:=nofun
theorem wu:bF "_law_one"=true:=nofun
theorem Bi:bF "_law_other"=true:=nofun
theorem Oj:bF "_law_slot"=true:=nofun
theorem BC:bF "_law_word"=true:=nofun
theorem Ol:bF "_law_some"=true:=nofun
theorem Bj:bF "_law_loops"=true:=nofun
theorem Ny:bF "_law_first"=true:=nofun
theorem pd:bF "_law_rows"=true:=nofun
theorem Om:bF "_law_goal"=true:=nofun
theorem oW:bF "_law_inputs"=true:=nofun
theorem Bb:bF "_law_number"=true:=nofun
theorem CN:bF "thing"=true:=nofun
theorem sX:bF "inputs"=true:=nofun
theorem tL:bF "turns"=true:=nofun
theorem xT:bF "row"=true:=nofun
theorem Uy:bF "self"=true:=nofun
theorem lF:bF "run"=true:=nofun
theorem Uz:bF "name"=true:=nofun
theorem Q2:bF "number"=true:=nofun
theorem Ej:bF "one"=true:=nofun
theorem CO:bF "other"=true:=nofun
theorem UA:bF "word"=true:=nofun
theorem Dy:bF "rows"=true:=nofun
theorem BV:bF "_law_row"=true:=nofun
theorem Oo:bF "_law_told"=true:=nofun
theorem Nz:bF "_law_taken"=true:=nofun
theorem ox:bF "e"=true:=nofun
theorem Bk:bF "_law_found"=true:=nofun
theorem PM:bF "_law_due"=true:=nofun
theorem M5:bF "_law_handed"=true:=nofun
theorem Q3:bF "_law_at"=true:=nofun
theorem PN:bF "_law_odd"=true:=nofun
theorem Jx:aI (ag gw) "_law_script":=.inl nofun
theorem Jy:aI (ag gw) "_law_k":=.inl nofun
theorem IW:(ag gw).names.lookup ("len":Str)=some .globalImplicit:=nofun
theorem Jz:aI (ag fx) "_law_more":=.inl nofun
theorem JC:aI (ag fx) "_law_place":=.inl nofun
theorem JD:aI (ag fx) "_law_many":=.inl nofun
theorem JH:aI (ag fx) "_law_turns":=.inl nofun
theorem IX:(ag fx).names.lookup ("len":Str)=some .globalImplicit:=nofun
theorem IB:aI (ag iF) "_law_cell":=.inl nofun
theorem Kt:aI (ag cQ) "_law_cell":=.inl nofun
theorem Ku:aI (ag cQ) "_law_boxes":=.inl nofun
theorem Kv:aI (ag cQ) "_law_slots":=.inl nofun
theorem Kw:aI (ag cQ) "_law_kind":=.inl nofun
theorem Kx:Loc (ag cQ) "_law_kind":=.inl nofun
theorem Ky:aI (ag cQ) "_law_more":=.inl nofun
theorem Kz:Loc (ag cQ) "_law_more":=.inl nofun
theorem KA:aI (ag cQ) "_law_one":=.inl nofun
theorem KC:Loc (ag cQ) "_law_one":=.inl nofun
theorem KD:aI (ag cQ) "_law_other":=.inl nofun
theorem KG:Loc (ag cQ) "_law_other":=.inl nofun
theorem KH:aI (ag cQ) "_law_slot":=.inl nofun
theorem KI:Loc (ag cQ) "_law_slot":=.inl nofun
theorem KJ:aI (ag cQ) "_law_word":=.inl nofun
theorem KN:Loc (ag cQ) "_law_word":=.inl nofun
theorem KO:aI (ag cQ) "_law_some":=.inl nofun
theorem AL:Loc (ag cQ) "_law_some":=.inl nofun
theorem HD:(ag cQ).names.lookup ("_law_number_by":Str)=some .globalImplicit:=nofun
theorem JJ:aI (ag cB) "_law_script":=.inl nofun
theorem JK:aI (ag cB) "_law_many":=.inl nofun
theorem JL:aI (ag cB) "_law_boxes":=.inl nofun
theorem JM:aI (ag cB) "_law_slots":=.inl nofun
theorem JN:aI (ag cB) "_law_loops":=.inl nofun
theorem JP:aI (ag cB) "_law_first":=.inl nofun
theorem JQ:Loc (ag cB) "_law_first":=.inl nofun
theorem JR:aI (ag cB) "_law_rows":=.inl nofun
theorem JU:Loc (ag cB) "_law_rows":=.inl nofun
theorem JV:aI (ag cB) "_law_turns":=.inl nofun
theorem JX:Loc (ag cB) "_law_turns":=.inl nofun
theorem JY:aI (ag cB) "_law_place":=.inl nofun
theorem JZ:Loc (ag cB) "_law_place":=.inl nofun
theorem J0:aI (ag cB) "_law_cell":=.inl nofun
theorem J1:Loc (ag cB) "_law_cell":=.inl nofun
theorem IY:aI (ag cB) "_law_goal":=.inl nofun
theorem IZ:Loc (ag cB) "_law_goal":=.inl nofun
theorem Ie:(ag cB).names.lookup ("range":Str)=some .globalImplicit:=nofun
theorem HF:(ag cB).names.lookup ("_law_cell_at":Str)=some .globalImplicit:=nofun
theorem HG:(ag cB).names.lookup ("_law_goal_by":Str)=some .globalImplicit:=nofun
theorem Ja:(ag cB).names.lookup ("int":Str)=some .globalImplicit:=nofun
theorem HI:(ag cB).names.lookup ("_law_row_by":Str)=some .globalImplicit:=nofun
theorem IC:aI (ag eW) "_law_cell":=.inr (.inl nofun)
theorem ID:aI (ag eW) "_law_inputs":=.inl nofun
theorem Av:Loc (ag eW) "_law_inputs":=.inl nofun
theorem IF:aI (ag eW) "_law_more":=.inl nofun
theorem IH:Loc (ag eW) "_law_more":=.inl nofun
theorem Ak:(ag eW).names.lookup ("range":Str)=some .globalImplicit:=nofun
theorem Lp:aI (ag fy) "thing":=.inl nofun
theorem Ag:(ag fy).names.lookup ("isinstance":Str)=some .globalImplicit:=nofun
theorem KP:(ag fy).names.lookup ("int":Str)=some .globalImplicit:=nofun
theorem J3:(ag fy).names.lookup ("bool":Str)=some .globalImplicit:=nofun
theorem AG:(ag fy).names.lookup ("HALF":Str)=some .globalImplicit:=nofun
theorem LL:aI (ag d0) "inputs":=.inl nofun
theorem LM:aI (ag d0) "turns":=.inl nofun
theorem HU:(ag d0).names.lookup ("isinstance":Str)=some .globalImplicit:=nofun
theorem KQ:(ag d0).names.lookup ("list":Str)=some .globalImplicit:=nofun
theorem Lq:(ag d0).names.lookup ("all":Str)=some .globalImplicit:=nofun
theorem AD:(ag d0).names.lookup ("BadRun":Str)=some .globalImplicit:=nofun
theorem HY:(ag d0).names.lookup ("is_number":Str)=some .globalImplicit:=nofun
theorem HV:(ag d0).names.lookup ("MOST_TURNS":Str)=some .globalImplicit:=nofun
theorem HL:aI (ag iE) "row":=.inl nofun
theorem LN:aI (ag fZ) "self":=.inl nofun
theorem LO:aI (ag fZ) "inputs":=.inl nofun
theorem LP:aI (ag fZ) "turns":=.inl nofun
theorem KR:(ag fZ).names.lookup ("list":Str)=some .globalImplicit:=nofun
theorem PP:aI (ag hU) "run":=.inl nofun
theorem PQ:aI (ag hU) "name":=.inl nofun
theorem Q4:aI (ag ib) "number":=.inl nofun
theorem wg:(ag ib).names.lookup ("HALF":Str)=some .globalImplicit:=nofun
theorem NA:aI (ag f7) "one":=.inl nofun
theorem NB:aI (ag f7) "other":=.inl nofun
theorem Jb:(ag f7).names.lookup ("ByNought":Str)=some .globalImplicit:=nofun
theorem M6:(ag f7).names.lookup ("fit":Str)=some .globalImplicit:=nofun
theorem LQ:aI (ag fA) "word":=.inl nofun
theorem LS:aI (ag fA) "one":=.inl nofun
theorem LU:aI (ag fA) "other":=.inl nofun
theorem vU:(ag fA).names.lookup ("fit":Str)=some .globalImplicit:=nofun
theorem Jc:(ag fA).names.lookup ("parted":Str)=some .globalImplicit:=nofun
theorem Oq:aI (ag hO) "run":=.inl nofun
theorem NC:(ag hO).names.lookup ("len":Str)=some .globalImplicit:=nofun
theorem Lr:aI (ag iG) "run":=.inl nofun
theorem ND:aI (ag fb) "run":=.inl nofun
theorem NE:aI (ag fb) "row":=.inl nofun
theorem oS:(ag fb).names.lookup ("held":Str)=some .globalImplicit:=nofun
theorem Jd:(ag fb).names.lookup ("reckoned":Str)=some .globalImplicit:=nofun
theorem Ls:(ag fb).names.lookup ("taken":Str)=some .globalImplicit:=nofun
theorem IJ:(ag fb).names.lookup ("make_turn":Str)=some .globalImplicit:=nofun
theorem M7:aI (ag dF) "inputs":=.inl nofun
theorem M8:aI (ag dF) "turns":=.inl nofun
theorem vW:aI (ag dF) "run":=.inl nofun
theorem M9:Loc (ag dF) "run":=.inl nofun
theorem LV:(ag dF).names.lookup ("Run":Str)=some .globalImplicit:=nofun
theorem IK:(ag dF).names.lookup ("ByNought":Str)=some .globalImplicit:=nofun
theorem Lu:aI (jT (ag dF) "run") "rows":=.inl nofun
theorem Lv:aI (jT (ag dF) "run") "run":=.inr (.inr nofun)
theorem KS:(jT (ag dF) "run").names.lookup ("len":Str)=some .globalImplicit:=nofun
theorem IP:(jT (ag dF) "run").names.lookup ("do_row":Str)=some .globalImplicit:=nofun
theorem LW:aI (ag fB) "rows":=.inl nofun
theorem LX:aI (ag fB) "inputs":=.inl nofun
theorem LY:aI (ag fB) "turns":=.inl nofun
theorem Ig:(ag fB).names.lookup ("need_run":Str)=some .globalImplicit:=nofun
theorem IQ:(ag fB).names.lookup ("outcome":Str)=some .globalImplicit:=nofun
theorem Ih:aI (ag eV) "_law_turns":=.inl nofun
theorem Ii:aI (ag eV) "_law_inputs":=.inl nofun
theorem Ij:aI (ag eV) "_law_rows":=.inl nofun
theorem Ik:Loc (ag eV) "_law_rows":=.inl nofun
theorem HW:(ag eV).names.lookup ("list":Str)=some .globalImplicit:=nofun
theorem HH:(ag eV).names.lookup ("last_run":Str)=some .globalImplicit:=nofun
theorem Na:aI (ag iJ) "_law_number":=.inl nofun
theorem LZ:aI (ag fC) "_law_word":=.inl nofun
theorem L8:aI (ag fC) "_law_one":=.inl nofun
theorem Ma:aI (ag fC) "_law_other":=.inl nofun
theorem Lw:(ag fC).names.lookup ("int":Str)=some .globalImplicit:=nofun
theorem Aw:(ag fC).names.lookup ("_law_fit":Str)=some .globalImplicit:=nofun
theorem J4:aI (ag fW) "_law_row":=.inl nofun
theorem Ka:aI (ag fW) "_law_boxes":=.inl nofun
theorem Kb:aI (ag fW) "_law_slots":=.inl nofun
theorem HM:(ag fW).names.lookup ("_law_deed":Str)=some .globalImplicit:=nofun
theorem Je:aI (ag cD) "_law_rows":=.inl nofun
theorem Jf:aI (ag cD) "_law_inputs":=.inl nofun
theorem Jg:aI (ag cD) "_law_turns":=.inl nofun
theorem Jh:Loc (ag cD) "_law_turns":=.inl nofun
theorem Ji:aI (ag cD) "_law_boxes":=.inl nofun
theorem Jj:Loc (ag cD) "_law_boxes":=.inl nofun
theorem Jk:aI (ag cD) "_law_slots":=.inl nofun
theorem Jl:Loc (ag cD) "_law_slots":=.inl nofun
theorem Jm:aI (ag cD) "_law_told":=.inl nofun
theorem Jn:Loc (ag cD) "_law_told":=.inl nofun
theorem Jo:aI (ag cD) "_law_taken":=.inl nofun
theorem AE:Loc (ag cD) "_law_taken":=.inl nofun
theorem Jp:aI (ag cD) "_law_place":=.inl nofun
theorem rk:Loc (ag cD) "_law_place":=.inl nofun
theorem aaa:aI (ag cD) "_law_step":=.inl nofun
theorem Jq:Loc (ag cD) "_law_step":=.inl nofun
theorem Jr:aI (ag cD) "_law_row":=.inl nofun
theorem Js:Loc (ag cD) "_law_row":=.inl nofun
theorem HZ:(ag cD).names.lookup ("range":Str)=some .globalImplicit:=nofun
theorem IR:(ag cD).names.lookup ("int":Str)=some .globalImplicit:=nofun
theorem HE:(ag cD).names.lookup ("_law_box_row":Str)=some .globalImplicit:=nofun
theorem Kc:aI (ag de) "_law_rows":=.inl nofun
theorem Kd:aI (ag de) "_law_inputs":=.inl nofun
theorem Ke:aI (ag de) "_law_turns":=.inl nofun
theorem mB:aI (ag de) "e":=.inl nofun
theorem HN:(ag de).names.lookup ("last_run":Str)=some .globalImplicit:=nofun
theorem ms:(ag de).names.lookup ("isinstance":Str)=some .globalImplicit:=nofun
theorem HP:(ag de).names.lookup ("BadBoxes":Str)=some .globalImplicit:=nofun
theorem HJ:(ag de).names.lookup ("BadProgram":Str)=some .globalImplicit:=nofun
theorem HQ:(ag de).names.lookup ("ByNought":Str)=some .globalImplicit:=nofun
theorem Ia:(ag de).names.lookup ("NoText":Str)=some .globalImplicit:=nofun
theorem Ib:(ag de).names.lookup ("BadRun":Str)=some .globalImplicit:=nofun
theorem HK:(ag de).names.lookup ("ValueError":Str)=some .globalImplicit:=nofun
theorem HS:(ag de).names.lookup ("BoxError":Str)=some .globalImplicit:=nofun
theorem Lx:aI (ag fY) "_law_found":=.inl nofun
theorem Ah:(ag fY).names.lookup ("isinstance":Str)=some .globalImplicit:=nofun
theorem KU:(ag fY).names.lookup ("int":Str)=some .globalImplicit:=nofun
theorem Kf:(ag fY).names.lookup ("bool":Str)=some .globalImplicit:=nofun
theorem Q5:aI (ag bj) "_law_script":=.inl nofun
theorem Q6:aI (ag bj) "_law_many":=.inl nofun
theorem Q7:Loc (ag bj) "_law_many":=.inl nofun
theorem Q8:aI (ag bj) "_law_boxes":=.inl nofun
theorem Ck:Loc (ag bj) "_law_boxes":=.inl nofun
theorem Q9:aI (ag bj) "_law_slots":=.inl nofun
theorem Cm:Loc (ag bj) "_law_slots":=.inl nofun
theorem Ra:aI (ag bj) "_law_cell":=.inl nofun
theorem Rb:Loc (ag bj) "_law_cell":=.inl nofun
theorem Rc:aI (ag bj) "_law_loops":=.inl nofun
theorem Rf:Loc (ag bj) "_law_loops":=.inl nofun
theorem Rg:aI (ag bj) "_law_rows":=.inl nofun
theorem Rh:Loc (ag bj) "_law_rows":=.inl nofun
theorem Ri:aI (ag bj) "_law_inputs":=.inl nofun
theorem Rj:Loc (ag bj) "_law_inputs":=.inl nofun
theorem Rk:aI (ag bj) "_law_turns":=.inl nofun
theorem Cn:Loc (ag bj) "_law_turns":=.inl nofun
theorem Rl:aI (ag bj) "_law_due":=.inl nofun
theorem Rm:Loc (ag bj) "_law_due":=.inl nofun
theorem PU:aI (ag bj) "_law_handed":=.inl nofun
theorem PV:Loc (ag bj) "_law_handed":=.inl nofun
theorem PX:aI (ag bj) "_law_at":=.inl nofun
theorem PY:Loc (ag bj) "_law_at":=.inl nofun
theorem PZ:aI (ag bj) "_law_odd":=.inl nofun
theorem P1:Loc (ag bj) "_law_odd":=.inl nofun
theorem aab:aI (ag bj) "_law_turn":=.inl nofun
theorem P4:Loc (ag bj) "_law_turn":=.inl nofun
theorem P5:aI (ag bj) "_law_found":=.inl nofun
theorem P6:Loc (ag bj) "_law_found":=.inl nofun
theorem oQ:(ag bj).names.lookup ("_law_cell_at":Str)=some .globalImplicit:=nofun
theorem Jt:(ag bj).names.lookup ("_law_last_by":Str)=some .globalImplicit:=nofun
theorem Il:(ag bj).names.lookup ("_law_inputs_by":Str)=some .globalImplicit:=nofun
theorem Ic:(ag bj).names.lookup ("_law_many_turns":Str)=some .globalImplicit:=nofun
theorem IU:(ag bj).names.lookup ("_law_last_run":Str)=some .globalImplicit:=nofun
theorem wk:(ag bj).names.lookup ("list":Str)=some .globalImplicit:=nofun
theorem P7:(ag bj).names.lookup ("len":Str)=some .globalImplicit:=nofun
theorem Bl:(ag bj).names.lookup ("tuple":Str)=some .globalImplicit:=nofun
theorem AF:(ag bj).names.lookup ("_law_refused":Str)=some .globalImplicit:=nofun
theorem AR:(ag bj).names.lookup ("last_run":Str)=some .globalImplicit:=nofun
theorem NF:(ag bj).names.lookup ("range":Str)=some .globalImplicit:=nofun
theorem vR:(ag bj).names.lookup ("isinstance":Str)=some .globalImplicit:=nofun
theorem P8:(ag bj).names.lookup ("str":Str)=some .globalImplicit:=nofun
theorem KW:(ag bj).names.lookup ("_law_whole":Str)=some .globalImplicit:=nofun
theorem P9:(ag bj).names.lookup ("all":Str)=some .globalImplicit:=nofun
section
variable{P:abp}{w:World}{K:aaj}{mg:Str->Option Value}{base:Heap}
theorem Mb:cC ["_law_script","_law_k"] ["_law_script","_law_k"] (ag gw):=⟨rfl,rfl,rfl,nofun,rfl,nofun,nofun⟩
variable{X:Cx}
theorem KY(T:Tx X.K X.mg)(B:Bd X ["_law_script","_law_k"] (ag gw) 0)(hF:bY X)(aL:X.env.scope=ag gw):JB X (bf gw) fX:=
 have v0 {p:Pos}:JE X (.Name "_law_script" p) (aa 0):=B.jv 0 rfl Jx rY;have v1 {p:Pos}:JE X (.Name "_law_k" p) (aa 1):=B.jv 1 rfl Jy tK
 (aQ (bb (a7 hX v1 (lC rfl nofun nofun pv pO (B.gl _ IW) T.nV adw (ah rfl v0 ay))) (aD (bo (B.ak v0 v1))) bX) (aD (bo aj)))
theorem kY(T:Tx K mg):bO P w K mg base (bL P w) 1 T.a_law_cell_at T.rR ["_law_script","_law_k"] (bV K mg 2 (fM fX 2 2)):=cR rfl rfl T.gx Mb fun{X} h1 h2 h3 h4 h5 B hF aL=>by subst h3 h4;exact KY T B hF aL
theorem Mc:cC ["_law_more","_law_place","_law_many","_law_turns"] ["_law_more","_law_place","_law_many","_law_turns"] (ag fx):=⟨rfl,rfl,rfl,nofun,rfl,nofun,nofun⟩
theorem KZ(T:Tx X.K X.mg)(B:Bd X ["_law_more","_law_place","_law_many","_law_turns"] (ag fx) 0)(hF:bY X)(aL:X.env.scope=ag fx):JB X (bf fx) jZ:=
 have v0 {p:Pos}:JE X (.Name "_law_more" p) (aa 0):=B.jv 0 rfl Jz wc;have v1 {p:Pos}:JE X (.Name "_law_place" p) (aa 1):=B.jv 1 rfl JC vZ;have v2 {p:Pos}:JE X (.Name "_law_many" p) (aa 2):=B.jv 2 rfl JD we;have v3 {p:Pos}:JE X (.Name "_law_turns" p) (aa 3):=B.jv 3 rfl JH mK
 (aQ (bb (gO (nz (a7 B.ne v3 (cV ay)) (gB (a7 B.eq (bp v0 aj) aj)))) (aD (bo (B.ak v3 (bp (bU v0 aj) (lC rfl nofun nofun pv pO (B.gl _ IX) T.nV adw (ah rfl v3 ay)))))) bX) (aD (bo (cI (cI v1 aj) (bp (bU v0 aj) (gA v2 v1))))))
theorem Md(T:Tx K mg):bO P w K mg base (bL P w) 1 T.a_law_goal_by T.rS ["_law_more","_law_place","_law_many","_law_turns"] (bV K mg 4 (fM jZ 4 4)):=cR rfl rfl T.mF Mc fun{X} h1 h2 h3 h4 h5 B hF aL=>by subst h3 h4;exact KZ T B hF aL
theorem K1:cC ["_law_cell"] ["_law_cell"] (ag iF):=⟨rfl,rfl,rfl,nofun,rfl,nofun,nofun⟩
theorem Ju(T:Tx X.K X.mg)(B:Bd X ["_law_cell"] (ag iF) 0)(hF:bY X)(aL:X.env.scope=ag iF):JB X (bf iF) jd:=
 have v0 {p:Pos}:JE X (.Name "_law_cell" p) (aa 0):=B.jv 0 rfl IB mO
 (aQ (bb (a7 B.eq (bp v0 aj) aj) (aD (bo (B.ak (cV (ah rfl aj (ah rfl (ny aj) (ah rfl aj (ah rfl (ny aj) (ah rfl aj (ah rfl (ny aj) (ah rfl aj (ah rfl aj ay))))))))) (bp (bU v0 aj) aj)))) bX) (aQ (bb (a7 B.eq (bp v0 aj) aj) (aD (bo (gA (bp (gb (bU v0 aj) aj) aj) aj))) bX) (aQ (bb (a7 B.eq (bp v0 aj) aj) (aD (bo (gA (bp (bU v0 aj) aj) aj))) bX) (aD (bo (gA (bp (bU v0 aj) aj) aj))))))
theorem vT(T:Tx K mg):bO P w K mg base (bL P w) 1 T.a_law_number_by T.rE ["_law_cell"] (bV K mg 1 (fM jd 1 1)):=cR rfl rfl T.jY K1 fun{X} h1 h2 h3 h4 h5 B hF aL=>by subst h3 h4;exact Ju T B hF aL
theorem Nb:cC ["_law_cell","_law_boxes","_law_slots","_law_kind","_law_more","_law_one","_law_other","_law_slot","_law_word","_law_some"] ["_law_cell","_law_boxes","_law_slots"] (ag cQ):=⟨rfl,rfl,rfl,nofun,rfl,nofun,nofun⟩
theorem Ly(T:Tx X.K X.mg)(B:Bd X ["_law_cell","_law_boxes","_law_slots","_law_kind","_law_more","_law_one","_law_other","_law_slot","_law_word","_law_some"] (ag cQ) 1)(hF:bY X)(aL:X.env.scope=ag cQ):JB X (bf cQ) lb:=
 have v0 {p:Pos}:JE X (.Name "_law_cell" p) (aa 0):=B.jv 0 rfl Kt mO;have v1 {p:Pos}:JE X (.Name "_law_boxes" p) (aa 1):=B.jv 1 rfl Ku oZ;have v2 {p:Pos}:JE X (.Name "_law_slots" p) (aa 2):=B.jv 2 rfl Kv pb;have v3 {p:Pos}:JE X (.Name "_law_kind" p) (aa 3):=B.jv 3 rfl Kw Oi;have v4 {p:Pos}:JE X (.Name "_law_more" p) (aa 4):=B.jv 4 rfl Ky wc;have v5 {p:Pos}:JE X (.Name "_law_one" p) (aa 5):=B.jv 5 rfl KA wu;have v6 {p:Pos}:JE X (.Name "_law_other" p) (aa 6):=B.jv 6 rfl KD Bi;have v7 {p:Pos}:JE X (.Name "_law_slot" p) (aa 7):=B.jv 7 rfl KH Oj;have v8 {p:Pos}:JE X (.Name "_law_word" p) (aa 8):=B.jv 8 rfl KJ BC;have v9 {p:Pos}:JE X (.Name "_law_some" p) (aa 9):=B.jv 9 rfl KO Ol
 (aQ (B.bJ 3 rfl Kx rfl (bp v0 aj)) (aQ (B.bJ 4 rfl Kz rfl (bp (gb (bU v0 aj) aj) aj)) (aQ (B.bJ 5 rfl KC rfl (bp v4 v1)) (aQ (B.bJ 6 rfl KG rfl (bp (bU v4 aj) v1)) (aQ (B.bJ 7 rfl KI rfl (bp (bU v4 aj) v2)) (aQ (bb (a7 hX v3 aj) (aQ (B.bJ 8 rfl KN rfl (B.ak (cV (ah rfl aR (ah rfl aR (ah rfl aR (ah rfl aR (ah rfl aR (ah rfl aR ay))))))) (bp (bU v4 aj) aj))) (aD (bo (bP (ah rfl aR (ah rfl v5 (ah rfl v8 (ah rfl v6 (ah rfl (bp (bU v4 aj) v1) ay))))))))) bX) (aQ (B.bJ 9 rfl AL rfl (cV (ah rfl (bP (ah rfl aR (ah rfl v5 (ah rfl (bw rfl nofun (vT T) bv (B.room.mono (by decide)) (B.gl _ HD) T.rF T.jY.kp T.jd (ah rfl (bU v4 aj) ay)) ay)))) (ah rfl (bP (ah rfl aR (ah rfl v5 (ah rfl v6 ay)))) (ah rfl (bP (ah rfl aR (ah rfl v5 (ah rfl v7 ay)))) (ah rfl (bP (ah rfl aR (ah rfl v7 (ah rfl v5 ay)))) ay)))))) (aQ (B.bJ 9 rfl AL rfl (cI v9 (cV (ah rfl (bP (ah rfl aR (ah rfl v5 ay))) (ah rfl (bP (ah rfl aR (ah rfl v5 ay))) (ah rfl (bP (ah rfl aR ay)) ay)))))) (aD (bo (B.ak v9 (gA v3 aj))))))))))))
theorem Nc(T:Tx K mg):bO P w K mg base (bL P w) 2 T.a_law_row_by T.r6 ["_law_cell","_law_boxes","_law_slots"] (bV K mg 3 (fM lb 10 3)):=cR rfl rfl T.mI Nb fun{X} h1 h2 h3 h4 h5 B hF aL=>by subst h3 h4;exact Ly T B hF aL
theorem Me:cC ["_law_script","_law_many","_law_boxes","_law_slots","_law_loops","_law_first","_law_rows","_law_turns","_law_place","_law_cell","_law_goal"] ["_law_script","_law_many","_law_boxes","_law_slots","_law_loops"] (ag cB):=⟨rfl,rfl,rfl,nofun,rfl,nofun,nofun⟩
theorem K2(T:Tx X.K X.mg)(B:Bd X ["_law_script","_law_many","_law_boxes","_law_slots","_law_loops","_law_first","_law_rows","_law_turns","_law_place","_law_cell","_law_goal"] (ag cB) 2)(hF:bY X)(aL:X.env.scope=ag cB):JB X (bf cB) k8:=
 have v0 {p:Pos}:JE X (.Name "_law_script" p) (aa 0):=B.jv 0 rfl JJ rY;have v1 {p:Pos}:JE X (.Name "_law_many" p) (aa 1):=B.jv 1 rfl JK we;have v2 {p:Pos}:JE X (.Name "_law_boxes" p) (aa 2):=B.jv 2 rfl JL oZ;have v3 {p:Pos}:JE X (.Name "_law_slots" p) (aa 3):=B.jv 3 rfl JM pb;have v4 {p:Pos}:JE X (.Name "_law_loops" p) (aa 4):=B.jv 4 rfl JN Bj;have v5 {p:Pos}:JE X (.Name "_law_first" p) (aa 5):=B.jv 5 rfl JP Ny;have v6 {p:Pos}:JE X (.Name "_law_rows" p) (aa 6):=B.jv 6 rfl JR pd;have v7 {p:Pos}:JE X (.Name "_law_turns" p) (aa 7):=B.jv 7 rfl JV mK;have v8 {p:Pos}:JE X (.Name "_law_place" p) (aa 8):=B.jv 8 rfl JY vZ;have v9 {p:Pos}:JE X (.Name "_law_cell" p) (aa 9):=B.jv 9 rfl J0 mO;have fo {p:Pos}:JE X (.Name "_law_goal" p) (aa 10):=B.jv 10 rfl IY Om
 (aQ (B.bJ 5 rfl JQ rfl aj) (aQ (B.bJ 6 rfl JU rfl (cV ay)) (aQ (B.bJ 7 rfl JX rfl (cV ay)) (aQ (B.yU (pw (B.gl _ Ie) T.nj rfl (ah rfl v1 ay)) (B.jp 8 rfl JZ) (aQ (B.bJ 9 rfl J1 rfl (bp (gb (cI (bw rfl nofun (kY T) bv (B.room.mono (by decide)) (B.gl _ HF) T.j1 T.gx.kp T.fX (ah rfl v0 (ah rfl (cI v5 v8) ay))) (gb aj v8)) aj) aj)) (aQ (B.bJ 10 rfl IZ rfl (bw rfl nofun (Md T) bv (B.room.mono (by decide)) (B.gl _ HG) T.A7 T.mF.kp T.jZ (ah rfl (bU v9 aj) (ah rfl v8 (ah rfl v1 (ah rfl v7 ay)))))) (aD (bb (gO (nz (dG rfl v4) (gB (a7 B.eq v8 aj)))) (aQ (dr rfl (cZ rfl rfl aaH aaI aaJ eo ez eY v7 (ah rfl v8 ay))) (aD (dr rfl (cZ rfl rfl aaH aaI aaJ eo ez eY v6 (ah rfl (bP (ah rfl aR ay)) ay))))) (aD (bb (gO (nz (dG rfl v4) (gB (a7 B.eq v8 (gA v1 aj))))) (aD (dr rfl (cZ rfl rfl aaH aaI aaJ eo ez eY v6 (ah rfl (bP (ah rfl aR (ah rfl aj ay))) ay)))) (aD (bb (a7 hX (bp v9 aj) aj) (aD (dr rfl (cZ rfl rfl aaH aaI aaJ eo ez eY v6 (ah rfl (bP (ah rfl aR (ah rfl (bp (bU v9 aj) v2) (ah rfl fo ay)))) ay)))) (aD (bb (a7 B.eq (bp v9 aj) aj) (aD (dr rfl (cZ rfl rfl aaH aaI aaJ eo ez eY v6 (ah rfl (B.ak (cV (ah rfl (bP (ah rfl aR (ah rfl fo ay))) (ah rfl (bP (ah rfl aR ay)) ay))) (kg rfl nofun nofun wz xO (B.gl _ Ja) T.nU acl (ah rfl (kf B.eq (bp (bU v9 aj) aj) aj) ay))) ay)))) (aD (bb (a7 B.eq (bp v9 aj) aj) (aQ (dr rfl (cZ rfl rfl aaH aaI aaJ eo ez eY v7 (ah rfl v8 ay))) (aD (dr rfl (cZ rfl rfl aaH aaI aaJ eo ez eY v6 (ah rfl (bP (ah rfl aR ay)) ay))))) (aD (bb (a7 hX (bp v9 aj) aj) (aD (dr rfl (cZ rfl rfl aaH aaI aaJ eo ez eY v6 (ah rfl (bP (ah rfl aR (ah rfl (bp (bU v9 aj) v2) ay))) ay)))) (aD (bb (a7 hX (bp v9 aj) aj) (aD (dr rfl (cZ rfl rfl aaH aaI aaJ eo ez eY v6 (ah rfl (bP (ah rfl aR (ah rfl (bp (bU v9 aj) v3) (ah rfl (bp (bU v9 aj) v2) ay)))) ay)))) (aD (bb (a7 hX (bp v9 aj) aj) (aD (dr rfl (cZ rfl rfl aaH aaI aaJ eo ez eY v6 (ah rfl (bP (ah rfl aR (ah rfl (bp (bU v9 aj) v2) (ah rfl (bp (bU v9 aj) v3) ay)))) ay)))) (aD (bb (a7 hX (bp v9 aj) aj) (aD (dr rfl (cZ rfl rfl aaH aaI aaJ eo ez eY v6 (ah rfl (bP (ah rfl aR (ah rfl (bp (bU v9 aj) v2) ay))) ay)))) (aD (dr rfl (cZ rfl rfl aaH aaI aaJ eo ez eY v6 (ah rfl (bw rfl nofun (Nc T) bv (B.room.mono (by decide)) (B.gl _ HI) T.Bf T.mI.kp T.lb (ah rfl (bU v9 aj) (ah rfl v2 (ah rfl v3 ay)))) ay))))))))))))))))))))))))) (aD (bo (cI v6 (cV (ah rfl (bP (ah rfl aR ay)) ay)))))))))
theorem Mf(T:Tx K mg):bO P w K mg base (bL P w) 3 T.a_law_last_by T.rT ["_law_script","_law_many","_law_boxes","_law_slots","_law_loops"] (bV K mg 5 (fM k8 11 5)):=cR rfl rfl T.mG Me fun{X} h1 h2 h3 h4 h5 B hF aL=>by subst h3 h4;exact K2 T B hF aL
theorem K3:cC ["_law_script","_law_cell","_law_inputs","_law_more"] ["_law_script","_law_cell"] (ag eW):=⟨rfl,rfl,rfl,nofun,rfl,nofun,nofun⟩
theorem Jv(T:Tx X.K X.mg)(B:Bd X ["_law_script","_law_cell","_law_inputs","_law_more"] (ag eW) 1)(hF:bY X)(aL:X.env.scope=ag eW):JB X (bf eW) kU:=
 have v1 {p:Pos}:JE X (.Name "_law_cell" p) (aa 1):=B.jv 1 rfl IC mO;have v2 {p:Pos}:JE X (.Name "_law_inputs" p) (aa 2):=B.jv 2 rfl ID oW;have v3 {p:Pos}:JE X (.Name "_law_more" p) (aa 3):=B.jv 3 rfl IF wc
 (aQ (C5 (i:=2) (by rw[B.hN];exact B.nd) (by rw[B.hN];rfl) (B.fn _ Av).2 (by rw[aL];decide +kernel) B.calm (N':=["_law_k","_law_script"]) (Bd.cap B.hN aL nofun) (pw (B.gl _ Ak) T.nj rfl (ah rfl (bp v1 aj) ay)) (oo B T nofun nofun fun{X} B T=>(B.jp 0 rfl (.inl rfl))) (oq B T nofun nofun fun{X} B T=>nA) (ou B T nofun nofun fun{X} B T=>(bw rfl nofun (vT T) bv (B.room.mono (by decide)) (B.gl _ rfl) T.rF T.jY.kp T.jd (ah rfl (bw rfl nofun (kY T) bv (B.room.mono (by decide)) (B.gl _ rfl) T.j1 T.gx.kp T.fX (ah rfl (B.jv 1 rfl (.inr (.inr rfl)) rY) (ah rfl (cI aj (B.jv 0 rfl (.inl rfl) tK)) ay))) ay))) (Cd (by rw[aL];rfl) (by rw[aL];decide +kernel) rfl nofun)) (aQ (bb (a7 (B.Ze (by with_unfolding_all rfl)) (bp (bU v1 aj) aj) (bP (ah rfl aj (ah rfl aj ay)))) (aQ (C5 (i:=3) (by rw[B.hN];exact B.nd) (by rw[B.hN];rfl) (B.fn _ IH).2 (by rw[aL];decide +kernel) B.calm (N':=["_law_k","_law_cell"]) (Bd.cap B.hN aL nofun) (pw (B.gl _ Ak) T.nj rfl (ah rfl (bp (bU v1 aj) aj) ay)) (oo B T nofun nofun fun{X} B T=>(B.jp 0 rfl (.inl rfl))) (oq B T nofun nofun fun{X} B T=>nA) (ou B T nofun nofun fun{X} B T=>(bp (gb (cI (cI (B.jv 1 rfl (.inr (.inr rfl)) mO) aj) (gb (gb aj (B.jv 0 rfl (.inl rfl) tK)) (B.jv 0 rfl (.inl rfl) tK))) aj) aj)) (Cd (by rw[aL];rfl) (by rw[aL];decide +kernel) rfl nofun)) (aD (B.bJ 2 rfl Av rfl (cI v2 (tV B.calm (N':=["_law_number"]) (Bd.cap B.hN aL nofun) (tW v3) (oo B T nofun nofun fun{X} B T=>(B.jp 0 rfl (.inl rfl))) (oq B T nofun nofun fun{X} B T=>nA) (ou B T nofun nofun fun{X} B T=>(bw rfl nofun (vT T) bv (B.room.mono (by decide)) (B.gl _ rfl) T.rF T.jY.kp T.jd (ah rfl (B.jv 0 rfl (.inl rfl) Bb) ay)))))))) bX) (aD (bo v2))))
theorem K4(T:Tx K mg):bO P w K mg base (bL P w) 2 T.a_law_inputs_by T.rG ["_law_script","_law_cell"] (bV K mg 2 (fM kU 4 2)):=cR rfl rfl T.mD K3 fun{X} h1 h2 h3 h4 h5 B hF aL=>by subst h3 h4;exact Jv T B hF aL
theorem NG:cC ["thing"] ["thing"] (ag fy):=⟨rfl,rfl,rfl,nofun,rfl,nofun,nofun⟩
theorem Mg(T:Tx X.K X.mg)(B:Bd X ["thing"] (ag fy) 0)(hF:bY X)(aL:X.env.scope=ag fy):JB X (bf fy) j2:=
 have v0 {p:Pos}:JE X (.Name "thing" p) (aa 0):=B.jv 0 rfl Lp CN
 (aQ (bb (gO (hZ (gC (dG rfl (ko Cv acl nofun nofun rfl (B.gl _ Ag) T.eX (B.gl _ KP) T.nU v0))) (gB (dG rfl (ko B8 aeA nofun nofun rfl (B.gl _ Ag) T.eX (B.gl _ J3) T.xS v0))))) (aD (bo gE)) bX) (aD (bo (Sg yi hX (by with_unfolding_all rfl) (ny (nc (B.gl _ AG) T.nG nofun)) v0 (nc (B.gl _ AG) T.nG nofun)))))
theorem Bm(T:Tx K mg):bO P w K mg base (bL P w) 1 T.a_is_number T.sj ["thing"] (bV K mg 1 (fM j2 1 1)):=cR rfl rfl T.li NG fun{X} h1 h2 h3 h4 h5 B hF aL=>by subst h3 h4;exact Mg T B hF aL
theorem Ot:cC ["inputs","turns"] ["inputs","turns"] (ag d0):=⟨rfl,rfl,rfl,nofun,rfl,nofun,nofun⟩
theorem Nd(T:Tx X.K X.mg)(B:Bd X ["inputs","turns"] (ag d0) 1)(hF:bY X)(aL:X.env.scope=ag d0):JB X (bf d0) iH:=
 have v0 {p:Pos}:JE X (.Name "inputs" p) (aa 0):=B.jv 0 rfl LL sX;have v1 {p:Pos}:JE X (.Name "turns" p) (aa 1):=B.jv 1 rfl LM tL
 (aQ (bb (gO (hZ (gC (dG rfl (ko B9 abK nofun nofun rfl (B.gl _ HU) T.eX (B.gl _ KQ) T.lE v0))) (gB (gC (dG rfl (lC rfl nofun nofun (BM B.calm) DN (B.gl _ Lq) T.yx aeN (ah rfl (tV B.calm (N':=["thing"]) (Bd.cap B.hN aL nofun) (tW v0) (oo B T nofun nofun fun{X} B T=>(B.jp 0 rfl (.inl rfl))) (oq B T nofun nofun fun{X} B T=>nA) (ou B T nofun nofun fun{X} B T=>(bw rfl nofun (Bm T) bv (B.room.mono (by decide)) (B.gl _ rfl) T.wa T.li.kp T.j2 (ah rfl (B.jv 0 rfl (.inl rfl) CN) ay)))) ay))))))) (aD (wX T.wK (B.gl _ AD) T.sW B.calm rfl nofun (ah rfl aR ay))) bX) (aD (bb (gO (hZ (gC (dG rfl (bw rfl nofun (Bm T) bv (B.room.mono (by decide)) (B.gl _ HY) T.wa T.li.kp T.j2 (ah rfl v1 ay)))) (gB (gC (Sh yi yi (by with_unfolding_all rfl) aj v1 (nc (B.gl _ HV) T.Bh nofun)))))) (aD (wX T.wK (B.gl _ AD) T.sW B.calm rfl nofun (ah rfl aR ay))) bX)))
theorem Ou(T:Tx K mg):bO P w K mg base (bL P w) 2 T.a_need_run T.sJ ["inputs","turns"] (bV K mg 2 (fM iH 2 2)):=cR rfl rfl T.mR Ot fun{X} h1 h2 h3 h4 h5 B hF aL=>by subst h3 h4;exact Nd T B hF aL
theorem Im:cC ["row"] ["row"] (ag iE):=⟨rfl,rfl,rfl,nofun,rfl,nofun,nofun⟩
theorem HX(T:Tx X.K X.mg)(B:Bd X ["row"] (ag iE) 0)(hF:bY X)(aL:X.env.scope=ag iE):JB X (bf iE) gX:=
 have v0 {p:Pos}:JE X (.Name "row" p) (aa 0):=B.jv 0 rfl HL xT
 (aQ (bb (a7 B.eq (B.ak v0 aj) aR) (aD (bo (bP (ah rfl aR (ah rfl (B.ak v0 aj) (ah rfl (B.ak v0 aj) ay)))))) bX) (aQ (bb (a7 B.eq (B.ak v0 aj) aR) (aD (bo (bP (ah rfl aR (ah rfl (B.ak v0 aj) (ah rfl (B.ak v0 aj) ay)))))) bX) (aQ (bb (a7 B.eq (B.ak v0 aj) aR) (aD (bo (bP (ah rfl aR (ah rfl (B.ak v0 aj) (ah rfl (bP (ah rfl aR (ah rfl (B.ak v0 aj) ay))) ay)))))) bX) (aQ (bb (a7 B.eq (B.ak v0 aj) aR) (aD (bo (bP (ah rfl aR (ah rfl (bP (ah rfl aR (ah rfl (B.ak v0 aj) ay))) (ah rfl (B.ak v0 aj) ay)))))) bX) (aD (bo v0))))))
theorem Io(T:Tx K mg):bO P w K mg base (bL P w) 1 T.a_as_row_over_names T.rj ["row"] (bV K mg 1 (fM gX 1 1)):=cR rfl rfl T.mw Im fun{X} h1 h2 h3 h4 h5 B hF aL=>by subst h3 h4;exact HX T B hF aL
theorem Ov:cC ["self","inputs","turns"] ["self","inputs","turns"] (ag fZ):=⟨rfl,rfl,rfl,nofun,rfl,nofun,nofun⟩
theorem Nf(T:Tx X.K X.mg)(B:Bd X ["self","inputs","turns"] (ag fZ) 0)(hF:bY X)(aL:X.env.scope=ag fZ):JB X (bf fZ) lm:=
 have v0 {p:Pos}:JE X (.Name "self" p) (aa 0):=B.jv 0 rfl LN Uy;have v1 {p:Pos}:JE X (.Name "inputs" p) (aa 1):=B.jv 1 rfl LO sX;have v2 {p:Pos}:JE X (.Name "turns" p) (aa 2):=B.jv 2 rfl LP tL
 (aQ (gD T.b9 T.cf T.rX rfl v0 (kg rfl nofun nofun (sG B.calm) tZ (B.gl _ KR) T.lE abK (ah rfl v1 ay))) (aQ (gD T.b9 T.cf T.rl rfl v0 v2) (aQ (gD T.b9 T.cf T.j8 rfl v0 aj) (aQ (gD T.b9 T.cf T.lc rfl v0 Wy) (aQ (gD T.b9 T.cf T.su rfl v0 (cV ay)) (aQ (gD T.b9 T.cf T.mJ rfl v0 aj) (aD (gD T.b9 T.cf T.ll rfl v0 pP))))))))
theorem Ow(T:Tx K mg):bO P w K mg base (bL P w) 1 T.a_Run_init T.sL ["self","inputs","turns"] (bV K mg 3 (fM lm 3 3)):=cR rfl rfl T.pj Ov fun{X} h1 h2 h3 h4 h5 B hF aL=>by subst h3 h4;exact Nf T B hF aL
theorem UB:cC ["run","name"] ["run","name"] (ag hU):=⟨rfl,rfl,rfl,nofun,rfl,nofun,nofun⟩
theorem Rn(T:Tx X.K X.mg)(B:Bd X ["run","name"] (ag hU) 0)(hF:bY X)(aL:X.env.scope=ag hU):JB X (bf hU) hV:=
 have v0 {p:Pos}:JE X (.Name "run" p) (aa 0):=B.jv 0 rfl PP lF;have v1 {p:Pos}:JE X (.Name "name" p) (aa 1):=B.jv 1 rfl PQ Uz
 (aD (bo (cZ rfl rfl abj aaT abt (Uh (C9 B.room)) Wz WA (dN T.b9 T.cf T.lc v0) (ah rfl v1 (ah rfl aj ay)))))
theorem pL(T:Tx K mg):bO P w K mg base (bL P w) 1 T.a_held T.uk ["run","name"] (bV K mg 2 (fM hV 2 2)):=cR rfl rfl T.iN UB fun{X} h1 h2 h3 h4 h5 B hF aL=>by subst h3 h4;exact Rn T B hF aL
theorem WI:cC ["number"] ["number"] (ag ib):=⟨rfl,rfl,rfl,nofun,rfl,nofun,nofun⟩
theorem SG(T:Tx X.K X.mg)(B:Bd X ["number"] (ag ib) 0)(hF:bY X)(aL:X.env.scope=ag ib):JB X (bf ib) iU:=
 have v0 {p:Pos}:JE X (.Name "number" p) (aa 0):=B.jv 0 rfl Q4 Q2
 (aD (bo (gA (bp (cI v0 (nc (B.gl _ wg) T.nG nofun)) (gb aj (nc (B.gl _ wg) T.nG nofun))) (nc (B.gl _ wg) T.nG nofun))))
theorem ul(T:Tx K mg):bO P w K mg base (bL P w) 1 T.a_fit T.uD ["number"] (bV K mg 1 (fM iU 1 1)):=cR rfl rfl T.js WI fun{X} h1 h2 h3 h4 h5 B hF aL=>by subst h3 h4;exact SG T B hF aL
theorem Ro:cC ["one","other"] ["one","other"] (ag f7):=⟨rfl,rfl,rfl,nofun,rfl,nofun,nofun⟩
theorem Ox(T:Tx X.K X.mg)(B:Bd X ["one","other"] (ag f7) 1)(hF:bY X)(aL:X.env.scope=ag f7):JB X (bf f7) kb:=
 have v0 {p:Pos}:JE X (.Name "one" p) (aa 0):=B.jv 0 rfl NA Ej;have v1 {p:Pos}:JE X (.Name "other" p) (aa 1):=B.jv 1 rfl NB CO
 (aQ (bb (a7 B.eq v1 aj) (aD (wX T.Bw (B.gl _ Jb) T.sx B.calm rfl nofun (ah rfl aR ay))) bX) (aD (bo (bw rfl nofun (ul T) bv (B.room.mono (by decide)) (B.gl _ M6) T.p9 T.js.kp T.iU (ah rfl (bU v0 v1) ay)))))
theorem Rp(T:Tx K mg):bO P w K mg base (bL P w) 2 T.a_parted T.tH ["one","other"] (bV K mg 2 (fM kb 2 2)):=cR rfl rfl T.m3 Ro fun{X} h1 h2 h3 h4 h5 B hF aL=>by subst h3 h4;exact Ox T B hF aL
theorem Oy:cC ["word","one","other"] ["word","one","other"] (ag fA):=⟨rfl,rfl,rfl,nofun,rfl,nofun,nofun⟩
theorem Ng(T:Tx X.K X.mg)(B:Bd X ["word","one","other"] (ag fA) 2)(hF:bY X)(aL:X.env.scope=ag fA):JB X (bf fA) j5:=
 have v0 {p:Pos}:JE X (.Name "word" p) (aa 0):=B.jv 0 rfl LQ UA;have v1 {p:Pos}:JE X (.Name "one" p) (aa 1):=B.jv 1 rfl LS Ej;have v2 {p:Pos}:JE X (.Name "other" p) (aa 2):=B.jv 2 rfl LU CO
 (aQ (bb (a7 B.eq v0 aR) (aD (bo (bw rfl nofun (ul T) bv (B.room.mono (by decide)) (B.gl _ vU) T.p9 T.js.kp T.iU (ah rfl (cI v1 v2) ay)))) bX) (aQ (bb (a7 B.eq v0 aR) (aD (bo (bw rfl nofun (ul T) bv (B.room.mono (by decide)) (B.gl _ vU) T.p9 T.js.kp T.iU (ah rfl (gA v1 v2) ay)))) bX) (aQ (bb (a7 B.eq v0 aR) (aD (bo (bw rfl nofun (ul T) bv (B.room.mono (by decide)) (B.gl _ vU) T.p9 T.js.kp T.iU (ah rfl (gb v1 v2) ay)))) bX) (aQ (bb (a7 B.eq v0 aR) (aD (bo (bw rfl nofun (Rp T) bv (B.room.mono (by decide)) (B.gl _ Jc) T.CL T.m3.kp T.kb (ah rfl v1 (ah rfl v2 ay))))) bX) (aQ (bb (a7 B.eq v0 aR) (aD (bo (uv (a7 hX v1 v2) aj aj))) bX) (aD (bo (uv (a7 B.eq v1 v2) aj aj))))))))
theorem Oz(T:Tx K mg):bO P w K mg base (bL P w) 3 T.a_reckoned T.sM ["word","one","other"] (bV K mg 3 (fM j5 3 3)):=cR rfl rfl T.mS Oy fun{X} h1 h2 h3 h4 h5 B hF aL=>by subst h3 h4;exact Ng T B hF aL
theorem SH:cC ["run"] ["run"] (ag hO):=⟨rfl,rfl,rfl,nofun,rfl,nofun,nofun⟩
theorem Qa(T:Tx X.K X.mg)(B:Bd X ["run"] (ag hO) 0)(hF:bY X)(aL:X.env.scope=ag hO):JB X (bf hO) lz:=
 have v0 {p:Pos}:JE X (.Name "run" p) (aa 0):=B.jv 0 rfl Oq lF
 (aQ (xx DG Fj T.b9 T.cf T.mJ v0 aj) (aQ (bb (a7 EI (dN T.b9 T.cf T.mJ v0) (lC rfl nofun nofun pv pO (B.gl _ NC) T.nV adw (ah rfl (dN T.b9 T.cf T.rX v0) ay))) (aD (bo aj)) bX) (aD (bo (B.ak (dN T.b9 T.cf T.rX v0) (gA (dN T.b9 T.cf T.mJ v0) aj))))))
theorem SI(T:Tx K mg):bO P w K mg base (bL P w) 1 T.a_taken T.ua ["run"] (bV K mg 1 (fM lz 1 1)):=cR rfl rfl T.ni SH fun{X} h1 h2 h3 h4 h5 B hF aL=>by subst h3 h4;exact Qa T B hF aL
theorem NH:cC ["run"] ["run"] (ag iG):=⟨rfl,rfl,rfl,nofun,rfl,nofun,nofun⟩
theorem Mh(T:Tx X.K X.mg)(B:Bd X ["run"] (ag iG) 0)(hF:bY X)(aL:X.env.scope=ag iG):JB X (bf iG) lg:=
 have v0 {p:Pos}:JE X (.Name "run" p) (aa 0):=B.jv 0 rfl Lr lF
 (aQ (bb (a7 B.eq (dN T.b9 T.cf T.rl v0) aj) (aD (gD T.b9 T.cf T.ll rfl v0 aR)) bX) (aD (xx Vl Yn T.b9 T.cf T.rl v0 aj)))
theorem NI(T:Tx K mg):bO P w K mg base (bL P w) 1 T.a_make_turn T.sk ["run"] (bV K mg 1 (fM lg 1 1)):=cR rfl rfl T.mM NH fun{X} h1 h2 h3 h4 h5 B hF aL=>by subst h3 h4;exact Mh T B hF aL
theorem Rq:cC ["run","row"] ["run","row"] (ag fb):=⟨rfl,rfl,rfl,nofun,rfl,nofun,nofun⟩
theorem OA(T:Tx X.K X.mg)(B:Bd X ["run","row"] (ag fb) 3)(hF:bY X)(aL:X.env.scope=ag fb):JB X (bf fb) lx:=
 have v0 {p:Pos}:JE X (.Name "run" p) (aa 0):=B.jv 0 rfl ND lF;have v1 {p:Pos}:JE X (.Name "row" p) (aa 1):=B.jv 1 rfl NE xT
 (aQ (xx DG Fj T.b9 T.cf T.j8 v0 aj) (aD (bb (a7 B.eq (B.ak v1 aj) aR) (aD (iM (B.ak v1 aj) (B.tY (dN T.b9 T.cf T.lc v0) (B.ak v1 aj)))) (aD (bb (a7 B.eq (B.ak v1 aj) aR) (aD (iM (bw rfl nofun (pL T) bv (B.room.mono (by decide)) (B.gl _ oS) T.nF T.iN.kp T.hV (ah rfl v0 (ah rfl (B.ak v1 aj) ay))) (B.tY (dN T.b9 T.cf T.lc v0) (B.ak v1 aj)))) (aD (bb (a7 B.eq (B.ak v1 aj) aR) (aD (iM (bw rfl nofun (Oz T) bv (B.room.mono (by decide)) (B.gl _ Jd) T.BS T.mS.kp T.j5 (ah rfl (B.ak v1 aj) (ah rfl (bw rfl nofun (pL T) bv (B.room.mono (by decide)) (B.gl _ oS) T.nF T.iN.kp T.hV (ah rfl v0 (ah rfl (B.ak v1 aj) ay))) (ah rfl (bw rfl nofun (pL T) bv (B.room.mono (by decide)) (B.gl _ oS) T.nF T.iN.kp T.hV (ah rfl v0 (ah rfl (B.ak v1 aj) ay))) ay)))) (B.tY (dN T.b9 T.cf T.lc v0) (B.ak v1 aj)))) (aD (bb (a7 B.eq (B.ak v1 aj) aR) (aD (iM (bw rfl nofun (SI T) bv (B.room.mono (by decide)) (B.gl _ Ls) T.Dx T.ni.kp T.lz (ah rfl v0 ay)) (B.tY (dN T.b9 T.cf T.lc v0) (B.ak v1 aj)))) (aD (bb (a7 B.eq (B.ak v1 aj) aR) (aD (dr rfl (cZ rfl rfl aaH aaI aaJ eo ez eY (dN T.b9 T.cf T.su v0) (ah rfl (bw rfl nofun (pL T) bv (B.room.mono (by decide)) (B.gl _ oS) T.nF T.iN.kp T.hV (ah rfl v0 (ah rfl (B.ak v1 aj) ay))) ay)))) (aD (bb (a7 B.eq (B.ak v1 aj) aR) (aD (dr rfl (bw rfl nofun (NI T) bv (B.room.mono (by decide)) (B.gl _ IJ) T.Bv T.mM.kp T.lg (ah rfl v0 ay)))) (aD (bb (a7 B.eq (B.ak v1 aj) aR) (aD (gD T.b9 T.cf T.j8 rfl v0 (uv (a7 B.ne (bw rfl nofun (pL T) bv (B.room.mono (by decide)) (B.gl _ oS) T.nF T.iN.kp T.hV (ah rfl v0 (ah rfl (B.ak v1 aj) ay))) aj) (B.ak v1 aj) (dN T.b9 T.cf T.j8 v0)))) (aD (bb (a7 B.eq (B.ak v1 aj) aR) (aD (gD T.b9 T.cf T.j8 rfl v0 (B.ak v1 aj))) (aD (gD T.b9 T.cf T.ll rfl v0 aR)))))))))))))))))))
theorem Rr(T:Tx K mg):bO P w K mg base (bL P w) 4 T.a_do_row T.tJ ["run","row"] (bV K mg 2 (fM lx 2 2)):=cR rfl rfl T.m5 Rq fun{X} h1 h2 h3 h4 h5 B hF aL=>by subst h3 h4;exact OA T B hF aL
theorem Qb:cC ["rows","inputs","turns","run"] ["rows","inputs","turns"] (ag dF):=⟨rfl,rfl,rfl,nofun,rfl,nofun,nofun⟩
theorem NJ(T:Tx X.K X.mg)(B:Bd X ["rows","inputs","turns","run"] (ag dF) 4)(hF:bY X)(aL:X.env.scope=ag dF):JB X (bf dF) ls:=
 have v1 {p:Pos}:JE X (.Name "inputs" p) (aa 1):=B.jv 1 rfl M7 sX;have v2 {p:Pos}:JE X (.Name "turns" p) (aa 2):=B.jv 2 rfl M8 tL;have v3 {p:Pos}:JE X (.Name "run" p) (aa 3):=B.jv 3 rfl vW lF
 (aQ (B.bJ 3 rfl M9 rfl (Uv T.b9 T.mk_Run (Ow T) bv (B.room.mono (by decide)) (B.gl _ LV) T.Ei T.lm nofun rfl (ah rfl v1 (ah rfl v2 ay)))) (aQ (WH B hF aL (B.gl _ IK) T.sx nofun ⟨T.j4,T.Bx⟩ (fP.cons T.je T.Al fP.nil) 3 rfl vW (fun{X} h1 h2 B hF aL=>(fun(T:Tx X.K X.mg)=>by have v0 {p:Pos}:JE X (.Name "rows" p) (aa 0):=B.jv 0 rfl Lu Dy;have v3 {p:Pos}:JE X (.Name "run" p) (aa 3):=B.jv 3 rfl Lv lF;exact(aD (B.Wh (a7 X5 (dN T.b9 T.cf T.ll v3) pP) (aD (dr rfl (bw rfl nofun (Rr T) bv (B.room.mono (by decide)) (B.gl _ IP) T.CM T.m5.kp T.lx (ah rfl v3 (ah rfl (uv (a7 hX (dN T.b9 T.cf T.j8 v3) (lC rfl nofun nofun pv pO (B.gl _ KS) T.nV adw (ah rfl v0 ay))) (B.ak v0 (dN T.b9 T.cf T.j8 v3)) (bP (ah rfl aR ay))) ay)))))))) (Tx.cast h1 h2 T)) (fun h1 h2 B=>(fun T=>(aD (gD T.b9 T.cf T.ll rfl (B.jv 3 rfl vW lF) aR))) (Tx.cast h1 h2 T))) (aD (bo (bP (ah rfl (dN T.b9 T.cf T.ll v3) (ah rfl (dN T.b9 T.cf T.su v3) (ah rfl (dN T.b9 T.cf T.mJ v3) ay))))))))
theorem Qc(T:Tx K mg):bO P w K mg base (bL P w) 5 T.a_outcome T.sU ["rows","inputs","turns"] (bV K mg 3 (fM ls 4 3)):=cR rfl rfl T.mW Qb fun{X} h1 h2 h3 h4 h5 B hF aL=>by subst h3 h4;exact NJ T B hF aL
theorem OB:cC ["rows","inputs","turns"] ["rows","inputs","turns"] (ag fB):=⟨rfl,rfl,rfl,nofun,rfl,nofun,nofun⟩
theorem Nh(T:Tx X.K X.mg)(B:Bd X ["rows","inputs","turns"] (ag fB) 5)(hF:bY X)(aL:X.env.scope=ag fB):JB X (bf fB) g8:=
 have v0 {p:Pos}:JE X (.Name "rows" p) (aa 0):=B.jv 0 rfl LW Dy;have v1 {p:Pos}:JE X (.Name "inputs" p) (aa 1):=B.jv 1 rfl LX sX;have v2 {p:Pos}:JE X (.Name "turns" p) (aa 2):=B.jv 2 rfl LY tL
 (aQ (dr rfl (bw rfl nofun (Ou T) bv (B.room.mono (by decide)) (B.gl _ Ig) T.BR T.mR.kp T.iH (ah rfl v1 (ah rfl v2 ay)))) (aD (bo (bw rfl nofun (Qc T) bv (B.room.mono (by decide)) (B.gl _ IQ) T.Ci T.mW.kp T.ls (ah rfl (tV B.calm (N':=["row"]) (Bd.cap B.hN aL nofun) (tW v0) (oo B T nofun nofun fun{X} B T=>(B.jp 0 rfl (.inl rfl))) (oq B T nofun nofun fun{X} B T=>nA) (ou B T nofun nofun fun{X} B T=>(bw rfl nofun (Io T) bv (B.room.mono (by decide)) (B.gl _ rfl) T.Au T.mw.kp T.gX (ah rfl (B.jv 0 rfl (.inl rfl) xT) ay)))) (ah rfl v1 (ah rfl v2 ay)))))))
theorem sy(T:Tx K mg):bO P w K mg base (bL P w) 6 T.a_last_run T.sN ["rows","inputs","turns"] (bV K mg 3 (fM g8 3 3)):=cR rfl rfl T.jf OB fun{X} h1 h2 h3 h4 h5 B hF aL=>by subst h3 h4;exact Nh T B hF aL
theorem Kg:cC ["_law_turns","_law_inputs","_law_rows"] ["_law_turns","_law_inputs"] (ag eV):=⟨rfl,rfl,rfl,nofun,rfl,nofun,nofun⟩
theorem IV(T:Tx X.K X.mg)(B:Bd X ["_law_turns","_law_inputs","_law_rows"] (ag eV) 6)(hF:bY X)(aL:X.env.scope=ag eV):JB X (bf eV) kT:=
 have v0 {p:Pos}:JE X (.Name "_law_turns" p) (aa 0):=B.jv 0 rfl Ih mK;have v1 {p:Pos}:JE X (.Name "_law_inputs" p) (aa 1):=B.jv 1 rfl Ii oW;have v2 {p:Pos}:JE X (.Name "_law_rows" p) (aa 2):=B.jv 2 rfl Ij pd
 (aQ (B.bJ 2 rfl Ik rfl (cV (ah rfl (bP (ah rfl aR (ah rfl aj ay))) (ah rfl (bP (ah rfl aR (ah rfl aj ay))) (ah rfl (bP (ah rfl aR ay)) (ah rfl (bP (ah rfl aR (ah rfl aj ay))) (ah rfl (bP (ah rfl aR ay)) ay))))))) (aD (bo (kf B.eq (bw rfl nofun (sy T) bv (B.room.mono (by decide)) (B.gl _ HH) T.pk T.jf.kp T.g8 (ah rfl v2 (ah rfl (kg rfl nofun nofun (sG B.calm) tZ (B.gl _ HW) T.lE abK (ah rfl v1 ay)) (ah rfl v0 ay)))) (bP (ah rfl aR (ah rfl (yj (cI v1 (gb (cV (ah rfl aj ay)) (cI v0 aj))) xo (xp (cI v0 aj))) (ah rfl (cI v0 aj) ay))))))))
theorem Kh(T:Tx K mg):bO P w K mg base (bL P w) 7 T.a_law_many_turns T.rq ["_law_turns","_law_inputs"] (bV K mg 2 (fM kT 3 2)):=cR rfl rfl T.mC Kg fun{X} h1 h2 h3 h4 h5 B hF aL=>by subst h3 h4;exact IV T B hF aL
theorem Qd:cC ["_law_number"] ["_law_number"] (ag iJ):=⟨rfl,rfl,rfl,nofun,rfl,nofun,nofun⟩
theorem NK(T:Tx X.K X.mg)(B:Bd X ["_law_number"] (ag iJ) 0)(hF:bY X)(aL:X.env.scope=ag iJ):JB X (bf iJ) j6:=
 have v0 {p:Pos}:JE X (.Name "_law_number" p) (aa 0):=B.jv 0 rfl Na Bb
 (aD (bo (gA v0 (gb (bU (cI v0 aj) aj) aj))))
theorem BW(T:Tx K mg):bO P w K mg base (bL P w) 1 T.a_law_fit T.sV ["_law_number"] (bV K mg 1 (fM j6 1 1)):=cR rfl rfl T.lu Qd fun{X} h1 h2 h3 h4 h5 B hF aL=>by subst h3 h4;exact NK T B hF aL
theorem OC:cC ["_law_word","_law_one","_law_other"] ["_law_word","_law_one","_law_other"] (ag fC):=⟨rfl,rfl,rfl,nofun,rfl,nofun,nofun⟩
theorem Ni(T:Tx X.K X.mg)(B:Bd X ["_law_word","_law_one","_law_other"] (ag fC) 1)(hF:bY X)(aL:X.env.scope=ag fC):JB X (bf fC) lq:=
 have v0 {p:Pos}:JE X (.Name "_law_word" p) (aa 0):=B.jv 0 rfl LZ BC;have v1 {p:Pos}:JE X (.Name "_law_one" p) (aa 1):=B.jv 1 rfl L8 wu;have v2 {p:Pos}:JE X (.Name "_law_other" p) (aa 2):=B.jv 2 rfl Ma Bi
 (aQ (bb (gO (hZ (a7 B.eq v0 aR) (gB (a7 B.eq v0 aR)))) (aD (bo (kg rfl nofun nofun wz xO (B.gl _ Lw) T.nU acl (ah rfl (X6 (ue (kf hX v1 v2) (pQ (kf B.eq v0 aR))) (pQ (ue (kf B.eq v1 v2) (pQ (kf B.eq v0 aR))))) ay)))) bX) (aQ (bb (a7 B.eq v0 aR) (aD (bo (bw rfl nofun (BW T) bv (B.room.mono (by decide)) (B.gl _ Aw) T.wJ T.lu.kp T.j6 (ah rfl (bU v1 v2) ay)))) bX) (aD (bo (bw rfl nofun (BW T) bv (B.room.mono (by decide)) (B.gl _ Aw) T.wJ T.lu.kp T.j6 (ah rfl (B.ak (cV (ah rfl (cI v1 v2) (ah rfl (gA v1 v2) (ah rfl (gb v1 v2) ay)))) (cZ rfl rfl aaH PySem.F.slot_list_index PySem.F.type_list_index (Sm B.room.units) ez Sn (cV (ah rfl aR (ah rfl aR (ah rfl aR ay)))) (ah rfl v0 ay))) ay))))))
theorem OD(T:Tx K mg):bO P w K mg base (bL P w) 2 T.a_law_deed T.sO ["_law_word","_law_one","_law_other"] (bV K mg 3 (fM lq 3 3)):=cR rfl rfl T.mT OC fun{X} h1 h2 h3 h4 h5 B hF aL=>by subst h3 h4;exact Ni T B hF aL
theorem Mi:cC ["_law_row","_law_boxes","_law_slots"] ["_law_row","_law_boxes","_law_slots"] (ag fW):=⟨rfl,rfl,rfl,nofun,rfl,nofun,nofun⟩
theorem K5(T:Tx X.K X.mg)(B:Bd X ["_law_row","_law_boxes","_law_slots"] (ag fW) 2)(hF:bY X)(aL:X.env.scope=ag fW):JB X (bf fW) k9:=
 have v0 {p:Pos}:JE X (.Name "_law_row" p) (aa 0):=B.jv 0 rfl J4 BV;have v1 {p:Pos}:JE X (.Name "_law_boxes" p) (aa 1):=B.jv 1 rfl Ka oZ;have v2 {p:Pos}:JE X (.Name "_law_slots" p) (aa 2):=B.jv 2 rfl Kb pb
 (aD (bb (a7 B.eq (B.ak v0 aj) aR) (aD (iM (B.ak v0 aj) (B.ng v1 (B.ak v0 aj)))) (aD (bb (a7 B.eq (B.ak v0 aj) aR) (aD (iM (cZ rfl rfl abj aaT abt (kj (hW B.room)) ki kl v1 (ah rfl (B.ak v0 aj) (ah rfl aj ay))) (B.ng v1 (B.ak v0 aj)))) (aD (bb (a7 B.eq (B.ak v0 aj) aR) (aD (iM (cZ rfl rfl abj aaT abt (kj (hW B.room)) ki kl v2 (ah rfl (B.ak v0 aj) (ah rfl aj ay))) (B.ng v1 (B.ak v0 aj)))) (aD (bb (a7 B.eq (B.ak v0 aj) aR) (aD (iM (cZ rfl rfl abj aaT abt (kj (hW B.room)) ki kl v1 (ah rfl (B.ak v0 aj) (ah rfl aj ay))) (B.ng v2 (B.ak v0 aj)))) (aD (iM (bw rfl nofun (OD T) bv (B.room.mono (by decide)) (B.gl _ HM) T.BU T.mT.kp T.lq (ah rfl (B.ak v0 aj) (ah rfl (cZ rfl rfl abj aaT abt (kj (hW B.room)) ki kl v1 (ah rfl (B.ak v0 aj) (ah rfl aj ay))) (ah rfl (cZ rfl rfl abj aaT abt (kj (hW B.room)) ki kl v1 (ah rfl (B.ak v0 aj) (ah rfl aj ay))) ay)))) (B.ng v1 (B.ak v0 aj))))))))))))
theorem Mj(T:Tx K mg):bO P w K mg base (bL P w) 3 T.a_law_box_row T.rV ["_law_row","_law_boxes","_law_slots"] (bV K mg 3 (fM k9 3 3)):=cR rfl rfl T.mH Mi fun{X} h1 h2 h3 h4 h5 B hF aL=>by subst h3 h4;exact K5 T B hF aL
theorem Lz:cC ["_law_rows","_law_inputs","_law_turns","_law_boxes","_law_slots","_law_told","_law_taken","_law_place","_law_step","_law_row"] ["_law_rows","_law_inputs","_law_turns"] (ag cD):=⟨rfl,rfl,rfl,nofun,rfl,nofun,nofun⟩
theorem Ki(T:Tx X.K X.mg)(B:Bd X ["_law_rows","_law_inputs","_law_turns","_law_boxes","_law_slots","_law_told","_law_taken","_law_place","_law_step","_law_row"] (ag cD) 3)(hF:bY X)(aL:X.env.scope=ag cD):JB X (bf cD) kX:=
 have v0 {p:Pos}:JE X (.Name "_law_rows" p) (aa 0):=B.jv 0 rfl Je pd;have v1 {p:Pos}:JE X (.Name "_law_inputs" p) (aa 1):=B.jv 1 rfl Jf oW;have v2 {p:Pos}:JE X (.Name "_law_turns" p) (aa 2):=B.jv 2 rfl Jg mK;have v3 {p:Pos}:JE X (.Name "_law_boxes" p) (aa 3):=B.jv 3 rfl Ji oZ;have v4 {p:Pos}:JE X (.Name "_law_slots" p) (aa 4):=B.jv 4 rfl Jk pb;have v5 {p:Pos}:JE X (.Name "_law_told" p) (aa 5):=B.jv 5 rfl Jm Oo;have v6 {p:Pos}:JE X (.Name "_law_taken" p) (aa 6):=B.jv 6 rfl Jo Nz;have v7 {p:Pos}:JE X (.Name "_law_place" p) (aa 7):=B.jv 7 rfl Jp vZ;have v9 {p:Pos}:JE X (.Name "_law_row" p) (aa 9):=B.jv 9 rfl Jr BV
 (aQ (B.bJ 3 rfl Jj rfl DO) (aQ (B.bJ 4 rfl Jl rfl DO) (aQ (B.bJ 5 rfl Jn rfl (cV ay)) (aQ (B.bJ 6 rfl AE rfl aj) (aQ (B.bJ 7 rfl rk rfl aj) (aQ (B.yU (pw (B.gl _ HZ) T.nj rfl (ah rfl aj ay)) (B.jp 8 rfl Jq) (aQ (B.bJ 9 rfl Js rfl (B.ak v0 v7)) (aQ (B.bJ 7 rfl rk rfl (cI v7 aj)) (aQ (bb (a7 B.eq (B.ak v9 aj) aR) (aD (bo (bP (ah rfl aR (ah rfl v5 (ah rfl v6 ay)))))) bX) (aQ (bb (gO (nz (a7 B.eq (B.ak v9 aj) aR) (gB (a7 B.eq v2 aj)))) (aD (bo (bP (ah rfl aR (ah rfl v5 (ah rfl v6 ay)))))) bX) (aQ (bb (gO (nz (a7 B.eq (B.ak v9 aj) aR) (nz (a7 B.eq (B.ak v9 aj) aR) (gB (a7 B.eq (cZ rfl rfl abj aaT abt (kj (hW B.room)) ki kl v3 (ah rfl (B.ak v9 aj) (ah rfl aj ay))) aj))))) (aD (bo (bP (ah rfl aR (ah rfl v5 (ah rfl v6 ay)))))) bX) (aD (bb (a7 B.eq (B.ak v9 aj) aR) (aD (B.bJ 2 rfl Jh rfl (gA v2 aj))) (aD (bb (a7 B.eq (B.ak v9 aj) aR) (aQ (iM (B.ak (cI v1 (gb (cV (ah rfl aj ay)) (cI v6 aj))) v6) (B.ng v3 (B.ak v9 aj))) (aD (B.bJ 6 rfl AE rfl (cI v6 aj)))) (aD (bb (a7 B.eq (B.ak v9 aj) aR) (aD (dr rfl (cZ rfl rfl aaH aaI aaJ eo ez eY v5 (ah rfl (cZ rfl rfl abj aaT abt (kj (hW B.room)) ki kl v3 (ah rfl (B.ak v9 aj) (ah rfl aj ay))) ay)))) (aD (bb (a7 B.eq (B.ak v9 aj) aR) (aD (B.bJ 7 rfl rk rfl (B.ak v9 aj))) (aD (bb (a7 B.eq (B.ak v9 aj) aR) (aD (B.bJ 7 rfl rk rfl (B.ak (cV (ah rfl v7 (ah rfl (B.ak v9 aj) ay))) (kg rfl nofun nofun wz xO (B.gl _ IR) T.nU acl (ah rfl (kf B.ne (cZ rfl rfl abj aaT abt (kj (hW B.room)) ki kl v3 (ah rfl (B.ak v9 aj) (ah rfl aj ay))) aj) ay))))) (aD (dr rfl (bw rfl nofun (Mj T) bv (B.room.mono (by decide)) (B.gl _ HE) T.A9 T.mH.kp T.k9 (ah rfl v9 (ah rfl v3 (ah rfl v4 ay)))))))))))))))))))))) (aD (bo (bP (ah rfl aR (ah rfl v5 (ah rfl v6 ay))))))))))))
theorem LA(T:Tx K mg):bO P w K mg base (bL P w) 4 T.a_law_last_run T.rK ["_law_rows","_law_inputs","_law_turns"] (bV K mg 3 (fM kX 10 3)):=cR rfl rfl T.mE Lz fun{X} h1 h2 h3 h4 h5 B hF aL=>by subst h3 h4;exact Ki T B hF aL
theorem Ml:cC ["_law_rows","_law_inputs","_law_turns","e"] ["_law_rows","_law_inputs","_law_turns"] (ag de):=⟨rfl,rfl,rfl,nofun,rfl,nofun,nofun⟩
theorem K6(T:Tx X.K X.mg)(B:Bd X ["_law_rows","_law_inputs","_law_turns","e"] (ag de) 6)(hF:bY X)(aL:X.env.scope=ag de):JB X (bf de) j0:=
 (aQ (QT B.toBdT hF aL (B.gl _ HS) T.By nofun ⟨T.Bz,T.BA⟩ (fP.cons T.j7 T.Ax (fP.cons T.je T.Am fP.nil)) 3 rfl nofun (fun h1 h2 _ _ _ B=>(fun T=>(aD (dr rfl (bw rfl nofun (sy T) bv (B.room.mono (by decide)) (B.gl _ HN) T.pk T.jf.kp T.g8 (ah rfl (B.jv 0 rfl Kc pd) (ah rfl (B.jv 1 rfl Kd oW) (ah rfl (B.jv 2 rfl Ke mK) ay))))))) (Tx.cast h1 h2 T)) (fun h1 h2 B=>(fun T=>(aQ (bb (gO (hZ (dG rfl (pR (cX.cons T.j7 T.lw T.Ay (cX.cons T.je T.j4 T.An cX.nil)) rfl (B.gl _ ms) T.eX (B.gl _ HP) T.BB nofun (B.jv 3 rfl mB ox))) (hZ (dG rfl (pR (cX.cons T.j7 T.lw T.Ao (cX.cons T.je T.j4 T.Ai cX.nil)) rfl (B.gl _ ms) T.eX (B.gl _ HJ) T.Ba nofun (B.jv 3 rfl mB ox))) (hZ (dG rfl (pR (cX.cons T.j7 T.lw T.Az (cX.cons T.je T.j4 T.Ap cX.nil)) rfl (B.gl _ ms) T.eX (B.gl _ HQ) T.sx nofun (B.jv 3 rfl mB ox))) (gB (dG rfl (pR (cX.cons T.j7 T.lw T.AJ (cX.cons T.je T.j4 T.AA cX.nil)) rfl (B.gl _ ms) T.eX (B.gl _ Ia) T.Cj nofun (B.jv 3 rfl mB ox)))))))) (aD (bo gE)) bX) (aD (bo (ue (pR (cX.cons T.j7 T.lw T.AK (cX.cons T.je T.j4 T.AB cX.nil)) rfl (B.gl _ ms) T.eX (B.gl _ Ib) T.sW nofun (B.jv 3 rfl mB ox)) (pQ (Wj (cX.cons T.j7 T.lw T.Aq (cX.cons T.je T.j4 T.Aj cX.nil)) rfl (B.gl _ ms) T.eX (B.gl _ HK) T.Bg Lo nofun nofun (B.jv 3 rfl mB ox)))))))) (Tx.cast h1 h2 T))) (aD (bo gE)))
theorem AV(T:Tx K mg):bO P w K mg base (bL P w) 7 T.a_law_refused T.rW ["_law_rows","_law_inputs","_law_turns"] (bV K mg 3 (fM j0 4 3)):=cR rfl rfl T.la Ml fun{X} h1 h2 h3 h4 h5 B hF aL=>by subst h3 h4;exact K6 T B hF aL
theorem NL:cC ["_law_found"] ["_law_found"] (ag fY):=⟨rfl,rfl,rfl,nofun,rfl,nofun,nofun⟩
theorem Mm(T:Tx X.K X.mg)(B:Bd X ["_law_found"] (ag fY) 0)(hF:bY X)(aL:X.env.scope=ag fY):JB X (bf fY) j3:=
 have v0 {p:Pos}:JE X (.Name "_law_found" p) (aa 0):=B.jv 0 rfl Lx Bk
 (aD (bo (ue (ko Cv acl nofun nofun rfl (B.gl _ Ah) T.eX (B.gl _ KU) T.nU v0) (pQ (Wg (ko B8 aeA nofun nofun rfl (B.gl _ Ah) T.eX (B.gl _ Kf) T.xS v0))))))
theorem Bn(T:Tx K mg):bO P w K mg base (bL P w) 1 T.a_law_whole T.sr ["_law_found"] (bV K mg 1 (fM j3 1 1)):=cR rfl rfl T.lj NL fun{X} h1 h2 h3 h4 h5 B hF aL=>by subst h3 h4;exact Mm T B hF aL
theorem WJ:cC ["_law_script","_law_many","_law_boxes","_law_slots","_law_cell","_law_loops","_law_rows","_law_inputs","_law_turns","_law_due","_law_handed","_law_at","_law_odd","_law_turn","_law_found"] ["_law_script"] (ag bj):=⟨rfl,rfl,rfl,nofun,rfl,nofun,nofun⟩
theorem SJ(T:Tx X.K X.mg)(B:Bd X ["_law_script","_law_many","_law_boxes","_law_slots","_law_cell","_law_loops","_law_rows","_law_inputs","_law_turns","_law_due","_law_handed","_law_at","_law_odd","_law_turn","_law_found"] (ag bj) 7)(hF:bY X)(aL:X.env.scope=ag bj):JB X (bf bj) nT:=
 have v0 {p:Pos}:JE X (.Name "_law_script" p) (aa 0):=B.jv 0 rfl Q5 rY;have v1 {p:Pos}:JE X (.Name "_law_many" p) (aa 1):=B.jv 1 rfl Q6 we;have v2 {p:Pos}:JE X (.Name "_law_boxes" p) (aa 2):=B.jv 2 rfl Q8 oZ;have v3 {p:Pos}:JE X (.Name "_law_slots" p) (aa 3):=B.jv 3 rfl Q9 pb;have v4 {p:Pos}:JE X (.Name "_law_cell" p) (aa 4):=B.jv 4 rfl Ra mO;have v5 {p:Pos}:JE X (.Name "_law_loops" p) (aa 5):=B.jv 5 rfl Rc Bj;have v6 {p:Pos}:JE X (.Name "_law_rows" p) (aa 6):=B.jv 6 rfl Rg pd;have v7 {p:Pos}:JE X (.Name "_law_inputs" p) (aa 7):=B.jv 7 rfl Ri oW;have v8 {p:Pos}:JE X (.Name "_law_turns" p) (aa 8):=B.jv 8 rfl Rk mK;have v9 {p:Pos}:JE X (.Name "_law_due" p) (aa 9):=B.jv 9 rfl Rl PM;have fo {p:Pos}:JE X (.Name "_law_handed" p) (aa 10):=B.jv 10 rfl PU M5;have vH {p:Pos}:JE X (.Name "_law_at" p) (aa 11):=B.jv 11 rfl PX Q3;have z9 {p:Pos}:JE X (.Name "_law_odd" p) (aa 12):=B.jv 12 rfl PZ PN;have mm {p:Pos}:JE X (.Name "_law_found" p) (aa 14):=B.jv 14 rfl P5 Bk
 (aQ (B.bJ 1 rfl Q7 rfl (bp (bw rfl nofun (kY T) bv (B.room.mono (by decide)) (B.gl _ oQ) T.j1 T.gx.kp T.fX (ah rfl v0 (ah rfl aj ay))) aj)) (aQ (B.bJ 2 rfl Ck rfl (cI aj (bp (bw rfl nofun (kY T) bv (B.room.mono (by decide)) (B.gl _ oQ) T.j1 T.gx.kp T.fX (ah rfl v0 (ah rfl aj ay))) aj))) (aQ (B.bJ 3 rfl Cm rfl (cI aj (bp (bU (bw rfl nofun (kY T) bv (B.room.mono (by decide)) (B.gl _ oQ) T.j1 T.gx.kp T.fX (ah rfl v0 (ah rfl aj ay))) aj) aj))) (aQ (bb (a7 EI (bp (bU (bw rfl nofun (kY T) bv (B.room.mono (by decide)) (B.gl _ oQ) T.j1 T.gx.kp T.fX (ah rfl v0 (ah rfl aj ay))) aj) aj) aj) (aQ (B.bJ 2 rfl Ck rfl aj) (aD (B.bJ 3 rfl Cm rfl aj))) bX) (aQ (B.bJ 4 rfl Rb rfl (bw rfl nofun (kY T) bv (B.room.mono (by decide)) (B.gl _ oQ) T.j1 T.gx.kp T.fX (ah rfl v0 (ah rfl aj ay)))) (aQ (B.bJ 5 rfl Rf rfl (kf B.eq (bp (bU v4 aj) aj) aj)) (aQ (B.bJ 6 rfl Rh rfl (bw rfl nofun (Mf T) bv (B.room.mono (by decide)) (B.gl _ Jt) T.A8 T.mG.kp T.k8 (ah rfl v0 (ah rfl v1 (ah rfl v2 (ah rfl v3 (ah rfl v5 ay))))))) (aQ (B.bJ 7 rfl Rj rfl (bw rfl nofun (K4 T) bv (B.room.mono (by decide)) (B.gl _ Il) T.AQ T.mD.kp T.kU (ah rfl v0 (ah rfl v4 ay)))) (aQ (B.bJ 8 rfl Cn rfl (bp (bU v4 aj) aj)) (aQ (bb (dG rfl v5) (aD (B.bJ 8 rfl Cn rfl (cI aj (bp (bU v4 aj) aj)))) bX) (aQ (bb (a7 B.eq (bp (bU v4 aj) aj) aj) (aD (bo (bw rfl nofun (Kh T) bv (B.room.mono (by decide)) (B.gl _ Ic) T.AI T.mC.kp T.kT (ah rfl (cI aj (bp (bU v4 aj) aj)) (ah rfl v7 ay))))) bX) (aQ (B.bJ 9 rfl Rm rfl (bw rfl nofun (LA T) bv (B.room.mono (by decide)) (B.gl _ IU) T.AU T.mE.kp T.kX (ah rfl v6 (ah rfl v7 (ah rfl v8 ay))))) (aQ (B.bJ 10 rfl PV rfl (cV (ah rfl (kg rfl nofun nofun (sG B.calm) tZ (B.gl _ wk) T.lE abK (ah rfl v6 ay)) (ah rfl (kg rfl nofun nofun (sG B.calm) tZ (B.gl _ wk) T.lE abK (ah rfl v7 ay)) ay)))) (aQ (B.bJ 11 rfl PY rfl (bp (bU v4 aj) (cI (lC rfl nofun nofun pv pO (B.gl _ P7) T.nV adw (ah rfl v7 ay)) aj))) (aQ (B.bJ 12 rfl P1 rfl (B.ak (cV (ah rfl gE (ah rfl aR (ah rfl pP (ah rfl aj (ah rfl (ny aj) ay)))))) (bp (bU v4 aj) aj))) (aQ (bb (gC (dG rfl (bw rfl nofun (AV T) bv (B.room.mono (by decide)) (B.gl _ AF) T.vV T.la.kp T.j0 (ah rfl (B.ak fo aj) (ah rfl (B.ak (cV (ah rfl (cI (cI (yj v7 xo (xp vH)) (cV (ah rfl z9 ay))) (yj v7 (xp vH) xo)) (ah rfl (kg rfl nofun nofun M3 Sd (B.gl _ Bl) T.xy aep (ah rfl v7 ay)) (ah rfl pP ay)))) (bp (bU v4 aj) aj)) (ah rfl v8 ay)))))) (aD (bo gE)) bX) (aQ (bb (gC (dG rfl (bw rfl nofun (AV T) bv (B.room.mono (by decide)) (B.gl _ AF) T.vV T.la.kp T.j0 (ah rfl (B.ak fo aj) (ah rfl (B.ak fo aj) (ah rfl (B.ak (cV (ah rfl (ny aj) (ah rfl aj (ah rfl gE (ah rfl pP (ah rfl aR ay)))))) (bp (bU v4 aj) aj)) ay)))))) (aD (bo gE)) bX) (aQ (bb (a7 B.ne (bw rfl nofun (sy T) bv (B.room.mono (by decide)) (B.gl _ AR) T.pk T.jf.kp T.g8 (ah rfl (cV (ah rfl (bP (ah rfl aR ay)) (ah rfl (bP (ah rfl aR ay)) ay))) (ah rfl (cV ay) (ah rfl aj ay)))) (bP (ah rfl aR (ah rfl (cV ay) (ah rfl aj ay))))) (aD (bo gE)) bX) (aQ (B.yU (pw (B.gl _ NF) T.nj rfl (ah rfl aj ay)) (B.jp 13 rfl P4) (aQ (B.bJ 14 rfl P6 rfl (bw rfl nofun (sy T) bv (B.room.mono (by decide)) (B.gl _ AR) T.pk T.jf.kp T.g8 (ah rfl (B.ak fo aj) (ah rfl (B.ak fo aj) (ah rfl v8 ay))))) (aQ (bb (gO (hZ (gC (dG rfl (ko Pz aep nofun nofun rfl (B.gl _ vR) T.eX (B.gl _ Bl) T.xy mm))) (hZ (a7 B.ne mm v9) (gB (a7 B.ne fo (cV (ah rfl v6 (ah rfl v7 ay)))))))) (aD (bo gE)) bX) (aQ (bb (gO (hZ (gC (dG rfl (ko Sb PyProof.Rows.boot_str nofun nofun rfl (B.gl _ vR) T.eX (B.gl _ P8) T.Fm (B.ak mm aj)))) (hZ (gC (dG rfl (ko B9 abK nofun nofun rfl (B.gl _ vR) T.eX (B.gl _ wk) T.lE (B.ak mm aj)))) (gB (gC (dG rfl (bw rfl nofun (Bn T) bv (B.room.mono (by decide)) (B.gl _ KW) T.wb T.lj.kp T.j3 (ah rfl (B.ak mm aj) ay)))))))) (aD (bo gE)) bX) (aQ (bb (gC (dG rfl (lC rfl nofun nofun (BM B.calm) DN (B.gl _ P9) T.yx aeN (ah rfl (tV B.calm (N':=["_law_one"]) (Bd.cap B.hN aL nofun) (tW (B.ak mm aj)) (oo B T nofun nofun fun{X} B T=>(B.jp 0 rfl (.inl rfl))) (oq B T nofun nofun fun{X} B T=>nA) (ou B T nofun nofun fun{X} B T=>(bw rfl nofun (Bn T) bv (B.room.mono (by decide)) (B.gl _ rfl) T.wb T.lj.kp T.j3 (ah rfl (B.jv 0 rfl (.inl rfl) wu) ay)))) ay)))) (aD (bo gE)) bX) (aD (dr rfl (cZ rfl rfl aaH aaI aaJ eo ez eY (B.ak mm aj) (ah rfl aj ay))))))))) (aD (bo gE)))))))))))))))))))))
theorem WK(T:Tx K mg):bO P w K mg base (bL P w) 8 T.a_law T.uE ["_law_script"] (bV K mg 1 (fM nT 15 1)):=cR rfl rfl T.qa WJ fun{X} h1 h2 h3 h4 h5 B hF aL=>by subst h3 h4;exact SJ T B hF aL
end
theorem all_mk{l:aeL}{w:World}{K:aaj}{h:Heap}{mg:Str->Option Value}{fa:Addr}(KX:K.In h)(G:h.Ns aan mg)(hfa:mg "law"=some (.ref fa))
  {rL:Addr} {Mn Mp:Option Addr} {Mq:Array (Option Value)} {Mr Ms Mt Mu AW Mv:Value}
  {rM:Addr} {Mw Mx:Option Addr} {My:Array (Option Value)} {Mz MA MB MC AX MD:Value}
  {rA:Addr} {K7 K8:Option Addr} {K9:Array (Option Value)} {La Lb Lc Ld AN Le:Value}
  {rZ:Addr} {Nj Nk:Option Addr} {Nl:Array (Option Value)} {Nn Np Nq Nr Bc Nt:Value}
  {rN:Addr} {ME MF:Option Addr} {MG:Array (Option Value)} {MH MI MJ MK AY ML:Value}
  {rB:Addr} {Lf Lg:Option Addr} {Lh:Array (Option Value)} {Li Lj Lk Ll AO Lm:Value}
  {r9:Addr} {NM NN:Option Addr} {NO:Array (Option Value)} {NP NQ NR NS Bo NT:Value}
  {sA:Addr} {OE OF:Option Addr} {OG:Array (Option Value)} {OH OI OJ OK BD OL:Value}
  {rh:Addr} {Ip Iq:Option Addr} {Ir:Array (Option Value)} {Iu Iv Iw Iy Ar Iz:Value}
  {pe:Addr} {ON OO:Option Addr} {OP:Array (Option Value)} {OQ OR OS OT BE OU:Value}
  {ub:Addr} {UC UD:Option Addr} {UE:Array (Option Value)} {UG UH UI UJ Dz UL:Value}
  {um:Addr} {WL WM:Option Addr} {WN:Array (Option Value)} {WO WP WQ WR Ek WS:Value}
  {sY:Addr} {Rt Ru:Option Addr} {Rv:Array (Option Value)} {Rw Rx Ry Rz Co RA:Value}
  {sC:Addr} {OV OW:Option Addr} {OX:Array (Option Value)} {OY OZ O0 O1 BF O2:Value}
  {tN:Addr} {SK SN:Option Addr} {SO:Array (Option Value)} {SQ SR SS SU CP SV:Value}
  {sd:Addr} {NU NV:Option Addr} {NW:Array (Option Value)} {NX NY NZ N0 Bp N1:Value}
  {sZ:Addr} {RB RC:Option Addr} {RD:Array (Option Value)} {RE RF RG RH Cq RJ:Value}
  {sP:Addr} {Qe Qf:Option Addr} {Qg:Array (Option Value)} {Qh Qi Qj Qk BX Ql:Value}
  {sD:Addr} {O3 O4:Option Addr} {O5:Array (Option Value)} {O6 O7 O8 O9 BG Pa:Value}
  {rm:Addr} {Kj Kk:Option Addr} {Kl:Array (Option Value)} {Km Ko Kp Kq AH Kr:Value}
  {sQ:Addr} {Qm Qn:Option Addr} {Qo:Array (Option Value)} {Qp Qq Qr Qs BY Qt:Value}
  {sE:Addr} {Pb Pc:Option Addr} {Pd:Array (Option Value)} {Pe Pf Ph Pj BH Pk:Value}
  {rO:Addr} {MM MN:Option Addr} {MO:Array (Option Value)} {MP MQ MR MS AZ MT:Value}
  {rJ:Addr} {LB LC:Option Addr} {LD:Array (Option Value)} {LF LG LH LJ AS LK:Value}
  {rP:Addr} {MU MV:Option Addr} {MW:Array (Option Value)} {MX MY MZ M0 A0 M1:Value}
  {se:Addr} {N2 N3:Option Addr} {N4:Array (Option Value)} {N5 N6 N7 N8 Bq N9:Value}
  {xU:Addr} {WT El:Option Addr} {WU:Array (Option Value)} {WV Em En Eo xV Ep:Value}
  {pU:Tok}
  {oX:Tok}
  {f9:Addr}
  {eE:Addr}
  {el:Addr}
  {mU:Addr}
  {sR:Addr}
  {sh:Addr}
  {tP:Addr}
  (a_law_cell_at:aao K aan "_law_cell_at"=some (some (.ref rL)))
  (l_law_cell_at:K.lookup rL=some ⟨Mr,Mn,.func (aaL "_law_cell_at" "_law_cell_at" (cx gw) (bf gw) (ag gw) .none Ms Mt Mu Mp AW Mv),Mq⟩)
  (c_law_cell_at:aaF K AW "_law_cell_at"=true)
  (k_law_cell_at:aaC K (.ref rL)=true)
  (a_law_goal_by:aao K aan "_law_goal_by"=some (some (.ref rM)))
  (l_law_goal_by:K.lookup rM=some ⟨Mz,Mw,.func (aaL "_law_goal_by" "_law_goal_by" (cx fx) (bf fx) (ag fx) .none MA MB MC Mx AX MD),My⟩)
  (c_law_goal_by:aaF K AX "_law_goal_by"=true)
  (k_law_goal_by:aaC K (.ref rM)=true)
  (a_law_number_by:aao K aan "_law_number_by"=some (some (.ref rA)))
  (l_law_number_by:K.lookup rA=some ⟨La,K7,.func (aaL "_law_number_by" "_law_number_by" (cx iF) (bf iF) (ag iF) .none Lb Lc Ld K8 AN Le),K9⟩)
  (c_law_number_by:aaF K AN "_law_number_by"=true)
  (k_law_number_by:aaC K (.ref rA)=true)
  (a_law_row_by:aao K aan "_law_row_by"=some (some (.ref rZ)))
  (l_law_row_by:K.lookup rZ=some ⟨Nn,Nj,.func (aaL "_law_row_by" "_law_row_by" (cx cQ) (bf cQ) (ag cQ) .none Np Nq Nr Nk Bc Nt),Nl⟩)
  (c_law_row_by:aaF K Bc "_law_row_by"=true)
  (k_law_row_by:aaC K (.ref rZ)=true)
  (a_law_last_by:aao K aan "_law_last_by"=some (some (.ref rN)))
  (l_law_last_by:K.lookup rN=some ⟨MH,ME,.func (aaL "_law_last_by" "_law_last_by" (cx cB) (bf cB) (ag cB) .none MI MJ MK MF AY ML),MG⟩)
  (c_law_last_by:aaF K AY "_law_last_by"=true)
  (k_law_last_by:aaC K (.ref rN)=true)
  (a_law_inputs_by:aao K aan "_law_inputs_by"=some (some (.ref rB)))
  (l_law_inputs_by:K.lookup rB=some ⟨Li,Lf,.func (aaL "_law_inputs_by" "_law_inputs_by" (cx eW) (bf eW) (ag eW) .none Lj Lk Ll Lg AO Lm),Lh⟩)
  (c_law_inputs_by:aaF K AO "_law_inputs_by"=true)
  (k_law_inputs_by:aaC K (.ref rB)=true)
  (a_is_number:aao K aan "is_number"=some (some (.ref r9)))
  (l_is_number:K.lookup r9=some ⟨NP,NM,.func (aaL "is_number" "is_number" (cx fy) (bf fy) (ag fy) .none NQ NR NS NN Bo NT),NO⟩)
  (c_is_number:aaF K Bo "is_number"=true)
  (k_is_number:aaC K (.ref r9)=true)
  (a_need_run:aao K aan "need_run"=some (some (.ref sA)))
  (l_need_run:K.lookup sA=some ⟨OH,OE,.func (aaL "need_run" "need_run" (cx d0) (bf d0) (ag d0) .none OI OJ OK OF BD OL),OG⟩)
  (c_need_run:aaF K BD "need_run"=true)
  (k_need_run:aaC K (.ref sA)=true)
  (a_as_row_over_names:aao K aan "as_row_over_names"=some (some (.ref rh)))
  (l_as_row_over_names:K.lookup rh=some ⟨Iu,Ip,.func (aaL "as_row_over_names" "as_row_over_names" (cx iE) (bf iE) (ag iE) .none Iv Iw Iy Iq Ar Iz),Ir⟩)
  (c_as_row_over_names:aaF K Ar "as_row_over_names"=true)
  (k_as_row_over_names:aaC K (.ref rh)=true)
  (a_Run_init:abl K (.ref eE) "__init__"=some (some (.ref pe)))
  (i_Run_init:PySem.W.isFn K (.ref pe)=true)
  (l_Run_init:K.lookup pe=some ⟨OQ,ON,.func (aaL "__init__" "Run.__init__" (cx fZ) (bf fZ) (ag fZ) .none OR OS OT OO BE OU),OP⟩)
  (c_Run_init:aaF K BE "Run.__init__"=true)
  (k_Run_init:aaC K (.ref pe)=true)
  (a_held:aao K aan "held"=some (some (.ref ub)))
  (l_held:K.lookup ub=some ⟨UG,UC,.func (aaL "held" "held" (cx hU) (bf hU) (ag hU) .none UH UI UJ UD Dz UL),UE⟩)
  (c_held:aaF K Dz "held"=true)
  (k_held:aaC K (.ref ub)=true)
  (a_fit:aao K aan "fit"=some (some (.ref um)))
  (l_fit:K.lookup um=some ⟨WO,WL,.func (aaL "fit" "fit" (cx ib) (bf ib) (ag ib) .none WP WQ WR WM Ek WS),WN⟩)
  (c_fit:aaF K Ek "fit"=true)
  (k_fit:aaC K (.ref um)=true)
  (a_parted:aao K aan "parted"=some (some (.ref sY)))
  (l_parted:K.lookup sY=some ⟨Rw,Rt,.func (aaL "parted" "parted" (cx f7) (bf f7) (ag f7) .none Rx Ry Rz Ru Co RA),Rv⟩)
  (c_parted:aaF K Co "parted"=true)
  (k_parted:aaC K (.ref sY)=true)
  (a_reckoned:aao K aan "reckoned"=some (some (.ref sC)))
  (l_reckoned:K.lookup sC=some ⟨OY,OV,.func (aaL "reckoned" "reckoned" (cx fA) (bf fA) (ag fA) .none OZ O0 O1 OW BF O2),OX⟩)
  (c_reckoned:aaF K BF "reckoned"=true)
  (k_reckoned:aaC K (.ref sC)=true)
  (a_taken:aao K aan "taken"=some (some (.ref tN)))
  (l_taken:K.lookup tN=some ⟨SQ,SK,.func (aaL "taken" "taken" (cx hO) (bf hO) (ag hO) .none SR SS SU SN CP SV),SO⟩)
  (c_taken:aaF K CP "taken"=true)
  (k_taken:aaC K (.ref tN)=true)
  (a_make_turn:aao K aan "make_turn"=some (some (.ref sd)))
  (l_make_turn:K.lookup sd=some ⟨NX,NU,.func (aaL "make_turn" "make_turn" (cx iG) (bf iG) (ag iG) .none NY NZ N0 NV Bp N1),NW⟩)
  (c_make_turn:aaF K Bp "make_turn"=true)
  (k_make_turn:aaC K (.ref sd)=true)
  (a_do_row:aao K aan "do_row"=some (some (.ref sZ)))
  (l_do_row:K.lookup sZ=some ⟨RE,RB,.func (aaL "do_row" "do_row" (cx fb) (bf fb) (ag fb) .none RF RG RH RC Cq RJ),RD⟩)
  (c_do_row:aaF K Cq "do_row"=true)
  (k_do_row:aaC K (.ref sZ)=true)
  (a_outcome:aao K aan "outcome"=some (some (.ref sP)))
  (l_outcome:K.lookup sP=some ⟨Qh,Qe,.func (aaL "outcome" "outcome" (cx dF) (bf dF) (ag dF) .none Qi Qj Qk Qf BX Ql),Qg⟩)
  (c_outcome:aaF K BX "outcome"=true)
  (k_outcome:aaC K (.ref sP)=true)
  (a_last_run:aao K aan "last_run"=some (some (.ref sD)))
  (l_last_run:K.lookup sD=some ⟨O6,O3,.func (aaL "last_run" "last_run" (cx fB) (bf fB) (ag fB) .none O7 O8 O9 O4 BG Pa),O5⟩)
  (c_last_run:aaF K BG "last_run"=true)
  (k_last_run:aaC K (.ref sD)=true)
  (a_law_many_turns:aao K aan "_law_many_turns"=some (some (.ref rm)))
  (l_law_many_turns:K.lookup rm=some ⟨Km,Kj,.func (aaL "_law_many_turns" "_law_many_turns" (cx eV) (bf eV) (ag eV) .none Ko Kp Kq Kk AH Kr),Kl⟩)
  (c_law_many_turns:aaF K AH "_law_many_turns"=true)
  (k_law_many_turns:aaC K (.ref rm)=true)
  (a_law_fit:aao K aan "_law_fit"=some (some (.ref sQ)))
  (l_law_fit:K.lookup sQ=some ⟨Qp,Qm,.func (aaL "_law_fit" "_law_fit" (cx iJ) (bf iJ) (ag iJ) .none Qq Qr Qs Qn BY Qt),Qo⟩)
  (c_law_fit:aaF K BY "_law_fit"=true)
  (k_law_fit:aaC K (.ref sQ)=true)
  (a_law_deed:aao K aan "_law_deed"=some (some (.ref sE)))
  (l_law_deed:K.lookup sE=some ⟨Pe,Pb,.func (aaL "_law_deed" "_law_deed" (cx fC) (bf fC) (ag fC) .none Pf Ph Pj Pc BH Pk),Pd⟩)
  (c_law_deed:aaF K BH "_law_deed"=true)
  (k_law_deed:aaC K (.ref sE)=true)
  (a_law_box_row:aao K aan "_law_box_row"=some (some (.ref rO)))
  (l_law_box_row:K.lookup rO=some ⟨MP,MM,.func (aaL "_law_box_row" "_law_box_row" (cx fW) (bf fW) (ag fW) .none MQ MR MS MN AZ MT),MO⟩)
  (c_law_box_row:aaF K AZ "_law_box_row"=true)
  (k_law_box_row:aaC K (.ref rO)=true)
  (a_law_last_run:aao K aan "_law_last_run"=some (some (.ref rJ)))
  (l_law_last_run:K.lookup rJ=some ⟨LF,LB,.func (aaL "_law_last_run" "_law_last_run" (cx cD) (bf cD) (ag cD) .none LG LH LJ LC AS LK),LD⟩)
  (c_law_last_run:aaF K AS "_law_last_run"=true)
  (k_law_last_run:aaC K (.ref rJ)=true)
  (a_law_refused:aao K aan "_law_refused"=some (some (.ref rP)))
  (l_law_refused:K.lookup rP=some ⟨MX,MU,.func (aaL "_law_refused" "_law_refused" (cx de) (bf de) (ag de) .none MY MZ M0 MV A0 M1),MW⟩)
  (c_law_refused:aaF K A0 "_law_refused"=true)
  (k_law_refused:aaC K (.ref rP)=true)
  (a_law_whole:aao K aan "_law_whole"=some (some (.ref se)))
  (l_law_whole:K.lookup se=some ⟨N5,N2,.func (aaL "_law_whole" "_law_whole" (cx fY) (bf fY) (ag fY) .none N6 N7 N8 N3 Bq N9),N4⟩)
  (c_law_whole:aaF K Bq "_law_whole"=true)
  (k_law_whole:aaC K (.ref se)=true)
  (a_law:aao K aan "law"=some (some (.ref xU)))
  (l_law:K.lookup xU=some ⟨WV,WT,.func (aaL "law" "law" (cx bj) (bf bj) (ag bj) .none Em En Eo El xV Ep),WU⟩)
  (c_law:aaF K xV "law"=true)
  (k_law:aaC K (.ref xU)=true)
  (z_ValueError:aao K aan "ValueError"=some none)
  (z_all:aao K aan "all"=some none)
  (z_bool:aao K aan "bool"=some none)
  (z_int:aao K aan "int"=some none)
  (z_isinstance:aao K aan "isinstance"=some none)
  (z_len:aao K aan "len"=some none)
  (z_list:aao K aan "list"=some none)
  (z_range:aao K aan "range"=some none)
  (z_str:aao K aan "str"=some none)
  (z_tuple:aao K aan "tuple"=some none)
  (g_HALF:aao K aan "HALF"=some (some (.int (2147483648) pU)))
  (g_MOST_TURNS:aao K aan "MOST_TURNS"=some (some (.int (10000) oX)))
  (x_BadRun:aao K aan "BadRun"=some (some (.ref f9)))
  (xk_BadRun:qt K f9=true)
  (xi_BadRun:acB K f9 nO "ValueError.__new__"=true)
  (x_Run:aao K aan "Run"=some (some (.ref eE)))
  (pg_Run:adD K eE Str.empty=true) (hd_Run:adu K eE=true) (po_Run:aeg K eE=true) (sa_Run:abl K (.ref eE) "__setattr__"=some (some (.builtin "object.__setattr__")))
  (mk_Run:aeG K eE=true) (kc_Run:aaC K (.ref eE)=true)
  (na_at_Run:abl K (.ref eE) "at"=some none)
  (na_holds_Run:abl K (.ref eE) "holds"=some none)
  (na_inputs_Run:abl K (.ref eE) "inputs"=some none)
  (na_takes_Run:abl K (.ref eE) "takes"=some none)
  (na_told_Run:abl K (.ref eE) "told"=some none)
  (na_turns_left_Run:abl K (.ref eE) "turns_left"=some none)
  (na_word_Run:abl K (.ref eE) "word"=some none)
  (x_ByNought:aao K aan "ByNought"=some (some (.ref el)))
  (xk_ByNought:qt K el=true)
  (xi_ByNought:acB K el nO "ValueError.__new__"=true)
  (xt_ByNought:acG K (.ref el)=some (.type "type"))
  (x_BoxError:aao K aan "BoxError"=some (some (.ref mU)))
  (xk_BoxError:qt K mU=true)
  (xt_BoxError:acG K (.ref mU)=some (.type "type"))
  (x_BadBoxes:aao K aan "BadBoxes"=some (some (.ref sR)))
  (x_BadProgram:aao K aan "BadProgram"=some (some (.ref sh)))
  (x_NoText:aao K aan "NoText"=some (some (.ref tP)))
  (y_su_ByNought_ByNought:ack K (.ref el) (.ref el)=some true)
  (y_su_ByNought_BoxError:ack K (.ref el) (.ref mU)=some true)
  (y_su_BadRun_BoxError:ack K (.ref f9) (.ref mU)=some true)
  (y_kt_ByNought_BadBoxes:aaK K (.ref el) (.ref sR)=some false)
  (y_kt_BadRun_BadBoxes:aaK K (.ref f9) (.ref sR)=some false)
  (y_kt_ByNought_BadProgram:aaK K (.ref el) (.ref sh)=some false)
  (y_kt_BadRun_BadProgram:aaK K (.ref f9) (.ref sh)=some false)
  (y_kt_ByNought_ByNought:aaK K (.ref el) (.ref el)=some true)
  (y_kt_BadRun_ByNought:aaK K (.ref f9) (.ref el)=some false)
  (y_kt_ByNought_NoText:aaK K (.ref el) (.ref tP)=some false)
  (y_kt_BadRun_NoText:aaK K (.ref f9) (.ref tP)=some false)
  (y_kt_ByNought_BadRun:aaK K (.ref el) (.ref f9)=some false)
  (y_kt_BadRun_BadRun:aaK K (.ref f9) (.ref f9)=some true)
  (y_kt_ByNought_ValueError:aaK K (.ref el) (.type "ValueError")=some true)
  (y_kt_BadRun_ValueError:aaK K (.ref f9) (.type "ValueError")=some true)
  : ∃fd:aaZ,(∀(s:aam) (v:Value),BindsTo s fd ⟨[v],[]⟩ [("_law_script",v)])/\∀base:Heap,K.In base->base.Ns aan mg->bO l.prog w K mg base (bL l.prog w) 8 fa fd ["_law_script"] (bV K mg 1 p8):=by
 have e:=hfa.symm.trans (aaB KX G a_law);cases e;have gx:=cS (st:=gw) l_law_cell_at c_law_cell_at k_law_cell_at;have mF:=cS (st:=fx) l_law_goal_by c_law_goal_by k_law_goal_by;have jY:=cS (st:=iF) l_law_number_by c_law_number_by k_law_number_by;have mI:=cS (st:=cQ) l_law_row_by c_law_row_by k_law_row_by;have mG:=cS (st:=cB) l_law_last_by c_law_last_by k_law_last_by;have mD:=cS (st:=eW) l_law_inputs_by c_law_inputs_by k_law_inputs_by;have li:=cS (st:=fy) l_is_number c_is_number k_is_number;have mR:=cS (st:=d0) l_need_run c_need_run k_need_run;have mw:=cS (st:=iE) l_as_row_over_names c_as_row_over_names k_as_row_over_names;have pj:=cS (st:=fZ) l_Run_init c_Run_init k_Run_init;have iN:=cS (st:=hU) l_held c_held k_held;have js:=cS (st:=ib) l_fit c_fit k_fit;have m3:=cS (st:=f7) l_parted c_parted k_parted;have mS:=cS (st:=fA) l_reckoned c_reckoned k_reckoned;have ni:=cS (st:=hO) l_taken c_taken k_taken;have mM:=cS (st:=iG) l_make_turn c_make_turn k_make_turn;have m5:=cS (st:=fb) l_do_row c_do_row k_do_row;have mW:=cS (st:=dF) l_outcome c_outcome k_outcome;have jf:=cS (st:=fB) l_last_run c_last_run k_last_run;have mC:=cS (st:=eV) l_law_many_turns c_law_many_turns k_law_many_turns;have lu:=cS (st:=iJ) l_law_fit c_law_fit k_law_fit;have mT:=cS (st:=fC) l_law_deed c_law_deed k_law_deed;have mH:=cS (st:=fW) l_law_box_row c_law_box_row k_law_box_row;have mE:=cS (st:=cD) l_law_last_run c_law_last_run k_law_last_run;have la:=cS (st:=de) l_law_refused c_law_refused k_law_refused;have lj:=cS (st:=fY) l_law_whole c_law_whole k_law_whole;have qa:=cS (st:=bj) l_law c_law k_law
 let T:Tx K mg:={
  a_law_cell_at:=rL,rR:=_,gx:=gx,j1:=aaB KX G a_law_cell_at,fX:=gx.binds (ps:=["_law_script","_law_k"]) (fun _ _ _ _ _ _ us hl=>by obtain⟨_,_,rfl⟩:=kF us hl;rfl),
  a_law_goal_by:=rM,rS:=_,mF:=mF,A7:=aaB KX G a_law_goal_by,jZ:=mF.binds (ps:=["_law_more","_law_place","_law_many","_law_turns"]) (fun _ _ _ _ _ _ us hl=>by obtain⟨_,_,_,_,rfl⟩:=F5 us hl;rfl),
  a_law_number_by:=rA,rE:=_,jY:=jY,rF:=aaB KX G a_law_number_by,jd:=jY.binds (ps:=["_law_cell"]) (fun _ _ _ _ _ _ us hl=>by obtain⟨_,rfl⟩:=iX us hl;rfl),
  a_law_row_by:=rZ,r6:=_,mI:=mI,Bf:=aaB KX G a_law_row_by,lb:=mI.binds (ps:=["_law_cell","_law_boxes","_law_slots"]) (fun _ _ _ _ _ _ us hl=>by obtain⟨_,_,_,rfl⟩:=iY us hl;rfl),
  a_law_last_by:=rN,rT:=_,mG:=mG,A8:=aaB KX G a_law_last_by,k8:=mG.binds (ps:=["_law_script","_law_many","_law_boxes","_law_slots","_law_loops"]) (fun _ _ _ _ _ _ us hl=>by obtain⟨_,_,_,_,_,rfl⟩:=Zk us hl;rfl),
  a_law_inputs_by:=rB,rG:=_,mD:=mD,AQ:=aaB KX G a_law_inputs_by,kU:=mD.binds (ps:=["_law_script","_law_cell"]) (fun _ _ _ _ _ _ us hl=>by obtain⟨_,_,rfl⟩:=kF us hl;rfl),
  a_is_number:=r9,sj:=_,li:=li,wa:=aaB KX G a_is_number,j2:=li.binds (ps:=["thing"]) (fun _ _ _ _ _ _ us hl=>by obtain⟨_,rfl⟩:=iX us hl;rfl),
  a_need_run:=sA,sJ:=_,mR:=mR,BR:=aaB KX G a_need_run,iH:=mR.binds (ps:=["inputs","turns"]) (fun _ _ _ _ _ _ us hl=>by obtain⟨_,_,rfl⟩:=kF us hl;rfl),
  a_as_row_over_names:=rh,rj:=_,mw:=mw,Au:=aaB KX G a_as_row_over_names,gX:=mw.binds (ps:=["row"]) (fun _ _ _ _ _ _ us hl=>by obtain⟨_,rfl⟩:=iX us hl;rfl),
  a_Run_init:=pe,sL:=_,pj:=pj,lm:=pj.binds (ps:=["self","inputs","turns"]) (fun _ _ _ _ _ _ us hl=>by obtain⟨_,_,_,rfl⟩:=iY us hl;rfl),
  a_held:=ub,uk:=_,iN:=iN,nF:=aaB KX G a_held,hV:=iN.binds (ps:=["run","name"]) (fun _ _ _ _ _ _ us hl=>by obtain⟨_,_,rfl⟩:=kF us hl;rfl),
  a_fit:=um,uD:=_,js:=js,p9:=aaB KX G a_fit,iU:=js.binds (ps:=["number"]) (fun _ _ _ _ _ _ us hl=>by obtain⟨_,rfl⟩:=iX us hl;rfl),
  a_parted:=sY,tH:=_,m3:=m3,CL:=aaB KX G a_parted,kb:=m3.binds (ps:=["one","other"]) (fun _ _ _ _ _ _ us hl=>by obtain⟨_,_,rfl⟩:=kF us hl;rfl),
  a_reckoned:=sC,sM:=_,mS:=mS,BS:=aaB KX G a_reckoned,j5:=mS.binds (ps:=["word","one","other"]) (fun _ _ _ _ _ _ us hl=>by obtain⟨_,_,_,rfl⟩:=iY us hl;rfl),
  a_taken:=tN,ua:=_,ni:=ni,Dx:=aaB KX G a_taken,lz:=ni.binds (ps:=["run"]) (fun _ _ _ _ _ _ us hl=>by obtain⟨_,rfl⟩:=iX us hl;rfl),
  a_make_turn:=sd,sk:=_,mM:=mM,Bv:=aaB KX G a_make_turn,lg:=mM.binds (ps:=["run"]) (fun _ _ _ _ _ _ us hl=>by obtain⟨_,rfl⟩:=iX us hl;rfl),
  a_do_row:=sZ,tJ:=_,m5:=m5,CM:=aaB KX G a_do_row,lx:=m5.binds (ps:=["run","row"]) (fun _ _ _ _ _ _ us hl=>by obtain⟨_,_,rfl⟩:=kF us hl;rfl),
  a_outcome:=sP,sU:=_,mW:=mW,Ci:=aaB KX G a_outcome,ls:=mW.binds (ps:=["rows","inputs","turns"]) (fun _ _ _ _ _ _ us hl=>by obtain⟨_,_,_,rfl⟩:=iY us hl;rfl),
  a_last_run:=sD,sN:=_,jf:=jf,pk:=aaB KX G a_last_run,g8:=jf.binds (ps:=["rows","inputs","turns"]) (fun _ _ _ _ _ _ us hl=>by obtain⟨_,_,_,rfl⟩:=iY us hl;rfl),
  a_law_many_turns:=rm,rq:=_,mC:=mC,AI:=aaB KX G a_law_many_turns,kT:=mC.binds (ps:=["_law_turns","_law_inputs"]) (fun _ _ _ _ _ _ us hl=>by obtain⟨_,_,rfl⟩:=kF us hl;rfl),
  a_law_fit:=sQ,sV:=_,lu:=lu,wJ:=aaB KX G a_law_fit,j6:=lu.binds (ps:=["_law_number"]) (fun _ _ _ _ _ _ us hl=>by obtain⟨_,rfl⟩:=iX us hl;rfl),
  a_law_deed:=sE,sO:=_,mT:=mT,BU:=aaB KX G a_law_deed,lq:=mT.binds (ps:=["_law_word","_law_one","_law_other"]) (fun _ _ _ _ _ _ us hl=>by obtain⟨_,_,_,rfl⟩:=iY us hl;rfl),
  a_law_box_row:=rO,rV:=_,mH:=mH,A9:=aaB KX G a_law_box_row,k9:=mH.binds (ps:=["_law_row","_law_boxes","_law_slots"]) (fun _ _ _ _ _ _ us hl=>by obtain⟨_,_,_,rfl⟩:=iY us hl;rfl),
  a_law_last_run:=rJ,rK:=_,mE:=mE,AU:=aaB KX G a_law_last_run,kX:=mE.binds (ps:=["_law_rows","_law_inputs","_law_turns"]) (fun _ _ _ _ _ _ us hl=>by obtain⟨_,_,_,rfl⟩:=iY us hl;rfl),
  a_law_refused:=rP,rW:=_,la:=la,vV:=aaB KX G a_law_refused,j0:=la.binds (ps:=["_law_rows","_law_inputs","_law_turns"]) (fun _ _ _ _ _ _ us hl=>by obtain⟨_,_,_,rfl⟩:=iY us hl;rfl),
  a_law_whole:=se,sr:=_,lj:=lj,wb:=aaB KX G a_law_whole,j3:=lj.binds (ps:=["_law_found"]) (fun _ _ _ _ _ _ us hl=>by obtain⟨_,rfl⟩:=iX us hl;rfl),
  a_law:=fa,uE:=_,qa:=qa,Yo:=aaB KX G a_law,nT:=qa.binds (ps:=["_law_script"]) (fun _ _ _ _ _ _ us hl=>by obtain⟨_,rfl⟩:=iX us hl;rfl),
  Bg:=abw KX G z_ValueError,
  yx:=abw KX G z_all,
  xS:=abw KX G z_bool,
  nU:=abw KX G z_int,
  eX:=abw KX G z_isinstance,
  nV:=abw KX G z_len,
  lE:=abw KX G z_list,
  nj:=abw KX G z_range,
  Fm:=abw KX G z_str,
  xy:=abw KX G z_tuple,
  pU:=pU,nG:=aaB KX G g_HALF,
  oX:=oX,Bh:=aaB KX G g_MOST_TURNS,
  fD:=f9,j7:=x_BadRun,sW:=aaB KX G x_BadRun,
  lw:=.of xk_BadRun,
  wK:=xi_BadRun,
  gG:=eE,b9:=x_Run,Ei:=aaB KX G x_Run,
  cf:=⟨pg_Run,hd_Run,po_Run,sa_Run⟩,
  mk_Run:=⟨mk_Run,a_Run_init,i_Run_init,kc_Run⟩,
  j8:=na_at_Run,
  lc:=na_holds_Run,
  rX:=na_inputs_Run,
  mJ:=na_takes_Run,
  su:=na_told_Run,
  rl:=na_turns_left_Run,
  ll:=na_word_Run,
  d3:=el,je:=x_ByNought,sx:=aaB KX G x_ByNought,
  j4:=.of xk_ByNought,
  Bw:=xi_ByNought,
  Bx:=xt_ByNought,
  lr:=mU,Og:=x_BoxError,By:=aaB KX G x_BoxError,
  Bz:=.of xk_BoxError,
  BA:=xt_BoxError,
  pq:=sR,Oh:=x_BadBoxes,BB:=aaB KX G x_BadBoxes,
  oY:=sh,M4:=x_BadProgram,Ba:=aaB KX G x_BadProgram,
  pF:=tP,Q1:=x_NoText,Cj:=aaB KX G x_NoText,
  Al:=y_su_ByNought_ByNought,
  Am:=y_su_ByNought_BoxError,
  Ax:=y_su_BadRun_BoxError,
  An:=y_kt_ByNought_BadBoxes,
  Ay:=y_kt_BadRun_BadBoxes,
  Ai:=y_kt_ByNought_BadProgram,
  Ao:=y_kt_BadRun_BadProgram,
  Ap:=y_kt_ByNought_ByNought,
  Az:=y_kt_BadRun_ByNought,
  AA:=y_kt_ByNought_NoText,
  AJ:=y_kt_BadRun_NoText,
  AB:=y_kt_ByNought_BadRun,
  AK:=y_kt_BadRun_BadRun,
  Aj:=y_kt_ByNought_ValueError,
  Aq:=y_kt_BadRun_ValueError }
 exact⟨aaL "law" "law" (cx bj) (bf bj) (ag bj) .none Em En Eo El xV Ep,fun s v=>.of_eq rfl,fun base _ _=>WK T⟩
theorem SW{l:aeL}{q:abp}{loose:List Str}{XP:(Str->Option Value)->Heap->Prop}{YP:World->Heap->Prop}{d:DefRec}{K:Params->aaj}(good:∀ns:List Int,ns.length<=63->∃ph',p8 [.fl (ns.map W.int)] []=.ok (.bl true) ph')(hn:l.most=some 63)(qK:d.params.defaults=[])
  (hY:∀(w:World) (h:Heap),YP w h->(K w.params).In h) (hK:∀w:World,afa (K w.params)=true) (hT:∀(w:World) (h:Heap),YP w h->∀p∈iL (K w.params),aed h p.2.1 p.2.2/\h.get? p.2.2=some (acI #[]))
  (F:∀(w:World) (mg:Str->Option Value) (fa:Addr) (h:Heap),(K w.params).In h->h.Ns aan mg->mg d.name=some (.ref fa)->∃fd:aaZ,(∀(s:aam) (u:Value),BindsTo s fd ⟨[u],[]⟩ [("_law_script",u)])/\∀base:Heap,(K w.params).In base->base.Ns aan mg->bO l.prog w (K w.params) mg base (bL l.prog w) 8 fa fd ["_law_script"] (bV (K w.params) mg 1 p8)) :
  PySem.W.WalkO q loose XP YP l.row.toRowW d [] (fun f vs=>PySem.call f vs):=Ub 8 good hn qK ⟨rfl,by decide,by decide⟩ hY hK hT F
open PySem L2
variable{α β:Type}{ph:PH}
theorem ax{m:Mo α}{f:α->Mo β}{ph':PH}{a:α}{r:Out β}(h:m ph=.ok a ph')(k:f a ph'=r):aw m f ph=r:=by
 unfold aw;rw[h];exact k
theorem Fn{l:List α}{j:Nat}(h:j<l.length):∃x,l[j]? =some x:=⟨l[j],abx h⟩
theorem jn{a b:Int}(h1: -(2 ^ 64)<b)(h2:b<2 ^ 64):mulC a b=true:=by
 unfold mulC;rw[decide_eq_true h1,decide_eq_true h2];simp
theorem Er{a b:Int}(h1: -(2 ^ 64)<a)(h2:a<2 ^ 64):mulC a b=true:=by
 unfold mulC;rw[decide_eq_true h1,decide_eq_true h2];simp
theorem Ex.set{a b:PH}(h:Ex a b){i:Nat}(hi:a.length<=i)(o:PO):Ex a (b.set i o):=by
 obtain⟨m,rfl⟩:=h;exact⟨m.set (i-a.length) o,by rw[adB _ _ hi]⟩
variable{i:Nat}
theorem dw{j:Nat}{o:PO}(h:i≠j):(ph.set i o)[j]? =ph[j]? :=abP h
theorem iP{o o':PO}(h:ph[i]? =some o):(ph.set i o')[i]? =some o':=acJ (aal.mp h).1
theorem Yp{o:PO}(h:ph[i]? =some o):i<ph.length:=(aal.mp h).1
variable{b:SM}{σ:aP}{ph1:PH}{r:Out Fl}
theorem xA{im:IM}{g:GM}{items:List W}{chk:PH->Bool}(h:im σ ph=.ok (items,chk) ph1)(h2:dB chk g b items σ ph1=r):ie im g b σ ph=r:=by
 unfold ie;refine ax h ?_;exact h2
variable{σ1:aP}
theorem Zl{a:SM}{k:Fl->Mo W}{P:Out W->Prop}(h:a σ ph=.ok (.nx σ1) ph1)(h2:P (aw (b σ1) k ph1)):P (aw (aF a b σ) k ph):=by
 have e:aw (aF a b σ) k ph=aw (b σ1) k ph1:=by
  rw[nh,hG,cs h]
 rw[e];exact h2
def iw(l:List Nat):List W:=l.map fun x:Nat=>W.int x
theorem xW(l:List Nat):(iw l).length=l.length:=by simp[iw]
theorem WW(l m:List Nat):iw (l++m)=iw l++iw m:=by simp[iw]
variable{x:Nat}
theorem Yq{l:List Nat}{j:Nat}(h:l[j]? =some x):cH (iw l) (j:Int)=some (.int x):=by
 have:=(aal.mp h).1;rw[gc _ _ (by rw[xW];exact this)];unfold iw;rw[aaN,h];rfl
theorem UM(ns:List Int)(k:Nat)(ph:PH):c8 [.fl (ns.map W.int),.int k] ph=.ok (.int (ns.getD k 0)) ph:=by
 unfold c8 fX
 push_cast [Zh]
 by_cases h:k<ns.length
 ·have e:cH (ns.map W.int) (k:Int)=some (.int (ns.getD k 0)):=by
   rw[gc _ _ (by simpa using h)];simp[h]
  rw[ixF e];simp[h,aA,dH,aw]
 ·have e:ns.getD k 0=0:=by simp[Nat.le_of_not_lt h]
  simp[h,aA,dH,aw,e]
theorem Yr(ns:List Int)(k:Nat):c8 [.fl (ns.map W.int),.int k]=aA (.int (ns.getD k 0)):=funext fun ph=>UM ns k ph
theorem sq{a:SM}(h:a σ ph=.ok (.nx σ1) ph1)(h2:b σ1 ph1=r):aF a b σ ph=r:=by
 rw[nh,cs h];exact h2
theorem bq{a:SM}{k:Fl->Mo W}{r:Out W}(h:a σ ph=.ok (.nx σ1) ph1)(h2:aw (b σ1) k ph1=r):aw (aF a b σ) k ph=r:=Zl (P:=fun q=>q=r) h h2
theorem br{e:EM}{w:W}(h:e σ ph=.ok w ph1):aw (a8 e σ) dH ph=.ok w ph1:=by
 rw[t5,hG,cs h];rfl
theorem asg{e:EM}{w:W}(h:e σ ph=.ok w ph1):aK e (gN i) σ ph=.ok (.nx (σ.set i (some w))) ph1:=by
 rw[pK,cs h];rfl
theorem bc{a:SM}(h:t σ ph=.ok true ph1)(h2:a σ ph1=r):aT t a b σ ph=r:=by
 rw[ug,cs h];exact h2
theorem aq{a:SM}(h:t σ ph=.ok false ph1)(h2:b σ ph1=r):aT t a b σ ph=r:=by
 rw[ug,cs h];exact h2
theorem retS{e:EM}{w:W}(h:e σ ph=.ok w ph1):a8 e σ ph=.ok (.rt w) ph1:=by
 rw[t5,cs h];rfl
variable{o:EM}{ws:List W}
theorem oM{e:EM}{w:W}(ho:o σ=aA (.ref i))(hi0:∃vq,ph[i]? =some (.lst vq))(he:e σ ph=.ok w ph1)(hi:ph1[i]? =some (.lst ws))(hz:ws.length<1000000):cu (bG b8 cF o (af e ai)) σ ph=.ok (.nx σ) (ph1.set i (.lst (ws++[w]))):=by
 obtain⟨vq,h0⟩:=hi0;rw[pE,ka,ho];rw[hG,pJ,hG,cs (t8 h0),hG,tD,hG,cs he];rw[t6,pJ,pJ,cs (sH hi (aav hz (by decide)) w)];rfl
theorem c7{a:SM}{w:W}(h:a σ ph=.ok (.rt w) ph1):aw (aF a b σ) dH ph=.ok w ph1:=by
 rw[nh,hG,cs h];rfl
inductive Wd where
 | sum | less | times | part | below | alike
inductive Row where
 | dR (a:Int) (w:Wd) (b c:Int)
 | put (a n:Int)
 | move (a b:Int)
 | pull (a b:Int)
 | push (a b:Int)
 | take (a:Int)
 | tell (a:Int)
 | turn
abbrev Dc:=List (Int×Int)
def gt(l:Dc)(k:Int):Int:=((l.find? fun p=>decide (p.1=k)).map (·.2)).getD 0
def pt(l:Dc)(k v:Int):Dc:=if l.any (fun p=>decide (p.1=k)) then l.map (fun p=>if p.1=k then(p.1,v) else p) else l++[(k,v)]
structure S where
 bx:Dc
 sl:Dc
 told:List Int
 tk:Nat
 tn:Int
abbrev Rs:=String×List Int×Nat
def S.by(s:S)(x:String):Rs:=(x,s.told,s.tk)
def ij(n:Int):Int:=n-(n+2147483648).fdiv 4294967296*4294967296
def dd:Wd->Int->Int->Int
 | .sum,a,b=>ij (a+b)
 | .less,a,b=>ij (a-b)
 | .times,a,b=>ij (a*b)
 | .part,a,b=>ij (a.fdiv b)
 | .below,a,b=>if a<b then 1 else 0
 | .alike,a,b=>if a=b then 1 else 0
def ck(I:List Int)(s:S):Row->Sum Rs S
 | .turn=>if s.tn=0 then .inl (s.by "dry") else .inr { s with tn:=s.tn-1 }
 | .dR a .part b c=>if gt s.bx c=0 then .inl (s.by "nought") else .inr { s with bx:=pt s.bx a (dd .part (gt s.bx b) (gt s.bx c)) }
 | .dR a w b c=>.inr { s with bx:=pt s.bx a (dd w (gt s.bx b) (gt s.bx c)) }
 | .put a n=>.inr { s with bx:=pt s.bx a n }
 | .move a b=>.inr { s with bx:=pt s.bx a (gt s.bx b) }
 | .pull a b=>.inr { s with bx:=pt s.bx a (gt s.sl b) }
 | .push a b=>.inr { s with sl:=pt s.sl a (gt s.bx b) }
 | .take a=>.inr { s with bx:=pt s.bx a (I.getD s.tk 0),tk:=s.tk+1 }
 | .tell a=>.inr { s with told:=s.told++[gt s.bx a] }
def gQ(r:Rs):Prop:=r.1≠"long"
variable{I:List Int}
theorem WX{s s':S}{r:Row}(h:ck I s r=.inr s')(h0:0<=s.tn):s'.tn<=s.tn/\0<=s'.tn/\(r=.turn->s'.tn<=s.tn-1):=by
 cases r with
 | turn=>
  simp only[ck] at h;split at h
  ·cases h
  ·cases h;refine⟨?_,?_,fun _=>?_⟩ <;> simp only <;> omega
 | dR a w b c=>
  cases w <;> simp only[ck] at h
  case part=>
   split at h
   ·cases h
   ·cases h;exact⟨Int.le_refl _,h0,fun z=>nomatch z⟩
  all_goals cases h;exact⟨Int.le_refl _,h0,fun z=>nomatch z⟩
 | _=>cases h;exact⟨Int.le_refl _,h0,fun z=>nomatch z⟩
theorem pM(s:S){x:String}(h:x≠"long"):gQ (s.by x):=h
theorem SX{s:S}{r:Row}{x:Rs}(h:ck I s r=.inl x):gQ x:=by
 cases r with
 | turn=>
  simp only[ck] at h;split at h
  ·cases h;exact pM s (by decide)
  ·cases h
 | dR a w b c=>
  cases w <;> simp only[ck] at h
  case part=>
   split at h
   ·cases h;exact pM s (by decide)
   ·cases h
  all_goals cases h
 | _=>cases h
variable{ph2:PH}
theorem az{e:EM}{r:AM}{w:W}(h:e σ ph=.ok w ph1)(h2:r σ ph1=.ok ws ph2):af e r σ ph=.ok (w::ws) ph2:=ax h (ax h2 rfl)
variable{y:String}{c:Bool}
theorem wq(x:String)(h:aa i σ=aA (.tup (.str x::ws)))(hc:decide (x=y)=c):eT (ae aN (ae ak (aa i) (eC (.int 0))) (eC (.str y))) σ ph=.ok c ph:=by
 rw[lN,fH,fH,h,<- hc];ac_nf
theorem tF{a b:TM}(h:a σ ph=.ok false ph1):df a b σ ph=.ok false ph1:=ax h rfl
theorem tT{a b:TM}{r:Out Bool}(h:a σ ph=.ok true ph1)(h2:b σ ph1=r):df a b σ ph=r:=ax h h2
def dI(l:Dc):List (W×W):=l.map fun p=>(W.int p.1,W.int p.2)
theorem Hh(l:Dc)(k:Int):fK (dI l) (.int k)=true:=by
 unfold fK;have:(dI l).all (fun p=> !mf p.1)=true:=by
  rw[abA];intro p hp;obtain⟨x,_,rfl⟩:=abV.mp hp;rfl
 rw[this];rfl
theorem yz(a k:Int):decide (W.int a=W.int k)=decide (a=k):=decide_eq_decide.mpr ⟨fun z=>W.int.inj z,fun z=>z▸rfl⟩
theorem xX(l:Dc)(k:Int):(bQ (dI l) (.int k)).getD (.int 0)=.int (gt l k):=by
 unfold bQ dI gt;rw[List.find?_map,Option.map_map];have:((fun p:W×W=>decide (p.1=W.int k))∘fun p:Int×Int=>(W.int p.1,W.int p.2))=fun p:Int×Int=>decide (p.1=k):=by
  funext p
  exact yz p.1 k
 rw[this];cases l.find? fun p=>decide (p.1=k) <;> rfl
theorem Es(l:Dc)(k v:Int):cK (dI l) (.int k) (.int v)=dI (pt l k v):=by
 unfold cK pt;have e:((dI l).any fun p=>decide (p.1=.int k))=l.any fun p=>decide (p.1=k):=by
  unfold dI;rw[List.any_map]
  congr 1
  funext p
  exact yz p.1 k
 rw[e];split
 ·unfold dI;rw[adA,adA];apply acC;intro p _;simp only[Function.comp];by_cases h:p.1=k
  ·rw[if_pos (by rw[h]),if_pos h]
  ·rw[if_neg (fun z=>h (W.int.inj z)),if_neg h]
 ·unfold dI;rw[acv];rfl
def cA(v:Int):Prop:= -2147483648<=v/\v<=2147483647
def jU(l:Dc):Prop:=∀p∈l,cA p.2
theorem jU.gt{l:Dc}(h:jU l)(k:Int):cA (gt l k):=by
 unfold K29.gt;cases e:l.find? fun p=>decide (p.1=k) with
 | none=>exact⟨by decide,by decide⟩
 | some p=>exact h p (List.mem_of_find?_eq_some e)
theorem jU.pt{l:Dc}(h:jU l){k v:Int}(hv:cA v):jU (pt l k v):=fun p hp=>by
 unfold K29.pt at hp;split at hp
 ·obtain⟨q,hq,rfl⟩:=abV.mp hp;split
  ·exact hv
  ·exact h q hq
 ·rcases abu.mp hp with z | z
  ·exact h p z
  ·rw[abc.mp z];exact hv
theorem Et(l:Dc)(k v:Int):(pt l k v).length<=l.length+1:=by
 unfold pt;split
 ·rw[aat];omega
 ·simp
variable{H:PH}
theorem kR{d:Nat}{l:Dc}{k:Int}{e:EM}(hd:H[d]? =some (.bE (dI l)))(ho:o σ H=.ok (.ref d) H)(he:e σ H=.ok (.int k) H):bG d7 d8 o (af e (af (eC (.int 0)) ai)) σ H=.ok (.int (gt l k)) H:=by
 rw[ka];refine ax ho (ax (Ul hd) (ax (az he rfl) ?_));rw[Um hd (Hh l k),xX]
variable{v:Int}{H1:PH}
theorem oN{d:Nat}{l:Dc}{k:Int}{i e:EM}(he:e σ H=.ok (.int v) H1)(hd:H1[d]? =some (.bE (dI l)))(hl:l.length<1000000)(ho:o σ H1=.ok (.ref d) H1)(hi:i σ H1=.ok (.int k) H1):aK e (iS o i) σ H=.ok (.nx σ) (H1.set d (.bE (dI (pt l k v)))):=by
 rw[pK];refine ax he ?_;rw[xc];refine ax (ax ho (ax hi (ax (SA hd (Hh l k) (by unfold dI;rw[aat];exact aav hl (by decide)) _) rfl))) ?_;rw[Es];rfl
theorem UN(n:Int):cA (ij n):=by
 have q:=mP (n+2147483648) 4294967296 (by decide);have:=aeO (n+2147483648) 4294967296;unfold ij cA;omega
theorem Eu(w:Wd)(a b:Int):cA (dd w a b):=by
 cases w
 case below=>
  show cA (if a<b then 1 else 0);by_cases h:a<b
  ·rw[if_pos h];exact⟨by decide,by decide⟩
  ·rw[if_neg h];exact⟨by decide,by decide⟩
 case alike=>
  show cA (if a=b then 1 else 0);by_cases h:a=b
  ·rw[if_pos h];exact⟨by decide,by decide⟩
  ·rw[if_neg h];exact⟨by decide,by decide⟩
 all_goals exact UN _
theorem Fo(n:Int):pz [.int n]=aA (.int (ij n)):=by
 unfold pz j6
 push_cast [yt (show(4294967296:Int)≠0 by decide) (by decide),yr (jn (a:=(n+2147483648).fdiv 4294967296) (b:=4294967296) (by decide) (by decide))]
 rfl
def Wd.s:Wd->String
 | .sum=>"sum"
 | .less=>"less"
 | .times=>"times"
 | .part=>"part"
 | .below=>"below"
 | .alike=>"alike"
theorem wv(x:String)(h:aa i σ=aA (.str x))(hc:decide (x=y)=c):eT (ae aN (aa i) (eC (.str y))) σ ph=.ok c ph:=by
 rw[lN,fH,h,<- hc];ac_nf
theorem WY(w:Wd){a b:Int}(ha:cA a)(hb:cA b)(h0:w=.part->b≠0)(H:PH):∃H',wt [.str w.s,.int a,.int b] H=.ok (.int (dd w a b)) H'/\Ex H H':=by
 obtain⟨ha1,ha2⟩:=ha;obtain⟨hb1,hb2⟩:=hb;have o1:∀(x:String) {y z:String} {c:Bool} {σ:aP},aa 0 σ=aA (.str x)->(decide (x=y)||decide (x=z))=c->dc (eT (ae aN (aa 0) (eC (.str y)))) (eT (ae aN (aa 0) (eC (.str z)))) σ H=.ok c H:=fun x {y z c σ} h hc=>by
  rw[xu,cs (wv x h rfl),<- hc];cases decide (x=y)
  ·exact wv x h rfl
  ·rfl
 have lst:∀(x:String) (j:Nat) (v:Int),["sum","less","times"].findIdx? (fun s=>decide (s=x))=some j->[a+b,a-b,a*b][j]? =some v->∃H',aO pz (af (ae ak (bg (af (ae addW (aa 1) (aa 2)) (af (ae dJ (aa 1) (aa 2)) (af (ae b0 (aa 1) (aa 2)) ai)))) (bG b8 nC (bg (af (eC (.str "sum")) (af (eC (.str "less")) (af (eC (.str "times")) ai)))) (af (aa 0) ai))) ai) [some (.str x),some (.int a),some (.int b)] H=.ok (.int (ij v)) H'/\Ex H H':=fun x j v hj hv=>by
  obtain⟨H1,e1⟩:∃H1,H1=H++[PO.lst ([a+b,a-b,a*b].map W.int)]:=⟨_,rfl⟩
  obtain⟨H2,e2⟩:∃H2,H2=H1++[PO.lst (["sum","less","times"].map fun s=>.str (aaz s))]:=⟨_,rfl⟩
  have g1:H2[H.length]? =some (PO.lst ([a+b,a-b,a*b].map W.int)):=by
   rw[e2];exact(Ex.one _ _).get (by rw[e1];exact bN _ _)
  have g2:H2[H1.length]? =some (PO.lst (["sum","less","times"].map fun s=>.str (aaz s))):=by rw[e2];exact bN _ _
  have jS:cH ([a+b,a-b,a*b].map W.int) (j:Int)=some (.int v):=by
   have:=(aal.mp hv).1;rw[gc _ _ (by rw[aat];exact this),aaN,hv];rfl
  refine⟨H2,?_,by rw[e2,e1];exact(Ex.one _ _).trans (Ex.one _ _)⟩;rw[w6];refine ax (az (w:=.int v) (ph1:=H2) ?_ rfl) (by rw[Fo];rfl);rw[fH];refine ax (ph':=H1) (a:=.ref H.length) ?_ (ax (ph':=H2) (a:=.int j) ?_ (fE g1 jS))
  ·rw[jj];refine ax (az (ph1:=H) (w:=.int (a+b)) rfl (az (ph1:=H) (w:=.int (a-b)) rfl (az (ph1:=H) (w:=.int (a*b)) ?_ rfl))) (by rw[e1];exact nD [.int (a+b),.int (a-b),.int (a*b)] H (small (by simp)))
   push_cast [yr (jn (a:=a) (b:=b) (by omega) (by omega))]
  ·rw[ka];refine ax (ph':=H2) (a:=.ref H1.length) (by rw[e2];rfl) (ax (t8 g2) (ax (az rfl rfl) (PL x ["sum","less","times"] g2 hj)))
 unfold wt lq;rw[gn];cases w with
 | below=>exact⟨H,c7 (bc (o1 "below" rfl rfl) (retS (by unfold dd Wd.s;ac_nf;by_cases h:a<b <;> simp[h] <;> rfl))),Ex.refl _⟩
 | alike=>exact⟨H,c7 (bc (o1 "alike" rfl rfl) (retS (by unfold dd Wd.s;ac_nf;by_cases h:a=b <;> by_cases h2:a<b <;> simp[h,h2] <;> rfl))),Ex.refl _⟩
 | part=>
  refine⟨H,bq (aq (o1 "part" rfl rfl) rfl) (c7 (bc (wv "part" rfl rfl) (retS ?_))),Ex.refl _⟩
  push_cast [yt (h0 rfl) (show b.natAbs<2 ^ 64 by omega),Fo]
  rfl
 | sum=>
  obtain⟨H',e,x⟩:=lst "sum" 0 _ (by decide) rfl;exact⟨H',bq (aq (o1 "sum" rfl rfl) rfl) (bq (aq (wv "sum" rfl rfl) rfl) (br e)),x⟩
 | less=>
  obtain⟨H',e,x⟩:=lst "less" 1 _ (by decide) rfl;exact⟨H',bq (aq (o1 "less" rfl rfl) rfl) (bq (aq (wv "less" rfl rfl) rfl) (br e)),x⟩
 | times=>
  obtain⟨H',e,x⟩:=lst "times" 2 _ (by decide) rfl;exact⟨H',bq (aq (o1 "times" rfl rfl) rfl) (bq (aq (wv "times" rfl rfl) rfl) (br e)),x⟩
def Row.w:Row->W
 | .dR a w b c=>.tup [.str "do",.int a,.str w.s,.int b,.int c]
 | .put a n=>.tup [.str "put",.int a,.int n]
 | .move a b=>.tup [.str "move",.int a,.int b]
 | .pull a b=>.tup [.str "pull",.int a,.int b]
 | .push a b=>.tup [.str "push",.int a,.int b]
 | .take a=>.tup [.str "take",.int a]
 | .tell a=>.tup [.str "tell",.int a]
 | .turn=>.tup [.str "turn"]
def fe:Row->Prop
 | .put _ n=>cA n
 | _=>True
theorem Aa{a:SM}{w:W}(h:a σ ph=.ok (.rt w) ph1):aF a b σ ph=.ok (.rt w) ph1:=by
 rw[nh,cs h];rfl
theorem eS(x:String){e:EM}(h:e σ=aA (.str x))(hc:decide (x=y)=c):eT (ae aN e (eC (.str y))) σ ph=.ok c ph:=by
 rw[lN,fH,h,<- hc];ac_nf
theorem eI{g z:Int}{e:EM}(h:e σ ph=.ok (.int g) ph1)(hc:decide (g=z)=c):eT (ae aN e (eC (.int z))) σ ph=.ok c ph1:=by
 rw[lN,fH,hG,cs h,<- hc];ac_nf
structure RI(ph H:PH)(m:Nat)(s:S):Prop where
 ex:Ex ph H
 b:H[ph.length]? =some (.bE (dI s.bx))
 l:H[ph.length+1]? =some (.bE (dI s.sl))
 t:H[ph.length+2]? =some (.lst (s.told.map W.int))
 nb:s.bx.length<=m
 nl:s.sl.length<=m
 nt:s.told.length<=m
 nk:s.tk<=m
 vb:jU s.bx
 vl:jU s.sl
variable{m:Nat}
theorem RI.mono{s:S}(R:RI ph H m s)(x:Ex H H1):RI ph H1 m s:=⟨R.ex.trans x,x.get R.b,x.get R.l,x.get R.t,R.nb,R.nl,R.nt,R.nk,R.vb,R.vl⟩
theorem RI.bx{ph H:PH}{m:Nat}{s:S}(R:RI ph H m s){k v:Int}(hv:cA v):RI ph (H.set ph.length (.bE (dI (pt s.bx k v)))) (m+1) { s with bx:=pt s.bx k v }:=by
 have n1:=R.nb;have n2:=R.nl;have n3:=R.nt;have n4:=R.nk;have n5:=Et s.bx k v;exact⟨Ex.set R.ex (aar _) _,iP R.b,(dw (by omega)).trans R.l,(dw (by omega)).trans R.t,by simp only;omega,by simp only;omega,by simp only;omega,by simp only;omega,R.vb.pt hv,R.vl⟩
theorem RI.sl{ph H:PH}{m:Nat}{s:S}(R:RI ph H m s){k v:Int}(hv:cA v):RI ph (H.set (ph.length+1) (.bE (dI (pt s.sl k v)))) (m+1) { s with sl:=pt s.sl k v }:=by
 have n1:=R.nb;have n2:=R.nl;have n3:=R.nt;have n4:=R.nk;have n5:=Et s.sl k v;exact⟨Ex.set R.ex (by omega) _,(dw (by omega)).trans R.b,iP R.l,(dw (by omega)).trans R.t,by simp only;omega,by simp only;omega,by simp only;omega,by simp only;omega,R.vb,R.vl.pt hv⟩
abbrev st(bi ii p:Nat)(s:S)(o7 o8 o9 o10:Option W):aP:=[some (.ref bi),some (.ref ii),some (.int s.tn),some (.ref p),some (.ref (p+1)),some (.ref (p+2)),some (.int s.tk),o7,o8,o9,o10]
def dS(p:Nat)(y:String)(s:S):W:=.tup [.str y,.ref (p+2),.int s.tk]
structure ik(ph:PH)(ii:Nat)(I:List Int):Prop where
 at_:ph[ii]? =some (.lst (I.map W.int))
 len:I.length<=100
 iz:∀x∈I,cA x
variable{ii:Nat}
theorem ik.get(h:ik ph ii I)(k:Nat):cA (I.getD k 0):=by
 rw[abg];cases e:I[k]? with
 | none=>exact⟨by decide,by decide⟩
 | some x=>exact h.iz x (aaW e)
theorem qb{s s':S}{r:Row}(R:RI ph H m s)(hr:fe r)(hm:m<100000)(h:ck I s r=.inr s')(hn:match r with | .turn=>False | .take _=>False | .tell _=>False | _=>True) :
  ∃H',oU [r.w,.ref ph.length,.ref (ph.length+1)] H=.ok .aC H'/\RI ph H' (m+1) s'/\s'.tn=s.tn/\s'.tk=s.tk:=by
 have hb:s.bx.length<1000000:=acM R.nb (by omega);have hl:s.sl.length<1000000:=acM R.nl (by omega);have fin:∀{a:SM} {σ ao:aP} {H H':PH},a σ H=.ok (.nx ao) H'->aw (a σ) dH H=.ok .aC H':=fun h=>ax h rfl
 unfold oU k9;rw[gn];cases r with
 | turn=>exact hn.elim
 | take a=>exact hn.elim
 | tell a=>exact hn.elim
 | put a n=>
  cases h;exact⟨_,fin (bc (wq "put" rfl rfl) (oN rfl R.b hb rfl rfl)),R.bx hr,rfl,rfl⟩
 | move a b=>
  cases h;exact⟨_,fin (aq (wq "move" rfl rfl) (bc (wq "move" rfl rfl) (oN (kR R.b rfl rfl) R.b hb rfl rfl))),R.bx (R.vb.gt _),rfl,rfl⟩
 | pull a b=>
  cases h;exact⟨_,fin (aq (wq "pull" rfl rfl) (aq (wq "pull" rfl rfl) (bc (wq "pull" rfl rfl) (oN (kR R.l rfl rfl) R.b hb rfl rfl)))),R.bx (R.vl.gt _),rfl,rfl⟩
 | push a b=>
  cases h;exact⟨_,fin (aq (wq "push" rfl rfl) (aq (wq "push" rfl rfl) (aq (wq "push" rfl rfl) (bc (wq "push" rfl rfl) (oN (kR R.b rfl rfl) R.l hl rfl rfl))))),R.sl (R.vb.gt _),rfl,rfl⟩
 | dR a w b c=>
  have h0:w=.part->gt s.bx c≠0:=fun z e=>by
   subst z;simp only[ck,e,if_true] at h;cases h
  obtain⟨H1,e1,x1⟩:=WY w (R.vb.gt b) (R.vb.gt c) h0 H;have es:s'={ s with bx:=pt s.bx a (dd w (gt s.bx b) (gt s.bx c)) }:=by
   cases w <;> simp only[ck] at h
   case part=>rw[if_neg (h0 rfl)] at h;cases h;rfl
   all_goals cases h;rfl
  subst es;exact⟨_,fin (aq (wq "do" rfl rfl) (aq (wq "do" rfl rfl) (aq (wq "do" rfl rfl) (aq (wq "do" rfl rfl) (oN (ax (az rfl (az (kR R.b rfl rfl) (az (kR R.b rfl rfl) rfl))) e1) (x1.get R.b) hb rfl rfl))))),(R.mono x1).bx (Eu _ _ _),rfl,rfl⟩
variable{o8:Option W}
theorem WZ{bi:Nat}{s:S}{o7 o9 o10:Option W}(R:RI ph H m s)(hI:ik ph ii I)(hm:m<100000) :
  ∃H',ae ak (ae addW (aa 1) (ae b0 (bg (af (eC (.int (0))) ai)) (ae addW (aa 6) (eC (.int (1)))))) (aa 6) (st bi ii ph.length s o7 o8 o9 o10) H=.ok (.int (I.getD s.tk 0)) H'/\Ex H H':=by
 have hk:=R.nk;have hi:=hI.len;obtain⟨H1,e1⟩:∃H1,H1=H++[PO.lst [.int 0]]:=⟨_,rfl⟩
 obtain⟨H2,e2⟩:∃H2,H2=H1++[PO.lst (aap (s.tk+1) [W.int 0]).flatten]:=⟨_,rfl⟩
 obtain⟨H3,e3⟩:∃H3,H3=H2++[PO.lst (I.map W.int++(aap (s.tk+1) [W.int 0]).flatten)]:=⟨_,rfl⟩
 have x1:Ex H H1:=e1▸Ex.one _ _;have x2:Ex H1 H2:=e2▸Ex.one _ _;have x3:Ex H2 H3:=e3▸Ex.one _ _;have g1:H1[H.length]? =some (.lst [.int 0]):=by rw[e1];exact bN _ _
 have g2:H2[H1.length]? =some (PO.lst (aap (s.tk+1) [W.int 0]).flatten):=by rw[e2];exact bN _ _
 have g3:H3[H2.length]? =some (PO.lst (I.map W.int++(aap (s.tk+1) [W.int 0]).flatten)):=by rw[e3];exact bN _ _
 have gi:H2[ii]? =some (.lst (I.map W.int)):=x2.get (x1.get (R.ex.get hI.at_));have fl:∀n:Nat,(aap n [W.int 0]).flatten=aap n (W.int 0):=fun n=>by
  induction n with
  | zero=>rfl
  | succ n ih=>rw[abm,abM,ih,abm];rfl
 have tn:((s.tk:Int)+1).toNat=s.tk+1:=by omega
 have jS:cH (I.map W.int++(aap (s.tk+1) [W.int 0]).flatten) (s.tk:Int)=some (.int (I.getD s.tk 0)):=by
  rw[fl,gc _ _ (by simp;omega)];by_cases h:s.tk<I.length
  ·rw[aaS (by simpa using h),aaN,abg,abx h];rfl
  ·rw[abd (by simpa using h),adm,if_pos (by simp;omega),abg,acj (by omega)];rfl
 refine⟨H3,?_,(x1.trans x2).trans x3⟩;rw[fH];refine ax (ph':=H3) (a:=.ref H2.length) ?_ (ax (ph':=H3) (a:=.int s.tk) rfl (fE g3 jS));rw[fH];refine ax (ph':=H) (a:=.ref ii) rfl (ax (ph':=H2) (a:=.ref H1.length) ?_ ?_)
 ·rw[fH];refine ax (ph':=H1) (a:=.ref H.length) (by rw[e1];rfl) (ax (ph':=H1) (a:=.int ((s.tk:Int)+1)) rfl ?_);rw[CI g1 (by omega) (by omega) (small (by simp only[aaP,adP];omega)),tn,e2]
 ·rw[ly gi g2 (small (by rw[fl];simp;omega)),e3]
theorem op{f:W->W->Po W}{a b:EM}{x y:W}{r:Out W}(ha:a σ ph=.ok x ph1)(hb:b σ ph1=.ok y ph2)(hf:lift (f x y) ph2=r):ae f a b σ ph=r:=ax ha (ax hb hf)
variable{j:Int}
theorem md{a b:EM}{i:Int}(ha:a σ ph=.ok (.int i) ph1)(hb:b σ ph1=.ok (.int j) ph2)(h:j≠0):ae aS a b σ ph=.ok (.int (i.fmod j)) ph2:=op ha hb (congrFun (Yj h) ph2)
theorem dv{a b:EM}{i:Int}(ha:a σ ph=.ok (.int i) ph1)(hb:b σ ph1=.ok (.int j) ph2)(h:j≠0)(h':j.natAbs<2 ^ 64):ae aZ a b σ ph=.ok (.int (i.fdiv j)) ph2:=op ha hb (congrFun (yt h h') ph2)
theorem ad{a b:EM}{i:Int}(ha:a σ ph=.ok (.int i) ph1)(hb:b σ ph1=.ok (.int j) ph2):ae addW a b σ ph=.ok (.int (i+j)) ph2:=op ha hb rfl
theorem sb{a b:EM}{i:Int}(ha:a σ ph=.ok (.int i) ph1)(hb:b σ ph1=.ok (.int j) ph2):ae dJ a b σ ph=.ok (.int (i-j)) ph2:=op ha hb rfl
theorem ml{a b:EM}{i:Int}(ha:a σ ph=.ok (.int i) ph1)(hb:b σ ph1=.ok (.int j) ph2)(h:mulC i j=true):ae b0 a b σ ph=.ok (.int (i*j)) ph2:=op ha hb (by rw[xR];exact congrFun (yr h) ph2)
theorem ltI{i z:Int}{e:EM}(h:e σ ph=.ok (.int i) ph1)(hc:decide (i<z)=c):eT (ae fi e (eC (.int z))) σ ph=.ok c ph1:=by
 rw[lN,fH,hG,cs h,<- hc];rfl
theorem nH{w:W}{m:AM}{e:EM}{i:Int}(hm:m σ ph=.ok ws ph1)(hz:ws.length<=1000000)(he:e σ (ph1++[.lst ws])=.ok (.int i) (ph1++[.lst ws]))(hi:cH ws i=some w):ae ak (bg m) e σ ph=.ok w (ph1++[.lst ws]):=by
 refine op (x:=.ref ph1.length) (ph1:=ph1++[.lst ws]) ?_ he (fE (bN _ _) hi);rw[jj];exact ax hm (nD ws ph1 (small hz))
theorem er{a n:Int}(hn:0<n):∃m:Nat,(m:Int)<n/\a.fmod n=(m:Int):=by
 have q:=mP a n hn;exact⟨(a.fmod n).toNat,by omega,by omega⟩
theorem uo(h1: -2147483648<=v)(h2:v<=2147483647):cA v:=⟨by omega,by omega⟩
theorem yA(c:Int)(ph:PH):∃v ph',jX [.int c] ph=.ok (.int v) ph'/\Ex ph ph'/\cA v:=by
 unfold jX jd;rw[fQ];have m4:∀{σ:aP} {H:PH},aa 0 σ=aA (.int c)->ae aS (aa 0) (eC (.int (4))) σ H=.ok (.int (c.fmod 4)) H:=fun{σ H} h=>md (by rw[h];rfl) rfl (by decide)
 have d4:∀{σ:aP} {H:PH},aa 0 σ=aA (.int c)->ae aZ (aa 0) (eC (.int (4))) σ H=.ok (.int (c.fdiv 4)) H:=fun{σ H} h=>dv (by rw[h];rfl) rfl (by decide) (by decide)
 by_cases h3:c.fmod 4=3
 ·obtain⟨m,hm,em⟩:=er (a:=c.fdiv 4) (n:=8) (by decide);obtain⟨v,hv,sv⟩:∃v,[(2147483647:Int),-2147483648,65536,-1,46341,-65537,1,0][m]? =some v/\cA v:=by
   have:m=0\/m=1\/m=2\/m=3\/m=4\/m=5\/m=6\/m=7:=by omega
   rcases this with rfl | rfl | rfl | rfl | rfl | rfl | rfl | rfl <;> exact⟨_,rfl,uo (by decide) (by decide)⟩
  refine⟨v,_,c7 (bc (eI (m4 rfl) (decide_eq_true h3)) (retS (nH (ws:=[(2147483647:Int),-2147483648,65536,-1,46341,-65537,1,0].map W.int) (i:=(m:Int)) (ph1:=ph) rfl (aau rfl) ?_ ?_))),Ex.one _ _,sv⟩
  ·rw[<- em];exact md (d4 rfl) rfl (by decide)
  ·rw[gc _ _ (by simp;omega),aaN,hv];rfl
 ·by_cases h2:c.fmod 4=2
  ·refine⟨_,ph,bq (aq (eI (m4 rfl) (decide_eq_false h3)) rfl) (c7 (bc (eI (m4 rfl) (decide_eq_true h2)) (retS (sb (md (ml (d4 rfl) rfl (jn (by decide) (by decide))) rfl (by decide)) rfl)))),Ex.refl _,?_⟩;have q:=mP (c.fdiv 4*48271) 4294967296 (by decide);exact uo (by omega) (by omega)
  ·by_cases h1:c.fmod 4=1
   ·refine⟨_,ph,bq (aq (eI (m4 rfl) (decide_eq_false h3)) rfl) (bq (aq (eI (m4 rfl) (decide_eq_false h2)) rfl) (c7 (bc (eI (m4 rfl) (decide_eq_true h1)) (retS (sb (md (d4 rfl) rfl (by decide)) rfl))))),Ex.refl _,?_⟩;have q:=mP (c.fdiv 4) 100003 (by decide);exact uo (by omega) (by omega)
   ·refine⟨_,ph,bq (aq (eI (m4 rfl) (decide_eq_false h3)) rfl) (bq (aq (eI (m4 rfl) (decide_eq_false h2)) rfl) (bq (aq (eI (m4 rfl) (decide_eq_false h1)) rfl) (br (sb (md (d4 rfl) rfl (by decide)) rfl)))),Ex.refl _,?_⟩;have q:=mP (c.fdiv 4) 19 (by decide);exact uo (by omega) (by omega)
theorem W0(c:Int){bx sl:Int}(hb:0<bx/\bx<100)(hs:0<sl/\sl<100)(ph:PH):∃r ph',vY [.int c,.int bx,.int sl] ph=.ok (Row.w r) ph'/\Ex ph ph'/\fe r:=by
 have jV:bx≠0:=by omega
 have vI:sl≠0:=by omega
 obtain⟨kd,Hi⟩:∃kd,kd=c.fmod 12:=⟨_,rfl⟩
 obtain⟨mo,hmo⟩:∃mo,mo=(c.fdiv 12*48271).fmod 2147483647:=⟨_,rfl⟩
 obtain⟨on,hon⟩:∃on,on=mo.fmod bx:=⟨_,rfl⟩
 obtain⟨ot,hot⟩:∃ot,ot=(mo.fdiv 9).fmod bx:=⟨_,rfl⟩
 obtain⟨so,hso⟩:∃so,so=(mo.fdiv 81).fmod sl:=⟨_,rfl⟩
 obtain⟨dq,e5⟩:∃dq:aP,dq=[some (.int c),some (.int bx),some (.int sl),some (.int kd),some (.int mo),some (.int on),some (.int ot),some (.int so),none,none]:=⟨_,rfl⟩
 have pre:∀{b:SM} {r:Out W},aw (b dq) dH ph=r->aw (aF (aK (ae aS (aa 0) (eC (.int (12)))) (gN 3)) (aF (aK (ae aS (ae b0 (ae aZ (aa 0) (eC (.int (12)))) (eC (.int (48271)))) (eC (.int (2147483647)))) (gN 4)) (aF (aK (ae aS (aa 4) (aa 1)) (gN 5)) (aF (aK (ae aS (ae aZ (aa 4) (eC (.int (9)))) (aa 1)) (gN 6)) (aF (aK (ae aS (ae aZ (aa 4) (eC (.int (81)))) (aa 2)) (gN 7)) b)))) [some (.int c),some (.int bx),some (.int sl),none,none,none,none,none,none,none]) dH ph=r:=fun{b r} h=>by
  refine bq (σ1:=[some (.int c),some (.int bx),some (.int sl),some (.int kd),none,none,none,none,none,none]) (by rw[Hi];exact asg (md rfl rfl (by decide))) (bq (σ1:=[some (.int c),some (.int bx),some (.int sl),some (.int kd),some (.int mo),none,none,none,none,none]) (by rw[hmo];exact asg (md (ml (dv rfl rfl (by decide) (by decide)) rfl (jn (by decide) (by decide))) rfl (by decide))) (bq (σ1:=[some (.int c),some (.int bx),some (.int sl),some (.int kd),some (.int mo),some (.int on),none,none,none,none]) (by rw[hon];exact asg (md rfl rfl jV)) (bq (σ1:=[some (.int c),some (.int bx),some (.int sl),some (.int kd),some (.int mo),some (.int on),some (.int ot),none,none,none]) (by rw[hot];exact asg (md (dv rfl rfl (by decide) (by decide)) rfl jV)) (bq (σ1:=dq) (by rw[e5,hso];exact asg (md (dv rfl rfl (by decide) (by decide)) rfl vI)) h))))
 have qk:=mP c 12 (by decide);rw[<- Hi] at qk;unfold vY lb;rw[gn];by_cases h5:kd<5
 ·obtain⟨m,hm,em⟩:=er (a:=mo.fdiv 486) (n:=6) (by decide);obtain⟨wd,hw⟩:∃wd:Wd,[(.str "sum":W),.str "less",.str "times",.str "part",.str "below",.str "alike"][m]? =some (.str wd.s):=by
   have:m=0\/m=1\/m=2\/m=3\/m=4\/m=5:=by omega
   rcases this with rfl | rfl | rfl | rfl | rfl | rfl
   ·exact⟨.sum,rfl⟩
   ·exact⟨.less,rfl⟩
   ·exact⟨.times,rfl⟩
   ·exact⟨.part,rfl⟩
   ·exact⟨.below,rfl⟩
   ·exact⟨.alike,rfl⟩
  refine⟨.dR on wd ot ((mo.fdiv 2916).fmod bx),ph++[PO.lst [.str "sum",.str "less",.str "times",.str "part",.str "below",.str "alike"]],pre ?_,Ex.one _ _,trivial⟩;subst e5;refine c7 (bc (ltI rfl (decide_eq_true h5)) (sq (asg (nH (ws:=[.str "sum",.str "less",.str "times",.str "part",.str "below",.str "alike"]) (w:=.str wd.s) (i:=(m:Int)) (ph1:=ph) rfl (aau rfl) ?_ ?_)) (retS (ax (az rfl (az rfl (az rfl (az rfl (az (md (dv rfl rfl (by decide) (by decide)) rfl jV) rfl))))) rfl))))
  ·rw[<- em];exact md (dv rfl rfl (by decide) (by decide)) rfl (by decide)
  ·rw[gc _ _ (by simp;omega)];exact hw
 ·obtain⟨v,H1,e1,x1,sv⟩:=yA (mo.fdiv 9) ph;obtain⟨m,em⟩:∃m:Nat,kd-5=(m:Int):=⟨(kd-5).toNat,by omega⟩
  obtain⟨r,hr,ok⟩:∃r:Row,[(Row.put on v).w,(Row.move on ot).w,(Row.pull on so).w,(Row.push so on).w,(Row.take on).w,(Row.tell on).w,Row.turn.w][m]? =some r.w/\fe r:=by
   have:m=0\/m=1\/m=2\/m=3\/m=4\/m=5\/m=6:=by omega
   rcases this with rfl | rfl | rfl | rfl | rfl | rfl | rfl
   ·exact⟨_,rfl,sv⟩
   all_goals exact⟨_,rfl,trivial⟩
  obtain⟨H2,e2⟩:∃H2,H2=H1++[PO.lst [(Row.put on v).w,(Row.move on ot).w,(Row.pull on so).w,(Row.push so on).w]]:=⟨_,rfl⟩
  obtain⟨H3,e3⟩:∃H3,H3=H2++[PO.lst [(Row.take on).w,(Row.tell on).w,Row.turn.w]]:=⟨_,rfl⟩
  obtain⟨H4,e4⟩:∃H4,H4=H3++[PO.lst [(Row.put on v).w,(Row.move on ot).w,(Row.pull on so).w,(Row.push so on).w,(Row.take on).w,(Row.tell on).w,Row.turn.w]]:=⟨_,rfl⟩
  have x2:Ex H1 H2:=e2▸Ex.one _ _;have x3:Ex H2 H3:=e3▸Ex.one _ _;have x4:Ex H3 H4:=e4▸Ex.one _ _;have g2:H2[H1.length]? =some (PO.lst [(Row.put on v).w,(Row.move on ot).w,(Row.pull on so).w,(Row.push so on).w]):=by rw[e2];exact bN _ _
  have g3:H3[H2.length]? =some (PO.lst [(Row.take on).w,(Row.tell on).w,Row.turn.w]):=by rw[e3];exact bN _ _
  have g4:H4[H3.length]? =some (PO.lst [(Row.put on v).w,(Row.move on ot).w,(Row.pull on so).w,(Row.push so on).w,(Row.take on).w,(Row.tell on).w,Row.turn.w]):=by rw[e4];exact bN _ _
  refine⟨r,H4,pre ?_,((x1.trans x2).trans x3).trans x4,ok⟩;subst e5;refine bq (aq (ltI rfl (decide_eq_false h5)) rfl) (bq (ph1:=H2) (σ1:=[some (.int c),some (.int bx),some (.int sl),some (.int kd),some (.int mo),some (.int on),some (.int ot),some (.int so),none,some (.ref H1.length)]) ?_ (bq (ph1:=H4) (σ1:=[some (.int c),some (.int bx),some (.int sl),some (.int kd),some (.int mo),some (.int on),some (.int ot),some (.int so),none,some (.ref H3.length)]) ?_ (br ?_)))
  ·refine(asg (w:=.ref H1.length) (ph1:=H2) ?_).trans rfl;rw[jj];refine ax (az (w:=(Row.put on v).w) (ph1:=H1) (ax (az rfl (az rfl (az (ax (az (dv rfl rfl (by decide) (by decide)) rfl) e1) rfl))) rfl) (az (w:=(Row.move on ot).w) (ph1:=H1) rfl (az (w:=(Row.pull on so).w) (ph1:=H1) rfl (az (w:=(Row.push so on).w) (ph1:=H1) rfl rfl)))) ?_;rw[e2];exact nD _ H1 (small (by simp))
  ·refine(asg (w:=.ref H3.length) (ph1:=H4) (op (x:=.ref H1.length) (ph1:=H2) (y:=.ref H2.length) (ph2:=H3) rfl ?_ ?_)).trans rfl
   ·rw[e3];rfl
   ·rw[ly (x3.get g2) g3 (small (by simp)),e4];rfl
  ·refine op (x:=.ref H3.length) (ph1:=H4) (y:=.int m) (ph2:=H4) rfl (by rw[<- em];exact sb rfl rfl) (fE g4 ?_);have:=(aal.mp hr).1;rw[gc _ _ this];exact hr
theorem tB{e:EM}(h:e σ ph=.ok (.bl c) ph1):eT e σ ph=.ok c ph1:=ax h rfl
theorem qd{a b:TM}{x y:Bool}(ha:a σ ph=.ok x ph)(hb:b σ ph=.ok y ph):df a b σ ph=.ok (x&&y) ph:=by
 rw[wZ];refine ax ha ?_;cases x
 ·rfl
 ·exact hb
theorem uY(b:SM)(n:Nat)(x y z u v:W):fM b n 5 [x,y,z,u,v]=aw (b (some x::some y::some z::some u::some v::aap (n-5) none)) dH:=(rfl)
theorem Ys{l:List Nat}(h:H[i]? =some (.lst (iw l)))(hk:l[k]? =some x):lift (ak (.ref i) (.int k)) H=.ok (.int x) H:=fE h (Yq hk)
theorem Yt(ph:PH)(s:String):dat ph 40 (.str (aaz s))=some (.str (aaz s)):=by
 unfold dat;rw[if_pos (so s)]
theorem fc(H:PH)(n:Nat)(s:String):dat H n (.str (aaz s))=some (.str (aaz s)):=by
 have:=Yt H s;cases n <;> exact this
variable{n:Nat}
theorem fF{ds:List acT}(h:bI (dat H n) ws=some ds):dat H (n+1) (.tup ws)=some (.tuple ds):=by
 show(bI (dat H n) ws).map PyData.tuple=_;rw[h];rfl
theorem kc{ds:List acT}(hi:H[i]? =some (.lst ws))(h:bI (dat H n) ws=some ds):dat H (n+1) (.ref i)=some (.list ds):=by
 unfold dat;simp only[hi,h];rfl
theorem mc{f:α->Option β}{a:α}{l:List α}{b:β}{m:List β}(h:f a=some b)(h2:bI f l=some m):bI f (a::l)=some (b::m):=by
 unfold bI;rw[h,h2]
theorem UO{p:Nat}{s:S}(h:H[p+2]? =some (.lst (s.told.map W.int))):dat H 40 (dS p y s)=some (.tuple [.str (aaz y),.list (s.told.map acY),.int s.tk]):=
 fF (mc (fc H 39 y) (mc (kc h (ji (dat H 38) W.int acY (fun x=>c0 H 38 x) s.told)) (mc (c0 ..) rfl)))
theorem Yu(ns:List Int)(i:Int)(h:0<=i):c8 [.fl (ns.map W.int),.int i]=aA (.int (ns.getD i.toNat 0)):=by
 have:=Yr ns i.toNat;rw[Int.toNat_of_nonneg h] at this;exact this
theorem cl{ns:List Int}{i:Int}{a b:EM}(ha:a σ ph=.ok (.fl (ns.map W.int)) ph1)(hb:b σ ph1=.ok (.int i) ph2)(h:0<=i):aO c8 (af a (af b ai)) σ ph=.ok (.int (ns.getD i.toNat 0)) ph2:=ax (az ha (az hb rfl)) (congrFun (Yu ns i h) ph2)
theorem td(h:ph[i]? =some (.lst ws)):lift (gm [.ref i]) ph=.ok (.ref ph.length) (ph++[.lst ws]):=by
 have e:gm [.ref i] ph=nM [.ref i] ph:=by
  unfold gm;simp only[Fi h]
 have:=Sy h;unfold lift at this ⊢;rw[e];exact this
theorem W2{l:List α}{x y:α}(h:(l++[x])[i]? =some y):(i<l.length/\l[i]? =some y)\/(i=l.length/\y=x):=by
 by_cases hi:i<l.length
 ·rw[aaS hi] at h;exact .inl ⟨hi,h⟩
 ·have:=(aal.mp h).1;simp at this;have:i=l.length:=by omega
  subst this;rw[List.getElem?_concat_length] at h;cases h;exact .inr ⟨rfl,rfl⟩
theorem DA(n:Nat):eJ 0 n=(abX n).map fun i:Nat=>W.int i:=by
 unfold eJ;apply acC;intro i _;simp
theorem xB(as:List α)(h:α->W){im:IM}{cap:List (Option Nat)}{g:GM}{e:EM}{ph0:PH}{chk:PH->Bool}(z5:im σ ph0=.ok (as.map h,chk) ph)(z6:∀ph',Ex ph ph'->chk ph'=true)(hz:as.length<=1000)
  (P:Nat->W->PH->Prop) (hP:∀j w H H',P j w H->(∀r o,r≠ph.length->H[r]? =some o->H'[r]? =some o)->P j w H') (S:aP->Prop) (h0:S (gM cap σ))
  (step:∀j x,as[j]? =some x->∀σ H,S σ->Ex ph H->ph.length<H.length->∃σ1,g (h x) σ H=.ok σ1 H/\S σ1/\∃w H2,e σ1 H=.ok w H2/\Ex H H2/\P j w H2) :
  ∃ph' ws,dO im cap g eA e σ ph0=.ok (.ref ph.length) ph'/\Ex ph ph'/\ph'[ph.length]? =some (.lst ws)/\ws.length=as.length/\∀j w,ws[j]? =some w->P j w ph':=by
 rw[CH,cs z5];obtain⟨qC,ao,ph',ec,hS,x1,x2,x3,x4⟩:=wH (chk:=chk) (g:=g) (c:=eA) (e:=e) ph.length
  (fun k acc σ H=>S σ/\Ex ph H/\H[ph.length]? =some (.lst acc)/\acc.length=k/\∀(j:Nat) w,acc[j]? =some w->P j w H)
  (as.map h) 0 [] (gM cap σ) (ph++[.lst []]) (fun j acc σ H hI=>z6 _ hI.2.1)
  (fun j y acc σ H hj hI=>by
   rw[acw] at hI ⊢;obtain⟨hS,x1,x2,x3,x4⟩:=hI;rw[aaN] at hj;obtain⟨x,hx,rfl⟩:=aaR.mp hj;have zr:=(aal.mp hx).1;obtain⟨σ1,e1,l0,w,H2,e2,y1,y2⟩:=step j x hx σ H hS x1 (Yp x2);have keep:∀r o,r≠ph.length->H2[r]? =some o->(H2.set ph.length (.lst (acc++[w])))[r]? =some o:=fun r o hr ho=>(dw (adt hr)).trans ho
   refine⟨σ1,H,e1,true,H,rfl,.inr ⟨rfl,w,H2,e2,y1.get x2,aav (by omega:acc.length<1001) (by decide),l0,Ex.set (x1.trans y1) (aar _) _,iP (y1.get x2),by simp[x3],fun i w' hw'=>?_⟩⟩
   rcases W2 hw' with⟨_,z⟩ | ⟨z0,z⟩
   ·exact hP i w' H _ (x4 i w' z) fun r o hr ho=>keep r o hr (y1.get ho)
   ·rw[z,z0,x3];exact hP j w H2 _ y2 keep)
  ⟨h0,Ex.one _ _,bN _ _,rfl,fun j w z=>by simp at z⟩
 rw[acw,aat] at x3;exact⟨ph',qC,cs ec,x1,x2,x3,x4⟩
theorem xh{ws:List β}{f:α->β}{Q:Nat->α->Prop}(h:∀(j:Nat) w,ws[j]? =some w->∃d,w=f d/\Q j d):∃D:List α,ws=D.map f/\∀(j:Nat) d,D[j]? =some d->Q j d:=by
 induction ws generalizing Q with
 | nil=>exact⟨[],rfl,fun j d z=>by simp at z⟩
 | cons w ws ih=>
  obtain⟨d,e,q⟩:=h 0 w rfl;obtain⟨D,e2,q2⟩:=ih (Q:=fun j=>Q (j+1)) fun j w hw=>h (j+1) w (by simpa using hw)
  refine⟨d::D,by rw[e,e2];rfl,fun j d' hd=>?_⟩;cases j with
  | zero=>cases hd;exact q
  | succ j=>exact q2 j d' (by simpa using hd)
theorem ne0{g:Int}{e:EM}(h:e σ ph=.ok (.int g) ph):bS ig (af (ae cO e (eC (.int 0))) ai) σ ph=.ok (.int (if g=0 then 0 else 1)) ph:=by
 rw[wG];refine ax (az (w:=.bl (!decide (g=0))) (ph1:=ph) (by rw[fH];exact ax h (ax rfl (congrFun (uz g 0) ph))) rfl) ?_;by_cases hg:g=0
 ·rw[if_pos hg,decide_eq_true hg];rfl
 ·rw[if_neg hg,decide_eq_false hg];rfl
inductive LR where
 | r (x:Row)
 | iff (v:Int) (k:Nat)
 | go (k:Nat)
 | fin
def LR.mp(h:Nat->Nat):LR->LR
 | .r x=>.r x
 | .iff v k=>.iff v (h k)
 | .go k=>.go (h k)
 | .fin=>.fin
def bK(I:List Int)(R:List LR):Nat->Nat->S->Rs
 | 0,_,s=>s.by "long"
 | f+1,p,s=>match R[p]? with
  | none=>s.by "long"
  | some (.r x)=>match ck I s x with
   | .inl r=>r
   | .inr s=>bK I R f (p+1) s
  | some (.iff v k)=>bK I R f (if gt s.bx v=0 then p+1 else k) s
  | some (.go k)=>bK I R f k s
  | some .fin=>s.by "done"
def LR.w:LR->W
 | .r x=>x.w
 | .iff v k=>.tup [.str "if",.int v,.int k]
 | .go k=>.tup [.str "go",.int k]
 | .fin=>.tup [.str "end"]
theorem W3{s:S}(h1:aa 1 σ=aA (.ref ii))(h6:aa 6 σ=aA (.int s.tk))(R:RI ph H m s)(hI:ik ph ii I)(hm:m<100000) :
  ∃H',ae ak (ae addW (aa 1) (ae b0 (bg (af (eC (.int (0))) ai)) (ae addW (aa 6) (eC (.int (1)))))) (aa 6) σ H=.ok (.int (I.getD s.tk 0)) H'/\Ex H H':=by
 obtain⟨H',e,x⟩:=WZ (bi:=0) (o7:=none) (o8:=none) (o9:=none) (o10:=none) R hI hm;refine⟨H',Eq.trans ?_ e,x⟩;have a1:aa 1 (st 0 ii ph.length s none none none none)=aA (.ref ii):=rfl;have a6:aa 6 (st 0 ii ph.length s none none none none)=aA (.int s.tk):=rfl;simp only[fH,jj,tD,t6,yq,h1,h6,a1,a6]
abbrev b7(ri ii p:Nat)(s:S)(o7 o8 o9:Option W):aP:=[some (.ref ri),some (.ref ii),some (.int s.tn),some (.ref p),some (.ref (p+1)),some (.ref (p+2)),some (.int s.tk),o7,o8,o9]
noncomputable def xY:SM:=(aT (eT (ae aN (ae ak (aa 9) (eC (.int (0)))) (eC (.str "turn")))) (aK (ae dJ (aa 2) (eC (.int (1)))) (gN 2)) (aT (eT (ae aN (ae ak (aa 9) (eC (.int (0)))) (eC (.str "take")))) (aF (aK (ae ak (ae addW (aa 1) (ae b0 (bg (af (eC (.int (0))) ai)) (ae addW (aa 6) (eC (.int (1)))))) (aa 6)) (iS (aa 3) (ae ak (aa 9) (eC (.int (1)))))) (aK (ae addW (aa 6) (eC (.int (1)))) (gN 6))) (aT (eT (ae aN (ae ak (aa 9) (eC (.int (0)))) (eC (.str "tell")))) (cu (bG b8 cF (aa 5) (af (bG d7 d8 (aa 3) (af (ae ak (aa 9) (eC (.int (1)))) (af (eC (.int (0))) ai))) ai))) (aT (eT (ae aN (ae ak (aa 9) (eC (.int (0)))) (eC (.str "go")))) (aK (ae ak (aa 9) (eC (.int (1)))) (gN 7)) (aT (eT (ae aN (ae ak (aa 9) (eC (.int (0)))) (eC (.str "if")))) (aK (ae ak (bg (af (aa 7) (af (ae ak (aa 9) (eC (.int (2)))) ai))) (bS ig (af (ae cO (bG d7 d8 (aa 3) (af (ae ak (aa 9) (eC (.int (1)))) (af (eC (.int (0))) ai))) (eC (.int (0)))) ai))) (gN 7)) (cu (aO oU (af (aa 9) (af (aa 3) (af (aa 4) ai))))))))))
variable{ri:Nat}
theorem W4{s:S}{o7:Option W}(r:Row)(R:RI ph H m s)(hr:fe r)(hI:ik ph ii I)(hm:m<100000) :
  (∃y,ck I s r=.inl (s.by y)/\(aF (aT (df (eT (ae aN (ae ak (aa 9) (eC (.int (0)))) (eC (.str "turn")))) (eT (ae aN (aa 2) (eC (.int (0)))))) (a8 (a9 (af (eC (.str "dry")) (af (aa 5) (af (aa 6) ai))))) bA) (aF (aT (df (eT (ae aN (ae ak (aa 9) (eC (.int (0)))) (eC (.str "do")))) (df (eT (ae aN (ae ak (aa 9) (eC (.int (2)))) (eC (.str "part")))) (eT (ae aN (bG d7 d8 (aa 3) (af (ae ak (aa 9) (eC (.int (4)))) (af (eC (.int (0))) ai))) (eC (.int (0))))))) (a8 (a9 (af (eC (.str "nought")) (af (aa 5) (af (aa 6) ai))))) bA) xY)) (b7 ri ii ph.length s o7 o8 (some r.w)) H=.ok (.rt (dS ph.length y s)) H) \/
  (∃s' H',ck I s r=.inr s'/\(aF (aT (df (eT (ae aN (ae ak (aa 9) (eC (.int (0)))) (eC (.str "turn")))) (eT (ae aN (aa 2) (eC (.int (0)))))) (a8 (a9 (af (eC (.str "dry")) (af (aa 5) (af (aa 6) ai))))) bA) (aF (aT (df (eT (ae aN (ae ak (aa 9) (eC (.int (0)))) (eC (.str "do")))) (df (eT (ae aN (ae ak (aa 9) (eC (.int (2)))) (eC (.str "part")))) (eT (ae aN (bG d7 d8 (aa 3) (af (ae ak (aa 9) (eC (.int (4)))) (af (eC (.int (0))) ai))) (eC (.int (0))))))) (a8 (a9 (af (eC (.str "nought")) (af (aa 5) (af (aa 6) ai))))) bA) xY)) (b7 ri ii ph.length s o7 o8 (some r.w)) H=.ok (.nx (b7 ri ii ph.length s' o7 o8 (some r.w))) H'/\RI ph H' (m+1) s'):=by
 have hb:s.bx.length<1000000:=acM R.nb (by omega);have n1:=R.nb;have n2:=R.nl;have n3:=R.nt;have n4:=R.nk;have bx:∀{x:String} {ws:List W} {H':PH},x≠"turn"->x≠"take"->x≠"tell"->x≠"go"->x≠"if"->oU [.tup (.str x::ws),.ref ph.length,.ref (ph.length+1)] H=.ok .aC H' →
   xY (b7 ri ii ph.length s o7 o8 (some (.tup (.str x::ws)))) H=.ok (.nx (b7 ri ii ph.length s o7 o8 (some (.tup (.str x::ws))))) H':=fun{x ws H'} h1 h2 h3 h4 h5 h=>
  aq (wq x rfl (decide_eq_false h1)) (aq (wq x rfl (decide_eq_false h2)) (aq (wq x rfl (decide_eq_false h3)) (aq (wq x rfl (decide_eq_false h4)) (aq (wq x rfl (decide_eq_false h5)) (ax (ax (az rfl (az rfl (az rfl rfl))) h) rfl)))))
 cases r with
 | turn=>
  by_cases h:s.tn=0
  ·exact .inl ⟨"dry",by simp only[ck,h,if_true],Aa (bc (tT (wq "turn" rfl rfl) (eI rfl (decide_eq_true h))) (retS rfl))⟩
  ·exact .inr ⟨{ s with tn:=s.tn-1 },H,by simp only[ck,h,if_false],sq (aq (tT (wq "turn" rfl rfl) (eI rfl (decide_eq_false h))) rfl) (sq (aq (tF (wq "turn" rfl rfl)) rfl) (bc (wq "turn" rfl rfl) rfl)),R.ex,R.b,R.l,R.t,by simp only;omega,by simp only;omega,by simp only;omega,by simp only;omega,R.vb,R.vl⟩
 | take a=>
  obtain⟨H1,e1,x1⟩:=W3 (σ:=b7 ri ii ph.length s o7 o8 (some (Row.take a).w)) rfl rfl R hI hm;have R1:=R.mono x1;have R2:=R1.bx (k:=a) (hI.get s.tk);exact .inr ⟨{ s with bx:=pt s.bx a (I.getD s.tk 0),tk:=s.tk+1 },_,rfl,sq (aq (tF (wq "take" rfl rfl)) rfl) (sq (aq (tF (wq "take" rfl rfl)) rfl) (aq (wq "take" rfl rfl) (bc (wq "take" rfl rfl) (sq (oN e1 R1.b hb rfl rfl) rfl)))),R2.ex,R2.b,R2.l,R2.t,R2.nb,R2.nl,R2.nt,by simp only;omega,R2.vb,R2.vl⟩
 | tell a=>
  refine .inr ⟨{ s with told:=s.told++[gt s.bx a] },H.set (ph.length+2) (.lst (s.told.map W.int++[.int (gt s.bx a)])),rfl,sq (aq (tF (wq "tell" rfl rfl)) rfl) (sq (aq (tF (wq "tell" rfl rfl)) rfl) (aq (wq "tell" rfl rfl) (aq (wq "tell" rfl rfl) (bc (wq "tell" rfl rfl) (oM rfl ⟨_,R.t⟩ (kR R.b rfl rfl) R.t (by rw[aat];omega)))))),?_⟩;exact⟨Ex.set R.ex (by omega) _,(dw (by omega)).trans R.b,(dw (by omega)).trans R.l,by rw[iP R.t];simp,by simp only;omega,by simp only;omega,by simp only[aas,aaP,adP];omega,by simp only;omega,R.vb,R.vl⟩
 | dR a w b c=>
  have hg:=kR (o:=aa 3) (e:=ae ak (aa 9) (eC (.int (4)))) (σ:=b7 ri ii ph.length s o7 o8 (some (Row.dR a w b c).w)) (k:=c) R.b rfl rfl;by_cases h:w=.part/\gt s.bx c=0
  ·obtain⟨rfl,h⟩:=h;exact .inl ⟨"nought",by simp only[ck,h,if_true],sq (aq (tF (wq "do" rfl rfl)) rfl) (Aa (bc (tT (wq "do" rfl rfl) (tT (eS "part" rfl rfl) (eI hg (decide_eq_true h)))) (retS rfl)))⟩
  ·obtain⟨s',hs⟩:∃s',ck I s (.dR a w b c)=.inr s':=by
    cases w
    case part=>
     have h:¬gt s.bx c=0:=fun z=>h ⟨rfl,z⟩
     exact⟨_,if_neg h⟩
    all_goals exact⟨_,rfl⟩
   obtain⟨H',e,R',t1,t2⟩:=qb R hr hm hs trivial;have eQ:b7 ri ii ph.length s o7 o8 (some (Row.dR a w b c).w)=b7 ri ii ph.length s' o7 o8 (some (Row.dR a w b c).w):=by unfold b7;rw[t1,t2]
   refine .inr ⟨s',H',hs,sq (aq (tF (wq "do" rfl rfl)) rfl) (sq (aq (tT (wq "do" rfl rfl) ?_) rfl) ((bx (by decide) (by decide) (by decide) (by decide) (by decide) e).trans (by rw[<- eQ];rfl))),R'⟩;by_cases hw:w.s="part"
   ·refine tT (eS w.s rfl (decide_eq_true hw)) (eI hg (decide_eq_false fun z=>h ⟨?_,z⟩));cases w <;> first | rfl | exact absurd hw (by decide)
   ·exact tF (eS w.s rfl (decide_eq_false hw))
 | put a n=>
  obtain⟨H',e,R',t1,t2⟩:=qb (I:=I) R hr hm rfl trivial;exact .inr ⟨_,H',rfl,sq (aq (tF (wq "put" rfl rfl)) rfl) (sq (aq (tF (wq "put" rfl rfl)) rfl) (bx (by decide) (by decide) (by decide) (by decide) (by decide) e)),R'⟩
 | move a b=>
  obtain⟨H',e,R',t1,t2⟩:=qb (I:=I) R hr hm rfl trivial;exact .inr ⟨_,H',rfl,sq (aq (tF (wq "move" rfl rfl)) rfl) (sq (aq (tF (wq "move" rfl rfl)) rfl) (bx (by decide) (by decide) (by decide) (by decide) (by decide) e)),R'⟩
 | pull a b=>
  obtain⟨H',e,R',t1,t2⟩:=qb (I:=I) R hr hm rfl trivial;exact .inr ⟨_,H',rfl,sq (aq (tF (wq "pull" rfl rfl)) rfl) (sq (aq (tF (wq "pull" rfl rfl)) rfl) (bx (by decide) (by decide) (by decide) (by decide) (by decide) e)),R'⟩
 | push a b=>
  obtain⟨H',e,R',t1,t2⟩:=qb (I:=I) R hr hm rfl trivial;exact .inr ⟨_,H',rfl,sq (aq (tF (wq "push" rfl rfl)) rfl) (sq (aq (tF (wq "push" rfl rfl)) rfl) (bx (by decide) (by decide) (by decide) (by decide) (by decide) e)),R'⟩
theorem UP(r:Row):∃(x:String) (ws:List W),r.w=.tup (.str x::ws)/\x≠"end":=by
 cases r with
 | dR a w b c=>exact⟨"do",_,rfl,by decide⟩
 | put a n=>exact⟨"put",_,rfl,by decide⟩
 | move a b=>exact⟨"move",_,rfl,by decide⟩
 | pull a b=>exact⟨"pull",_,rfl,by decide⟩
 | push a b=>exact⟨"push",_,rfl,by decide⟩
 | take a=>exact⟨"take",_,rfl,by decide⟩
 | tell a=>exact⟨"tell",_,rfl,by decide⟩
 | turn=>exact⟨"turn",_,rfl,by decide⟩
def gH(I:List Int)(R:List LR)(f p:Nat)(s:S):LR->Rs
 | .r x=>(match ck I s x with
  | .inl r=>r
  | .inr s=>bK I R f (p+1) s)
 | .iff v k=>bK I R f (if gt s.bx v=0 then p+1 else k) s
 | .go k=>bK I R f k s
 | .fin=>s.by "done"
variable{R:List LR}
theorem ke{f p:Nat}{s:S}{y:LR}(hy:R[p]? =some y):bK I R (f+1) p s=gH I R f p s y:=by
 conv=>lhs;unfold bK
 rw[hy];cases y <;> rfl
theorem Zm{p:Nat}{s:S}{y:LR}{o9:Option W}(hR:ph[ri]? =some (.lst (R.map LR.w)))(ok:∀r,LR.r r∈R->fe r)(J:RI ph H m s)(hy:R[p]? =some y)(hI:ik ph ii I)(hm:m<100000) :
  (∃x,(∀f,bK I R (f+1) p s=s.by x)/\mz (b7 ri ii ph.length s (some (.int p)) o8 o9) H=.ok (.rt (dS ph.length x s)) H) \/
  (∃s' H' p',(∀f,bK I R (f+1) p s=bK I R f p' s')/\mz (b7 ri ii ph.length s (some (.int p)) o8 o9) H=.ok (.nx (b7 ri ii ph.length s' (some (.int p')) o8 (some y.w))) H'/\RI ph H' (m+1) s'):=by
 have n1:=J.nb;have n2:=J.nl;have n3:=J.nt;have n4:=J.nk;have jS:cH (R.map LR.w) (p:Int)=some y.w:=by rw[gc _ _ (by rw[aat];exact(aal.mp hy).1),aaN,hy];rfl
 have a1:aK (ae ak (aa 0) (aa 7)) (gN 9) (b7 ri ii ph.length s (some (.int p)) o8 o9) H=.ok (.nx (b7 ri ii ph.length s (some (.int p)) o8 (some y.w))) H:=asg (op rfl rfl (fE (J.ex.get hR) jS));have a2:aK (ae addW (aa 7) (eC (.int (1)))) (gN 7) (b7 ri ii ph.length s (some (.int p)) o8 (some y.w)) H=.ok (.nx (b7 ri ii ph.length s (some (.int ((p+1:Nat):Int))) o8 (some y.w))) H:=asg ((ad (i:=(p:Int)) (j:=1) rfl rfl).trans rfl);have hl:=fun f=>ke (I:=I) (s:=s) (f:=f) hy
 have up:RI ph H (m+1) s:=⟨J.ex,J.b,J.l,J.t,by omega,by omega,by omega,by omega,J.vb,J.vl⟩
 unfold mz;cases y with
 | fin=>exact .inl ⟨"done",fun f=>hl f,sq a1 (sq a2 (Aa (bc (wq "end" rfl rfl) (retS rfl))))⟩
 | go k=>exact .inr ⟨s,H,k,fun f=>hl f,sq a1 (sq a2 (sq (aq (wq "go" rfl rfl) rfl) (sq (aq (tF (wq "go" rfl rfl)) rfl) (sq (aq (tF (wq "go" rfl rfl)) rfl) (aq (wq "go" rfl rfl) (aq (wq "go" rfl rfl) (aq (wq "go" rfl rfl) (bc (wq "go" rfl rfl) (asg rfl))))))))),up⟩
 | iff v k=>
  obtain⟨H2,e2⟩:∃H2,H2=H++[PO.lst [.int ((p+1:Nat):Int),.int k]]:=⟨_,rfl⟩
  have x2:Ex H H2:=e2▸Ex.one _ _;have g2:H2[H.length]? =some (.lst [.int ((p+1:Nat):Int),.int k]):=by rw[e2];exact bN _ _
  have hg:=kR (o:=aa 3) (e:=ae ak (aa 9) (eC (.int (1)))) (σ:=b7 ri ii ph.length s (some (.int ((p+1:Nat):Int))) o8 (some (LR.iff v k).w)) (k:=v) (x2.get J.b) rfl rfl;refine .inr ⟨s,H2,if gt s.bx v=0 then p+1 else k,fun f=>hl f,sq a1 (sq a2 (sq (aq (wq "if" rfl rfl) rfl) (sq (aq (tF (wq "if" rfl rfl)) rfl) (sq (aq (tF (wq "if" rfl rfl)) rfl) (aq (wq "if" rfl rfl) (aq (wq "if" rfl rfl) (aq (wq "if" rfl rfl) (aq (wq "if" rfl rfl) (bc (wq "if" rfl rfl) ((asg (w:=.int ((if gt s.bx v=0 then p+1 else k:Nat):Int)) (ph1:=H2) ?_).trans rfl)))))))))),up.mono x2⟩;refine op (x:=.ref H.length) (ph1:=H2) (by rw[e2];rfl) (ne0 hg) (fE g2 ?_);by_cases hz:gt s.bx v=0
  ·rw[if_pos hz,if_pos hz];rfl
  ·rw[if_neg hz,if_neg hz];rfl
 | r x=>
  have hl:∀f,bK I R (f+1) p s=match ck I s x with
    | .inl r=>r
    | .inr s=>bK I R f (p+1) s:=fun f=>hl f
  obtain⟨z,ws,q1,q2⟩:=UP x;have e0:eT (ae aN (ae ak (aa 9) (eC (.int (0)))) (eC (.str "end"))) (b7 ri ii ph.length s (some (.int ((p+1:Nat):Int))) o8 (some x.w)) H=.ok false H:=wq z (ws:=ws) (by rw[q1];rfl) (decide_eq_false q2)
  rcases W4 (ri:=ri) (o7:=some (.int ((p+1:Nat):Int))) (o8:=o8) x J (ok x (aaW hy)) hI hm with⟨yy,h1,h2⟩ | ⟨s',H',h1,h2,J'⟩
  ·exact .inl ⟨yy,fun f=>by rw[hl,h1],sq a1 (sq a2 (sq (aq e0 rfl) h2))⟩
  ·exact .inr ⟨s',H',p+1,fun f=>by rw[hl,h1],sq a1 (sq a2 (sq (aq e0 rfl) h2)),J'⟩
variable{tn:Int}
theorem W5(hR:ph[ri]? =some (.lst (R.map LR.w)))(ok:∀r,LR.r r∈R->fe r)(hI:ik ph ii I)(hF:gQ (bK I R 9000 0 ⟨[],[],[],0,tn⟩)) :
  ∃H' y s',oR [.ref ri,.ref ii,.int tn] ph=.ok (dS ph.length y s') H'/\Ex ph H'/\H'[ph.length+2]? =some (.lst (s'.told.map W.int))/\bK I R 9000 0 ⟨[],[],[],0,tn⟩=s'.by y:=by
 have up:∀{H:PH} {a b:Nat} {s:S},a<=b->RI ph H a s->RI ph H b s:=fun h R=>⟨R.ex,R.b,R.l,R.t,abe R.nb h,abe R.nl h,abe R.nt h,abe R.nk h,R.vb,R.vl⟩
 obtain⟨s0,es⟩:∃s0:S,s0=⟨[],[],[],0,tn⟩:=⟨_,rfl⟩
 rw[<- es] at hF;have R0:RI ph (ph++[.bE []]++[.bE []]++[.lst []]) 0 s0:=by
  subst es;refine⟨((Ex.one _ _).trans (Ex.one _ _)).trans (Ex.one _ _),((Ex.one _ _).trans (Ex.one _ _)).get (bN _ _),(Ex.one _ _).get ?_,?_,aar _,aar _,aar _,aar _,fun p hp=>(nomatch hp),fun p hp=>(nomatch hp)⟩
  ·have:=bN (ph++[PO.bE []]) (PO.bE []);rw[aas] at this;exact this
  ·have:=bN (ph++[PO.bE []]++[PO.bE []]) (PO.lst []);rw[aas,aas] at this;exact this
 obtain⟨H0,eH⟩:∃H0,H0=ph++[PO.bE []]++[PO.bE []]++[PO.lst []]:=⟨_,rfl⟩
 rw[<- eH] at R0;have qX:eP (af (eC (.int (9000))) ai) (b7 ri ii ph.length s0 (some (.int ((0:Nat):Int))) none none) H0=.ok (eJ 0 9000,fun _=>true) H0:=pT (j:=9000) rfl (by decide) (by decide);have pre:∀{r:Out W},aw (aF (ie (eP (af (eC (.int (9000))) ai)) (gN 8) mz) (a8 (a9 (af (eC (.str "long")) (af (aa 5) (af (aa 6) ai))))) (b7 ri ii ph.length s0 (some (.int ((0:Nat):Int))) none none)) dH H0=r->oR [.ref ri,.ref ii,.int tn] ph=r:=fun{r} h=>by
  unfold oR kX;rw[gn];refine bq (ph1:=ph++[.bE []]) (σ1:=[some (.ref ri),some (.ref ii),some (.int tn),some (.ref ph.length),none,none,none,none,none,none]) rfl (bq (ph1:=ph++[.bE []]++[.bE []]) (σ1:=[some (.ref ri),some (.ref ii),some (.int tn),some (.ref ph.length),some (.ref (ph.length+1)),none,none,none,none,none]) ?_ (bq (ph1:=H0) (σ1:=[some (.ref ri),some (.ref ii),some (.int tn),some (.ref ph.length),some (.ref (ph.length+1)),some (.ref (ph.length+2)),none,none,none,none]) ?_ (bq rfl (bq rfl ?_))))
  ·refine(asg (w:=.ref (ph.length+1)) (ph1:=ph++[.bE []]++[.bE []]) ?_).trans rfl;show Out.ok (W.ref (ph++[PO.bE []]).length) _=_;rw[aas];rfl
  ·refine(asg (w:=.ref (ph.length+2)) (ph1:=H0) ?_).trans rfl;rw[eH];show Out.ok (W.ref (ph++[PO.bE []]++[PO.bE []]).length) _=_;rw[aas,aas];rfl
  ·rw[<- h,es];rfl
 rcases w8 (chk:=fun _=>true) (g:=gN 8) (b:=mz)
  (fun w H=>∃y s',w=dS ph.length y s'/\bK I R 9000 0 s0=s'.by y/\RI ph H 100000 s')
  (fun j σ H=>∃(s':S) (p:Nat) (o8 o9:Option W),σ=b7 ri ii ph.length s' (some (.int p)) o8 o9/\j<=9000/\bK I R 9000 0 s0=bK I R (9000-j) p s'/\RI ph H j s')
  (eJ 0 9000) 0 (b7 ri ii ph.length s0 (some (.int ((0:Nat):Int))) none none) H0 (fun _ _ _ _=>rfl)
  (fun j x σ H hj zz=>by
   obtain⟨s',p,o8,o9,rfl,Ab,hs,J⟩:=zz;rw[acw] at hs J Ab ⊢;have zr:j<9000:=by have:=(aal.mp hj).1;rw[xb] at this;exact this
   obtain⟨f,ef⟩:∃f,9000-j=f+1:=⟨9000-(j+1),by omega⟩
   rw[ef] at hs;have ef':9000-(j+1)=f:=by omega
   obtain⟨y,hy⟩:∃y,R[p]? =some y:=by
    cases h:R[p]? with
    | none=>
     refine absurd ?_ hF;rw[hs];unfold bK;rw[h];rfl
    | some y=>exact⟨y,rfl⟩
   refine⟨_,_,rfl,?_⟩
   rcases Zm (ri:=ri) (o8:=some x) (o9:=o9) hR ok J hy hI (by omega) with⟨yy,q1,q2⟩ | ⟨s2,H2,p2,q1,q2,J2⟩
   ·exact⟨_,_,q2,.inr ⟨_,rfl,yy,s',rfl,by rw[hs,q1],up (by omega) J⟩⟩
   ·exact⟨_,_,q2,.inl ⟨_,.inl rfl,s2,p2,_,_,rfl,by omega,by rw[hs,q1,ef'],J2⟩⟩)
  ⟨s0,0,none,none,rfl,by omega,rfl,R0⟩ with⟨ao,H',e,s',p,o8,o9,rfl,_,hs,J⟩ | ⟨w,H',e,y,s',rfl,hs,J⟩
 ·rw[xb,acw,Nat.sub_self] at hs;exact absurd (by rw[hs];rfl) hF
 ·exact⟨H',y,s',pre (c7 (xA qX e)),J.ex,J.t,by rw[<- es,hs]⟩
theorem W6(H:PH)(n:Nat)(y:LR):∃d,dat H (n+1) y.w=some d:=by
 cases y with
 | r x=>
  cases x with
  | dR a w b c=>exact⟨_,fF (mc (fc H n "do") (mc (c0 ..) (mc (fc H n w.s) (mc (c0 ..) (mc (c0 ..) rfl)))))⟩
  | put a b=>exact⟨_,fF (mc (fc H n "put") (mc (c0 ..) (mc (c0 ..) rfl)))⟩
  | move a b=>exact⟨_,fF (mc (fc H n "move") (mc (c0 ..) (mc (c0 ..) rfl)))⟩
  | pull a b=>exact⟨_,fF (mc (fc H n "pull") (mc (c0 ..) (mc (c0 ..) rfl)))⟩
  | push a b=>exact⟨_,fF (mc (fc H n "push") (mc (c0 ..) (mc (c0 ..) rfl)))⟩
  | take a=>exact⟨_,fF (mc (fc H n "take") (mc (c0 ..) rfl))⟩
  | tell a=>exact⟨_,fF (mc (fc H n "tell") (mc (c0 ..) rfl))⟩
  | turn=>exact⟨_,fF (mc (fc H n "turn") rfl)⟩
 | iff v k=>exact⟨_,fF (mc (fc H n "if") (mc (c0 ..) (mc (c0 ..) rfl)))⟩
 | go k=>exact⟨_,fF (mc (fc H n "go") (mc (c0 ..) rfl))⟩
 | fin=>exact⟨_,fF (mc (fc H n "end") rfl)⟩
theorem dY{m:Mo α}{f:α->Mo β}{ph':PH}{x:XC}(h:m ph=.ex x ph'):aw m f ph=.ex x ph':=by
 unfold aw;rw[h]
inductive Nm where
 | b (a:Int)
 | s (a:Int)
def Nm.w:Nm->W
 | .b a=>.int a
 | .s a=>.tup [.str "slot",.int a]
def Nm.d:Nm->acT
 | .b a=>.int a
 | .s a=>.tuple [.str (aaz "slot"),.int a]
def S.g(s:S):Nm->Int
 | .b a=>gt s.bx a
 | .s a=>gt s.sl a
def S.p(s:S)(v:Int):Nm->S
 | .b a=>{ s with bx:=pt s.bx a v }
 | .s a=>{ s with sl:=pt s.sl a v }
theorem yB(l:Dc)(k v j:Int):gt (pt l k v) j=if j=k then v else gt l j:=by
 have h:=xX (pt l k v) j;rw[<- Es,CJ] at h;by_cases e:j=k
 ·rw[if_pos (by rw[e])] at h;rw[if_pos e];exact(W.int.inj h).symm
 ·rw[if_neg (fun z=>e (W.int.inj z)),xX] at h;rw[if_neg e];exact(W.int.inj h).symm
theorem yC{n m:Nm}(h:n.w=m.w):n=m:=by
 cases n <;> cases m <;> simp[Nm.w] at h <;> rw[h]
theorem g_p(s:S)(v:Int)(n m:Nm):(s.p v n).g m=if m.w=n.w then v else s.g m:=by
 cases n with
 | b a=>cases m with
  | b c=>
   refine(yB s.bx a v c).trans ?_;by_cases e:c=a
   ·rw[if_pos e,if_pos (by rw[e])]
   ·rw[if_neg e,if_neg (fun z=>e (Nm.b.inj (yC z)))];rfl
  | s c=>rw[if_neg (fun z=>nomatch z)];rfl
 | s a=>cases m with
  | b c=>rw[if_neg (fun z=>nomatch z)];rfl
  | s c=>
   refine(yB s.sl a v c).trans ?_;by_cases e:c=a
   ·rw[if_pos e,if_pos (by rw[e])]
   ·rw[if_neg e,if_neg (fun z=>e (Nm.s.inj (yC z)))];rfl
theorem Fp(H:PH)(n:Nat)(m:Nm):dat H (n+1) m.w=some m.d:=by
 cases m with
 | b a=>rfl
 | s a=>exact fF (mc (fc H n "slot") (mc (c0 ..) rfl))
theorem Yv(n m:Nm):aaV n.d m.d=decide (n.w=m.w):=by
 cases n with
 | b a=>cases m with
  | b c=>exact(E9 a c).trans (yz a c).symm
  | s c=>
   rw[decide_eq_false (fun z=>nomatch z)];unfold Nm.d aaV;rfl
 | s a=>cases m with
  | b c=>
   rw[decide_eq_false (fun z=>nomatch z)];unfold Nm.d aaV;rfl
  | s c=>
   refine(WC _ _ _ _).trans ?_;rw[yu,E9,decide_eq_true rfl,Bool.true_and];exact decide_eq_decide.mpr ⟨fun z=>by rw[z],fun z=>Nm.s.inj (yC z)⟩
structure HR(kws:List (W×W))(s:S):Prop where
 ks:∀p∈kws,∃n:Nm,p.1=n.w
 gs:∀n:Nm,(bQ kws n.w).getD (.int 0)=.int (s.g n)
theorem HR.ok{kws:List (W×W)}{s:S}(h:HR kws s)(H:PH)(n:Nm):gW H kws n.w=true:=by
 unfold gW;rw[aaw,abA];refine⟨by cases n <;> rfl,fun p hp=>?_⟩;obtain⟨m,e⟩:=h.ks p hp;rw[aaw,decide_eq_true_eq,e];refine⟨by cases m <;> rfl,?_⟩;unfold dE;rw[Fp,Fp,<- Yv]
theorem HR.put{kws:List (W×W)}{s:S}(h:HR kws s)(n:Nm)(v:Int):HR (cK kws n.w (.int v)) (s.p v n):=by
 refine⟨fun p hp=>?_,fun m=>?_⟩
 ·unfold cK at hp;split at hp
  ·obtain⟨q,hq,rfl⟩:=abV.mp hp;split
   ·exact h.ks q hq
   ·exact h.ks q hq
  ·rcases abu.mp hp with z | z
   ·exact h.ks p z
   ·rw[abc.mp z];exact⟨n,rfl⟩
 ·rw[CJ,g_p];by_cases e:m.w=n.w
  ·rw[if_pos e,if_pos e];rfl
  ·rw[if_neg e,if_neg e];exact h.gs m
theorem SY(kws:List (W×W))(k v:W):(cK kws k v).length<=kws.length+1:=by
 unfold cK;split
 ·rw[aat];omega
 ·simp
variable{f:Str}
theorem fl{p:Nat}{fs:List (Str×W)}{w:W}(h:H[p]? =some (.obj "Run" fs))(ho:o σ H=.ok (.ref p) H)(hl:fs.lookup f=some w):b6 "Run" f o σ H=.ok w H:=ax ho (Dv h hl)
theorem fw{v:EM}{p:Nat}{fs:List (Str×W)}{w:W}(hv:v σ H=.ok w H1)(ho:o σ H1=.ok (.ref p) H1)(h:H1[p]? =some (.obj "Run" fs))(hz:fs.length<1000):dA "Run" f o v σ H=.ok (.nx σ) (H1.set p (.obj "Run" (iT f w fs))):=ax hv (ax ho (ax (Dw h hz) rfl))
theorem fa{g:W->W->Po W}{v:EM}{p:Nat}{fs:List (Str×W)}{y z u:W}(ho:o σ H=.ok (.ref p) H)(h:H[p]? =some (.obj "Run" fs))(hl:fs.lookup f=some y)(hv:v σ H=.ok z H)(hg:lift (g y z) H=.ok u H)(hz:fs.length<1000):kq g "Run" f o v σ H=.ok (.nx σ) (H.set p (.obj "Run" (iT f u fs))):=
 ax ho (ax (Dv h hl) (ax hv (ax hg (ax (Dw h hz) rfl))))
def oF(p q:Nat)(tn:Int)(tk:Nat)(wd:W):List (Str×W):=[("inputs",.ref (p+1)),("turns_left",.int tn),("at",.int q),("holds",.ref (p+2)),("told",.ref (p+3)),("takes",.int tk),("word",wd)]
structure PR(ph H:PH)(I:List Int)(m q:Nat)(s:S)(wd:W):Prop where
 ex:Ex ph H
 o:H[ph.length]? =some (.obj "Run" (oF ph.length q s.tn s.tk wd))
 i:H[ph.length+1]? =some (.lst (I.map W.int))
 h:∃kws,H[ph.length+2]? =some (.cc kws)/\HR kws s/\kws.length<=m
 t:H[ph.length+3]? =some (.lst (s.told.map W.int))
 nt:s.told.length<=m
 vb:jU s.bx
 vl:jU s.sl
variable{q:Nat}{wd:W}
theorem PR.up{s:S}(R:PR ph H I m q s wd)(h:m<=n):PR ph H I n q s wd:=by
 obtain⟨kws,a,b,c⟩:=R.h;exact⟨R.ex,R.o,R.i,⟨kws,a,b,abe c h⟩,R.t,abe R.nt h,R.vb,R.vl⟩
theorem PR.ob{s:S}(R:PR ph H I m q s wd)(q' tk:Nat)(tn:Int)(Hj:W):PR ph (H.set ph.length (.obj "Run" (oF ph.length q' tn tk Hj))) I m q' { s with tn:=tn,tk:=tk } Hj:=by
 obtain⟨kws,a,b,c⟩:=R.h;exact⟨Ex.set R.ex (aar _) _,iP R.o,(dw (by omega)).trans R.i,⟨kws,(dw (by omega)).trans a,⟨b.ks,fun n=>(b.gs n).trans (by cases n <;> rfl)⟩,c⟩,(dw (by omega)).trans R.t,R.nt,R.vb,R.vl⟩
theorem PR.iz{s:S}(R:PR ph H I m q s wd)(n:Nm):cA (s.g n):=by
 cases n with
 | b a=>exact R.vb.gt a
 | s a=>exact R.vl.gt a
theorem W7{s:S}(R:PR ph H I m q s wd)(n:Nm):gd [.ref ph.length,n.w] H=.ok (.int (s.g n)) H:=by
 obtain⟨kws,a,b,c⟩:=R.h;unfold gd hV;rw[gP];refine br ?_;rw[ka];refine ax (fl R.o rfl rfl) (ax (Uq a) (ax (az rfl (az rfl rfl)) ?_));rw[Ur a (b.ok H n),b.gs]
theorem nI{s:S}{e i:EM}{n:Nm}(R:PR ph H1 I m q s wd)(hm:m<1000000)(h0:aa 0 σ=aA (.ref ph.length))(he:e σ H=.ok (.int v) H1)(hi:i σ=aA n.w)(hv:cA v) :
  ∃H',aK e (lM (b6 "Run" "holds" (aa 0)) i) σ H=.ok (.nx σ) H'/\PR ph H' I (m+1) q (s.p v n) wd:=by
 obtain⟨kws,a,b,c⟩:=R.h;refine⟨H1.set (ph.length+2) (.cc (cK kws n.w (.int v))),?_,?_⟩
 ·rw[pK];refine ax he ?_;rw[SE];refine ax (ax (fl R.o (by rw[h0];rfl) rfl) (ax (by rw[hi];rfl) (ax (SF a (b.ok H1 n) (by cases n <;> exact fun z=>nomatch z) (aav (acM c hm) (by decide)) _) rfl))) rfl
 ·have hl:=SY kws n.w (.int v);refine⟨Ex.set R.ex (by omega) _,(dw (by omega)).trans (R.o.trans (by cases n <;> rfl)),(dw (by omega)).trans R.i,⟨_,iP a,b.put n v,by omega⟩,(dw (by omega)).trans (R.t.trans (by cases n <;> rfl)),?_,?_,?_⟩
  ·have:=R.nt;cases n <;> exact aej this
  ·cases n with
   | b a=>exact R.vb.pt hv
   | s a=>exact R.vb
  ·cases n with
   | b a=>exact R.vl
   | s a=>exact R.vl.pt hv
theorem u0(n:Int)(H:PH):nS [.int n] H=.ok (.int (ij n)) H:=by
 have e:(n+2147483648).fmod 4294967296-2147483648=ij n:=by
  have:=aeO (n+2147483648) 4294967296;unfold ij;omega
 rw[<- e];unfold nS iU;rw[fQ];exact br (sb (md (j:=4294967296) (ad rfl rfl) (ml (i:=2) (j:=2147483648) rfl rfl (jn (by decide) (by decide))) (by decide)) rfl)
theorem u4{a b:EM}{w:W}(h:t σ H=.ok c H)(h2:(if c then a else b) σ H=.ok w H):i6 t a b σ H=.ok w H:=by
 refine ax h ?_;cases c <;> exact h2
theorem W8(w:Wd){a b:Int}(hb:cA b)(h0:w=.part->b≠0)(H:PH):mQ [.str w.s,.int a,.int b] H=.ok (.int (dd w a b)) H:=by
 obtain⟨hb1,hb2⟩:=hb;unfold mQ j5;rw[gn];cases w with
 | sum=>exact c7 (bc (wv "sum" rfl rfl) (retS (ax (az (ad rfl rfl) rfl) (u0 _ _))))
 | less=>exact bq (aq (wv "less" rfl rfl) rfl) (c7 (bc (wv "less" rfl rfl) (retS (ax (az (sb rfl rfl) rfl) (u0 _ _)))))
 | times=>exact bq (aq (wv "times" rfl rfl) rfl) (bq (aq (wv "times" rfl rfl) rfl) (c7 (bc (wv "times" rfl rfl) (retS (ax (az (ml rfl rfl (jn (by omega) (by omega))) rfl) (u0 _ _))))))
 | part=>
  refine bq (aq (wv "part" rfl rfl) rfl) (bq (aq (wv "part" rfl rfl) rfl) (bq (aq (wv "part" rfl rfl) rfl) (c7 (bc (wv "part" rfl rfl) (retS (ax (az rfl (az rfl rfl)) ?_))))));unfold xg kb;rw[gP];exact bq (aq (eI rfl (decide_eq_false (h0 rfl))) rfl) (br (ax (az (dv rfl rfl (h0 rfl) (by omega)) rfl) (u0 _ _)))
 | below=>
  refine bq (aq (wv "below" rfl rfl) rfl) (bq (aq (wv "below" rfl rfl) rfl) (bq (aq (wv "below" rfl rfl) rfl) (bq (aq (wv "below" rfl rfl) rfl) (c7 (bc (wv "below" rfl rfl) (retS (u4 (c:=decide (a<b)) rfl ?_)))))));by_cases h:a<b
  ·rw[decide_eq_true h,show dd .below a b=1 from if_pos h];rfl
  ·rw[decide_eq_false h,show dd .below a b=0 from if_neg h];rfl
 | alike=>
  refine bq (aq (wv "alike" rfl rfl) rfl) (bq (aq (wv "alike" rfl rfl) rfl) (bq (aq (wv "alike" rfl rfl) rfl) (bq (aq (wv "alike" rfl rfl) rfl) (bq (aq (wv "alike" rfl rfl) rfl) (br (u4 (c:=decide (a=b)) (tB (op rfl rfl (by rw[nP];rfl))) ?_))))));by_cases h:a=b
  ·rw[decide_eq_true h,show dd .alike a b=1 from if_pos h];rfl
  ·rw[decide_eq_false h,show dd .alike a b=0 from if_neg h];rfl
theorem W9(a:Int)(H:PH):mQ [.str "part",.int a,.int 0] H=.ex ⟨"ByNought",[]⟩ H:=by
 unfold mQ j5;rw[gn];refine bq (aq (wv "part" rfl rfl) rfl) (bq (aq (wv "part" rfl rfl) rfl) (bq (aq (wv "part" rfl rfl) rfl) (dY (dY (bc (wv "part" rfl rfl) (dY (ax (az rfl (az rfl rfl)) ?_)))))));unfold xg kb;rw[gP];exact dY (dY (bc (eI rfl rfl) rfl))
def LR.a:LR->W
 | .r (.put a n)=>.tup [.str "set",.int a,.int n]
 | .r (.move a b)=>.tup [.str "copy",.int a,.int b]
 | .r (.pull a b)=>.tup [.str "copy",.int a,(Nm.s b).w]
 | .r (.push a b)=>.tup [.str "copy",(Nm.s a).w,.int b]
 | y=>y.w
theorem Zn(y:LR)(H:PH):jc [y.w] H=.ok y.a H:=by
 have key:∀{x:String} {ws:List W},x≠"put"->x≠"move"->x≠"pull"->x≠"push"->jc [.tup (.str x::ws)] H=.ok (.tup (.str x::ws)) H:=fun{x ws} h1 h2 h3 h4=>by
  unfold jc gX;rw[fQ];exact bq (aq (wq x rfl (decide_eq_false h1)) rfl) (bq (aq (wq x rfl (decide_eq_false h2)) rfl) (bq (aq (wq x rfl (decide_eq_false h3)) rfl) (bq (aq (wq x rfl (decide_eq_false h4)) rfl) (br rfl))))
 cases y with
 | r x=>
  cases x with
  | put a n=>
   unfold jc gX;rw[fQ];exact c7 (bc (wq "put" rfl rfl) (retS rfl))
  | move a n=>
   unfold jc gX;rw[fQ];exact bq (aq (wq "move" rfl rfl) rfl) (c7 (bc (wq "move" rfl rfl) (retS rfl)))
  | pull a n=>
   unfold jc gX;rw[fQ];exact bq (aq (wq "pull" rfl rfl) rfl) (bq (aq (wq "pull" rfl rfl) rfl) (c7 (bc (wq "pull" rfl rfl) (retS rfl))))
  | push a n=>
   unfold jc gX;rw[fQ];exact bq (aq (wq "push" rfl rfl) rfl) (bq (aq (wq "push" rfl rfl) rfl) (bq (aq (wq "push" rfl rfl) rfl) (c7 (bc (wq "push" rfl rfl) (retS rfl)))))
  | dR a w b c=>exact key (by decide) (by decide) (by decide) (by decide)
  | take a=>exact key (by decide) (by decide) (by decide) (by decide)
  | tell a=>exact key (by decide) (by decide) (by decide) (by decide)
  | turn=>exact key (by decide) (by decide) (by decide) (by decide)
 | iff v k=>exact key (by decide) (by decide) (by decide) (by decide)
 | go k=>exact key (by decide) (by decide) (by decide) (by decide)
 | fin=>exact key (by decide) (by decide) (by decide) (by decide)
section
variable{ph H:PH}{I:List Int}{m q:Nat}{s:S}{wd:W}
theorem UQ(R:PR ph H I m q s wd):∃H',t9 [.ref ph.length] H=.ok (.int (I.getD s.tk 0)) H'/\PR ph H' I m q { s with tk:=s.tk+1 } wd:=by
 have R1:=R.ob q (s.tk+1) s.tn wd;refine⟨_,?_,R1⟩;obtain⟨H1,e1⟩:∃H1,H1=H.set ph.length (.obj "Run" (oF ph.length q s.tn (s.tk+1) wd)):=⟨_,rfl⟩
 rw[<- e1] at R1 ⊢;have a1:kq oj "Run" "takes" (aa 0) (eC (.int (1))) [some (.ref ph.length)] H=.ok (.nx [some (.ref ph.length)]) H1:=by
  rw[e1];exact fa rfl R.o rfl rfl rfl (aau rfl)
 have tk:b6 "Run" "takes" (aa 0) [some (.ref ph.length)] H1=.ok (.int ((s.tk+1:Nat):Int)) H1:=fl R1.o rfl rfl;have ln:bS fg (af (b6 "Run" "inputs" (aa 0)) ai) [some (.ref ph.length)] H1=.ok (.int I.length) H1:=ax (az (fl R1.o rfl rfl) rfl) ((t7 R1.i).trans (by rw[aat]));have tt:eT (ae l8 (b6 "Run" "takes" (aa 0)) (bS fg (af (b6 "Run" "inputs" (aa 0)) ai))) [some (.ref ph.length)] H1=.ok (decide ((I.length:Int)<((s.tk+1:Nat):Int))) H1:=tB (op tk ln rfl);unfold t9 lz;rw[fQ];by_cases h:s.tk<I.length
 ·rw[decide_eq_false (by omega)] at tt;refine bq a1 (bq (aq tt rfl) (br (op (fl R1.o rfl rfl) (sb tk rfl) (fE R1.i ?_))));rw[show((s.tk+1:Nat):Int)-1=(s.tk:Int) by omega,gc _ _ (by rw[aat];exact h),aaN,abg,abx h];rfl
 ·rw[decide_eq_true (by omega)] at tt;rw[abg,acj (by omega)];exact bq a1 (c7 (bc tt (retS rfl)))
theorem Xa(R:PR ph H I m q s .aC):∃H',si [.ref ph.length] H=.ok .aC H'/\PR ph H' I m q { s with tn:=s.tn-1 } (if s.tn=0 then .str "dry" else .aC):=by
 have t1:eT (ae aN (b6 "Run" "turns_left" (aa 0)) (eC (.int (0)))) [some (.ref ph.length)] H=.ok (decide (s.tn=0)) H:=eI (fl R.o rfl rfl) rfl;unfold si lg;rw[fQ];by_cases h:s.tn=0
 ·rw[decide_eq_true h] at t1;have R1:=R.ob q s.tk s.tn (.str "dry");rw[if_pos h];exact⟨_,bq (bc t1 (fw rfl rfl R.o (aau rfl))) (ax (fa rfl R1.o rfl rfl rfl (aau rfl)) rfl),R1.ob q s.tk (s.tn-1) (.str "dry")⟩
 ·rw[decide_eq_false h] at t1;rw[if_neg h];exact⟨_,bq (aq t1 rfl) (ax (fa rfl R.o rfl rfl rfl (aau rfl)) rfl),R.ob q s.tk (s.tn-1) .aC⟩
def Dn(ph H:PH)(I:List Int)(m q:Nat)(s:S)(y:LR):Prop:=
 (∃x H' q' s',(∀R f,gH I R f q s y=s.by x)/\mZ [.ref ph.length,y.a] H=.ok .aC H'/\PR ph H' I m q' s' (.str (aaz x))/\s'.told=s.told/\s'.tk=s.tk) \/
 (∃H' q',(∀R f,gH I R f q s y=s.by "nought")/\mZ [.ref ph.length,y.a] H=.ex ⟨"ByNought",[]⟩ H'/\PR ph H' I m q' s .aC) \/
 (∃H' q' s',(∀R f,gH I R f q s y=bK I R f q' s')/\mZ [.ref ph.length,y.a] H=.ok .aC H'/\PR ph H' I (m+1) q' s' .aC)
theorem Zo(R:PR ph H I m q s .aC)(y:LR)(ok:∀r,y=.r r->fe r)(hm:m<500000)(hI:∀x∈I,cA x):Dn ph H I m q s y:=by
 have R1:=R.ob (q+1) s.tk s.tn .aC;obtain⟨H1,e1⟩:∃H1,H1=H.set ph.length (.obj "Run" (oF ph.length (q+1) s.tn s.tk .aC)):=⟨_,rfl⟩
 rw[<- e1] at R1;have R1:PR ph H1 I m (q+1) s .aC:=R1;have a1:∀{w:W},kq oj "Run" "at" (aa 0) (eC (.int (1))) [some (.ref ph.length),some w] H=.ok (.nx [some (.ref ph.length),some w]) H1:=fun{w}=>by
  rw[e1];exact fa rfl R.o rfl rfl rfl (aau rfl)
 have gI:∀k,cA (I.getD k 0):=fun k=>by
  rw[abg];cases e:I[k]? with
  | none=>exact⟨by decide,by decide⟩
  | some x=>exact hI x (aaW e)
 have fin:∀{a:SM} {σ ao:aP} {H H':PH},a σ H=.ok (.nx ao) H'->aw (a σ) dH H=.ok .aC H':=fun h=>ax h rfl
 have hd:∀(n:Nm) {e:EM} {w:W},e [some (.ref ph.length),some w]=aA n.w->aO gd (af (aa 0) (af e ai)) [some (.ref ph.length),some w] H1=.ok (.int (s.g n)) H1:=fun n {e w} he=>ax (az rfl (az (by rw[he];rfl) rfl)) (W7 R1 n)
 unfold Dn mZ lx;simp only[gP];cases y with
 | fin=>
  exact .inl ⟨"done",_,_,_,fun _ _=>rfl,bq a1 (fin (aq (wq "end" rfl rfl) (aq (wq "end" rfl rfl) (aq (wq "end" rfl rfl) (aq (wq "end" rfl rfl) (aq (wq "end" rfl rfl) (aq (wq "end" rfl rfl) (aq (wq "end" rfl rfl) (aq (wq "end" rfl rfl) (fw rfl rfl R1.o (aau rfl))))))))))),R1.ob (q+1) s.tk s.tn (.str "done"),rfl,rfl⟩
 | go k=>
  exact .inr (.inr ⟨_,k,s,fun _ _=>rfl,bq a1 (fin (aq (wq "go" rfl rfl) (aq (wq "go" rfl rfl) (aq (wq "go" rfl rfl) (aq (wq "go" rfl rfl) (aq (wq "go" rfl rfl) (aq (wq "go" rfl rfl) (aq (wq "go" rfl rfl) (bc (wq "go" rfl rfl) (fw rfl rfl R1.o (aau rfl))))))))))),(R1.ob k s.tk s.tn .aC).up (acb _)⟩)
 | iff v k=>
  have t1:eT (ae cO (aO gd (af (aa 0) (af (ae ak (aa 1) (eC (.int (1)))) ai))) (eC (.int (0)))) [some (.ref ph.length),some (LR.iff v k).a] H1=.ok (!decide (gt s.bx v=0)) H1:=tB (op (hd (.b v) rfl) rfl (by rw[uz];rfl));have e2:i6 (eT (ae cO (aO gd (af (aa 0) (af (ae ak (aa 1) (eC (.int (1)))) ai))) (eC (.int (0))))) (ae ak (aa 1) (eC (.int (2)))) (b6 "Run" "at" (aa 0)) [some (.ref ph.length),some (LR.iff v k).a] H1=.ok (.int ((if gt s.bx v=0 then q+1 else k:Nat):Int)) H1:=by
   refine u4 t1 ?_;by_cases h:gt s.bx v=0
   ·rw[decide_eq_true h,if_pos h];exact fl R1.o rfl rfl
   ·rw[decide_eq_false h,if_neg h];rfl
  exact .inr (.inr ⟨_,(if gt s.bx v=0 then q+1 else k),s,fun _ _=>rfl,bq a1 (fin (aq (wq "if" rfl rfl) (aq (wq "if" rfl rfl) (aq (wq "if" rfl rfl) (aq (wq "if" rfl rfl) (aq (wq "if" rfl rfl) (aq (wq "if" rfl rfl) (bc (wq "if" rfl rfl) (fw e2 rfl R1.o (aau rfl)))))))))),(R1.ob (if gt s.bx v=0 then q+1 else k) s.tk s.tn .aC).up (acb _)⟩)
 | r x=>
  cases x with
  | put a n=>
   obtain⟨H2,h2,R2⟩:=nI (n:=.b a) (v:=n) (e:=ae ak (aa 1) (eC (.int (2)))) (i:=ae ak (aa 1) (eC (.int (1)))) (σ:=[some (.ref ph.length),some (LR.r (.put a n)).a]) (H:=H1) R1 (by omega) rfl rfl rfl (ok _ rfl);exact .inr (.inr ⟨H2,q+1,_,fun _ _=>rfl,bq a1 (fin (bc (wq "set" rfl rfl) h2)),R2⟩)
  | move a b=>
   obtain⟨H2,h2,R2⟩:=nI (n:=.b a) (i:=ae ak (aa 1) (eC (.int (1)))) (σ:=[some (.ref ph.length),some (LR.r (.move a b)).a]) R1 (by omega) rfl (hd (.b b) (e:=ae ak (aa 1) (eC (.int (2)))) rfl) rfl (R1.iz _);exact .inr (.inr ⟨H2,q+1,_,fun _ _=>rfl,bq a1 (fin (aq (wq "copy" rfl rfl) (bc (wq "copy" rfl rfl) h2))),R2⟩)
  | pull a b=>
   obtain⟨H2,h2,R2⟩:=nI (n:=.b a) (i:=ae ak (aa 1) (eC (.int (1)))) (σ:=[some (.ref ph.length),some (LR.r (.pull a b)).a]) R1 (by omega) rfl (hd (.s b) (e:=ae ak (aa 1) (eC (.int (2)))) rfl) rfl (R1.iz _);exact .inr (.inr ⟨H2,q+1,_,fun _ _=>rfl,bq a1 (fin (aq (wq "copy" rfl rfl) (bc (wq "copy" rfl rfl) h2))),R2⟩)
  | push a b=>
   obtain⟨H2,h2,R2⟩:=nI (n:=.s a) (i:=ae ak (aa 1) (eC (.int (1)))) (σ:=[some (.ref ph.length),some (LR.r (.push a b)).a]) R1 (by omega) rfl (hd (.b b) (e:=ae ak (aa 1) (eC (.int (2)))) rfl) rfl (R1.iz _);exact .inr (.inr ⟨H2,q+1,_,fun _ _=>rfl,bq a1 (fin (aq (wq "copy" rfl rfl) (bc (wq "copy" rfl rfl) h2))),R2⟩)
  | dR a w b c=>
   by_cases h0:w=.part/\gt s.bx c=0
   ·obtain⟨rfl,h0⟩:=h0;refine .inr (.inl ⟨H1,q+1,fun _ _=>?_,bq a1 (dY (aq (wq "do" rfl rfl) (aq (wq "do" rfl rfl) (bc (wq "do" rfl rfl) (dY (ax (az rfl (az (hd (.b b) rfl) (az (hd (.b c) rfl) rfl))) ?_)))))),R1⟩)
    ·simp only[gH,ck,if_pos h0]
    ·rw[show s.g (.b c)=0 from h0];exact W9 _ _
   ·obtain⟨H2,h2,R2⟩:=nI (n:=.b a) (e:=aO mQ (af (ae ak (aa 1) (eC (.int (2)))) (af (aO gd (af (aa 0) (af (ae ak (aa 1) (eC (.int (3)))) ai))) (af (aO gd (af (aa 0) (af (ae ak (aa 1) (eC (.int (4)))) ai))) ai)))) (H:=H1) (v:=dd w (gt s.bx b) (gt s.bx c)) (i:=ae ak (aa 1) (eC (.int (1)))) (σ:=[some (.ref ph.length),some (LR.r (.dR a w b c)).a]) R1 (by omega) rfl (ax (az rfl (az (hd (.b b) rfl) (az (hd (.b c) rfl) rfl))) (W8 w (R1.iz (.b c)) (fun z e=>h0 ⟨z,e⟩) H1)) rfl (Eu _ _ _);refine .inr (.inr ⟨H2,q+1,_,fun _ _=>?_,bq a1 (fin (aq (wq "do" rfl rfl) (aq (wq "do" rfl rfl) (bc (wq "do" rfl rfl) h2)))),R2⟩);cases w
    case part=>simp only[gH,ck,if_neg (fun z=>h0 ⟨rfl,z⟩)];rfl
    all_goals rfl
  | take a=>
   obtain⟨H2,h2,R2⟩:=UQ R1;obtain⟨H3,h3,R3⟩:=nI (n:=.b a) (e:=aO t9 (af (aa 0) ai)) (H:=H1) (v:=I.getD s.tk 0) (i:=ae ak (aa 1) (eC (.int (1)))) (σ:=[some (.ref ph.length),some (LR.r (.take a)).a]) R2 (by omega) rfl (ax (az rfl rfl) h2) rfl (gI _);exact .inr (.inr ⟨H3,q+1,_,fun _ _=>rfl,bq a1 (fin (aq (wq "take" rfl rfl) (aq (wq "take" rfl rfl) (aq (wq "take" rfl rfl) (bc (wq "take" rfl rfl) h3))))),R3⟩)
  | tell a=>
   have n1:=R1.nt;have ap:cu (bG b8 cF (b6 "Run" "told" (aa 0)) (af (aO gd (af (aa 0) (af (ae ak (aa 1) (eC (.int (1)))) ai))) ai)) [some (.ref ph.length),some (LR.r (.tell a)).a] H1=.ok (.nx [some (.ref ph.length),some (LR.r (.tell a)).a]) (H1.set (ph.length+3) (.lst (s.told.map W.int++[.int (gt s.bx a)]))):=by
    rw[pE,ka];exact ax (ax (fl R1.o rfl rfl) (ax (t8 R1.t) (ax (az (hd (.b a) rfl) rfl) (sH R1.t (aav (show _<1000000 by rw[aat];omega) (by decide)) _)))) rfl
   refine .inr (.inr ⟨_,q+1,{ s with told:=s.told++[gt s.bx a] },fun _ _=>rfl,bq a1 (fin (aq (wq "tell" rfl rfl) (aq (wq "tell" rfl rfl) (aq (wq "tell" rfl rfl) (aq (wq "tell" rfl rfl) (bc (wq "tell" rfl rfl) ap)))))),?_⟩);obtain⟨kws,b1,b2,b3⟩:=R1.h;refine⟨Ex.set R1.ex (by omega) _,(dw (by omega)).trans R1.o,(dw (by omega)).trans R1.i,⟨kws,(dw (by omega)).trans b1,⟨b2.ks,fun n=>(b2.gs n).trans (by cases n <;> rfl)⟩,by omega⟩,(iP R1.t).trans (by rw[acv];rfl),?_,R1.vb,R1.vl⟩;show(s.told++[gt s.bx a]).length<=m+1;rw[aas];exact Nat.succ_le_succ n1
  | turn=>
   obtain⟨H2,h2,R2⟩:=Xa R1;have b2:cu (aO si (af (aa 0) ai)) [some (.ref ph.length),some (LR.r .turn).a] H1=.ok (.nx [some (.ref ph.length),some (LR.r .turn).a]) H2:=ax (ax (az rfl rfl) h2) rfl;have whole:mZ [.ref ph.length,(LR.r .turn).a] H=.ok .aC H2:=bq a1 (fin (aq (wq "turn" rfl rfl) (aq (wq "turn" rfl rfl) (aq (wq "turn" rfl rfl) (aq (wq "turn" rfl rfl) (aq (wq "turn" rfl rfl) (bc (wq "turn" rfl rfl) b2)))))));by_cases h:s.tn=0
   ·rw[if_pos h] at R2;exact .inl ⟨"dry",H2,q+1,_,fun _ _=>by simp only[gH,ck,if_pos h],whole,R2,rfl,rfl⟩
   ·rw[if_neg h] at R2;exact .inr (.inr ⟨H2,q+1,_,fun _ _=>by simp only[gH,ck,if_neg h],whole,R2.up (acb _)⟩)
end
theorem Hk(hn:(cY t b n σ ph).n8=false):fG t b σ ph=cY t b n σ ph:=by
 have he:∃n,(cY t b n σ ph).n8=false:=⟨n,hn⟩
 unfold fG;rw[dif_pos he];have hc:=he.choose_spec;by_cases Hl:n<=he.choose
 ·rw[Ef Hl hn]
 ·rw[<- Ef (Nat.le_of_not_le Hl) hc]
abbrev i9:TM:=eT (ae lS (b6 "Run" "word" (aa 3)) (eC .aC))
abbrev so(ri ii:Nat)(tn:Int)(p:Nat):aP:=[some (.ref ri),some (.ref ii),some (.int tn),some (.ref p)]
section
variable{ph:PH}{ri ii:Nat}{tn:Int}{I:List Int}{R:List LR}
theorem za(hR:ph[ri]? =some (.lst (R.map LR.a))){H:PH}{m q:Nat}{s:S}{wd:W}{y:LR}(P:PR ph H I m q s wd)(hy:R[q]? =some y):af (aa 3) (af (i6 (eT (ae fi (b6 "Run" "at" (aa 3)) (bS fg (af (aa 0) ai)))) (ae ak (aa 0) (b6 "Run" "at" (aa 3))) (a9 (af (eC (.str "end")) ai))) ai) (so ri ii tn ph.length) H=.ok [.ref ph.length,y.a] H:=by
 have hq:=(aal.mp hy).1;have g:=P.ex.get hR;have Hm:b6 "Run" "at" (aa 3) (so ri ii tn ph.length) H=.ok (.int q) H:=fl P.o rfl rfl;have ln:bS fg (af (aa 0) ai) (so ri ii tn ph.length) H=.ok (.int R.length) H:=ax (az rfl rfl) ((t7 g).trans (by rw[aat]));refine az rfl (az (u4 (c:=decide ((q:Int)<(R.length:Int))) (tB (op Hm ln rfl)) ?_) rfl);rw[decide_eq_true (by omega)];refine op rfl Hm (fE g ?_);rw[gc _ _ (by rw[aat];exact hq),aaN,hy];rfl
theorem F6(hR:ph[ri]? =some (.lst (R.map LR.a)))(ok:∀r,LR.r r∈R->fe r)(hI:∀x∈I,cA x):∀(f m q:Nat) (s:S) (H:PH),PR ph H I m q s .aC->m+f<=400000->gQ (bK I R f q s) →
  ∃(n:Nat) (H':PH) (x:String) (m' q':Nat) (s' s2:S),bK I R f q s=s'.by x/\s2.told=s'.told/\s2.tk=s'.tk/\((cY i9 gy n (so ri ii tn ph.length) H=.ok (.nx (so ri ii tn ph.length)) H'/\PR ph H' I m' q' s2 (.str (aaz x)))\/(x="nought"/\cY i9 gy n (so ri ii tn ph.length) H=.ex ⟨"ByNought",[]⟩ H'/\PR ph H' I m' q' s2 .aC))
 | 0,m,q,s,H,P,hm,hF=>absurd rfl hF
 | f+1,m,q,s,H,P,hm,hF=>by
  cases hy:R[q]? with
  | none=>
   refine absurd ?_ hF;unfold bK;rw[hy];rfl
  | some y=>
   have t1:i9 (so ri ii tn ph.length) H=.ok true H:=tB (op (fl P.o rfl rfl) rfl rfl);have hl:∀R' f,R'=R->bK I R' (f+1) q s=gH I R' f q s y:=fun R' f z=>ke (by rw[z];exact hy)
   rcases Zo P y (fun r z=>ok r (z▸aaW hy)) (by omega) hI with⟨x,H',q',s',h1,h2,P',e1,e2⟩ | ⟨H',q',h1,h2,P'⟩ | ⟨H',q',s',h1,h2,P'⟩
   ·have t2:i9 (so ri ii tn ph.length) H'=.ok false H':=tB (op (fl P'.o rfl rfl) rfl rfl);have l1:gy (so ri ii tn ph.length) H=.ok (.nx (so ri ii tn ph.length)) H':=ax (ax (za hR P hy) h2) rfl;exact⟨2,H',x,m,q',s,s',by rw[hl R f rfl,h1],e1,e2,.inl ⟨ax t1 (ax l1 (ax t2 rfl)),P'⟩⟩
   ·have l1:gy (so ri ii tn ph.length) H=.ex ⟨"ByNought",[]⟩ H':=dY (ax (za hR P hy) h2);exact⟨1,H',"nought",m,q',s,s,by rw[hl R f rfl,h1],rfl,rfl,.inr ⟨rfl,ax t1 (dY l1),P'⟩⟩
   ·have l1:gy (so ri ii tn ph.length) H=.ok (.nx (so ri ii tn ph.length)) H':=ax (ax (za hR P hy) h2) rfl;have e:=(hl R f rfl).trans (h1 R f);rw[e] at hF ⊢;obtain⟨n,H2,x,m',q2,s2,s3,g1,g2,g3,g4⟩:=F6 hR ok hI f (m+1) q' s' H' P' (by omega) hF;refine⟨n+1,H2,x,m',q2,s2,s3,g1,g2,g3,?_⟩
    rcases g4 with⟨z,P2⟩ | ⟨zx,z,P2⟩
    ·exact .inl ⟨ax t1 (ax l1 z),P2⟩
    ·exact .inr ⟨zx,ax t1 (ax l1 z),P2⟩
theorem mn{f:Str}{v:EM}{a b:Option W}{fs:List (Str×W)}{l l':List PO}{w:W}(hv:v [some (.ref ph.length),a,b] (ph++.obj "Run" fs::l)=.ok w (ph++.obj "Run" fs::l'))(hz:fs.length<1000):dA "Run" f (aa 0) v [some (.ref ph.length),a,b] (ph++.obj "Run" fs::l)=.ok (.nx [some (.ref ph.length),a,b]) (ph++.obj "Run" (iT f w fs)::l'):=by
 have h:(ph++PO.obj "Run" fs::l')[ph.length]? =some (.obj "Run" fs):=by simp
 refine(fw hv rfl h hz).trans ?_
 congr 1
 rw[adB _ _ (aar _),Nat.sub_self];rfl
theorem Xb(hi:ph[ii]? =some (.lst (I.map W.int))):∃H,p7 "Run" pf (af (aa 1) (af (aa 2) ai)) [some (.ref ri),some (.ref ii),some (.int tn),none] ph=.ok (.ref ph.length) H/\PR ph H I 0 0 ⟨[],[],[],0,tn⟩ .aC:=by
 refine⟨ph++.obj "Run" (oF ph.length 0 tn 0 .aC)::[.lst (I.map W.int),.cc [],.lst []],?_,?_⟩
 ·have key:pf [.ref ph.length,.ref ii,.int tn] (ph++[.obj "Run" []])=.ok .aC (ph++.obj "Run" (oF ph.length 0 tn 0 .aC)::[.lst (I.map W.int),.cc [],.lst []]):=by
   unfold pf lm;rw[gn];have c1:∀{l:List PO} (o:PO),(ph++o::l).length=ph.length+1+l.length:=fun{l} o=>by rw[aas,aaP];omega
   have lv:bS gm (af (aa 1) ai) [some (.ref ph.length),some (.ref ii),some (.int tn)] (ph++.obj "Run" []::[])=.ok (.ref (ph.length+1)) (ph++.obj "Run" []::[.lst (I.map W.int)]):=by
    refine(ax (az rfl rfl) (td ((Ex.one _ _).get hi))).trans ?_;rw[c1,acs];rfl
   have dv:∀{fs:List (Str×W)},uR [some (.ref ph.length),some (.ref ii),some (.int tn)] (ph++.obj "Run" fs::[.lst (I.map W.int)])=.ok (.ref (ph.length+2)) (ph++.obj "Run" fs::[.lst (I.map W.int),.cc []]):=fun{fs}=>by
    rw[Uo,Up,c1,acs];rfl
   have tv:∀{fs:List (Str×W)},bg ai [some (.ref ph.length),some (.ref ii),some (.int tn)] (ph++.obj "Run" fs::[.lst (I.map W.int),.cc []])=.ok (.ref (ph.length+3)) (ph++.obj "Run" fs::[.lst (I.map W.int),.cc [],.lst []]):=fun{fs}=>by
    show Out.ok (W.ref (ph++PO.obj "Run" fs::[PO.lst (I.map W.int),.cc []]).length) _=_;rw[c1,acs];rfl
   exact bq (mn lv (aau rfl)) (bq (mn rfl (aau rfl)) (bq (mn rfl (aau rfl)) (bq (mn dv (aau rfl)) (bq (mn tv (aau rfl)) (bq (mn rfl (aau rfl)) (ax (mn rfl (aau rfl)) rfl))))))
  have k2:eK (pf [.ref ph.length,.ref ii,.int tn]) (ph++[.obj "Run" []])=.ok .aC (ph++.obj "Run" (oF ph.length 0 tn 0 .aC)::[.lst (I.map W.int),.cc [],.lst []]):=by
   unfold eK;rw[key]
  exact ax (az rfl (az rfl rfl)) (ax k2 rfl)
 ·have vJ:∀(k:Nat) (o:PO),(PO.obj "Run" (oF ph.length 0 tn 0 .aC)::[PO.lst (I.map W.int),.cc [],.lst []])[k]? =some o->(ph++PO.obj "Run" (oF ph.length 0 tn 0 .aC)::[PO.lst (I.map W.int),.cc [],.lst []])[ph.length+k]? =some o:=fun k o h=>by
   rw[abd (by omega),show ph.length+k-ph.length=k by omega];exact h
  exact⟨⟨_,rfl⟩,vJ 0 _ rfl,vJ 1 _ rfl,⟨[],vJ 2 _ rfl,⟨fun p hp=>(nomatch hp),fun n=>by cases n <;> rfl⟩,aar _⟩,vJ 3 _ rfl,aar _,fun p hp=>(nomatch hp),fun p hp=>(nomatch hp)⟩
theorem Yw(hR:ph[ri]? =some (.lst (R.map LR.a)))(ok:∀r,LR.r r∈R->fe r)(hi:ph[ii]? =some (.lst (I.map W.int)))(hI:∀x∈I,cA x){f:Nat}(hf:f<=400000)(hF:gQ (bK I R f 0 ⟨[],[],[],0,tn⟩)) :
  ∃(H':PH) (x:String) (s':S),wI [.ref ri,.ref ii,.int tn] ph=.ok (.tup [.str (aaz x),.ref (ph.length+3),.int s'.tk]) H'/\Ex ph H'/\H'[ph.length+3]? =some (.lst (s'.told.map W.int))/\bK I R f 0 ⟨[],[],[],0,tn⟩=s'.by x:=by
 obtain⟨H0,i0,P0⟩:=Xb (ri:=ri) (tn:=tn) hi;obtain⟨n,H1,x,m',q',s',s2,g1,g2,g3,g4⟩:=F6 (ii:=ii) (tn:=tn) hR ok hI f 0 0 _ H0 P0 (by omega) hF;have st:∀{σ:aP} {H:PH} {m q:Nat},aa 3 σ=aA (.ref ph.length)->PR ph H I m q s2 (.str (aaz x))->a8 (a9 (af (b6 "Run" "word" (aa 3)) (af (b6 "Run" "told" (aa 3)) (af (b6 "Run" "takes" (aa 3)) ai)))) σ H=.ok (.rt (.tup [.str (aaz x),.ref (ph.length+3),.int s'.tk])) H:=fun{σ H m q} h P=>by
  have h':aa 3 σ H=.ok (.ref ph.length) H:=by rw[h];rfl
  rw[<- g3];exact retS (ax (az (fl P.o h' rfl) (az (fl P.o h' rfl) (az (fl P.o h' rfl) rfl))) rfl)
 unfold wI ls;rw[gn]
 rcases g4 with⟨z,P⟩ | ⟨zx,z,P⟩
 ·have hw:fG i9 gy (so ri ii tn ph.length) H0=.ok (.nx (so ri ii tn ph.length)) H1:=by rw[Hk (by rw[z];rfl),z]
  have tr:nR [("ByNought",true)] 3 (fG i9 gy) (dA "Run" "word" (aa 3) (eC (.str "nought"))) (so ri ii tn ph.length) H0=.ok (.nx (so ri ii tn ph.length)) H1:=by
   show(match fG i9 gy (so ri ii tn ph.length) H0 with
    | .ex x ph'=>_
    | .ok f ph'=>Out.ok f ph'
    | .no=>.no)=_
   rw[hw]
  exact⟨H1,x,s',bq (asg i0) (bq tr (ax (st rfl P) rfl)),P.ex,g2▸P.t,g1⟩
 ·subst zx;have hw:fG i9 gy (so ri ii tn ph.length) H0=.ex ⟨"ByNought",[]⟩ H1:=by rw[Hk (by rw[z];rfl),z]
  have P2:=P.ob q' s2.tk s2.tn (.str "nought");obtain⟨H2,e2⟩:∃H2,H2=H1.set ph.length (.obj "Run" (oF ph.length q' s2.tn s2.tk (.str "nought"))):=⟨_,rfl⟩
  rw[<- e2] at P2;have wr:dA "Run" "word" (aa 3) (eC (.str "nought")) [none,none,none,some (.ref ph.length)] H1=.ok (.nx [none,none,none,some (.ref ph.length)]) H2:=by
   rw[e2];exact fw rfl rfl P.o (aau rfl)
  have tr:nR [("ByNought",true)] 3 (fG i9 gy) (dA "Run" "word" (aa 3) (eC (.str "nought"))) (so ri ii tn ph.length) H0=.ok (.nx [none,none,none,some (.ref ph.length)]) H2:=by
   show(match fG i9 gy (so ri ii tn ph.length) H0 with
    | .ex x ph'=>if([("ByNought",true)]:List (Str×Bool)).lookup x.cls=some true/\x.fs.isEmpty=true then oI (dA "Run" "word" (aa 3) (eC (.str "nought")) [none,none,none,some (.ref ph.length)]) ph' else .no
    | .ok f ph'=>Out.ok f ph'
    | .no=>.no)=_
   rw[hw];simp only;rw[if_pos ⟨rfl,rfl⟩];unfold oI;rw[wr]
  exact⟨H2,"nought",s',bq (asg i0) (bq tr (ax (st rfl P2) rfl)),P2.ex,g2▸P2.t,g1⟩
end
def dZ:W->Bool
 | .int v=>decide (-2147483648<=v)&&decide (v<2147483648)
 | _=>false
def Kn:W->Prop
 | .int _=>True
 | .bl _=>True
 | .str _=>True
 | .aC=>True
 | _=>False
theorem eB{e:EM}(h:e σ ph=.ok (.bl c) ph1):cb e σ ph=.ok c ph1:=ax h rfl
theorem oO(h:t σ ph=.ok false ph1):c4 t σ ph=.ok true ph1:=ax h rfl
theorem eU(h:t σ ph=.ok true ph1):c4 t σ ph=.ok false ph1:=ax h rfl
theorem yD(h1: -2147483648<=v)(h2:v<2147483648):dZ (.int v)=true:=by
 show(decide (-2147483648<=v)&&decide (v<2147483648))=true;rw[decide_eq_true h1,decide_eq_true h2];rfl
theorem oT{a b:TM}(h:a σ ph=.ok true ph1):dc a b σ ph=.ok true ph1:=ax h rfl
theorem iA{a b:TM}{r:Out Bool}(h:a σ ph=.ok false ph1)(h2:b σ ph1=r):dc a b σ ph=r:=ax h h2
theorem fu{e:EM}{c:String}{w:W}{b:Bool}(h:e σ ph=.ok w ph1)(h2:lift (fU c w) ph1=.ok (.bl b) ph1):dX c e σ ph=.ok (.bl b) ph1:=ax h h2
theorem xZ{w:W}(h:Kn w)(H:PH):mL [w] H=.ok (.bl (dZ w)) H:=by
 unfold mL j2;rw[fQ];cases w with
 | int v=>
  have t1:dc (c4 (cb (dX "int" (aa 0)))) (cb (dX "bool" (aa 0))) [some (.int v)] H=.ok false H:=iA (eU (eB (fu rfl (congrFun (om "int" v) H)))) (eB (fu rfl (congrFun (om "bool" v) H)));refine bq (aq t1 rfl) (br ?_);rw[px];refine ax (a:=.int (-2147483648)) rfl (ax (a:=.int v) rfl (ax (a:=.bl (decide (-2147483648<=v))) rfl ?_));show _=Out.ok (W.bl (decide (-2147483648<=v)&&decide (v<2147483648))) H;cases decide (-2147483648<=v) <;> rfl
 | bl b=>exact c7 (bc (iA (eU (eB (fu rfl (congrFun (uU "int" b) H)))) (eB (fu rfl (congrFun (uU "bool" b) H)))) (retS rfl))
 | str x=>exact c7 (bc (oT (oO (eB (fu rfl (congrFun (uW "int" x) H))))) (retS rfl))
 | aC=>exact c7 (bc (oT (oO (eB (fu rfl (congrFun (uV "int") H))))) (retS rfl))
 | _=>exact h.elim
section
variable{ph:PH}{ii ri:Nat}{ws:List W}{t:W}
theorem yE(hi:ph[ii]? =some (.lst ws))(hl:ws.length<=1000000)(hk:∀w∈ws,Kn w):∃H',cb (bS kE (af (dO (gF (aa 0)) [none] (gN 0) eA (aO mL (af (aa 0) ai))) ai)) [some (.ref ii),some t] ph=.ok (ws.all dZ) H'/\Ex ph H':=by
 obtain⟨H',c1,x⟩:=xa (cap:=[none]) (g:=gN 0) (c:=eA) (e:=aO mL (af (aa 0) ai)) (σ:=[some (.ref ii),some t]) ws (fun w=>w) (by rw[List.map_id'];exact sT (m:=aa 0) rfl hi) (fun p x=>decide_eq_true (x.get hi)) (small hl) (fun w=>some (.bl (dZ w))) (fun σ=>∃o,σ=[o]) ⟨_,rfl⟩
  (fun w hw σ H hS x=>by
   obtain⟨o,rfl⟩:=hS;exact⟨_,rfl,⟨_,rfl⟩,true,H,rfl,Ex.refl _,.inr ⟨rfl,_,H,ax (az rfl rfl) (xZ (hk w hw) H),Ex.refl _,rfl⟩⟩)
 have e:ws.filterMap (fun w=>some (W.bl (dZ w)))=(ws.map dZ).map W.bl:=by
  rw[adA,<- adC];rfl
 rw[e] at x;refine⟨H',eB (ax (az c1 rfl) ((Ds (x.get (bN _ _))).trans ?_)),(Ex.one _ _).trans x⟩;rw[List.all_map];rfl
theorem UR(hi:ph[ii]? =some (.lst ws))(hl:ws.length<=1000000)(hk:∀w∈ws,Kn w)(ha:ws.all dZ=true){tn:Int}(h0:0<=tn)(h1:tn<=10000):∃H',gz [.ref ii,.int tn] ph=.ok .aC H'/\Ex ph H':=by
 obtain⟨H',c,x⟩:=yE (t:=.int tn) hi hl hk;rw[ha] at c;refine⟨H',?_,x⟩;unfold gz iH;rw[gP];have n1:dZ (.int tn)=true:=yD (by omega) (by omega);have c1:=xZ (w:=.int tn) trivial H';rw[n1] at c1;have c2:eT (jl l7 l7 (eC (.int (0))) (aa 1) (eC (.int (10000)))) [some (.ref ii),some (.int tn)] H'=.ok true H':=by
  refine tB ?_;rw[px];refine ax (a:=.int 0) rfl (ax (a:=.int tn) rfl (ax (a:=.bl (decide (0<=tn))) rfl ?_));rw[decide_eq_true h0];show Out.ok (W.bl (decide (tn<=10000))) H'=_;rw[decide_eq_true h1]
 refine bq (aq (iA (eU (eB (fu rfl (ui hi)))) (eU c)) rfl) (ax (aq (iA (eU (eB (ax (az rfl rfl) c1))) (eU c2)) rfl) rfl)
theorem US(hi:ph[ii]? =some (.lst ws))(hl:ws.length<=1000000)(hk:∀w∈ws,Kn w)(ha:ws.all dZ=false):∃H',gz [.ref ii,t] ph=.ex ⟨"BadRun",[]⟩ H'/\Ex ph H':=by
 obtain⟨H',c,x⟩:=yE (t:=t) hi hl hk;rw[ha] at c;refine⟨H',?_,x⟩;unfold gz iH;rw[gP];exact dY (dY (bc (iA (eU (eB (fu rfl (ui hi)))) (oO c)) rfl))
theorem DB{w:W}(h:lift (fU "list" w) ph=.ok (.bl false) ph):gz [w,t] ph=.ex ⟨"BadRun",[]⟩ ph:=by
 unfold gz iH;rw[gP];exact dY (dY (bc (oT (oO (eB (fu rfl h)))) rfl))
theorem UT(hi:ph[ii]? =some (.lst ws))(hl:ws.length<=1000000)(hk:∀w∈ws,Kn w)(ha:ws.all dZ=true)(ht:Kn t)(h:dZ t=false\/∃v,t=.int v/\(v<0\/10000<v)):∃H',gz [.ref ii,t] ph=.ex ⟨"BadRun",[]⟩ H'/\Ex ph H':=by
 obtain⟨H',c,x⟩:=yE (t:=t) hi hl hk;rw[ha] at c;refine⟨H',?_,x⟩;have c1:=xZ ht H';unfold gz iH;rw[gP];refine bq (aq (iA (eU (eB (fu rfl (ui hi)))) (eU c)) rfl) (dY (bc ?_ rfl));cases hn:dZ t with
 | false=>
  rw[hn] at c1;exact oT (oO (eB (ax (az rfl rfl) c1)))
 | true=>
  rw[hn] at c1
  rcases h with h | ⟨v,rfl,hv⟩
  ·rw[hn] at h;cases h
  ·refine iA (eU (eB (ax (az rfl rfl) c1))) (oO (tB ?_));rw[px];refine ax (a:=.int 0) rfl (ax (a:=.int v) rfl (ax (a:=.bl (decide (0<=v))) rfl ?_));by_cases h0:0<=v
   ·rw[decide_eq_true h0];show Out.ok (W.bl (decide (v<=10000))) H'=_;rw[decide_eq_false (by omega)]
   ·rw[decide_eq_false h0];rfl
theorem RK{rows vK:W}{H':PH}(h:gz [vK,t] ph=.ex ⟨"BadRun",[]⟩ H'):oV [rows,vK,t] ph=.ok (.bl true) H':=by
 have l1:g9 [rows,vK,t] ph=.ex ⟨"BadRun",[]⟩ H':=by
  unfold g9 g8;rw[gn];exact dY (dY (dY (ax (az rfl (az rfl rfl)) h)))
 unfold oV j0;rw[gn];refine c7 ?_;unfold nB;have b1:cu (aO g9 (af (aa 0) (af (aa 1) (af (aa 2) ai)))) (some rows::some vK::some t::aap (4-3) none) ph=.ex ⟨"BadRun",[]⟩ H':=dY (ax (az rfl (az rfl (az rfl rfl))) l1);rw[b1];simp only;rw[if_pos ⟨rfl,rfl⟩];rfl
theorem ya{I:List Int}{R:List LR}{tn:Int}(hR:ph[ri]? =some (.lst (R.map LR.w)))(ok:∀r,LR.r r∈R->fe r)(hi:ph[ii]? =some (.lst (I.map W.int)))(hI:∀x∈I,cA x)(hIl:I.length<=100000)(Hn:R.length<=1000)(h0:0<=tn)(h1:tn<=10000){f:Nat}(hf:f<=400000)(hF:gQ (bK I R f 0 ⟨[],[],[],0,tn⟩)) :
  ∃(H':PH) (k:Nat) (x:String) (s':S),g9 [.ref ri,.ref ii,.int tn] ph=.ok (.tup [.str (aaz x),.ref k,.int s'.tk]) H'/\Ex ph H'/\ph.length<=k/\H'[k]? =some (.lst (s'.told.map W.int))/\bK I R f 0 ⟨[],[],[],0,tn⟩=s'.by x:=by
 obtain⟨H1,n1,x1⟩:=UR hi (by rw[aat];omega) (fun w hw=>by
  obtain⟨v,_,rfl⟩:=abV.mp hw
  trivial) (by
  rw[abA];intro w hw;obtain⟨v,hv,rfl⟩:=abV.mp hw;obtain⟨z1,z2⟩:=hI v hv;exact yD (by omega) (by omega)) h0 h1
 obtain⟨H2,c1,x2⟩:=xa (cap:=[none]) (g:=gN 0) (c:=eA) (e:=aO jc (af (aa 0) ai)) (σ:=[some (.ref ri),some (.ref ii),some (.int tn)]) R LR.w (sT (m:=aa 0) rfl (x1.get hR)) (fun p x=>decide_eq_true (x.get (x1.get hR))) (small (by omega)) (fun y=>some y.a) (fun σ=>∃o,σ=[o]) ⟨_,rfl⟩
  (fun y hy σ H hS x=>by
   obtain⟨o,rfl⟩:=hS;exact⟨_,rfl,⟨_,rfl⟩,true,H,rfl,Ex.refl _,.inr ⟨rfl,_,H,ax (az rfl rfl) (Zn y H),Ex.refl _,rfl⟩⟩)
 have e:R.filterMap (fun y=>some y.a)=R.map LR.a:=by rw[<- adC];rfl
 rw[e] at x2;have Ac:Ex ph H2:=x1.trans ((Ex.one _ _).trans x2);obtain⟨H3,x,s',o1,x3,t3,l3⟩:=Yw (x2.get (bN _ _)) ok (Ac.get hi) hI hf hF;refine⟨H3,_,x,s',?_,Ac.trans x3,?_,t3,l3⟩
 ·unfold g9 g8;rw[gn];exact bq (ax (ax (az rfl (az rfl rfl)) n1) rfl) (br (ax (az c1 (az rfl (az rfl rfl))) o1))
 ·obtain⟨l,z⟩:=Ac;rw[z,aas];omega
end
def LR.to:LR->List Nat
 | .iff _ k=>[k]
 | .go k=>[k]
 | _=>[]
def Gl(n p:Nat)(TL:List Nat)(g:Nat):Prop:=(p<g/\g<=n)\/g∈TL
theorem Xc{ti p:Nat}{TL:List Nat}(mo:Int)(ht:ph[ti]? =some (.lst (iw TL)))(hp:p<n):∃g H',kZ [.int mo,.int p,.int n,.ref ti] ph=.ok (.int ((g:Nat):Int)) H'/\Ex ph H'/\Gl n p TL g:=by
 obtain⟨H1,e1⟩:∃H1,H1=ph++[PO.lst []]:=⟨_,rfl⟩
 have x1:Ex ph H1:=e1▸Ex.one _ _;have g1:=x1.get ht;have et:eT (ae cO (aa 3) (bg ai)) [some (.int mo),some (.int p),some (.int n),some (.ref ti)] ph=.ok (!(iw TL).isEmpty) H1:=tB (op (x:=.ref ti) (y:=.ref ph.length) (ph2:=H1) rfl (by rw[e1];rfl) (uB (eq_nil g1 (by rw[e1];exact bN _ _) (ji (dat _ 39) (fun x:Nat=>W.int x) (fun x:Nat=>acY (x:Int)) (fun x=>c0 _ 39 x) TL))));have m2:eT (ae aN (ae aS (aa 0) (eC (.int (2)))) (eC (.int (1)))) [some (.int mo),some (.int p),some (.int n),some (.ref ti)] H1=.ok (decide (mo.fmod 2=1)) H1:=eI (md rfl rfl (by decide)) rfl;have d2:ae aZ (aa 0) (eC (.int (2))) [some (.int mo),some (.int p),some (.int n),some (.ref ti)] H1=.ok (.int (mo.fdiv 2)) H1:=dv rfl rfl (by decide) (by decide);have away:∀{H2:PH},df (eT (ae cO (aa 3) (bg ai))) (eT (ae aN (ae aS (aa 0) (eC (.int (2)))) (eC (.int (1))))) [some (.int mo),some (.int p),some (.int n),some (.ref ti)] ph=.ok false H1->∃g H',kZ [.int mo,.int p,.int n,.ref ti] ph=.ok (.int ((g:Nat):Int)) H'/\Ex ph H'/\Gl n p TL g:=fun{H2} t=>by
  obtain⟨m,hm,em⟩:=er (a:=mo.fdiv 2) (n:=(n:Int)-(p:Int)) (by omega);refine⟨p+1+m,H1,?_,x1,.inl ⟨by omega,by omega⟩⟩;unfold kZ jZ;rw[uT];rw[show((p+1+m:Nat):Int)=(p:Int)+1+(m:Int) by omega,<- em];exact bq (aq t rfl) (br (ad (ad rfl rfl) (md d2 (sb rfl rfl) (by omega))))
 cases TL with
 | nil=>exact away (H2:=ph) (tF et)
 | cons a TL=>
  by_cases h1:mo.fmod 2=1
  ·rw[decide_eq_true h1] at m2;obtain⟨m,hm,em⟩:=er (a:=mo.fdiv 2) (n:=((a::TL).length:Int)) (by simp);obtain⟨g,hg⟩:∃g,(a::TL)[m]? =some g:=Fn (by omega);refine⟨g,H1,?_,x1,.inr (aaW hg)⟩;unfold kZ jZ;rw[uT];refine c7 (bc (tT et m2) (retS (op (y:=.int m) rfl ?_ (Ys g1 hg))));rw[<- em];exact md d2 (ax (az rfl rfl) ((t7 g1).trans (by rw[xW]))) (by simp;omega)
  ·rw[decide_eq_false h1] at m2;exact away (H2:=ph) (tT et m2)
structure GI(ph H:PH)(n:Nat)(lo:Bool)(j:Nat)(R:List LR)(TL:List Nat):Prop where
 ex:Ex ph H
 r:H[ph.length]? =some (.lst (R.map LR.w))
 t:H[ph.length+1]? =some (.lst (iw TL))
 len:R.length=j
 tl:TL.length<=j
 vL:∀t∈TL,R[t]? =some (.r .turn)
 ok:∀r,LR.r r∈R->fe r
 jm:∀(p:Nat) y,R[p]? =some y->∀k∈y.to,Gl n p TL k
 lp:lo=true->0<j->0∈TL
abbrev sg(ns:List Int)(n:Nat)(bx sl:Int)(lo:Bool)(p:Nat)(o8 o9 o10:Option W):aP:=[some (.fl (ns.map W.int)),some (.int n),some (.int bx),some (.int sl),some (.bl lo),some (.int 3),some (.ref p),some (.ref (p+1)),o8,o9,o10]
section
variable{ph H:PH}{n j:Nat}{lo:Bool}{R:List LR}{TL:List Nat}
theorem GI.mono{H1:PH}(G:GI ph H n lo j R TL)(x:Ex H H1):GI ph H1 n lo j R TL:=⟨G.ex.trans x,x.get G.r,x.get G.t,G.len,G.tl,G.vL,G.ok,G.jm,G.lp⟩
theorem GI.row(G:GI ph H n lo j R TL){y:LR}(h:∀k∈y.to,Gl n j TL k)(ok:∀r,y=.r r->fe r)(h0:lo=true->0<j):GI ph (H.set ph.length (.lst (R.map LR.w++[y.w]))) n lo (j+1) (R++[y]) TL:=by
 have hl:=G.len;have Ho:=G.tl;refine⟨Ex.set G.ex (aar _) _,(iP G.r).trans (by rw[acv];rfl),(dw (by omega)).trans G.t,by rw[aas,hl];rfl,by omega,fun t ht=>?_,fun r hr=>?_,fun p z hz k hk=>?_,fun z _=>G.lp z (h0 z)⟩
 ·have:=G.vL t ht;rw[aaS (aal.mp this).1];exact this
 ·rcases abu.mp hr with z | z
  ·exact G.ok r z
  ·exact ok r (abc.mp z).symm
 ·by_cases hp:p<R.length
  ·rw[aaS hp] at hz;exact G.jm p z hz k hk
  ·have gU:=(aal.mp hz).1;rw[aas,abr] at gU;have hpj:p=j:=by omega
   subst hpj;rw[abd (by omega),show p-R.length=0 by omega] at hz;cases hz;exact h k hk
theorem GI.turn(G:GI ph H n lo j R TL):GI ph ((H.set (ph.length+1) (.lst (iw TL++[.int j]))).set ph.length (.lst (R.map LR.w++[(LR.r .turn).w]))) n lo (j+1) (R++[.r .turn]) (TL++[j]):=by
 have hl:=G.len;have Ho:=G.tl;refine⟨Ex.set (Ex.set G.ex (by omega) _) (aar _) _,(iP (dw (by omega) |>.trans G.r)).trans (by rw[acv];rfl),(dw (by omega)).trans ((iP G.t).trans (by rw[WW];rfl)),by rw[aas,hl];rfl,by rw[aas,abr];omega,fun t ht=>?_,fun r hr=>?_,fun p z hz k hk=>?_,fun z h0=>?_⟩
 ·rcases abu.mp ht with z | z
  ·have:=G.vL t z;rw[aaS (aal.mp this).1];exact this
  ·rw[abc.mp z,abd (by omega),show j-R.length=0 by omega];rfl
 ·rcases abu.mp hr with z | z
  ·exact G.ok r z
  ·cases abc.mp z;trivial
 ·by_cases hp:p<R.length
  ·rw[aaS hp] at hz;exact(G.jm p z hz k hk).imp id (abI _)
  ·have gU:=(aal.mp hz).1;rw[aas,abr] at gU;rw[abd (by omega),show p-R.length=0 by omega] at hz;cases hz;cases hk
 ·by_cases hj:0<j
  ·exact abI _ (G.lp z hj)
  ·exact aba _ (by rw[show j=0 by omega];exact acD _)
theorem Xd(ns:List Int){bx sl:Int}{o9 o10:Option W}(G:GI ph H n lo j R TL)(hj:j<n)(hn:n<=100)(hb:0<bx/\bx<100)(hs:0<sl/\sl<100) :
  ∃H' R' kS vM u5,rp (sg ns n bx sl lo ph.length (some (.int j)) o9 o10) H=.ok (.nx (sg ns n bx sl lo ph.length (some (.int j)) vM u5)) H'/\GI ph H' n lo (j+1) R' kS:=by
 have hl:=G.len;have Ho:=G.tl;have jV:bx≠0:=by omega
 have vI:sl≠0:=by omega
 obtain⟨c,a1⟩:∃c:Int,aK (ae aS (ae b0 (ae addW (aO c8 (af (aa 0) (af (ae addW (aa 5) (aa 8)) ai))) (ae b0 (eC (.int (7919))) (aa 8))) (eC (.int (48271)))) (eC (.int (2147483647)))) (gN 9) (sg ns n bx sl lo ph.length (some (.int j)) o9 o10) H=.ok (.nx (sg ns n bx sl lo ph.length (some (.int j)) (some (.int c)) o10)) H:=
  ⟨_,asg (md (ml (ad (cl rfl (ad rfl rfl) (by omega)) (ml rfl rfl (Er (by decide) (by decide)))) rfl (jn (by decide) (by decide))) rfl (by decide))⟩
 obtain⟨g,H1,b1,x1,hg⟩:=Xc (c.fdiv 160) G.t hj;have G1:=G.mono x1;have a2:aK (aO kZ (af (ae aZ (aa 9) (eC (.int (160)))) (af (aa 8) (af (aa 1) (af (aa 7) ai))))) (gN 10) (sg ns n bx sl lo ph.length (some (.int j)) (some (.int c)) o10) H=.ok (.nx (sg ns n bx sl lo ph.length (some (.int j)) (some (.int c)) (some (.int g)))) H1:=asg (ax (az (dv rfl rfl (by decide) (by decide)) (az rfl (az rfl (az rfl rfl)))) b1);obtain⟨σ,cP⟩:∃σ,σ=sg ns n bx sl lo ph.length (some (.int j)) (some (.int c)) (some (.int g)):=⟨_,rfl⟩
 have h4:aa 4 σ=aA (.bl lo):=by rw[cP];rfl
 have h6:aa 6 σ=aA (.ref ph.length):=by rw[cP];rfl
 have h7:aa 7 σ=aA (.ref (ph.length+1)):=by rw[cP];rfl
 have h8:∀{K:PH},aa 8 σ K=.ok (.int j) K:=by rw[cP];intro K;rfl
 have h9:∀{K:PH},aa 9 σ K=.ok (.int c) K:=by rw[cP];intro K;rfl
 have h2:∀{K:PH},aa 2 σ K=.ok (.int bx) K:=by rw[cP];intro K;rfl
 have h3:∀{K:PH},aa 3 σ K=.ok (.int sl) K:=by rw[cP];intro K;rfl
 have vN:∀{K:PH},aa 10 σ K=.ok (.int g) K:=by rw[cP];intro K;rfl
 have h1:∀{K:PH},aa 1 σ K=.ok (.int n) K:=by rw[cP];intro K;rfl
 have ce:∀{K:PH},ae aS (aa 9) (eC (.int (16))) σ K=.ok (.int (c.fmod 16)) K:=md h9 rfl (by decide);have mq:∀{K:PH},ae aZ (aa 9) (eC (.int (16))) σ K=.ok (.int (c.fdiv 16)) K:=dv h9 rfl (by decide) (by decide);have F7:∀{K:PH},ae aZ (aa 9) (eC (.int (160))) σ K=.ok (.int (c.fdiv 160)) K:=dv h9 rfl (by decide) (by decide);have ap:∀{K:PH} {e:EM} {y:LR},GI ph K n lo j R TL->e σ K=.ok y.w K->cu (bG b8 cF (aa 6) (af e ai)) σ K=.ok (.nx σ) (K.set ph.length (.lst (R.map LR.w++[y.w]))):=fun{K e y} GK he=>oM h6 ⟨_,GK.r⟩ he GK.r (by rw[aat];omega)
 have Hq:aF (cu (bG b8 cF (aa 7) (af (aa 8) ai))) (cu (bG b8 cF (aa 6) (af (a9 (af (eC (.str "turn")) ai)) ai))) σ H1=.ok (.nx σ) ((H1.set (ph.length+1) (.lst (iw TL++[.int j]))).set ph.length (.lst (R.map LR.w++[(LR.r .turn).w]))):=by
  refine sq (oM h7 ⟨_,G1.t⟩ h8 G1.t (by rw[xW];omega)) ?_;have g6:(H1.set (ph.length+1) (.lst (iw TL++[.int j])))[ph.length]? =some (.lst (R.map LR.w)):=(dw (by omega)).trans G1.r;exact oM h6 ⟨_,g6⟩ rfl g6 (by rw[aat];omega)
 have t0:df (cb (aa 4)) (eT (ae aN (aa 8) (eC (.int (0))))) σ H1=.ok (lo&&decide ((j:Int)=0)) H1:=qd (eB (by rw[h4];rfl)) (eI h8 rfl);have t1:df (cb (aa 4)) (eT (ae aN (aa 8) (ae dJ (aa 1) (eC (.int (1)))))) σ H1=.ok (lo&&decide ((j:Int)=(n:Int)-1)) H1:=qd (eB (by rw[h4];rfl)) (tB (op h8 (sb h1 rfl) (by rw[nP];rfl)));have fin:∀{H':PH} {R':List LR} {kS:List Nat} {b:SM},b σ H1=.ok (.nx σ) H'->GI ph H' n lo (j+1) R' kS->∃H' R' kS vM u5,aF (aK (ae aS (ae b0 (ae addW (aO c8 (af (aa 0) (af (ae addW (aa 5) (aa 8)) ai))) (ae b0 (eC (.int (7919))) (aa 8))) (eC (.int (48271)))) (eC (.int (2147483647)))) (gN 9)) (aF (aK (aO kZ (af (ae aZ (aa 9) (eC (.int (160)))) (af (aa 8) (af (aa 1) (af (aa 7) ai))))) (gN 10)) b) (sg ns n bx sl lo ph.length (some (.int j)) o9 o10) H=.ok (.nx (sg ns n bx sl lo ph.length (some (.int j)) vM u5)) H'/\GI ph H' n lo (j+1) R' kS:=fun{H' R' kS b} hb GG=>⟨_,_,_,_,_,sq a1 (sq a2 (by rw[<- cP,hb,cP])),GG⟩
 unfold rp;by_cases q0:lo=true/\j=0
 ·rw[q0.1,decide_eq_true (by omega)] at t0;exact fin (bc t0 Hq) G1.turn
 rw[show(lo&&decide ((j:Int)=0))=false by
  cases lo with
  | false=>rfl
  | true=>rw[decide_eq_false (fun z=>q0 ⟨rfl,by omega⟩)];rfl] at t0
 have jW:lo=true->0<j:=fun z=>Nat.pos_of_ne_zero fun w=>q0 ⟨z,w⟩
 by_cases q1:lo=true/\j=n-1
 ·rw[q1.1,decide_eq_true (by omega)] at t1;exact fin (aq t0 (bc t1 (ap (y:=.go 0) G1 rfl))) (G1.row (fun k hk=>by cases abc.mp hk;exact .inr (G1.lp q1.1 (jW q1.1))) (fun r z=>nomatch z) jW)
 rw[show(lo&&decide ((j:Int)=(n:Int)-1))=false by
  cases lo with
  | false=>rfl
  | true=>rw[decide_eq_false (fun z=>q1 ⟨rfl,by omega⟩)];rfl] at t1
 by_cases q2:c.fmod 16<2
 ·exact fin (aq t0 (aq t1 (bc (ltI ce (decide_eq_true q2)) (ap (y:=.iff ((c.fdiv 16).fmod bx) g) G1 (ax (az rfl (az (md mq h2 jV) (az vN rfl))) rfl))))) (G1.row (fun k hk=>by cases abc.mp hk;exact hg) (fun r z=>nomatch z) jW)
 by_cases q3:c.fmod 16=2
 ·have t4:ae aN (ae aS (ae aZ (aa 9) (eC (.int (16)))) (eC (.int (4)))) (eC (.int (1))) σ (H1++[.lst [(LR.go g).w,LR.fin.w]])=.ok (.bl (decide ((c.fdiv 16).fmod 4=1))) (H1++[.lst [(LR.go g).w,LR.fin.w]]):=op (md mq rfl (by decide)) rfl (by rw[nP];rfl);have i4:∀b:Bool,lift (ig [.bl b]) (H1++[.lst [(LR.go g).w,LR.fin.w]])=.ok (.int (if b then 1 else 0)) (H1++[.lst [(LR.go g).w,LR.fin.w]]):=fun b=>by cases b <;> rfl
  have x2:Ex H1 (H1++[.lst [(LR.go g).w,LR.fin.w]]):=Ex.one _ _;obtain⟨y,hy,hto,jS⟩:∃y:LR,(∀r,y=.r r->fe r)/\(∀k∈y.to,Gl n j TL k)/\cH [(LR.go g).w,LR.fin.w] (if decide ((c.fdiv 16).fmod 4=1)=true then 1 else 0)=some y.w:=by
   cases decide ((c.fdiv 16).fmod 4=1) with
   | true=>exact⟨.fin,fun r z=>(nomatch z),fun k hk=>(nomatch hk),rfl⟩
   | false=>exact⟨.go g,fun r z=>(nomatch z),fun k hk=>by cases abc.mp hk;exact hg,rfl⟩
  have e4:ae ak (bg (af (a9 (af (eC (.str "go")) (af (aa 10) ai))) (af (a9 (af (eC (.str "end")) ai)) ai))) (bS ig (af (ae aN (ae aS (ae aZ (aa 9) (eC (.int (16)))) (eC (.int (4)))) (eC (.int (1)))) ai)) σ H1=.ok y.w (H1++[.lst [(LR.go g).w,LR.fin.w]]):=nH (az (ax (az rfl (az vN rfl)) rfl) (az rfl rfl)) (aau rfl) (ax (az t4 rfl) (i4 _)) jS;exact fin (aq t0 (aq t1 (aq (ltI ce (decide_eq_false q2)) (bc (eI ce (decide_eq_true q3)) (oM h6 ⟨_,G1.r⟩ e4 (x2.get G1.r) (by rw[aat];omega)))))) ((G1.mono x2).row hto hy jW)
 by_cases q4:c.fmod 16=3
 ·exact fin (aq t0 (aq t1 (aq (ltI ce (decide_eq_false q2)) (aq (eI ce (decide_eq_false q3)) (bc (eI ce (decide_eq_true q4)) Hq))))) G1.turn
 by_cases q5:c.fmod 16<6
 ·exact fin (aq t0 (aq t1 (aq (ltI ce (decide_eq_false q2)) (aq (eI ce (decide_eq_false q3)) (aq (eI ce (decide_eq_false q4)) (bc (ltI ce (decide_eq_true q5)) (ap (y:=.r (.tell ((c.fdiv 16).fmod bx))) G1 (ax (az rfl (az (md mq h2 jV) rfl)) rfl)))))))) (G1.row (fun k hk=>(nomatch hk)) (fun r z=>by cases z;trivial) jW)
 by_cases q6:c.fmod 16<8
 ·exact fin (aq t0 (aq t1 (aq (ltI ce (decide_eq_false q2)) (aq (eI ce (decide_eq_false q3)) (aq (eI ce (decide_eq_false q4)) (aq (ltI ce (decide_eq_false q5)) (bc (ltI ce (decide_eq_true q6)) (ap (y:=.r (.push ((c.fdiv 16).fmod sl) ((c.fdiv 160).fmod bx))) G1 (ax (az rfl (az (md mq h3 vI) (az (md F7 h2 jV) rfl))) rfl))))))))) (G1.row (fun k hk=>(nomatch hk)) (fun r z=>by cases z;trivial) jW)
 by_cases q7:c.fmod 16<10
 ·exact fin (aq t0 (aq t1 (aq (ltI ce (decide_eq_false q2)) (aq (eI ce (decide_eq_false q3)) (aq (eI ce (decide_eq_false q4)) (aq (ltI ce (decide_eq_false q5)) (aq (ltI ce (decide_eq_false q6)) (bc (ltI ce (decide_eq_true q7)) (ap (y:=.r (.pull ((c.fdiv 16).fmod bx) ((c.fdiv 160).fmod sl))) G1 (ax (az rfl (az (md mq h2 jV) (az (md F7 h3 vI) rfl))) rfl)))))))))) (G1.row (fun k hk=>(nomatch hk)) (fun r z=>by cases z;trivial) jW)
 by_cases q8:c.fmod 16<12
 ·exact fin (aq t0 (aq t1 (aq (ltI ce (decide_eq_false q2)) (aq (eI ce (decide_eq_false q3)) (aq (eI ce (decide_eq_false q4)) (aq (ltI ce (decide_eq_false q5)) (aq (ltI ce (decide_eq_false q6)) (aq (ltI ce (decide_eq_false q7)) (bc (ltI ce (decide_eq_true q8)) (ap (y:=.r (.take ((c.fdiv 16).fmod bx))) G1 (ax (az rfl (az (md mq h2 jV) rfl)) rfl))))))))))) (G1.row (fun k hk=>(nomatch hk)) (fun r z=>by cases z;trivial) jW)
 obtain⟨r,H2,r1,x2,hr⟩:=W0 (c.fdiv 16) hb hs H1;exact fin (aq t0 (aq t1 (aq (ltI ce (decide_eq_false q2)) (aq (eI ce (decide_eq_false q3)) (aq (eI ce (decide_eq_false q4)) (aq (ltI ce (decide_eq_false q5)) (aq (ltI ce (decide_eq_false q6)) (aq (ltI ce (decide_eq_false q7)) (aq (ltI ce (decide_eq_false q8)) (oM h6 ⟨_,G1.r⟩ (ax (az mq (az h2 (az h3 rfl))) r1) (x2.get G1.r) (by rw[aat];omega))))))))))) ((G1.mono x2).row (y:=.r r) (fun k hk=>(nomatch hk)) (fun r' z=>by cases z;exact hr) jW)
end
structure FW(R:List LR)(n:Nat):Prop where
 len:R.length=n+1
 end_:R[n]? =some .fin
 to:∀(p:Nat) y,R[p]? =some y->∀k∈y.to,k<=n/\(p<k\/R[k]? =some (.r .turn))
 ok:∀r,LR.r r∈R->fe r
theorem RL(ns:List Int){bx sl:Int}(lo:Bool)(hn:n<=100)(hb:0<bx/\bx<100)(hs:0<sl/\sl<100) :
  ∃k H' R,rQ [.fl (ns.map W.int),.int n,.int bx,.int sl,.bl lo] ph=.ok (.ref k) H'/\Ex ph H'/\H'[k]? =some (.lst (R.map LR.w))/\FW R n:=by
 obtain⟨H0,e0⟩:∃H0,H0=ph++[PO.lst []]++[PO.lst []]:=⟨_,rfl⟩
 have G0:GI ph H0 n lo 0 [] []:=by
  refine⟨e0▸(Ex.one _ _).trans (Ex.one _ _),?_,?_,rfl,aar _,fun t ht=>(nomatch ht),fun r hr=>(nomatch hr),fun p y hy=>(nomatch hy),fun _ z=>absurd z (abQ _)⟩
  ·rw[e0];exact(Ex.one _ _).get (bN _ _)
  ·rw[e0];have:=bN (ph++[PO.lst []]) (PO.lst []);rw[aas] at this;exact this
 have qX:eP (af (aa 1) ai) (sg ns n bx sl lo ph.length none none none) H0=.ok (eJ 0 n,fun _=>true) H0:=pT (j:=n) rfl (by omega) (by omega);obtain⟨ao,H1,e,R,TL,o8,o9,o10,rfl,G⟩:=CG (chk:=fun _=>true) (g:=gN 8) (b:=rp)
  (fun j σ K=>∃R TL o8 o9 o10,σ=sg ns n bx sl lo ph.length o8 o9 o10/\GI ph K n lo j R TL)
  (eJ 0 n) (sg ns n bx sl lo ph.length none none none) H0 (fun _ _ _ _=>rfl)
  (fun j x σ K hj zz=>by
   obtain⟨R,TL,o8,o9,o10,rfl,G⟩:=zz;obtain⟨Ab,rfl⟩:=Sz hj;rw[Int.zero_add];obtain⟨H',R',kS,vM,u5,q,G'⟩:=Xd ns (o9:=o9) (o10:=o10) G Ab hn hb hs;exact⟨_,_,rfl,_,_,q,_,.inl rfl,R',kS,_,_,_,rfl,G'⟩)
  ⟨[],[],none,none,none,rfl,G0⟩
 rw[xb] at G;have hl:=G.len;obtain⟨H2,e2⟩:∃H2,H2=H1++[PO.lst [LR.fin.w]]:=⟨_,rfl⟩
 have x2:Ex H1 H2:=e2▸Ex.one _ _;have ad1:ae addW (aa 6) (bg (af (a9 (af (eC (.str "end")) ai)) ai)) (sg ns n bx sl lo ph.length o8 o9 o10) H1=.ok (.ref H2.length) (H2++[.lst (R.map LR.w++[LR.fin.w])]):=op (x:=.ref ph.length) (y:=.ref H1.length) (ph2:=H2) rfl (by rw[e2];rfl) (ly (x2.get G.r) (by rw[e2];exact bN _ _) (small (by rw[aat,abr];omega)));refine⟨H2.length,H2++[.lst (R.map LR.w++[LR.fin.w])],R++[.fin],?_,(G.ex.trans x2).trans (Ex.one _ _),?_,⟨by rw[aas,hl];rfl,?_,fun p y hy k hk=>?_,fun r hr=>?_⟩⟩
 ·unfold rQ k8;rw[uY];refine bq (σ1:=[some (.fl (ns.map W.int)),some (.int n),some (.int bx),some (.int sl),some (.bl lo),some (.int 3),none,none,none,none,none]) rfl (bq (ph1:=ph++[.lst []]) (σ1:=[some (.fl (ns.map W.int)),some (.int n),some (.int bx),some (.int sl),some (.bl lo),some (.int 3),some (.ref ph.length),none,none,none,none]) rfl (bq (ph1:=H0) (σ1:=sg ns n bx sl lo ph.length none none none) ?_ (bq (xA qX e) (br ad1))));refine(asg (w:=.ref (ph.length+1)) (ph1:=H0) ?_).trans rfl;rw[e0];show Out.ok (W.ref (ph++[PO.lst []]).length) _=_;rw[aas];rfl
 ·rw[acv];exact bN _ _
 ·rw[abd (by omega),show n-R.length=0 by omega];rfl
 ·have tr:∀k∈TL,(R++[LR.fin])[k]? =some (.r .turn)/\k<n:=fun k hk=>by
   have:=G.vL k hk;have h2:=(aal.mp this).1;rw[aaS h2];exact⟨this,by omega⟩
  by_cases hp:p<R.length
  ·rw[aaS hp] at hy
   rcases G.jm p y hy k hk with z | z
   ·exact⟨z.2,.inl z.1⟩
   ·exact⟨aeC (tr k z).2,.inr (tr k z).1⟩
  ·have gU:=(aal.mp hy).1;rw[aas,abr] at gU;rw[abd (by omega),show p-R.length=0 by omega] at hy;cases hy;cases hk
 ·rcases abu.mp hr with z | z
  ·exact G.ok r z
  ·cases abc.mp z
def tq(R:List LR)(p:Nat):Nat:=match R[p]? with
 | some (.r .turn)=>0
 | _=>1
theorem uF(R:List LR)(p:Nat):tq R p<=1:=by
 unfold tq;split <;> omega
theorem Zp{p:Nat}(h:R[p]? =some (.r .turn)):tq R p=0:=by
 unfold tq;rw[h]
theorem F8{p:Nat}{y:LR}(h:R[p]? =some y)(hy:y≠.r .turn):tq R p=1:=by
 unfold tq;rw[h];split
 ·rename_i q;exact absurd (abh q) hy
 ·rfl
theorem Ad{a b c y:Nat}(h:a<=b)(h2:x<y):a*c+x<b*c+y:=by
 have:=aeU c h;omega
theorem lt2{a b c y:Nat}(h:a<b)(h2:x<c):a*c+x<b*c+y:=by
 have:=aeU c (Nat.succ_le_of_lt h);rw[Nat.succ_mul] at this;omega
def qY(R:List LR)(n p:Nat)(tn:Int):Nat:=(2*tn.toNat+tq R p)*(n+2)+(n-p)
theorem yF{I:List Int}{R:List LR}{n:Nat}(h:FW R n):∀(f p:Nat) (s:S),p<=n->0<=s.tn->qY R n p s.tn<f->gQ (bK I R f p s)
 | 0,p,s,hp,ht,hf=>absurd hf (Nat.not_lt_zero _)
 | f+1,p,s,hp,ht,hf=>by
  obtain⟨y,hy⟩:∃y,R[p]? =some y:=Fn (by rw[h.len];omega);rw[ke hy];have Hr:y≠.fin->p<n:=fun z=>by
   rcases Nat.lt_or_ge p n with w | w
   ·exact w
   ·have e:p=n:=by omega
    subst e;rw[h.end_] at hy;exact absurd (abh hy).symm z
  have Ae:∀{k:Nat},y≠.r .turn->k<=n->(p<k\/R[k]? =some (.r .turn))->gQ (bK I R f k s):=fun{k} hy0 hk hor=>by
   refine yF h f k s hk ht (aav ?_ (Nat.lt_succ_iff.mp hf));unfold qY;rw[F8 hy hy0]
   rcases hor with z | z
   ·have:=uF R k;exact Ad (by omega) (by omega)
   ·rw[Zp z];exact lt2 (by omega) (by omega)
  cases y with
  | fin=>exact pM s (by decide)
  | go k=>
   obtain⟨a,b⟩:=h.to p _ hy k (acD _);exact Ae (fun z=>nomatch z) a b
  | iff v k=>
   obtain⟨a,b⟩:=h.to p _ hy k (acD _);show gQ (bK I R f (if gt s.bx v=0 then p+1 else k) s);have:=Hr (fun z=>nomatch z);by_cases q:gt s.bx v=0
   ·rw[if_pos q];exact Ae (fun z=>nomatch z) (by omega) (.inl (by omega))
   ·rw[if_neg q];exact Ae (fun z=>nomatch z) a b
  | r x=>
   have hpn:=Hr (fun z=>nomatch z);show gQ (match ck I s x with
    | .inl r=>r
    | .inr s=>bK I R f (p+1) s)
   cases hx:ck I s x with
   | inl r=>exact SX hx
   | inr s'=>
    obtain⟨z1,z2,z3⟩:=WX hx ht;refine yF h f (p+1) s' (by omega) z2 (aav ?_ (Nat.lt_succ_iff.mp hf));have Hs:=uF R (p+1);have ht2:=uF R p;unfold qY;by_cases hq:x=.turn
    ·have:=z3 hq;exact Ad (by omega) (by omega)
    ·rw[F8 hy (fun z=>hq (LR.r.inj z))];exact Ad (by omega) (by omega)
theorem Xe(hn:n<=24)(ht:tn<=40):qY R n 0 tn<9000:=by
 unfold qY;have:=uF R 0;have:=Nat.mul_le_mul (show 2*tn.toNat+tq R 0<=81 by omega) (show n+2<=26 by omega);omega
theorem Zq{e:EM}{k:Int}(h:e σ H=.ok (.int k) H):∃b,eT (ae mj e (a9 (af (eC (.int (1))) (af (eC (.int (2))) ai)))) σ H=.ok b H:=
 ⟨_,tB (op (y:=.tup ([1,2].map W.int)) h rfl (show lift (i8 (.int k) (.tup ([1,2].map W.int))) H=_ from Ed (ji (dat H 40) W.int acY (fun x=>c0 H 40 x) [1,2]) (c0 H 40 k)))⟩
theorem S0(ph:PH)(ns:List Int)(c:Int):∃k H' I,rC [.fl (ns.map W.int),.int c] ph=.ok (.ref k) H'/\Ex ph H'/\ik H' k I:=by
 obtain⟨m,hm,em⟩:=er (a:=c) (n:=9) (by decide);obtain⟨m2,hm2,em2⟩:=er (a:=c.fdiv 6750) (n:=61) (by decide);obtain⟨H1,ws,e1,x1,g1,hl1,hP1⟩:=xB (abX m) (fun i:Nat=>W.int i) (ph:=ph) (ph0:=ph) (im:=eP (af (ae aS (aa 1) (eC (.int (9)))) ai)) (cap:=[none,some 0]) (g:=gN 0) (e:=aO jX (af (aO c8 (af (aa 1) (af (ae addW (eC (.int (27))) (aa 0)) ai))) ai)) (σ:=[some (.fl (ns.map W.int)),some (.int c),none,none]) (chk:=fun _=>true)
  (by rw[<- DA];exact pT (j:=(m:Int)) (az ((md rfl rfl (by decide)).trans (by rw[em])) rfl) (by omega) (by omega)) (fun _ _=>rfl) (by rw[acW];omega)
  (fun j w H=>∃v,w=W.int v/\cA v) (fun j w H H' h _=>h) (fun σ=>∃o,σ=[o,some (.fl (ns.map W.int))]) ⟨none,rfl⟩
  (fun j k hj σ H hS y gU=>by
   obtain⟨o,rfl⟩:=hS;obtain⟨v,H2,e2,x2,sv⟩:=yA (ns.getD (27+(k:Int)).toNat 0) H;exact⟨_,rfl,⟨_,rfl⟩,_,H2,ax (az (cl rfl (ad rfl rfl) (by omega)) rfl) e2,x2,v,rfl,sv⟩)
 obtain⟨I,hI,hQ⟩:=xh (f:=W.int) (Q:=fun _ v=>cA v) fun j w hw=>hP1 j w hw
 rw[hI] at g1;rw[hI,aat,acW] at hl1;have sI:∀v∈I,cA v:=fun v hv=>by
  obtain⟨j,hj⟩:=adz.mp hv;exact hQ j v hj
 have a1:aK (dO (eP (af (ae aS (aa 1) (eC (.int (9)))) ai)) [none,some 0] (gN 0) eA (aO jX (af (aO c8 (af (aa 1) (af (ae addW (eC (.int (27))) (aa 0)) ai))) ai))) (gN 2) [some (.fl (ns.map W.int)),some (.int c),none,none] ph=.ok (.nx [some (.fl (ns.map W.int)),some (.int c),some (.ref ph.length),none]) H1:=asg e1;obtain⟨b,tb⟩:=Zq (e:=ae aS (ae aZ (aa 1) (eC (.int (90)))) (eC (.int (9)))) (σ:=[some (.fl (ns.map W.int)),some (.int c),some (.ref ph.length),none]) (H:=H1) (md (dv rfl rfl (by decide) (by decide)) rfl (by decide));unfold rC kU;simp only[gP];cases b with
 | false=>exact⟨ph.length,H1,I,bq a1 (bq (aq tb rfl) (br rfl)),x1,g1,by omega,sI⟩
 | true=>
  obtain⟨H2,eh,e2,x2,g2,kM,hP2⟩:=xB (abX m2) (fun i:Nat=>W.int i) (ph:=H1) (ph0:=H1) (im:=eP (af (ae aS (ae aZ (aa 1) (eC (.int (6750)))) (eC (.int (61)))) ai)) (cap:=[none,some 1]) (g:=gN 0) (e:=ae aS (ae b0 (ae addW (ae addW (aa 1) (eC (.int (1)))) (ae b0 (ae b0 (eC (.int (1009))) (aa 0)) (aa 0))) (eC (.int (48271)))) (eC (.int (2147483647)))) (σ:=[some (.fl (ns.map W.int)),some (.int c),some (.ref ph.length),none]) (chk:=fun _=>true)
   (by rw[<- DA];exact pT (j:=(m2:Int)) (az ((md (dv rfl rfl (by decide) (by decide)) rfl (by decide)).trans (by rw[em2])) rfl) (by omega) (by omega)) (fun _ _=>rfl) (by rw[acW];omega)
   (fun j w H=>∃v,w=W.int v/\True) (fun j w H H' h _=>h) (fun σ=>∃o,σ=[o,some (.int c)]) ⟨none,rfl⟩
   (fun j k hj σ H hS y gU=>by
    obtain⟨o,rfl⟩:=hS;have hk:=acZ.mp (aaW hj);exact⟨_,rfl,⟨_,rfl⟩,_,H,md (ml (ad (ad rfl rfl) (ml (ml rfl rfl (Er (by decide) (by decide))) rfl (jn (by omega) (by omega)))) rfl (jn (by decide) (by decide))) rfl (by decide),Ex.refl _,_,rfl,trivial⟩)
  obtain⟨L,hL,_⟩:=xh (f:=W.int) (Q:=fun _ v=>True) fun j w hw=>hP2 j w hw
  rw[hL] at g2;rw[hL,aat,acW] at kM;obtain⟨H3,ws3,e3,x3,g3,hl3,hP3⟩:=xB L W.int (ph:=H2) (ph0:=H2) (im:=gF (aa 3)) (cap:=[none]) (g:=gN 0) (e:=aO jX (af (aa 0) ai)) (σ:=[some (.fl (ns.map W.int)),some (.int c),some (.ref ph.length),some (.ref H1.length)]) (chk:=fun p=>decide (p[H1.length]? =some (.lst (L.map W.int))))
   (sT rfl g2) (fun p x=>decide_eq_true (x.get g2)) (by omega)
   (fun j w H=>∃v,w=W.int v/\cA v) (fun j w H H' h _=>h) (fun σ=>∃o,σ=[o]) ⟨none,rfl⟩
   (fun j k hj σ H hS y gU=>by
    obtain⟨o,rfl⟩:=hS;obtain⟨v,H2,e2,x2,sv⟩:=yA k H;exact⟨_,rfl,⟨_,rfl⟩,_,H2,ax (az rfl rfl) e2,x2,v,rfl,sv⟩)
  obtain⟨J,hJ,hQJ⟩:=xh (f:=W.int) (Q:=fun _ v=>cA v) fun j w hw=>hP3 j w hw
  rw[hJ] at g3;rw[hJ,aat] at hl3;have gI:=x3.get (x2.get g1);refine⟨H3.length,H3++[.lst ((I++J).map W.int)],I++J,bq a1 (bq (bc tb (sq (asg e2) ((asg (w:=.ref H3.length) (ph1:=H3++[.lst ((I++J).map W.int)]) (op rfl e3 ?_)).trans rfl))) (br rfl)),((x1.trans x2).trans x3).trans (Ex.one _ _),bN _ _,by rw[aas];omega,fun v hv=>?_⟩
  ·rw[ly gI g3 (small (by rw[aat,aat];omega)),acv]
  ·rcases abu.mp hv with z | z
   ·exact sI v z
   ·obtain⟨j,hj⟩:=adz.mp z;exact hQJ j v hj
def R5:List LR:=[.r (.take 1),.r (.tell 1),.r .turn,.go 0,.fin]
theorem CQ(I:List Int):∀(T:Nat) (s:S),s.tn=(T:Int)->∃s':S,bK I R5 (4*T+3) 0 s=s'.by "dry"/\s'.told=s.told++(abX (T+1)).map (fun i=>I.getD (s.tk+i) 0)/\s'.tk=s.tk+(T+1)
 | T,s,h=>by
  have l1:∀f,bK I R5 (f+3) 0 s=gH I R5 f 2 { s with bx:=pt s.bx 1 (I.getD s.tk 0),tk:=s.tk+1,told:=s.told++[gt (pt s.bx 1 (I.getD s.tk 0)) 1] } (.r .turn):=fun f=>by
   rw[ke (y:=.r (.take 1)) rfl];show bK I R5 (f+2) 1 _=_;rw[ke (y:=.r (.tell 1)) rfl];show bK I R5 (f+1) 2 _=_;rw[ke (y:=.r .turn) rfl]
  rw[yB,if_pos rfl] at l1;cases T with
  | zero=>
   refine⟨{ s with bx:=pt s.bx 1 (I.getD s.tk 0),tk:=s.tk+1,told:=s.told++[I.getD s.tk 0] },?_,rfl,rfl⟩;rw[l1 0];have h:s.tn=0:=h;simp only[gH,ck,if_pos h]
  | succ T=>
   have vp:s.tn≠0:=by omega
   obtain⟨s',q1,q2,q3⟩:=CQ I T { s with bx:=pt s.bx 1 (I.getD s.tk 0),tk:=s.tk+1,told:=s.told++[I.getD s.tk 0],tn:=s.tn-1 } (by simp only;omega);refine⟨s',?_,?_,?_⟩
   ·rw[<- q1,show 4*(T+1)+3=(4*T+4)+3 by omega,l1];simp only[gH,ck,if_neg vp];rw[show 4*T+4=(4*T+3)+1 by omega,ke (y:=.go 0) rfl];rfl
   ·rw[q2,List.range_succ_eq_map (n:=T+1),aaM,adA];simp only[acs,List.singleton_append,Nat.add_zero]
    congr 2
    apply acC
    intro i _;show I.getD (s.tk+1+i) 0=I.getD (s.tk+(i+1)) 0;rw[Nat.add_right_comm,Nat.add_assoc]
   ·rw[q3];show s.tk+1+(T+1)=_;omega
theorem UU(I:List Int)(T:Nat):(I.map W.int++(aap (T+1) [W.int 0]).flatten).take (T+1)=((abX (T+1)).map (fun i=>I.getD (0+i) 0)).map W.int:=by
 have fl:∀n:Nat,(aap n [W.int 0]).flatten=aap n (W.int 0):=fun n=>by
  induction n with
  | zero=>rfl
  | succ n ih=>rw[abm,abM,ih,abm];rfl
 rw[fl];apply List.ext_getElem?;intro j;rw[List.getElem?_take];by_cases hj:j<T+1
 ·rw[if_pos hj,aaN,aaN,afg hj,abq,abq,acw];by_cases h:j<I.length
  ·rw[aaS (by simpa using h),aaN,abg,abx h];rfl
  ·rw[abd (by simpa using h),adm,if_pos (by simp;omega),abg,acj (by omega)];rfl
 ·rw[if_neg hj,acj (by simp;omega)]
theorem qc{l:List Int}{t:Int}(h:H[k]? =some (.lst (l.map W.int))):dat H 40 (.tup [.str (aaz y),.ref k,.int t])=some (.tuple [.str (aaz y),.list (l.map acY),.int t]):=
 fF (mc (fc H 39 y) (mc (kc h (ji (dat H 38) W.int acY (fun x=>c0 H 38 x) l)) (mc (c0 ..) rfl)))
theorem Xf{T:Nat}(hi:ik ph ii I)(hT:T<=10000):∃H',vS [.int T,.ref ii] ph=.ok (.bl true) H':=by
 obtain⟨H1,e1⟩:∃H1,H1=ph++[PO.lst (R5.map LR.w)]:=⟨_,rfl⟩
 obtain⟨H2,e2⟩:∃H2,H2=H1++[PO.lst (I.map W.int)]:=⟨_,rfl⟩
 have x1:Ex ph H1:=e1▸Ex.one _ _;have x2:Ex H1 H2:=e2▸Ex.one _ _;have g1:H2[ph.length]? =some (.lst (R5.map LR.w)):=x2.get (by rw[e1];exact bN _ _);have g2:H2[H1.length]? =some (.lst (I.map W.int)):=by rw[e2];exact bN _ _
 obtain⟨s0,q1,q2,q3⟩:=CQ I T ⟨[],[],[],0,(T:Int)⟩ rfl;obtain⟨H3,k,x,s',r1,x3,hk,t3,l3⟩:=ya (ri:=ph.length) (ii:=H1.length) (tn:=(T:Int)) g1 (fun r hr=>by
  have:r=.take 1\/r=.tell 1\/r=.turn:=by simpa[R5] using hr
  rcases this with rfl | rfl | rfl <;> trivial) g2 hi.iz (by have:=hi.len;omega) (by decide) (by omega) (by omega) (f:=4*T+3) (by omega) (by rw[q1];exact pM _ (by decide))
 rw[l3] at q1;have ey:x="dry"/\s'.told=s0.told/\s'.tk=s0.tk:=by
  unfold S.by at q1;injection q1 with a b
  injection b with b c
  exact⟨a,b,c⟩
 obtain⟨rfl,et,ek⟩:=ey;rw[et,q2] at t3;rw[ek,q3] at r1;have il:=hi.len;have a1:aK (bg (af (a9 (af (eC (.str "take")) (af (eC (.int (1))) ai))) (af (a9 (af (eC (.str "tell")) (af (eC (.int (1))) ai))) (af (a9 (af (eC (.str "turn")) ai)) (af (a9 (af (eC (.str "go")) (af (eC (.int (0))) ai))) (af (a9 (af (eC (.str "end")) ai)) ai)))))) (gN 2) [some (.int T),some (.ref ii),none] ph=.ok (.nx [some (.int T),some (.ref ii),some (.ref ph.length)]) H1:=by
  rw[e1];rfl
 have c1:bS gm (af (aa 1) ai) [some (.int T),some (.ref ii),some (.ref ph.length)] H1=.ok (.ref H1.length) H2:=by
  rw[e2];exact ax (az rfl rfl) (td (x1.get hi.at_))
 obtain⟨H4,e4⟩:∃H4,H4=H3++[PO.lst [.int 0]]:=⟨_,rfl⟩
 obtain⟨H5,e5⟩:∃H5,H5=H4++[PO.lst (aap (T+1) [W.int 0]).flatten]:=⟨_,rfl⟩
 obtain⟨H6,e6⟩:∃H6,H6=H5++[PO.lst (I.map W.int++(aap (T+1) [W.int 0]).flatten)]:=⟨_,rfl⟩
 obtain⟨H7,e7⟩:∃H7,H7=H6++[PO.lst (((abX (T+1)).map (fun i=>I.getD (0+i) 0)).map W.int)]:=⟨_,rfl⟩
 have x4:Ex H3 H4:=e4▸Ex.one _ _;have x5:Ex H4 H5:=e5▸Ex.one _ _;have x6:Ex H5 H6:=e6▸Ex.one _ _;have x7:Ex H6 H7:=e7▸Ex.one _ _;have g4:H4[H3.length]? =some (.lst [.int 0]):=by rw[e4];exact bN _ _
 have g5:H5[H4.length]? =some (PO.lst (aap (T+1) [W.int 0]).flatten):=by rw[e5];exact bN _ _
 have g6:H6[H5.length]? =some (PO.lst (I.map W.int++(aap (T+1) [W.int 0]).flatten)):=by rw[e6];exact bN _ _
 have gi:=(((((x1.trans x2).trans x3).trans x4).trans x5)).get hi.at_;have fl:(aap (T+1) [W.int 0]).flatten.length=T+1:=by
  rw[List.length_flatten,List.map_replicate,List.sum_replicate_nat];simp
 have tn:((T:Int)+1).toNat=T+1:=by omega
 have sl:fV (ae addW (aa 1) (ae b0 (bg (af (eC (.int (0))) ai)) (ae addW (aa 0) (eC (.int (1)))))) fI (fJ (ae addW (aa 0) (eC (.int (1))))) [some (.int T),some (.ref ii),some (.ref ph.length)] H3=.ok (.ref H6.length) H7:=by
  have mv:ae b0 (bg (af (eC (.int (0))) ai)) (ae addW (aa 0) (eC (.int (1)))) [some (.int T),some (.ref ii),some (.ref ph.length)] H3=.ok (.ref H4.length) H5:=by
   refine op (x:=.ref H3.length) (ph1:=H4) (by rw[e4];rfl) (ad rfl rfl) ?_;rw[CI g4 (by omega) (by omega) (small (by simp only[aaP,adP];omega)),tn,e5]
  have av:ae addW (aa 1) (ae b0 (bg (af (eC (.int (0))) ai)) (ae addW (aa 0) (eC (.int (1))))) [some (.int T),some (.ref ii),some (.ref ph.length)] H3=.ok (.ref H5.length) H6:=by
   refine op rfl mv ?_;rw[ly gi g5 (small (by rw[fl,aat];omega)),e6]
  refine ax av (ax rfl (ax (a:=some ((T+1:Nat):Int)) (ph':=H6) rfl ?_));rw[Eg g6,UU,e7]
 have qZ:=qc (y:="dry") (t:=((0+(T+1):Nat):Int)) ((((x4.trans x5).trans x6).trans x7).get t3);have kJ:=qc (H:=H7) (k:=H6.length) (y:="dry") (l:=(abX (T+1)).map (fun i=>I.getD (0+i) 0)) (t:=((0+(T+1):Nat):Int)) (by rw[e7];exact bN _ _);refine⟨H7,?_⟩;unfold vS kT;rw[gP];refine bq a1 (br (op (ax (az rfl (az c1 (az rfl rfl))) r1) (ax (az rfl (az sl (az (ad rfl rfl) rfl))) rfl) (Ym (uj qZ ?_))));rw[show(T:Int)+1=((0+(T+1):Nat):Int) by omega];exact kJ
abbrev sv(ns:List Int)(o1 o2 o3 o4 o5 o6 o7 o8 o9 o10 o11 o12 o13 o14:Option W):aP:=[some (.fl (ns.map W.int)),o1,o2,o3,o4,o5,o6,o7,o8,o9,o10,o11,o12,o13,o14]
theorem DC(v:Int)(H:PH):lh [.int v] H=.ok (.bl true) H:=by
 unfold lh j3;rw[fQ];refine br ?_;rw[xv];refine ax (fu rfl (congrFun (om "int" v) H)) ?_;show qm (dX "bool" (aa 0)) [some (.int v)] H=_;exact ax (fu rfl (congrFun (om "bool" v) H)) rfl
theorem S1{s:S}{r:Row}:(match ck I s r with | .inl x=>x.2.1.length | .inr s'=>s'.told.length)<=s.told.length+1:=by
 cases r with
 | turn=>
  by_cases h:s.tn=0
  ·simp only[ck,if_pos h];exact acb _
  ·simp only[ck,if_neg h];exact acb _
 | dR a w b c=>
  cases w
  case part=>
   by_cases h:gt s.bx c=0
   ·simp only[ck,if_pos h];exact acb _
   ·simp only[ck,if_neg h];exact acb _
  all_goals exact acb _
 | tell a=>simp[ck]
 | _=>exact acb _
theorem tQ{I:List Int}{R:List LR}:∀(f p:Nat) (s:S),(bK I R f p s).2.1.length<=s.told.length+f
 | 0,p,s=>aar _
 | f+1,p,s=>by
  cases hy:R[p]? with
  | none=>
   unfold bK;rw[hy];exact Nat.le_add_right _ _
  | some y=>
   rw[ke hy];cases y with
   | fin=>exact Nat.le_add_right _ _
   | go k=>exact aej (tQ f k s)
   | iff v k=>exact aej (tQ f _ s)
   | r x=>
    show(match ck I s x with
     | .inl r=>r
     | .inr s=>bK I R f (p+1) s).2.1.length<=_
    have:=S1 (I:=I) (s:=s) (r:=x);cases hx:ck I s x with
    | inl z=>
     rw[hx] at this;simp only at this ⊢;omega
    | inr s'=>
     rw[hx] at this;simp only at this ⊢;have:=tQ (I:=I) (R:=R) f (p+1) s';omega
structure LI(H:PH)(k6 k7 hh hr hi:Nat)(R:List LR)(I:List Int):Prop where
 r:H[k6]? =some (.lst (R.map LR.w))
 i:ik H k7 I
 h:H[hh]? =some (.lst [.ref hr,.ref hi])
 hr:H[hr]? =some (.lst (R.map LR.w))
 hi:H[hi]? =some (.lst (I.map W.int))
variable{k7:Nat}
theorem LI.mono{k6 hh hr hi:Nat}(L:LI H k6 k7 hh hr hi R I)(x:Ex H H1):LI H1 k6 k7 hh hr hi R I:=⟨x.get L.r,⟨x.get L.i.at_,L.i.len,L.i.iz⟩,x.get L.h,x.get L.hr,x.get L.hi⟩
theorem UV{ns:List Int}{o1 o2 o3 o4 o5 o11 o12 o13 o14:Option W}{k6 hh hr hi p:Nat}{x:String}{s:S}(L:LI H k6 k7 hh hr hi R I)(ok:∀r,LR.r r∈R->fe r)(Hn:R.length<=1000)(h0:0<=tn)(h1:tn<=10000)(hp:H[p+2]? =some (.lst (s.told.map W.int)))(hF:gQ (bK I R 9000 0 ⟨[],[],[],0,tn⟩))(hx:bK I R 9000 0 ⟨[],[],[],0,tn⟩=s.by x) :
  ∃H' o,tE (sv ns o1 o2 o3 o4 o5 (some (.ref k6)) (some (.ref k7)) (some (.int tn)) (some (dS p x s)) (some (.ref hh)) o11 o12 o13 o14) H=.ok (.nx (sv ns o1 o2 o3 o4 o5 (some (.ref k6)) (some (.ref k7)) (some (.int tn)) (some (dS p x s)) (some (.ref hh)) o11 o12 o13 o)) H'/\Ex H H':=by
 have il:=L.i.len;have tl:s.told.length<=9000:=by
  have:=tQ (I:=I) (R:=R) 9000 0 ⟨[],[],[],0,tn⟩;rw[hx] at this;exact abe this (by simp)
 obtain⟨H1,k,x',s',r1,x1,hk,t1,l1⟩:=ya L.hr ok L.hi L.i.iz (by omega) Hn h0 h1 (f:=9000) (by decide) hF;rw[hx] at l1;have ey:x=x'/\s.told=s'.told/\s.tk=s'.tk:=by
  unfold S.by at l1;injection l1 with a b
  injection b with b c
  exact⟨a,b,c⟩
 obtain⟨rfl,et,ek⟩:=ey;rw[<- ek] at r1;rw[<- et] at t1;have L1:=L.mono x1;obtain⟨f,ef⟩:∃f:W,f=.tup [.str (aaz x),.ref k,.int s.tk]:=⟨_,rfl⟩
 rw[<- ef] at r1;obtain⟨σ,cP⟩:∃σ,σ=sv ns o1 o2 o3 o4 o5 (some (.ref k6)) (some (.ref k7)) (some (.int tn)) (some (dS p x s)) (some (.ref hh)) o11 o12 o13 (some f):=⟨_,rfl⟩
 have rb:∀{K:PH},aa 14 σ K=.ok f K:=by rw[cP];intro K;rfl
 have h9:∀{K:PH},aa 9 σ K=.ok (dS p x s) K:=by rw[cP];intro K;rfl
 have vN:∀{K:PH},aa 10 σ K=.ok (.ref hh) K:=by rw[cP];intro K;rfl
 have h6:∀{K:PH},aa 6 σ K=.ok (.ref k6) K:=by rw[cP];intro K;rfl
 have h7:∀{K:PH},aa 7 σ K=.ok (.ref k7) K:=by rw[cP];intro K;rfl
 have a1:aK (aO g9 (af (ae ak (aa 10) (eC (.int (0)))) (af (ae ak (aa 10) (eC (.int (1)))) (af (aa 8) ai)))) (gN 14) (sv ns o1 o2 o3 o4 o5 (some (.ref k6)) (some (.ref k7)) (some (.int tn)) (some (dS p x s)) (some (.ref hh)) o11 o12 o13 o14) H=.ok (.nx σ) H1:=by
  rw[cP];exact asg (ax (az (op rfl rfl (fE L.h rfl)) (az (op rfl rfl (fE L.h rfl)) (az rfl rfl))) r1)
 have qZ:=qc (y:=x) (t:=(s.tk:Int)) t1;have kJ:=UO (y:=x) (s:=s) (x1.get hp);have n1:eT (ae cO (aa 14) (aa 9)) σ H1=.ok false H1:=tB (op rb h9 (by rw[ef];exact uB (uj qZ kJ)));obtain⟨H2,e2⟩:∃H2,H2=H1++[PO.lst [.ref k6,.ref k7]]:=⟨_,rfl⟩
 have x2:Ex H1 H2:=e2▸Ex.one _ _;have L2:=L1.mono x2;obtain⟨ds,lX⟩:=Du (f:=dat H2 38) (R.map LR.w) fun w hw=>by
  obtain⟨z,_,rfl⟩:=abV.mp hw;exact W6 H2 37 z
 have di:bI (dat H2 38) (I.map W.int)=some (I.map acY):=ji (dat H2 38) W.int acY (fun x=>c0 H2 38 x) I;have hd1:dat H2 40 (.ref hh)=some (.list [.list ds,.list (I.map acY)]):=kc L2.h (mc (kc L2.hr lX) (mc (kc L2.hi di) rfl));have hd2:dat H2 40 (.ref H1.length)=some (.list [.list ds,.list (I.map acY)]):=kc (by rw[e2];exact bN _ _) (mc (kc L2.r lX) (mc (kc L2.i.at_ di) rfl));have n2:eT (ae cO (aa 10) (bg (af (aa 6) (af (aa 7) ai)))) σ H1=.ok false H2:=by
  refine tB (op (y:=.ref H1.length) (ph2:=H2) vN ?_ (uB (uj hd1 hd2)));rw[jj,e2];exact ax (az h6 (az h7 rfl)) (nD [.ref k6,.ref k7] H1 (small (aau rfl)))
 have t2:=x2.get t1;have i0:∀{K:PH},ae ak (aa 14) (eC (.int (0))) σ K=.ok (.str (aaz x)) K:=fun{K}=>op rb rfl (by rw[ef];rfl)
 have i1:∀{K:PH},ae ak (aa 14) (eC (.int (1))) σ K=.ok (.ref k) K:=fun{K}=>op rb rfl (by rw[ef];rfl)
 have i2:∀{K:PH},ae ak (aa 14) (eC (.int (2))) σ K=.ok (.int s.tk) K:=fun{K}=>op rb rfl (by rw[ef];rfl)
 have b1:dc (c4 (cb (dX "tuple" (aa 14)))) (dc (eT (ae cO (aa 14) (aa 9))) (eT (ae cO (aa 10) (bg (af (aa 6) (af (aa 7) ai)))))) σ H1=.ok false H2:=iA (eU (eB (fu rb (by rw[ef];exact congrFun (uX "tuple" _) H1)))) (iA n1 n2);have b2:dc (c4 (cb (dX "str" (ae ak (aa 14) (eC (.int (0))))))) (dc (c4 (cb (dX "list" (ae ak (aa 14) (eC (.int (1))))))) (c4 (cb (aO lh (af (ae ak (aa 14) (eC (.int (2)))) ai))))) σ H2=.ok false H2:=iA (eU (eB (fu i0 (congrFun (uW "str" _) H2)))) (iA (eU (eB (fu i1 (ui t2)))) (eU (eB (ax (az i2 rfl) (DC _ _)))));obtain⟨H3,c3,x3⟩:=xa (cap:=[none]) (g:=gN 0) (c:=eA) (e:=aO lh (af (aa 0) ai)) (σ:=σ) s.told W.int (sT (m:=ae ak (aa 14) (eC (.int (1)))) i1 t2) (fun p x=>decide_eq_true (x.get t2)) (small (by omega)) (fun v=>some (.bl true)) (fun σ=>∃o,σ=[o]) ⟨_,rfl⟩
  (fun w hw σ H hS x=>by
   obtain⟨o,rfl⟩:=hS;exact⟨_,rfl,⟨_,rfl⟩,true,H,rfl,Ex.refl _,.inr ⟨rfl,_,H,ax (az rfl rfl) (DC w H),Ex.refl _,rfl⟩⟩)
 have e3:s.told.filterMap (fun v=>some (W.bl true))=(s.told.map fun _=>true).map W.bl:=by
  rw[adA,<- adC];rfl
 rw[e3] at x3;have b3:c4 (cb (bS kE (af (dO (gF (ae ak (aa 14) (eC (.int (1))))) [none] (gN 0) eA (aO lh (af (aa 0) ai))) ai))) σ H2=.ok false H3:=by
  refine eU (eB (ax (az c3 rfl) ((Ds (x3.get (bN _ _))).trans ?_)));have:(s.told.map fun _=>true).all id=true:=by
   rw[abA];intro b hb;obtain⟨_,_,rfl⟩:=abV.mp hb;rfl
  rw[this]
 have t3:=((Ex.one _ _).trans x3).get t2;have ap:cu (bG b8 cF (ae ak (aa 14) (eC (.int (1)))) (af (eC (.int (0))) ai)) σ H3=.ok (.nx σ) (H3.set k (.lst (s.told.map W.int++[.int 0]))):=by
  rw[pE,ka];exact ax (ax i1 (ax (t8 t3) (ax (az rfl rfl) (sH t3 (aav (show _<1000000 by rw[aat];omega) (by decide)) _)))) rfl
 refine⟨H3.set k (.lst (s.told.map W.int++[.int 0])),some f,?_,Ex.set ((x1.trans x2).trans ((Ex.one _ _).trans x3)) hk _⟩;rw[<- cP];unfold tE;exact sq a1 (sq (aq b1 rfl) (sq (aq b2 rfl) (sq (aq b3 rfl) ap)))
theorem Yx{c:Int}(h4:∀{K:PH},aa 4 σ K=.ok (.int c) K):∃w H',ae ak (bg (af (eC (.bl true)) (af (eC (.str "1")) (af (eC .aC) (af (eC (.int (2147483648))) (af (ix gL (eC (.int (2147483649)))) ai)))))) (ae aS (ae aZ (aa 4) (eC (.int (90)))) (eC (.int (5)))) σ H=.ok w H'/\Ex H H'/\Kn w/\dZ w=false:=by
 obtain⟨m,hm,em⟩:=er (a:=c.fdiv 90) (n:=5) (by decide);obtain⟨w,hw,h1,h2⟩:∃w,[W.bl true,.str "1",.aC,.int 2147483648,.int (-2147483649)][m]? =some w/\Kn w/\dZ w=false:=by
  have:m=0\/m=1\/m=2\/m=3\/m=4:=by omega
  rcases this with rfl | rfl | rfl | rfl | rfl <;> exact⟨_,rfl,trivial,rfl⟩
 refine⟨w,_,nH (ws:=[W.bl true,.str "1",.aC,.int 2147483648,.int (-2147483649)]) (i:=(m:Int)) (ph1:=H) rfl (aau rfl) ?_ ?_,Ex.one _ _,h1,h2⟩
 ·rw[<- em];exact md (dv h4 rfl (by decide) (by decide)) rfl (by decide)
 ·rw[gc _ _ (by simp;omega),hw]
theorem Xg{c:Int}(h4:∀{K:PH},aa 4 σ K=.ok (.int c) K):∃w H',ae ak (bg (af (ix gL (eC (.int (1)))) (af (eC (.int (10001))) (af (eC (.bl true)) (af (eC .aC) (af (eC (.str "1")) ai)))))) (ae aS (ae aZ (aa 4) (eC (.int (1350)))) (eC (.int (5)))) σ H=.ok w H'/\Ex H H'/\Kn w/\(dZ w=false\/∃v,w=.int v/\(v<0\/10000<v)):=by
 obtain⟨m,hm,em⟩:=er (a:=c.fdiv 1350) (n:=5) (by decide);obtain⟨w,hw,h1,h2⟩:∃w,[W.int (-1),.int 10001,.bl true,.aC,.str "1"][m]? =some w/\Kn w/\(dZ w=false\/∃v,w=.int v/\(v<0\/10000<v)):=by
  have:m=0\/m=1\/m=2\/m=3\/m=4:=by omega
  rcases this with rfl | rfl | rfl | rfl | rfl
  ·exact⟨_,rfl,trivial,.inr ⟨_,rfl,.inl (by decide)⟩⟩
  ·exact⟨_,rfl,trivial,.inr ⟨_,rfl,.inr (by decide)⟩⟩
  ·exact⟨_,rfl,trivial,.inl rfl⟩
  ·exact⟨_,rfl,trivial,.inl rfl⟩
  ·exact⟨_,rfl,trivial,.inl rfl⟩
 refine⟨w,_,nH (ws:=[W.int (-1),.int 10001,.bl true,.aC,.str "1"]) (i:=(m:Int)) (ph1:=H) rfl (aau rfl) ?_ ?_,Ex.one _ _,h1,h2⟩
 ·rw[<- em];exact md (dv h4 rfl (by decide) (by decide)) rfl (by decide)
 ·rw[gc _ _ (by simp;omega),hw]
theorem yb:∀w∈I.map W.int,Kn w:=fun w hw=>by
 obtain⟨v,_,rfl⟩:=abV.mp hw
 trivial
theorem UW(h:∀x∈I,cA x):(I.map W.int).all dZ=true:=by
 rw[abA];intro w hw;obtain⟨v,hv,rfl⟩:=abV.mp hw;obtain⟨z1,z2⟩:=h v hv;exact yD (by omega) (by omega)
theorem Yy{c:Int}{a:Nat}{w t:W}(h4:∀{K:PH},aa 4 σ K=.ok (.int c) K)(h7:∀{K:PH},aa 7 σ K=.ok (.ref k7) K)(Ht:∀{K:PH},aa 11 σ K=.ok (.int a) K)(h12:∀{K:PH},aa 12 σ K=.ok w K)(hi:ik H k7 I)(hw:Kn w)(hn:dZ w=false) :
  ∃v H1 H',ae ak (bg (af (ae addW (ae addW (fV (aa 7) fI (fJ (aa 11))) (bg (af (aa 12) ai))) (fV (aa 7) (fJ (aa 11)) fI)) (af (bS lB (af (aa 7) ai)) (af (eC .aC) ai)))) (ae aS (ae aZ (aa 4) (eC (.int (450)))) (eC (.int (3)))) σ H=.ok v H1/\Ex H H1/\gz [v,t] H1=.ex ⟨"BadRun",[]⟩ H'/\Ex H1 H':=by
 have il:=hi.len;obtain⟨m,hm,em⟩:=er (a:=c.fdiv 450) (n:=3) (by decide);obtain⟨A1,f1⟩:∃A,A=H++[PO.lst ((I.map W.int).take a)]:=⟨_,rfl⟩
 obtain⟨A2,f2⟩:∃A,A=A1++[PO.lst [w]]:=⟨_,rfl⟩
 obtain⟨A3,f3⟩:∃A,A=A2++[PO.lst ((I.map W.int).take a++[w])]:=⟨_,rfl⟩
 obtain⟨A4,f4⟩:∃A,A=A3++[PO.lst ((I.map W.int).drop a)]:=⟨_,rfl⟩
 obtain⟨A5,f5⟩:∃A,A=A4++[PO.lst ((I.map W.int).take a++[w]++(I.map W.int).drop a)]:=⟨_,rfl⟩
 have y1:Ex H A1:=f1▸Ex.one _ _;have y2:Ex A1 A2:=f2▸Ex.one _ _;have y3:Ex A2 A3:=f3▸Ex.one _ _;have y4:Ex A3 A4:=f4▸Ex.one _ _;have y5:Ex A4 A5:=f5▸Ex.one _ _;have yy:Ex H A5:=(((y1.trans y2).trans y3).trans y4).trans y5;have q1:A1[H.length]? =some (.lst ((I.map W.int).take a)):=by rw[f1];exact bN _ _
 have q2:A2[A1.length]? =some (.lst [w]):=by rw[f2];exact bN _ _
 have q3:A3[A2.length]? =some (.lst ((I.map W.int).take a++[w])):=by rw[f3];exact bN _ _
 have q4:A4[A3.length]? =some (.lst ((I.map W.int).drop a)):=by rw[f4];exact bN _ _
 have q5:A5[A4.length]? =some (.lst ((I.map W.int).take a++[w]++(I.map W.int).drop a)):=by rw[f5];exact bN _ _
 have l1:((I.map W.int).take a).length<=100:=abe (List.length_take_le' _ _) (by rw[aat];exact il);have l2:((I.map W.int).drop a).length<=100:=by rw[aer,aat];omega
 have s1:fV (aa 7) fI (fJ (aa 11)) σ H=.ok (.ref H.length) A1:=by
  refine ax h7 (ax rfl (ax (a:=some (a:Int)) (ph':=H) (ax Ht rfl) ?_));rw[Eg hi.at_,f1]
 have s2:bg (af (aa 12) ai) σ A1=.ok (.ref A1.length) A2:=by
  rw[jj,f2];exact ax (az h12 rfl) (nD [w] A1 (small (aau rfl)))
 have s3:fV (aa 7) (fJ (aa 11)) fI σ A3=.ok (.ref A3.length) A4:=by
  refine ax h7 (ax (a:=some (a:Int)) (ph':=A3) (ax Ht rfl) (ax rfl ?_));rw[Us (((y1.trans y2).trans y3).get hi.at_),f4]
 have e1:ae addW (ae addW (fV (aa 7) fI (fJ (aa 11))) (bg (af (aa 12) ai))) (fV (aa 7) (fJ (aa 11)) fI) σ H=.ok (.ref A4.length) A5:=by
  refine op (op s1 s2 ((ly (y2.get q1) q2 (small (by rw[abr];omega))).trans (by rw[f3]))) s3 ?_;rw[ly (y4.get q3) q4 (small (by rw[aas,abr];omega)),f5]
 have e2:bS lB (af (aa 7) ai) σ A5=.ok (.tup (I.map W.int)) A5:=by
  refine ax (az h7 rfl) ?_;unfold lift lB cy;simp only[yy.get hi.at_]
 obtain⟨A6,f6⟩:∃A,A=A5++[PO.lst [.ref A4.length,.tup (I.map W.int),.aC]]:=⟨_,rfl⟩
 have y6:Ex A5 A6:=f6▸Ex.one _ _;have key:∀{v:W},[.ref A4.length,.tup (I.map W.int),.aC][m]? =some v->ae ak (bg (af (ae addW (ae addW (fV (aa 7) fI (fJ (aa 11))) (bg (af (aa 12) ai))) (fV (aa 7) (fJ (aa 11)) fI)) (af (bS lB (af (aa 7) ai)) (af (eC .aC) ai)))) (ae aS (ae aZ (aa 4) (eC (.int (450)))) (eC (.int (3)))) σ H=.ok v A6:=fun{v} hv=>by
  rw[f6];refine nH (ws:=[.ref A4.length,.tup (I.map W.int),.aC]) (i:=(m:Int)) (az e1 (az e2 (az rfl rfl))) (aau rfl) ?_ ?_
  ·rw[<- em];exact md (dv h4 rfl (by decide) (by decide)) rfl (by decide)
  ·rw[gc _ _ (by simp;omega),hv]
 have hm3:m=0\/m=1\/m=2:=by omega
 rcases hm3 with rfl | rfl | rfl
 ·obtain⟨H',z,zx⟩:=US (t:=t) (y6.get q5) (by rw[aas,aas,abr];omega) (fun v hv=>by
   rcases abu.mp hv with hv | hv
   ·rcases abu.mp hv with hv | hv
    ·exact yb v (List.mem_of_mem_take hv)
    ·rw[abc.mp hv];exact hw
   ·exact yb v (List.mem_of_mem_drop hv)) (by
   rw[List.all_eq_false];exact⟨w,abI _ (aba _ (acD _)),by rw[hn];exact aaQ⟩)
  exact⟨_,A6,H',key rfl,yy.trans y6,z,zx⟩
 ·exact⟨_,A6,A6,key rfl,yy.trans y6,DB (congrFun (uX "list" _) A6),Ex.refl _⟩
 ·exact⟨_,A6,A6,key rfl,yy.trans y6,DB (congrFun (uV "list") A6),Ex.refl _⟩
theorem F9{e1 e2 e3:EM}{H2 H3 H':PH}{a b t:W}(h1:e1 σ H=.ok a H1)(h2:e2 σ H1=.ok b H2)(h3:e3 σ H2=.ok t H3)(h:gz [b,t] H3=.ex ⟨"BadRun",[]⟩ H'):c4 (cb (aO oV (af e1 (af e2 (af e3 ai))))) σ H=.ok false H':=eU (eB (ax (az h1 (az h2 (az h3 rfl))) (RK h)))
theorem Yz:∃H',eT (ae cO (aO g9 (af (bg (af (a9 (af (eC (.str "turn")) ai)) (af (a9 (af (eC (.str "end")) ai)) ai))) (af (bg ai) (af (eC (.int (10000))) ai)))) (a9 (af (eC (.str "done")) (af (bg ai) (af (eC (.int (0))) ai))))) σ H=.ok false H'/\Ex H H':=by
 obtain⟨R,eR⟩:∃R:List LR,R=[.r .turn,.fin]:=⟨_,rfl⟩
 obtain⟨H1,e1⟩:∃H1,H1=H++[PO.lst (R.map LR.w)]:=⟨_,rfl⟩
 obtain⟨H2,e2⟩:∃H2,H2=H1++[PO.lst (([]:List Int).map W.int)]:=⟨_,rfl⟩
 have x1:Ex H H1:=e1▸Ex.one _ _;have x2:Ex H1 H2:=e2▸Ex.one _ _;have g1:H2[H.length]? =some (.lst (R.map LR.w)):=x2.get (by rw[e1];exact bN _ _);have g2:H2[H1.length]? =some (.lst (([]:List Int).map W.int)):=by rw[e2];exact bN _ _
 have run:bK [] R 2 0 ⟨[],[],[],0,10000⟩=(⟨[],[],[],0,9999⟩:S).by "done":=by rw[eR];rfl
 obtain⟨H3,k,x,s',r1,x3,hk,t3,l3⟩:=ya (ri:=H.length) (ii:=H1.length) (tn:=10000) g1 (fun r hr=>by
  have:r=.turn:=by simpa[eR] using hr
  rw[this];trivial) g2 (fun x hx=>(nomatch hx)) (by decide) (by rw[eR];decide) (by decide) (by decide) (f:=2) (by decide) (by rw[run];exact pM _ (by decide))
 rw[run] at l3;have ey:"done"=x/\([]:List Int)=s'.told/\0=s'.tk:=by
  unfold S.by at l3;injection l3 with a b
  injection b with b c
  exact⟨a,b,c⟩
 obtain⟨rfl,et,ek⟩:=ey;rw[<- et] at t3;rw[<- ek] at r1;obtain⟨H4,e4⟩:∃H4,H4=H3++[PO.lst []]:=⟨_,rfl⟩
 have x4:Ex H3 H4:=e4▸Ex.one _ _;have qZ:=qc (y:="done") (t:=((0:Nat):Int)) (x4.get t3);have kJ:=qc (H:=H4) (k:=H3.length) (y:="done") (l:=[]) (t:=((0:Nat):Int)) (by rw[e4];exact bN _ _);refine⟨H4,tB (op (ax (az (w:=.ref H.length) (ph1:=H1) (by rw[e1,eR];rfl) (az (w:=.ref H1.length) (ph1:=H2) (by rw[e2];rfl) (az rfl rfl))) r1) (ax (az rfl (az (w:=.ref H3.length) (ph1:=H4) (by rw[e4];rfl) (az rfl rfl))) rfl) (uB (uj qZ kJ))),((x1.trans x2).trans x3).trans x4⟩
theorem good(ns:List Int)(h:ns.length<=63):∃ph',p8 [.fl (ns.map W.int)] []=.ok (.bl true) ph':=by
 obtain⟨n,hn,en⟩:=er (a:=ns.getD 0 0) (n:=24) (by decide);obtain⟨m1,h1,e1⟩:=er (a:=ns.getD 1 0) (n:=8) (by decide);obtain⟨m2,h2,e2⟩:=er (a:=(ns.getD 1 0).fdiv 8) (n:=60) (by decide);obtain⟨c,hc⟩:∃c,c=ns.getD 2 0:=⟨_,rfl⟩
 obtain⟨m8,h8,e8⟩:=er (a:=c.fdiv 9) (n:=10) (by decide);obtain⟨m9,h9,e9⟩:=er (a:=c.fdiv 810) (n:=31) (by decide);obtain⟨T,hT,eT'⟩:=er (a:=c.fdiv 810) (n:=460) (by decide);obtain⟨lo,Gy⟩:∃lo,lo=decide ((c.fdiv 90).fmod 9=1):=⟨_,rfl⟩
 have c1:∀{o1 o2 o3 o4 o5 o6 o7 o8 o9 o10 o11 o12 o13 o14:Option W} {K:PH},aO c8 (af (aa 0) (af (eC (.int (1))) ai)) (sv ns o1 o2 o3 o4 o5 o6 o7 o8 o9 o10 o11 o12 o13 o14) K=.ok (.int (ns.getD 1 0)) K:=cl (i:=1) rfl rfl (by decide);have s1:aK (ae aS (aO c8 (af (aa 0) (af (eC (.int (0))) ai))) (eC (.int (24)))) (gN 1) (sv ns none none none none none none none none none none none none none none) []=.ok (.nx (sv ns (some (.int n)) none none none none none none none none none none none none none)) []:=by
  rw[<- en];exact asg (md (cl (i:=0) rfl rfl (by decide)) rfl (by decide))
 have s2:aK (ae addW (eC (.int (2))) (ae aS (aO c8 (af (aa 0) (af (eC (.int (1))) ai))) (eC (.int (8))))) (gN 2) (sv ns (some (.int n)) none none none none none none none none none none none none none) []=.ok (.nx (sv ns (some (.int n)) (some (.int (2+(m1:Int)))) none none none none none none none none none none none none)) []:=by
  rw[<- e1];exact asg (ad rfl (md c1 rfl (by decide)))
 have s3:aK (ae addW (eC (.int (1))) (ae aS (ae aZ (aO c8 (af (aa 0) (af (eC (.int (1))) ai))) (eC (.int (8)))) (eC (.int (60))))) (gN 3) (sv ns (some (.int n)) (some (.int (2+(m1:Int)))) none none none none none none none none none none none none) []=.ok (.nx (sv ns (some (.int n)) (some (.int (2+(m1:Int)))) (some (.int (1+(m2:Int)))) none none none none none none none none none none none)) []:=by
  rw[<- e2];exact asg (ad rfl (md (dv c1 rfl (by decide) (by decide)) rfl (by decide)))
 obtain⟨bx,sl,hb,hs,s4⟩:∃bx sl:Int,(0<bx/\bx<100)/\(0<sl/\sl<100)/\aT (eT (ae l8 (ae aS (ae aZ (aO c8 (af (aa 0) (af (eC (.int (1))) ai))) (eC (.int (480)))) (eC (.int (3)))) (eC (.int (0))))) (aF (aK (eC (.int (2))) (gN 2)) (aK (eC (.int (1))) (gN 3))) bA (sv ns (some (.int n)) (some (.int (2+(m1:Int)))) (some (.int (1+(m2:Int)))) none none none none none none none none none none none) []=.ok (.nx (sv ns (some (.int n)) (some (.int bx)) (some (.int sl)) none none none none none none none none none none none)) []:=by
  have t:eT (ae l8 (ae aS (ae aZ (aO c8 (af (aa 0) (af (eC (.int (1))) ai))) (eC (.int (480)))) (eC (.int (3)))) (eC (.int (0)))) (sv ns (some (.int n)) (some (.int (2+(m1:Int)))) (some (.int (1+(m2:Int)))) none none none none none none none none none none none) []=.ok (decide (0<((ns.getD 1 0).fdiv 480).fmod 3)) []:=tB (op (md (dv c1 rfl (by decide) (by decide)) rfl (by decide)) rfl rfl);by_cases q:0<((ns.getD 1 0).fdiv 480).fmod 3
  ·rw[decide_eq_true q] at t;exact⟨2,1,by decide,by decide,bc t rfl⟩
  ·rw[decide_eq_false q] at t;exact⟨_,_,⟨by omega,by omega⟩,⟨by omega,by omega⟩,aq t rfl⟩
 have s5:aK (aO c8 (af (aa 0) (af (eC (.int (2))) ai))) (gN 4) (sv ns (some (.int n)) (some (.int bx)) (some (.int sl)) none none none none none none none none none none none) []=.ok (.nx (sv ns (some (.int n)) (some (.int bx)) (some (.int sl)) (some (.int c)) none none none none none none none none none none)) []:=by
  rw[hc];exact asg (cl (i:=2) rfl rfl (by decide))
 have s6:aK (ae aN (ae aS (ae aZ (aa 4) (eC (.int (90)))) (eC (.int (9)))) (eC (.int (1)))) (gN 5) (sv ns (some (.int n)) (some (.int bx)) (some (.int sl)) (some (.int c)) none none none none none none none none none none) []=.ok (.nx (sv ns (some (.int n)) (some (.int bx)) (some (.int sl)) (some (.int c)) (some (.bl lo)) none none none none none none none none none)) []:=by
  rw[Gy];exact asg (op (md (dv rfl rfl (by decide) (by decide)) rfl (by decide)) rfl (congrFun (nP _ _) _))
 obtain⟨k6,H1,R,r1,x1,g1,hF⟩:=RL (ph:=[]) ns (n:=n) lo (by omega) hb hs;have s7:aK (aO rQ (af (aa 0) (af (aa 1) (af (aa 2) (af (aa 3) (af (aa 5) ai)))))) (gN 6) (sv ns (some (.int n)) (some (.int bx)) (some (.int sl)) (some (.int c)) (some (.bl lo)) none none none none none none none none none) []=.ok (.nx (sv ns (some (.int n)) (some (.int bx)) (some (.int sl)) (some (.int c)) (some (.bl lo)) (some (.ref k6)) none none none none none none none none)) H1:=asg (ax (az rfl (az rfl (az rfl (az rfl (az rfl rfl))))) r1);obtain⟨k7,H2,I,i1,x2,iO⟩:=S0 H1 ns c;have g2:=x2.get g1;have s8:aK (aO rC (af (aa 0) (af (aa 4) ai))) (gN 7) (sv ns (some (.int n)) (some (.int bx)) (some (.int sl)) (some (.int c)) (some (.bl lo)) (some (.ref k6)) none none none none none none none none) H1=.ok (.nx (sv ns (some (.int n)) (some (.int bx)) (some (.int sl)) (some (.int c)) (some (.bl lo)) (some (.ref k6)) (some (.ref k7)) none none none none none none none)) H2:=asg (ax (az rfl (az rfl rfl)) i1);have s9:aK (ae aS (ae aZ (aa 4) (eC (.int (9)))) (eC (.int (10)))) (gN 8) (sv ns (some (.int n)) (some (.int bx)) (some (.int sl)) (some (.int c)) (some (.bl lo)) (some (.ref k6)) (some (.ref k7)) none none none none none none none) H2=.ok (.nx (sv ns (some (.int n)) (some (.int bx)) (some (.int sl)) (some (.int c)) (some (.bl lo)) (some (.ref k6)) (some (.ref k7)) (some (.int m8)) none none none none none none)) H2:=by
  rw[<- e8];exact asg (md (dv rfl rfl (by decide) (by decide)) rfl (by decide))
 obtain⟨tn,Hu,Hs,vr⟩:∃tn:Int,0<=tn/\tn<=40/\aT (cb (aa 5)) (aK (ae addW (eC (.int (10))) (ae aS (ae aZ (aa 4) (eC (.int (810)))) (eC (.int (31))))) (gN 8)) bA (sv ns (some (.int n)) (some (.int bx)) (some (.int sl)) (some (.int c)) (some (.bl lo)) (some (.ref k6)) (some (.ref k7)) (some (.int m8)) none none none none none none) H2=.ok (.nx (sv ns (some (.int n)) (some (.int bx)) (some (.int sl)) (some (.int c)) (some (.bl lo)) (some (.ref k6)) (some (.ref k7)) (some (.int tn)) none none none none none none)) H2:=by
  cases lo with
  | true=>exact⟨10+(m9:Int),by omega,by omega,bc rfl (by rw[<- e9];exact asg (ad rfl (md (dv rfl rfl (by decide) (by decide)) rfl (by decide))))⟩
  | false=>exact⟨(m8:Int),by omega,by omega,aq rfl rfl⟩
 have hR:R.length<=1000:=by rw[hF.len];omega
 have vO:eT (ae aN (ae aS (ae aZ (aa 4) (eC (.int (90)))) (eC (.int (9)))) (eC (.int (2)))) (sv ns (some (.int n)) (some (.int bx)) (some (.int sl)) (some (.int c)) (some (.bl lo)) (some (.ref k6)) (some (.ref k7)) (some (.int tn)) none none none none none none) H2=.ok (decide ((c.fdiv 90).fmod 9=2)) H2:=eI (md (dv rfl rfl (by decide) (by decide)) rfl (by decide)) rfl;unfold p8 nT;simp only[fQ];by_cases q2:(c.fdiv 90).fmod 9=2
 ·rw[decide_eq_true q2] at vO;obtain⟨H3,z⟩:=Xf (T:=41+T) iO (by omega);refine⟨H3,bq s1 (bq s2 (bq s3 (bq s4 (bq s5 (bq s6 (bq s7 (bq s8 (bq s9 (bq vr (c7 (bc vO (retS (ax (az (w:=.int ((41+T:Nat):Int)) (ph1:=H2) ?_ (az rfl rfl)) z))))))))))))) ⟩;rw[show((41+T:Nat):Int)=41+(T:Int) by omega,<- eT'];exact ad rfl (md (dv rfl rfl (by decide) (by decide)) rfl (by decide))
 rw[decide_eq_false q2] at vO;have Ga:gQ (bK I R 9000 0 ⟨[],[],[],0,tn⟩):=yF hF 9000 0 _ (aca _) Hu (Xe (by omega) Hs);obtain⟨H3,y,s,d1,x3,t3,u3⟩:=W5 g2 hF.ok iO Ga;have s12:aK (aO oR (af (aa 6) (af (aa 7) (af (aa 8) ai)))) (gN 9) (sv ns (some (.int n)) (some (.int bx)) (some (.int sl)) (some (.int c)) (some (.bl lo)) (some (.ref k6)) (some (.ref k7)) (some (.int tn)) none none none none none none) H2=.ok (.nx (sv ns (some (.int n)) (some (.int bx)) (some (.int sl)) (some (.int c)) (some (.bl lo)) (some (.ref k6)) (some (.ref k7)) (some (.int tn)) (some (dS H2.length y s)) none none none none none)) H3:=asg (ax (az rfl (az rfl (az rfl rfl))) d1);obtain⟨H4,f4⟩:∃A,A=H3++[PO.lst (R.map LR.w)]:=⟨_,rfl⟩
 obtain⟨H5,f5⟩:∃A,A=H4++[PO.lst (I.map W.int)]:=⟨_,rfl⟩
 obtain⟨H6,f6⟩:∃A,A=H5++[PO.lst [.ref H3.length,.ref H4.length]]:=⟨_,rfl⟩
 have x4:Ex H3 H4:=f4▸Ex.one _ _;have x5:Ex H4 H5:=f5▸Ex.one _ _;have x6:Ex H5 H6:=f6▸Ex.one _ _;have Hv:Ex H2 H6:=((x3.trans x4).trans x5).trans x6;have qO:aK (bg (af (bS gm (af (aa 6) ai)) (af (bS gm (af (aa 7) ai)) ai))) (gN 10) (sv ns (some (.int n)) (some (.int bx)) (some (.int sl)) (some (.int c)) (some (.bl lo)) (some (.ref k6)) (some (.ref k7)) (some (.int tn)) (some (dS H2.length y s)) none none none none none) H3=.ok (.nx (sv ns (some (.int n)) (some (.int bx)) (some (.int sl)) (some (.int c)) (some (.bl lo)) (some (.ref k6)) (some (.ref k7)) (some (.int tn)) (some (dS H2.length y s)) (some (.ref H5.length)) none none none none)) H6:=by
  refine asg ?_;rw[jj,f6];exact ax (az ((ax (az rfl rfl) (td (x3.get g2))).trans (by rw[f4])) (az ((ax (az rfl rfl) (td (x4.get (x3.get iO.at_)))).trans (by rw[f5])) rfl)) (nD [.ref H3.length,.ref H4.length] H5 (small (aau rfl)))
 have L:LI H6 k6 k7 H5.length H3.length H4.length R I:=⟨Hv.get g2,⟨Hv.get iO.at_,iO.len,iO.iz⟩,by rw[f6];exact bN _ _,x6.get (x5.get (by rw[f4];exact bN _ _)),x6.get (by rw[f5];exact bN _ _)⟩
 obtain⟨a,ha,ea⟩:=er (a:=c.fdiv 6750) (n:=(I.length:Int)+1) (by omega);have s14:aK (ae aS (ae aZ (aa 4) (eC (.int (6750)))) (ae addW (bS fg (af (aa 7) ai)) (eC (.int (1))))) (gN 11) (sv ns (some (.int n)) (some (.int bx)) (some (.int sl)) (some (.int c)) (some (.bl lo)) (some (.ref k6)) (some (.ref k7)) (some (.int tn)) (some (dS H2.length y s)) (some (.ref H5.length)) none none none none) H6=.ok (.nx (sv ns (some (.int n)) (some (.int bx)) (some (.int sl)) (some (.int c)) (some (.bl lo)) (some (.ref k6)) (some (.ref k7)) (some (.int tn)) (some (dS H2.length y s)) (some (.ref H5.length)) (some (.int a)) none none none)) H6:=by
  rw[<- ea];exact asg (md (dv rfl rfl (by decide) (by decide)) (ad (ax (az rfl rfl) ((t7 L.i.at_).trans (by rw[aat]))) rfl) (by omega))
 obtain⟨w,H7,w1,x7,w2,w3⟩:=Yx (σ:=sv ns (some (.int n)) (some (.int bx)) (some (.int sl)) (some (.int c)) (some (.bl lo)) (some (.ref k6)) (some (.ref k7)) (some (.int tn)) (some (dS H2.length y s)) (some (.ref H5.length)) (some (.int a)) none none none) (H:=H6) (c:=c) rfl;have L7:=L.mono x7;obtain⟨σ,cP⟩:∃σ,σ=sv ns (some (.int n)) (some (.int bx)) (some (.int sl)) (some (.int c)) (some (.bl lo)) (some (.ref k6)) (some (.ref k7)) (some (.int tn)) (some (dS H2.length y s)) (some (.ref H5.length)) (some (.int a)) (some w) none none:=⟨_,rfl⟩
 have v4:∀{K:PH},aa 4 σ K=.ok (.int c) K:=by rw[cP];intro K;rfl
 have v7:∀{K:PH},aa 7 σ K=.ok (.ref k7) K:=by rw[cP];intro K;rfl
 have v8:∀{K:PH},aa 8 σ K=.ok (.int tn) K:=by rw[cP];intro K;rfl
 have fo:∀{K:PH},aa 10 σ K=.ok (.ref H5.length) K:=by rw[cP];intro K;rfl
 have vH:∀{K:PH},aa 11 σ K=.ok (.int a) K:=by rw[cP];intro K;rfl
 have z9:∀{K:PH},aa 12 σ K=.ok w K:=by rw[cP];intro K;rfl
 obtain⟨v,H8,H9,b1,x8,b2,x9⟩:=Yy (t:=.int tn) v4 v7 vH z9 L7.i w2 w3;have L9:=L7.mono (x8.trans x9);obtain⟨tw,GL,o1,Hw,o2,o3⟩:=Xg (σ:=σ) (H:=H9) v4;have vP:=L9.mono Hw;obtain⟨zH,b3,Hx⟩:=UT vP.hi (by rw[aat];have:=vP.i.len;omega) yb (UW vP.i.iz) o2 o3;obtain⟨rf,z12,Hy⟩:=Yz (σ:=σ) (H:=zH);have L12:=vP.mono (Hx.trans Hy);have xs:Ex H3 rf:=(((((((x4.trans x5).trans x6).trans x7).trans (x8.trans x9)).trans Hw).trans Hx).trans Hy)
 have qX:eP (af (eC (.int (2))) ai) σ rf=.ok (eJ 0 2,fun _=>true) rf:=pT (j:=2) rfl (by decide) (by decide);obtain⟨ao,H13,e13,o13,o14,rfl,x13⟩:=CG (chk:=fun _=>true) (g:=gN 13) (b:=tE)
  (fun j τ K=>∃o13 o14,τ=sv ns (some (.int n)) (some (.int bx)) (some (.int sl)) (some (.int c)) (some (.bl lo)) (some (.ref k6)) (some (.ref k7)) (some (.int tn)) (some (dS H2.length y s)) (some (.ref H5.length)) (some (.int a)) (some w) o13 o14/\Ex rf K)
  (eJ 0 2) σ rf (fun _ _ _ _=>rfl)
  (fun j x τ K hj zz=>by
   obtain⟨o13,o14,rfl,xK⟩:=zz;obtain⟨H',o,q,xq⟩:=UV (ns:=ns) (o1:=some (.int n)) (o2:=some (.int bx)) (o3:=some (.int sl)) (o4:=some (.int c)) (o5:=some (.bl lo)) (o11:=some (.int a)) (o12:=some w) (o13:=some x) (o14:=o14) (L12.mono xK) hF.ok hR Hu (by omega) (xK.get (xs.get t3)) Ga u3;exact⟨_,_,rfl,_,_,q,_,.inl rfl,_,_,rfl,xK.trans xq⟩)
  ⟨none,none,cP,Ex.refl _⟩
 refine⟨H13,bq s1 (bq s2 (bq s3 (bq s4 (bq s5 (bq s6 (bq s7 (bq s8 (bq s9 (bq vr (bq (aq vO rfl) (bq s12 (bq qO (bq s14 (bq (σ1:=σ) (ph1:=H7) (by rw[cP];exact asg w1) (bq (aq (F9 (op fo rfl (fE L7.h rfl)) b1 v8 b2) rfl) (bq (aq (F9 (op fo rfl (fE L9.h rfl)) (op fo rfl (fE L9.h rfl)) o1 b3) rfl) (bq (aq z12 rfl) (bq (xA qX e13) rfl))))))))))))))))))⟩
end IL.K29
open PySem PySem.W PyProof.Rows
def PySem.W.Fast.tw12996596016751057938:Nat:=0
theorem PySem.W.Fast.te12996596016751057938:True:=ach
def PySem.W.Fast.tw50303893942545503:PySem.Program:=PySem.Challenge.pw_boxwright_k29_last_runs
theorem PySem.W.Fast.te50303893942545503:PySem.Challenge.pw_boxwright_k29_last_runs=PySem.W.Fast.tw50303893942545503:=rfl
def PySem.W.Fast.tw10750258417965811351:PySem.Program:={ PySem.Challenge.pw_boxwright_k29_last_runs with main:={ PySem.Challenge.pw_boxwright_k29_last_runs.main with body:=(PySem.Challenge.pw_boxwright_k29_last_runs.main.body.drop 1).take 6++(PySem.Challenge.pw_boxwright_k29_last_runs.main.body.drop 8).take 5++(PySem.Challenge.pw_boxwright_k29_last_runs.main.body.drop 14).take 8++(PySem.Challenge.pw_boxwright_k29_last_runs.main.body.drop 23).take 2++PySem.Challenge.pw_boxwright_k29_last_runs.main.body.drop 26 } }
theorem PySem.W.Fast.te10750258417965811351:PySem.W.Fast.tw10750258417965811351=PySem.W.Fast.tw10750258417965811351:=rfl
def PySem.W.Fast.tw9799441364654895518:List PySem.Stmt:=(PySem.Challenge.pw_boxwright_k29_last_runs.main.body.drop 21).take 14
theorem PySem.W.Fast.te9799441364654895518:PySem.W.Fast.tw9799441364654895518=PySem.W.Fast.tw9799441364654895518:=rfl
def PySem.W.Fast.tw6995327577487604857:List PySem.Stmt:=PySem.Challenge.pw_boxwright_k29_last_runs.main.body.drop 35
theorem PySem.W.Fast.te6995327577487604857:PySem.W.Fast.tw6995327577487604857=PySem.W.Fast.tw6995327577487604857:=rfl
def PySem.W.Fast.tw5797516331529994101:List PySem.Stmt:=(PySem.Challenge.pw_boxwright_k29_last_runs.main.body.drop 15).take 6
theorem PySem.W.Fast.te5797516331529994101:PySem.W.Fast.tw5797516331529994101=PySem.W.Fast.tw5797516331529994101:=rfl
def PySem.W.Fast.tw8133438442534493021:List PySem.Stmt:=(PySem.Challenge.pw_boxwright_k29_last_runs.main.body.drop 6).take 9
theorem PySem.W.Fast.te8133438442534493021:PySem.W.Fast.tw8133438442534493021=PySem.W.Fast.tw8133438442534493021:=rfl
set_option maxHeartbeats 0 in
theorem PySem.Challenge.cw_boxwright_k29_last_runs_holds : PySem.Challenge.rw_boxwright_k29_last_runs.Holds := by
 w_on
 o_law
 k_head
 (case hw=>w_witness2)
 k_fill
 refine IL.K29.SW (l:=PySem.Challenge.rw_boxwright_k29_last_runs) (fun ns hn=>IL.K29.good ns hn) rfl rfl (fun w h Y=>PySem.W.kIn_of Y) ?K ?T ?F
 case K=>intro w;kernel_rfl
 case T=>
  intro w h Y;refine IL.Ux ?_
  kernel_rfl
 case F=>
  intro w mg fa h KX G hmg;refine' IL.K29.all_mk KX G hmg ?a_law_cell_at ?l_law_cell_at ?c_law_cell_at ?k_law_cell_at ?a_law_goal_by ?l_law_goal_by ?c_law_goal_by ?k_law_goal_by ?a_law_number_by ?l_law_number_by ?c_law_number_by ?k_law_number_by ?a_law_row_by ?l_law_row_by ?c_law_row_by ?k_law_row_by ?a_law_last_by ?l_law_last_by ?c_law_last_by ?k_law_last_by ?a_law_inputs_by ?l_law_inputs_by ?c_law_inputs_by ?k_law_inputs_by ?a_is_number ?l_is_number ?c_is_number ?k_is_number ?a_need_run ?l_need_run ?c_need_run ?k_need_run ?a_as_row_over_names ?l_as_row_over_names ?c_as_row_over_names ?k_as_row_over_names ?a_Run_init ?i_Run_init ?l_Run_init ?c_Run_init ?k_Run_init ?a_held ?l_held ?c_held ?k_held ?a_fit ?l_fit ?c_fit ?k_fit ?a_parted ?l_parted ?c_parted ?k_parted ?a_reckoned ?l_reckoned ?c_reckoned ?k_reckoned ?a_taken ?l_taken ?c_taken ?k_taken ?a_make_turn ?l_make_turn ?c_make_turn ?k_make_turn ?a_do_row ?l_do_row ?c_do_row ?k_do_row ?a_outcome ?l_outcome ?c_outcome ?k_outcome ?a_last_run ?l_last_run ?c_last_run ?k_last_run ?a_law_many_turns ?l_law_many_turns ?c_law_many_turns ?k_law_many_turns ?a_law_fit ?l_law_fit ?c_law_fit ?k_law_fit ?a_law_deed ?l_law_deed ?c_law_deed ?k_law_deed ?a_law_box_row ?l_law_box_row ?c_law_box_row ?k_law_box_row ?a_law_last_run ?l_law_last_run ?c_law_last_run ?k_law_last_run ?a_law_refused ?l_law_refused ?c_law_refused ?k_law_refused ?a_law_whole ?l_law_whole ?c_law_whole ?k_law_whole ?a_law ?l_law ?c_law ?k_law ?z_ValueError ?z_all ?z_bool ?z_int ?z_isinstance ?z_len ?z_list ?z_range ?z_str ?z_tuple ?g_HALF ?g_MOST_TURNS ?x_BadRun ?xk_BadRun ?xi_BadRun ?x_Run ?pg_Run ?hd_Run ?po_Run ?sa_Run ?mk_Run ?kc_Run ?na_at_Run ?na_holds_Run ?na_inputs_Run ?na_takes_Run ?na_told_Run ?na_turns_left_Run ?na_word_Run ?x_ByNought ?xk_ByNought ?xi_ByNought ?xt_ByNought ?x_BoxError ?xk_BoxError ?xt_BoxError ?x_BadBoxes ?x_BadProgram ?x_NoText ?y_su_ByNought_ByNought ?y_su_ByNought_BoxError ?y_su_BadRun_BoxError ?y_kt_ByNought_BadBoxes ?y_kt_BadRun_BadBoxes ?y_kt_ByNought_BadProgram ?y_kt_BadRun_BadProgram ?y_kt_ByNought_ByNought ?y_kt_BadRun_ByNought ?y_kt_ByNought_NoText ?y_kt_BadRun_NoText ?y_kt_ByNought_BadRun ?y_kt_BadRun_BadRun ?y_kt_ByNought_ValueError ?y_kt_BadRun_ValueError
  (case x_BadRun=>k_is)
  (case x_Run=>k_is)
  (case x_ByNought=>k_is)
  (case x_BoxError=>k_is)
  (case x_BadBoxes=>k_is)
  (case x_BadProgram=>k_is)
  (case x_NoText=>k_is)
  (case a_law_cell_at=>k_is)
  (case l_law_cell_at=>k_is)
  (case c_law_cell_at=>k_is)
  (case k_law_cell_at=>k_is)
  (case a_law_goal_by=>k_is)
  (case l_law_goal_by=>k_is)
  (case c_law_goal_by=>k_is)
  (case k_law_goal_by=>k_is)
  (case a_law_number_by=>k_is)
  (case l_law_number_by=>k_is)
  (case c_law_number_by=>k_is)
  (case k_law_number_by=>k_is)
  (case a_law_row_by=>k_is)
  (case l_law_row_by=>k_is)
  (case c_law_row_by=>k_is)
  (case k_law_row_by=>k_is)
  (case a_law_last_by=>k_is)
  (case l_law_last_by=>k_is)
  (case c_law_last_by=>k_is)
  (case k_law_last_by=>k_is)
  (case a_law_inputs_by=>k_is)
  (case l_law_inputs_by=>k_is)
  (case c_law_inputs_by=>k_is)
  (case k_law_inputs_by=>k_is)
  (case a_is_number=>k_is)
  (case l_is_number=>k_is)
  (case c_is_number=>k_is)
  (case k_is_number=>k_is)
  (case a_need_run=>k_is)
  (case l_need_run=>k_is)
  (case c_need_run=>k_is)
  (case k_need_run=>k_is)
  (case a_as_row_over_names=>k_is)
  (case l_as_row_over_names=>k_is)
  (case c_as_row_over_names=>k_is)
  (case k_as_row_over_names=>k_is)
  (case a_Run_init=>k_is)
  (case i_Run_init=>k_is)
  (case l_Run_init=>k_is)
  (case c_Run_init=>k_is)
  (case k_Run_init=>k_is)
  (case a_held=>k_is)
  (case l_held=>k_is)
  (case c_held=>k_is)
  (case k_held=>k_is)
  (case a_fit=>k_is)
  (case l_fit=>k_is)
  (case c_fit=>k_is)
  (case k_fit=>k_is)
  (case a_parted=>k_is)
  (case l_parted=>k_is)
  (case c_parted=>k_is)
  (case k_parted=>k_is)
  (case a_reckoned=>k_is)
  (case l_reckoned=>k_is)
  (case c_reckoned=>k_is)
  (case k_reckoned=>k_is)
  (case a_taken=>k_is)
  (case l_taken=>k_is)
  (case c_taken=>k_is)
  (case k_taken=>k_is)
  (case a_make_turn=>k_is)
  (case l_make_turn=>k_is)
  (case c_make_turn=>k_is)
  (case k_make_turn=>k_is)
  (case a_do_row=>k_is)
  (case l_do_row=>k_is)
  (case c_do_row=>k_is)
  (case k_do_row=>k_is)
  (case a_outcome=>k_is)
  (case l_outcome=>k_is)
  (case c_outcome=>k_is)
  (case k_outcome=>k_is)
  (case a_last_run=>k_is)
  (case l_last_run=>k_is)
  (case c_last_run=>k_is)
  (case k_last_run=>k_is)
  (case a_law_many_turns=>k_is)
  (case l_law_many_turns=>k_is)
  (case c_law_many_turns=>k_is)
  (case k_law_many_turns=>k_is)
  (case a_law_fit=>k_is)
  (case l_law_fit=>k_is)
  (case c_law_fit=>k_is)
  (case k_law_fit=>k_is)
  (case a_law_deed=>k_is)
  (case l_law_deed=>k_is)
  (case c_law_deed=>k_is)
  (case k_law_deed=>k_is)
  (case a_law_box_row=>k_is)
  (case l_law_box_row=>k_is)
  (case c_law_box_row=>k_is)
  (case k_law_box_row=>k_is)
  (case a_law_last_run=>k_is)
  (case l_law_last_run=>k_is)
  (case c_law_last_run=>k_is)
  (case k_law_last_run=>k_is)
  (case a_law_refused=>k_is)
  (case l_law_refused=>k_is)
  (case c_law_refused=>k_is)
  (case k_law_refused=>k_is)
  (case a_law_whole=>k_is)
  (case l_law_whole=>k_is)
  (case c_law_whole=>k_is)
  (case k_law_whole=>k_is)
  (case a_law=>k_is)
  (case l_law=>k_is)
  (case c_law=>k_is)
  (case k_law=>k_is)
  (case z_ValueError=>k_is)
  (case z_all=>k_is)
  (case z_bool=>k_is)
  (case z_int=>k_is)
  (case z_isinstance=>k_is)
  (case z_len=>k_is)
  (case z_list=>k_is)
  (case z_range=>k_is)
  (case z_str=>k_is)
  (case z_tuple=>k_is)
  (case g_HALF=>k_is)
  (case g_MOST_TURNS=>k_is)
  (case xk_BadRun=>kernel_rfl)
  (case xi_BadRun=>k_exc)
  (case pg_Run=>k_is)
  (case hd_Run=>k_is)
  (case po_Run=>k_is)
  (case sa_Run=>k_is)
  (case mk_Run=>k_is)
  (case kc_Run=>k_is)
  (case na_at_Run=>k_is)
  (case na_holds_Run=>k_is)
  (case na_inputs_Run=>k_is)
  (case na_takes_Run=>k_is)
  (case na_told_Run=>k_is)
  (case na_turns_left_Run=>k_is)
  (case na_word_Run=>k_is)
  (case xk_ByNought=>kernel_rfl)
  (case xi_ByNought=>k_exc)
  (case xt_ByNought=>k_is)
  (case xk_BoxError=>kernel_rfl)
  (case xt_BoxError=>k_is)
  (case y_su_ByNought_ByNought=>k_is)
  (case y_su_ByNought_BoxError=>k_is)
  (case y_su_BadRun_BoxError=>k_is)
  (case y_kt_ByNought_BadBoxes=>kernel_rfl)
  (case y_kt_BadRun_BadBoxes=>kernel_rfl)
  (case y_kt_ByNought_BadProgram=>kernel_rfl)
  (case y_kt_BadRun_BadProgram=>kernel_rfl)
  (case y_kt_ByNought_ByNought=>kernel_rfl)
  (case y_kt_BadRun_ByNought=>kernel_rfl)
  (case y_kt_ByNought_NoText=>kernel_rfl)
  (case y_kt_BadRun_NoText=>kernel_rfl)
  (case y_kt_ByNought_BadRun=>kernel_rfl)
  (case y_kt_BadRun_BadRun=>kernel_rfl)
  (case y_kt_ByNought_ValueError=>kernel_rfl)
  (case y_kt_BadRun_ValueError=>kernel_rfl)
